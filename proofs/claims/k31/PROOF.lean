import PyProof.Rows.All
import Wide.All
import OpenK.AllK
import Wide.FinOn
import Lean
import PyProof.EqAt
import PyProof.EqKinds
import PyProof.TupleCall
import PyProof.NsDelKeeps
import PyProof.InstStoreFacts
import KE.KRevIter
import PyProof.ZipIter
import KE.KUnpack
import PyProof.Conv_int_bool
import PyProof.CallStr
import PySem.Challenge.RW_leadnames_k31_walks_by_names_and_dots
set_option Elab.async false
set_option linter.all false
set_option maxRecDepth 100000
namespace L2
open PySem PySem.W
def oI (tb:String→Option Builtin) (p:Program) (w:World) (n₀:Nat) (ann:Option Value):Nat→SharedT→Thread→Option SharedT
 | 0,_,_=>none
 | n+1,s,t=>match through t with
  | true=>some s
  | false=>match stepOk n₀ ann t with
   | false=>none
   | true=>match stepT (denote tb) p w s t with
    | some (s',t')=>oI tb p w n₀ ann n s' t'
    | none=>none
theorem FH {tb:String→Option Builtin} {p:Program} {w:World} {n₀:Nat} {ann:Option Value}:∀ {n:Nat} {s s':SharedT} {t:Thread},oI tb p w n₀ ann n s t=some s'→topRun tb p w n₀ ann n s.abs t=some s'.abs
 | 0,_,_,_,h=>by cases h
 | n+1,s,s',t,h=>by
  unfold oI at h;unfold topRun;cases he:through t with
  | true=>rw [he] at h; cases h; rfl
  | false =>
   rw [he] at h;cases hk:stepOk n₀ ann t with
   | false=>rw [hk] at h; cases h
   | true =>
    rw [hk] at h;cases hs:stepT (denote tb) p w s t with
    | none=>rw [hs] at h; cases h
    | some r=>obtain ⟨s₂,t₂⟩:=r; rw [hs] at h; rw [stepT_spec hs]; exact FH h
def treeOf:List Obj→Nat→BT→BT
 | [],_,t=>t
 | o::r,n,t=>treeOf r (n+1) (t.ins n o)
theorem LeftO.OF {p q:Program} {loose:List Str} {Xt:Shared→Bool} {α:Type} {Yf:Shared→α} {Ya:World→α} {N:Nat} {g0:Bool} {H₀:Params→Heap} {T₀:Params→BT} {n₀:Nat} {life:Life} {kO:Array GenState} {d₀:Drawn} {k₀:Nat} {ann:Option Value}
  (Bp:∀ w:World,(fencedOpening treeTable p w N).map (fun s=>(s.heap,s.gens,s.drawn,s.toks))=some (H₀ w.params,kO,d₀,k₀))
  (tr:∀ P:Params,absHeap (T₀ P) n₀ life=H₀ P)
  (size:∀ P:Params,((H₀ P).isNs mainGlobals && kO.size == 0,(H₀ P).objs.size,(H₀ P).nsMap mainGlobals "__annotations__")=(true,n₀,ann))
  (run:∀ (w:World) (os:OsState),(oI treeTable p w n₀ ann N ⟨T₀ w.params,n₀,life,kO,d₀,k₀,os⟩ (topStub p)).map (fun s=>((staticsOk (importedModules p.main.body) (H₀ w.params) s.abs.heap && namesBound p s.abs.heap && gensDone s.abs && laidKept (H₀ w.params) s.abs.heap),
    openSeen q loose (importedModules p.main.body) Xt g0 s.abs,Yf s.abs))=some (true,openGood q loose,Ya w)):LeftO p q loose Xt Yf Ya N g0:=fun w=>by
 obtain ⟨⟨h,gs,d,k,os⟩,e,e'⟩:=Option.map_eq_some_iff.mp (Bp w);obtain ⟨rfl,rfl,rfl,rfl⟩:h=H₀ w.params∧gs=kO∧d=d₀∧k=k₀:=by simpa using e'
 obtain ⟨z1,z2,z3⟩:_∧_∧_:=by simpa only [Prod.mk.injEq] using size w.params
 obtain ⟨s₁,r1,r2⟩:=Option.map_eq_some_iff.mp (run w os);obtain ⟨l1,l2,l3⟩:_∧_∧_:=by simpa only [Prod.mk.injEq] using r2
 have r:=FH r1;have ea:SharedT.abs ⟨T₀ w.params,n₀,life,gs,d,k,os⟩=⟨H₀ w.params,gs,d,k,os⟩:=by
  unfold SharedT.abs;rw [tr]
 rw [ea] at r;have t:topFrom treeTable p w N ⟨H₀ w.params,gs,d,k,os⟩=some s₁.abs:=by
  unfold topFrom;dsimp only;rw [z1,z2,z3,r];show (match staticsOk (importedModules p.main.body) (H₀ w.params) s₁.abs.heap && namesBound p s₁.abs.heap && gensDone s₁.abs && laidKept (H₀ w.params) s₁.abs.heap with | true=>_ | false=>_)=_;rw [l1]
 unfold openEnds;rw [e];show (topFrom treeTable p w N _).map _=_;rw [t];exact congrArg some (Prod.ext l2 l3)
def dz (ok:Nat→Option Value→Thread→Bool) (st:SharedT→Thread→Option (SharedT×Thread)) (n₀:Nat) (ann:Option Value):Nat→SharedT→Thread→Option SharedT
 | 0,_,_=>none
 | n+1,s,t=>match through t with
  | true=>some s
  | false=>match ok n₀ ann t with
   | false=>none
   | true=>match st s t with
    | some (s',t')=>dz ok st n₀ ann n s' t'
    | none=>none
theorem Co {tb:String→Option Builtin} {p:Program} {w:World} {n₀:Nat} {ann:Option Value}:∀ (n:Nat) (s:SharedT) (t:Thread),dz stepOk (stepT (denote tb) p w) n₀ ann n s t=oI tb p w n₀ ann n s t
 | 0,_,_=>rfl
 | n+1,s,t=>by
  unfold dz oI;cases through t with
  | true=>rfl
  | false =>
   cases stepOk n₀ ann t with
   | false=>rfl
   | true =>
    cases stepT (denote tb) p w s t with
    | none=>rfl
    | some r=>exact Co n r.1 r.2
theorem LeftO.Mh {p q:Program} {loose:List Str} {Xt:Shared→Bool} {α:Type} {Yf:Shared→α} {Ya:World→α} {N:Nat} {g0:Bool} {H₀:Params→Heap} {T₀:Params→BT} {n₀:Nat} {life:Life} {kO:Array GenState} {d₀:Drawn} {k₀:Nat} {ann:Option Value}
  {ok:Nat→Option Value→Thread→Bool} {st:(Code→Sem Fin)→Program→World→SharedT→Thread→Option (SharedT×Thread)} {den:(String→Option Builtin)→Code→Sem Fin} {tb:String→Option Builtin}
  (e1:stepOk=ok) (e2:stepT=st) (e3:denote=den) (e4:treeTable=tb)
  (Bp:∀ w:World,(fencedOpening treeTable p w N).map (fun s=>(s.heap,s.gens,s.drawn,s.toks))=some (H₀ w.params,kO,d₀,k₀))
  (tr:∀ P:Params,absHeap (T₀ P) n₀ life=H₀ P)
  (size:∀ P:Params,((H₀ P).isNs mainGlobals && kO.size == 0,(H₀ P).objs.size,(H₀ P).nsMap mainGlobals "__annotations__")=(true,n₀,ann))
  (run:∀ (w:World) (os:OsState),(dz ok (st (den tb) p w) n₀ ann N ⟨T₀ w.params,n₀,life,kO,d₀,k₀,os⟩ (topStub p)).map (fun s=>((staticsOk (importedModules p.main.body) (H₀ w.params) s.abs.heap && namesBound p s.abs.heap && gensDone s.abs && laidKept (H₀ w.params) s.abs.heap),
    openSeen q loose (importedModules p.main.body) Xt g0 s.abs,Yf s.abs))=some (true,openGood q loose,Ya w)):LeftO p q loose Xt Yf Ya N g0:=by
 subst e1 e2 e3 e4;refine LeftO.OF Bp tr size fun w os=>?_;rw [← Co];exact run w os
noncomputable def et (P:Params):BT:=treeOf (boot_heap P).objs.toList 0 .nil
end L2

namespace L2
open PySem PySem.W PyProof.Rows
theorem V2 {α β γ:Type} {o:Option α} {F:α→β×γ} {G:β×γ} (h1:o.map (fun s=>(F s).1)=some G.1) (h2:o.map (fun s=>(F s).2)=some G.2):o.map F=some G:=by
 cases o with
 | none=>cases h1
 | some a=>injection h1 with h1; injection h2 with h2; exact congrArg some (Prod.ext h1 h2)
theorem atS {α β:Type} {o:Option α} {s:α} {f:α→β} {g:β} (hs:o=some s) (h:o.map f=some g):f s=g:=by
 subst hs; exact Option.some.inj h
theorem ib {α β:Type} {a b:α} {c d:β} (h:a=b) (k:c=d):(a,c)=(b,d):=by rw [h,k]
def F0 (p:Program) (H₀:Heap) (s:SharedT):Bool:=staticsOk (importedModules p.main.body) H₀ s.abs.heap && namesBound p s.abs.heap && gensDone s.abs && laidKept H₀ s.abs.heap
def F3 (p q:Program) (loose:List Str) (Xt:Shared→Bool) (g0:Bool) (s:SharedT):Bool:=s.abs.heap.keysOk (looseW q loose) ((recsOf q).map (·.name)) ((litsOf q).map (·.1)) ((clssOf q (looseW q loose)).map (·.name)) && s.abs.heap.accountedOkI (importedModules p.main.body) && s.abs.heap.isNs mainGlobals && s.abs.heap.isNs builtinsNs && tablesOk q s.abs.heap && Xt s.abs && (if g0 then s.abs.gens.size == 0 else !leftWithCleanup s.abs.gens)
def F1 (q:Program) (s:SharedT):=seen ((recsOf q).map (·.name)) (ownsOf q) [] { s.abs with gens:=#[] }
theorem Mi {p q:Program} {loose:List Str} {Xt:Shared→Bool} {α:Type} {Yf:Shared→α} {Ya:World→α} {g0:Bool} {H₀:Heap} {o:Option SharedT} {w:World}
  (q0:o.map (F0 p H₀)=some true) (q1:o.map (F1 q)=some (expectedOf q)) (q2:o.map (fun s:SharedT=>s.abs.heap.bltView)=some bltViewBooted)
  (q3:o.map (F3 p q loose Xt g0)=some true) (q4:o.map (fun s:SharedT=>tabsOk q s.abs)=some true) (q5:o.map (fun s:SharedT=>pinSeenD q (drecsOf q) s.abs)=some (pinGoodD (drecsOf q)))
  (q6:o.map (fun s:SharedT=>plainSeenE q (looseW q loose) s.abs)=some (plainGoodE q (looseW q loose))) (q7:o.map (fun s:SharedT=>plainSeenD q loose s.abs)=some (plainGoodD q loose))
  (q8:o.map (fun s:SharedT=>wideSeen q s.abs)=some (wideGood q)) (q9:o.map (fun s:SharedT=>clsSeenW q loose s.abs)=some (clsGoodW q loose))
  (jV:o.map (fun s:SharedT=>Yf s.abs)=some (Ya w)) :
  o.map (fun s:SharedT=>(F0 p H₀ s,openSeen q loose (importedModules p.main.body) Xt g0 s.abs,Yf s.abs))=some (true,openGood q loose,Ya w):=by
 obtain ⟨s,hs,a0⟩:=Option.map_eq_some_iff.mp q0;have a1:=atS hs q1;have a2:=atS hs q2;have a3:=atS hs q3;have a4:=atS hs q4;have a5:=atS hs q5;have a6:=atS hs q6;have a7:=atS hs q7;have a8:=atS hs q8;have a9:=atS hs q9;have a10:=atS hs jV;clear q0 q1 q2 q3 q4 q5 q6 q7 q8 q9 jV;subst hs;show some _=some _;refine congrArg some (ib a0 (ib ?_ a10));unfold openSeen openGood;exact ib a1 (ib a2 (ib a3 (ib a4 (ib a5 (ib a6 (ib a7 (ib a8 a9)))))))
theorem tQ {α β γ:Type} {o:Option α} {f:α→β} {g:α→γ} {b:β} {c:γ} (h:o.map (fun s=>(f s,g s))=some (b,c)):o.map f=some b:=by
 cases o with
 | none=>cases h
 | some a=>injection h with h; exact congrArg some (congrArg Prod.fst h)
theorem hX {α β γ:Type} {o:Option α} {f:α→β} {g:α→γ} {b:β} {c:γ} (h:o.map (fun s=>(f s,g s))=some (b,c)):o.map g=some c:=by
 cases o with
 | none=>cases h
 | some a=>injection h with h; exact congrArg some (congrArg Prod.snd h)
theorem qV {α β γ:Type} {o:Option α} {l:List β} {f:α→β→γ} {g:β→γ} (n:Nat) (h1:o.map (fun s=>(l.take n).map (f s))=some ((l.take n).map g)) (h2:o.map (fun s=>(l.drop n).map (f s))=some ((l.drop n).map g)):o.map (fun s=>l.map (f s))=some (l.map g):=by
 cases o with
 | none=>cases h1
 | some a =>
  injection h1 with h1;injection h2 with h2;refine congrArg some ?_;show l.map (f a)=l.map g;rw [← List.take_append_drop n l,List.map_append,List.map_append];exact congr (congrArg _ h1) h2
theorem Oy {K:Params→Frag} {as:List Addr} {e:∀ P,as=(K P).map (·.1)} {o:Option SharedT} {w:World} (h:o.map (fun s=>(K w.params).map fun p=>s.abs.heap.get? p.1)=some ((K w.params).map fun p=>some p.2)) :
  o.map (fun s=>(kHook K as e).obs s.abs)=some ((kHook K as e).val w):=by
 show o.map (fun s:SharedT=>as.map s.abs.heap.get?)=some ((K w.params).map fun p=>some p.2);rw [e w.params];simp only [List.map_map];exact h
end L2

section
open PySem PySem.W PyProof.Rows
namespace L2.bB
theorem sa:(PySem.Challenge.rw_leadnames_k31_walks_by_names_and_dots).row.wellSaid=true:=by kernel_rfl
theorem FI:(PySem.Challenge.rw_leadnames_k31_walks_by_names_and_dots).wellSaid=true:=by
 unfold OpenLaw.wellSaid
 iterate 18 refine look_both ?_ ?_
 ·exact sa
 all_goals kernel_rfl
noncomputable def QV:Program:=view (PySem.Challenge.rw_leadnames_k31_walks_by_names_and_dots).prog [0,2,3,4,5,7,8,9,10,11,12,13,14,15,16,18,19,20,21,22,23,24,25,26,27,28,29,30,31,32,33,34,36,37,38,39,41,42,43,44,45,46,47,48,49,50,54,55,57,58,59,60,61,62,63,64,65,66,67,68,69,72,74,76,77,78,79,80,81,82,83,84,85,86,87,88,89,90,91,92,93,94,95,96]
theorem rj:∀ w:World,(fencedOpening treeTable (PySem.Challenge.rw_leadnames_k31_walks_by_names_and_dots).prog w 16330).map (fun s=>(s.heap,s.gens,s.drawn,s.toks))=some (boot_heap w.params,Array.mk [],boot_drawn,boot_toks):=boot_open rfl rfl (fun _=>rfl)
theorem ck:∀ P:Params,absHeap (L2.et P) 11 {}=boot_heap P:=by intro P; kernel_rfl
theorem gI:∀ P:Params,((boot_heap P).isNs mainGlobals && (Array.mk ([]:List GenState)).size == 0,(boot_heap P).objs.size,(boot_heap P).nsMap mainGlobals "__annotations__")=(true,11,some (.ref 6)):=by intro P; kernel_rfl
set_option maxHeartbeats 0
theorem qL (w:World) (os:OsState):((dz PySem.W.Fast.tw6613529449190102663 (PySem.W.Fast.tw10156331382660048174 (PySem.W.Fast.tw11892475500146522536 PySem.W.Fast.tw14364793385576792824) (PySem.Challenge.rw_leadnames_k31_walks_by_names_and_dots).prog w) 11 (some (.ref 6)) 16330 ⟨L2.et w.params,11,{},Array.mk [],boot_drawn,boot_toks,os⟩ (topStub (PySem.Challenge.rw_leadnames_k31_walks_by_names_and_dots).prog))).map (fun s=>(((staticsOk (importedModules (PySem.Challenge.rw_leadnames_k31_walks_by_names_and_dots).prog.main.body) (boot_heap w.params) s.abs.heap && namesBound (PySem.Challenge.rw_leadnames_k31_walks_by_names_and_dots).prog s.abs.heap && gensDone s.abs && laidKept (boot_heap w.params) s.abs.heap)),s.abs.heap.bltView,pinSeenD QV (drecsOf QV) s.abs,plainSeenD QV [PySem.Str.ofString "walk",PySem.Str.ofString "asked_of",PySem.Str.ofString "make_folder",PySem.Str.ofString "make_file"] s.abs,clsSeenW QV [PySem.Str.ofString "walk",PySem.Str.ofString "asked_of",PySem.Str.ofString "make_folder",PySem.Str.ofString "make_file"] s.abs))=some ((true,bltViewBooted,pinGoodD (drecsOf QV),plainGoodD QV [PySem.Str.ofString "walk",PySem.Str.ofString "asked_of",PySem.Str.ofString "make_folder",PySem.Str.ofString "make_file"],clsGoodW QV [PySem.Str.ofString "walk",PySem.Str.ofString "asked_of",PySem.Str.ofString "make_folder",PySem.Str.ofString "make_file"])):=by kernel_rfl
theorem RQ (w:World) (os:OsState):((dz PySem.W.Fast.tw6613529449190102663 (PySem.W.Fast.tw10156331382660048174 (PySem.W.Fast.tw11892475500146522536 PySem.W.Fast.tw14364793385576792824) (PySem.Challenge.rw_leadnames_k31_walks_by_names_and_dots).prog w) 11 (some (.ref 6)) 16330 ⟨L2.et w.params,11,{},Array.mk [],boot_drawn,boot_toks,os⟩ (topStub (PySem.Challenge.rw_leadnames_k31_walks_by_names_and_dots).prog))).map (fun s=>seen ((recsOf QV).map (·.name)) (ownsOf QV) [] { s.abs with gens:=#[] })=some (expectedOf QV):=by kernel_rfl
theorem Qa (w:World) (os:OsState):((dz PySem.W.Fast.tw6613529449190102663 (PySem.W.Fast.tw10156331382660048174 (PySem.W.Fast.tw11892475500146522536 PySem.W.Fast.tw14364793385576792824) (PySem.Challenge.rw_leadnames_k31_walks_by_names_and_dots).prog w) 11 (some (.ref 6)) 16330 ⟨L2.et w.params,11,{},Array.mk [],boot_drawn,boot_toks,os⟩ (topStub (PySem.Challenge.rw_leadnames_k31_walks_by_names_and_dots).prog))).map (fun s=>wideSeen QV s.abs)=some (wideGood QV):=by kernel_rfl
theorem q3 (w:World) (os:OsState):((dz PySem.W.Fast.tw6613529449190102663 (PySem.W.Fast.tw10156331382660048174 (PySem.W.Fast.tw11892475500146522536 PySem.W.Fast.tw14364793385576792824) (PySem.Challenge.rw_leadnames_k31_walks_by_names_and_dots).prog w) 11 (some (.ref 6)) 16330 ⟨L2.et w.params,11,{},Array.mk [],boot_drawn,boot_toks,os⟩ (topStub (PySem.Challenge.rw_leadnames_k31_walks_by_names_and_dots).prog))).map (fun s=>(s.abs.heap.keysOk (looseW QV [PySem.Str.ofString "walk",PySem.Str.ofString "asked_of",PySem.Str.ofString "make_folder",PySem.Str.ofString "make_file"]) ((recsOf QV).map (·.name)) ((litsOf QV).map (·.1)) ((clssOf QV (looseW QV [PySem.Str.ofString "walk",PySem.Str.ofString "asked_of",PySem.Str.ofString "make_folder",PySem.Str.ofString "make_file"])).map (·.name)) && s.abs.heap.accountedOkI (importedModules (PySem.Challenge.rw_leadnames_k31_walks_by_names_and_dots).prog.main.body) && s.abs.heap.isNs mainGlobals && s.abs.heap.isNs builtinsNs && tablesOk QV s.abs.heap && (fun s=>xlAt QV [] s && recOk (RowW.records (OpenRow.toRowW (PySem.Challenge.rw_leadnames_k31_walks_by_names_and_dots).row)) s) s.abs && (if true then s.abs.gens.size == 0 else !leftWithCleanup s.abs.gens)))=some (true):=by kernel_rfl
theorem q4 (w:World) (os:OsState):((dz PySem.W.Fast.tw6613529449190102663 (PySem.W.Fast.tw10156331382660048174 (PySem.W.Fast.tw11892475500146522536 PySem.W.Fast.tw14364793385576792824) (PySem.Challenge.rw_leadnames_k31_walks_by_names_and_dots).prog w) 11 (some (.ref 6)) 16330 ⟨L2.et w.params,11,{},Array.mk [],boot_drawn,boot_toks,os⟩ (topStub (PySem.Challenge.rw_leadnames_k31_walks_by_names_and_dots).prog))).map (fun s=>tabsOk QV s.abs)=some (true):=by kernel_rfl
theorem Ug (w:World) (os:OsState):((dz PySem.W.Fast.tw6613529449190102663 (PySem.W.Fast.tw10156331382660048174 (PySem.W.Fast.tw11892475500146522536 PySem.W.Fast.tw14364793385576792824) (PySem.Challenge.rw_leadnames_k31_walks_by_names_and_dots).prog w) 11 (some (.ref 6)) 16330 ⟨L2.et w.params,11,{},Array.mk [],boot_drawn,boot_toks,os⟩ (topStub (PySem.Challenge.rw_leadnames_k31_walks_by_names_and_dots).prog))).map (fun s=>(((plainsOf QV (looseW QV [PySem.Str.ofString "walk",PySem.Str.ofString "asked_of",PySem.Str.ofString "make_folder",PySem.Str.ofString "make_file"])).take 8).take 4).map fun c=>s.abs.heap.plainShapeAt c.withCmp)=some ((((plainsOf QV (looseW QV [PySem.Str.ofString "walk",PySem.Str.ofString "asked_of",PySem.Str.ofString "make_folder",PySem.Str.ofString "make_file"])).take 8).take 4).map fun c=>some c.withCmp.plainShape):=by kernel_rfl
theorem N6 (w:World) (os:OsState):((dz PySem.W.Fast.tw6613529449190102663 (PySem.W.Fast.tw10156331382660048174 (PySem.W.Fast.tw11892475500146522536 PySem.W.Fast.tw14364793385576792824) (PySem.Challenge.rw_leadnames_k31_walks_by_names_and_dots).prog w) 11 (some (.ref 6)) 16330 ⟨L2.et w.params,11,{},Array.mk [],boot_drawn,boot_toks,os⟩ (topStub (PySem.Challenge.rw_leadnames_k31_walks_by_names_and_dots).prog))).map (fun s=>(((plainsOf QV (looseW QV [PySem.Str.ofString "walk",PySem.Str.ofString "asked_of",PySem.Str.ofString "make_folder",PySem.Str.ofString "make_file"])).take 8).drop 4).map fun c=>s.abs.heap.plainShapeAt c.withCmp)=some ((((plainsOf QV (looseW QV [PySem.Str.ofString "walk",PySem.Str.ofString "asked_of",PySem.Str.ofString "make_folder",PySem.Str.ofString "make_file"])).take 8).drop 4).map fun c=>some c.withCmp.plainShape):=by kernel_rfl
theorem Ua (w:World) (os:OsState):((dz PySem.W.Fast.tw6613529449190102663 (PySem.W.Fast.tw10156331382660048174 (PySem.W.Fast.tw11892475500146522536 PySem.W.Fast.tw14364793385576792824) (PySem.Challenge.rw_leadnames_k31_walks_by_names_and_dots).prog w) 11 (some (.ref 6)) 16330 ⟨L2.et w.params,11,{},Array.mk [],boot_drawn,boot_toks,os⟩ (topStub (PySem.Challenge.rw_leadnames_k31_walks_by_names_and_dots).prog))).map (fun s=>((plainsOf QV (looseW QV [PySem.Str.ofString "walk",PySem.Str.ofString "asked_of",PySem.Str.ofString "make_folder",PySem.Str.ofString "make_file"])).take 8).map fun c=>s.abs.heap.plainShapeAt c.withCmp)=some (((plainsOf QV (looseW QV [PySem.Str.ofString "walk",PySem.Str.ofString "asked_of",PySem.Str.ofString "make_folder",PySem.Str.ofString "make_file"])).take 8).map fun c=>some c.withCmp.plainShape):=L2.qV 4 (Ug w os) (N6 w os)
theorem U5 (w:World) (os:OsState):((dz PySem.W.Fast.tw6613529449190102663 (PySem.W.Fast.tw10156331382660048174 (PySem.W.Fast.tw11892475500146522536 PySem.W.Fast.tw14364793385576792824) (PySem.Challenge.rw_leadnames_k31_walks_by_names_and_dots).prog w) 11 (some (.ref 6)) 16330 ⟨L2.et w.params,11,{},Array.mk [],boot_drawn,boot_toks,os⟩ (topStub (PySem.Challenge.rw_leadnames_k31_walks_by_names_and_dots).prog))).map (fun s=>((plainsOf QV (looseW QV [PySem.Str.ofString "walk",PySem.Str.ofString "asked_of",PySem.Str.ofString "make_folder",PySem.Str.ofString "make_file"])).drop 8).map fun c=>s.abs.heap.plainShapeAt c.withCmp)=some (((plainsOf QV (looseW QV [PySem.Str.ofString "walk",PySem.Str.ofString "asked_of",PySem.Str.ofString "make_folder",PySem.Str.ofString "make_file"])).drop 8).map fun c=>some c.withCmp.plainShape):=by kernel_rfl
theorem q6 (w:World) (os:OsState):((dz PySem.W.Fast.tw6613529449190102663 (PySem.W.Fast.tw10156331382660048174 (PySem.W.Fast.tw11892475500146522536 PySem.W.Fast.tw14364793385576792824) (PySem.Challenge.rw_leadnames_k31_walks_by_names_and_dots).prog w) 11 (some (.ref 6)) 16330 ⟨L2.et w.params,11,{},Array.mk [],boot_drawn,boot_toks,os⟩ (topStub (PySem.Challenge.rw_leadnames_k31_walks_by_names_and_dots).prog))).map (fun s=>plainSeenE QV (looseW QV [PySem.Str.ofString "walk",PySem.Str.ofString "asked_of",PySem.Str.ofString "make_folder",PySem.Str.ofString "make_file"]) s.abs)=some (plainGoodE QV (looseW QV [PySem.Str.ofString "walk",PySem.Str.ofString "asked_of",PySem.Str.ofString "make_folder",PySem.Str.ofString "make_file"])):=L2.qV 8 (Ua w os) (U5 w os)
end L2.bB
end
section
open PySem PySem.W PyProof.Rows
local macro_rules | `(tactic| o_head $H)=>`(tactic| (refine (by assumption:∀ h':PySem.W.Hook,h'=_→PySem.W.OpenRow.Holds _) $H ?_; rfl))
set_option maxHeartbeats 0 in
noncomputable def L2.bB.dW:(h:Hook) ×' ((∀ h':Hook,h'=h→(PySem.Challenge.rw_leadnames_k31_walks_by_names_and_dots).row.Holds)→(PySem.Challenge.rw_leadnames_k31_walks_by_names_and_dots).row.Holds):=by
 refine' ⟨_,fun x=>_⟩
 rotate_left
 k_head
end
section
open PySem PySem.W PyProof.Rows
namespace L2.bB
set_option maxHeartbeats 0
theorem ya (w:World) (os:OsState):((dz PySem.W.Fast.tw6613529449190102663 (PySem.W.Fast.tw10156331382660048174 (PySem.W.Fast.tw11892475500146522536 PySem.W.Fast.tw14364793385576792824) (PySem.Challenge.rw_leadnames_k31_walks_by_names_and_dots).prog w) 11 (some (.ref 6)) 16330 ⟨L2.et w.params,11,{},Array.mk [],boot_drawn,boot_toks,os⟩ (topStub (PySem.Challenge.rw_leadnames_k31_walks_by_names_and_dots).prog))).map (fun s=>(((dW.heap_1 w.params).take 353).take 176).map fun p=>s.abs.heap.get? p.1)=some ((((dW.heap_1 w.params).take 353).take 176).map fun p=>some p.2):=by kernel_rfl
theorem yb (w:World) (os:OsState):((dz PySem.W.Fast.tw6613529449190102663 (PySem.W.Fast.tw10156331382660048174 (PySem.W.Fast.tw11892475500146522536 PySem.W.Fast.tw14364793385576792824) (PySem.Challenge.rw_leadnames_k31_walks_by_names_and_dots).prog w) 11 (some (.ref 6)) 16330 ⟨L2.et w.params,11,{},Array.mk [],boot_drawn,boot_toks,os⟩ (topStub (PySem.Challenge.rw_leadnames_k31_walks_by_names_and_dots).prog))).map (fun s=>(((dW.heap_1 w.params).take 353).drop 176).map fun p=>s.abs.heap.get? p.1)=some ((((dW.heap_1 w.params).take 353).drop 176).map fun p=>some p.2):=by kernel_rfl
theorem yc (w:World) (os:OsState):((dz PySem.W.Fast.tw6613529449190102663 (PySem.W.Fast.tw10156331382660048174 (PySem.W.Fast.tw11892475500146522536 PySem.W.Fast.tw14364793385576792824) (PySem.Challenge.rw_leadnames_k31_walks_by_names_and_dots).prog w) 11 (some (.ref 6)) 16330 ⟨L2.et w.params,11,{},Array.mk [],boot_drawn,boot_toks,os⟩ (topStub (PySem.Challenge.rw_leadnames_k31_walks_by_names_and_dots).prog))).map (fun s=>(((dW.heap_1 w.params).drop 353).take 177).map fun p=>s.abs.heap.get? p.1)=some ((((dW.heap_1 w.params).drop 353).take 177).map fun p=>some p.2):=by kernel_rfl
theorem yd (w:World) (os:OsState):((dz PySem.W.Fast.tw6613529449190102663 (PySem.W.Fast.tw10156331382660048174 (PySem.W.Fast.tw11892475500146522536 PySem.W.Fast.tw14364793385576792824) (PySem.Challenge.rw_leadnames_k31_walks_by_names_and_dots).prog w) 11 (some (.ref 6)) 16330 ⟨L2.et w.params,11,{},Array.mk [],boot_drawn,boot_toks,os⟩ (topStub (PySem.Challenge.rw_leadnames_k31_walks_by_names_and_dots).prog))).map (fun s=>(((dW.heap_1 w.params).drop 353).drop 177).map fun p=>s.abs.heap.get? p.1)=some ((((dW.heap_1 w.params).drop 353).drop 177).map fun p=>some p.2):=by kernel_rfl
theorem jV (w:World) (os:OsState):((dz PySem.W.Fast.tw6613529449190102663 (PySem.W.Fast.tw10156331382660048174 (PySem.W.Fast.tw11892475500146522536 PySem.W.Fast.tw14364793385576792824) (PySem.Challenge.rw_leadnames_k31_walks_by_names_and_dots).prog w) 11 (some (.ref 6)) 16330 ⟨L2.et w.params,11,{},Array.mk [],boot_drawn,boot_toks,os⟩ (topStub (PySem.Challenge.rw_leadnames_k31_walks_by_names_and_dots).prog))).map (fun s=>Hook.obs dW.1 s.abs)=some (Hook.val dW.1 w) :=
 L2.Oy (K:=dW.heap_1) (e:=fun _=>by kernel_rfl) (L2.qV 353 (L2.qV 176 (ya w os) (yb w os)) (L2.qV 177 (yc w os) (yd w os)))
end L2.bB
local macro_rules | `(tactic| o_law)=>`(tactic| refine PySem.W.holds_law L2.bB.FI fun FI=>?_)
local macro_rules | `(tactic| k_head)=>`(tactic| (
 refine holds_open (q:=L2.bB.QV) (loose:=[PySem.Str.ofString "walk",PySem.Str.ofString "asked_of",PySem.Str.ofString "make_folder",PySem.Str.ofString "make_file"]) (Xt:=fun s=>xlAt L2.bB.QV [] s && recOk (RowW.records (OpenRow.toRowW (PySem.Challenge.rw_leadnames_k31_walks_by_names_and_dots).row)) s) (XP:=XL L2.bB.QV []) (Yf:=Hook.obs L2.bB.dW.1) (Ya:=Hook.val L2.bB.dW.1) (YP:=Hook.says L2.bB.dW.1) (N:=16330) ?hl (Hook.of L2.bB.dW.1) (Hook.keeps L2.bB.dW.1) (fun s e=>xl_of s (Bool.and_eq_true_iff.mp e).1) XL.keeps (by rfl) (by rfl) (by rfl) (fun s e=>recFacts_of (Bool.and_eq_true_iff.mp e).2) (by rfl) (by first | assumption | decide +kernel) (by decide +kernel) ⟨rfl,rfl,rfl,rfl,rfl,by decide +kernel⟩ ?hw ?hc
 case hl =>
  refine L2.LeftO.Mh PySem.W.Fast.te6613529449190102663 PySem.W.Fast.te10156331382660048174 PySem.W.Fast.te11892475500146522536 PySem.W.Fast.te14364793385576792824 L2.bB.rj L2.bB.ck L2.bB.gI (fun w os=>?_);exact L2.Mi (L2.tQ (L2.bB.qL w os)) (L2.bB.RQ w os) (L2.tQ (L2.hX (L2.bB.qL w os))) (L2.bB.q3 w os) (L2.bB.q4 w os) (L2.tQ (L2.hX (L2.hX (L2.bB.qL w os)))) (L2.bB.q6 w os) (L2.tQ (L2.hX (L2.hX (L2.hX (L2.bB.qL w os))))) (L2.bB.Qa w os) (L2.hX (L2.hX (L2.hX (L2.hX (L2.bB.qL w os))))) (L2.bB.jV w os)))
set_option maxHeartbeats 0 in
open_top L2.bB.hd0 for PySem.Challenge.rw_leadnames_k31_walks_by_names_and_dots
end

namespace L2
open PySem PySem.Spec PyProof.Rows
abbrev Key:=Sum Int Str
def lA:Key→Value→Bool
 | .inl k,v=>Value.isInt k v
 | .inr x,v=>Value.isStrOf x v
def NN (w:World):Key→Int
 | .inl k=>hashInt k
 | .inr x=>hashStr w x
theorem jb:∀ {k:Key} {v:Value},lA k v=true→(∃ i t,k=Sum.inl i∧v=Value.int i t)∨(∃ x t,k=Sum.inr x∧v=Value.str x t)
 | .inl i,v,h=>by
  obtain ⟨t,e⟩:=Value.isInt_shape (k:=i) (v:=v) h;exact .inl ⟨i,t,rfl,e⟩
 | .inr x,v,h=>by
  obtain ⟨t,e⟩:=Value.isStrOf_shape (x:=x) (v:=v) h;exact .inr ⟨x,t,rfl,e⟩
theorem Kk (i:Int) (t:Tok):lA (.inl i) (.int i t)=true:=by simp [lA,Value.isInt]
theorem Uq (x:Str) (t:Tok):lA (.inr x) (.str x t)=true:=by simp [lA,Value.isStrOf]
theorem NU (a b:Int):decide ((Sum.inl a:Key)=Sum.inl b)=(a == b):=by
 by_cases e:a=b
 ·subst e; simp
 ·have h:¬ (Sum.inl a:Key)=Sum.inl b:=fun q=>e (Sum.inl.inj q);rw [decide_eq_false h];exact (beq_eq_false_iff_ne.mpr e).symm
theorem Tc (a b:Str):decide ((Sum.inr a:Key)=Sum.inr b)=decide (a=b):=by
 by_cases e:a=b
 ·subst e; simp
 ·have h:¬ (Sum.inr a:Key)=Sum.inr b:=fun q=>e (Sum.inr.inj q);rw [decide_eq_false h,decide_eq_false e]
theorem Tj (a:Int) (b:Str):decide ((Sum.inl a:Key)=Sum.inr b)=false:=decide_eq_false (fun q=>nomatch q)
theorem OJ (a:Str) (b:Int):decide ((Sum.inr a:Key)=Sum.inl b)=false:=decide_eq_false (fun q=>nomatch q)
def dB (prog:Program) (w:World):PySem.KeyKind prog w Key where
 is:=lA
 hash:=NN w
 inj:=fun v a b ha hb=>by
  rcases jb ha with ⟨i,t,rfl,rfl⟩ | ⟨x,t,rfl,rfl⟩
  ·rcases jb hb with ⟨j,u,rfl,e⟩ | ⟨y,u,rfl,e⟩
   ·injection e with e1 _; rw [e1]
   ·exact nomatch e
  ·rcases jb hb with ⟨j,u,rfl,e⟩ | ⟨y,u,rfl,e⟩
   ·exact nomatch e
   ·injection e with e1 _; rw [e1]
 byValue:=fun k v h=>by
  rcases jb h with ⟨i,t,rfl,rfl⟩ | ⟨x,t,rfl,rfl⟩ <;> rfl
 pyHash:=fun hv h=>by
  rcases jb hv with ⟨i,t,rfl,rfl⟩ | ⟨x,t,rfl,rfl⟩
  ·exact wpAny_pyHash_int h
  ·exact wpAny_pyHash_str h
 eqBool:=fun hu hv h=>by
  rcases jb hu with ⟨i,t,rfl,rfl⟩ | ⟨x,t,rfl,rfl⟩
  ·rcases jb hv with ⟨j,u,rfl,rfl⟩ | ⟨y,u,rfl,rfl⟩
   ·rw [NU] at h; exact wpAny_eqBool_int h
   ·rw [Tj] at h; exact SeqAt.EqAt.int_str i t y u _ _ _ _ h
  ·rcases jb hv with ⟨j,u,rfl,rfl⟩ | ⟨y,u,rfl,rfl⟩
   ·rw [OJ] at h; exact SeqAt.EqAt.str_int x t j u _ _ _ _ h
   ·rw [Tc] at h; exact wpAny_eqBool_str h
 «strs»:=fun k x t v h=>by
  rcases jb h with ⟨i,u,rfl,e⟩ | ⟨y,u,rfl,e⟩
  ·exact nomatch e
  ·injection e with e1 _;subst e1;cases v <;> rfl
theorem Vf (prog:Program) (w:World) (i:Int) (t:Tok):(dB prog w).is (.inl i) (.int i t)=true:=Kk i t
theorem MP (prog:Program) (w:World) (x:Str) (t:Tok):(dB prog w).is (.inr x) (.str x t)=true:=Uq x t
end L2
namespace L2
open PySem PySem.Spec PyProof.Rows
inductive V where
 | ax | bl (b:Bool) | int (i:Int) | str (x:Str) | byt (b:Array UInt8) | ly (b:UInt64) | ref (a:Addr) | ty (n:String)
 deriving DecidableEq
def RelV:V→Value→Prop
 | .ax,u=>u=Value.none
 | .bl b,u=>u=Value.bool b
 | .int i,u=>∃ t,u=Value.int i t
 | .str x,u=>∃ t,u=Value.str x t
 | .byt b,u=>∃ t,u=Value.bytes b t
 | .ly b,u=>∃ t,u=Value.float b t
 | .ref a,u=>u=Value.ref a
 | .ty n,u=>u=Value.type n
abbrev Vals:List V→List Value→Prop:=Paired RelV
theorem Vals.length {xs:List V} {us:List Value} (r:Vals xs us):xs.length=us.length:=Paired.length r
theorem Vals.get:∀ {xs:List V} {us:List Value} {i:Nat} {x:V},Vals xs us→xs[i]?=some x→∃ u,us[i]?=some u∧RelV x u
 | _,_,_,_,.nil,e=>by simp at e
 | _,_,0,_,.cons r _,e=>by simp at e; subst e; exact ⟨_,rfl,r⟩
 | _,_,i+1,x,.cons _ t,e=>by
  obtain ⟨u,h1,h2⟩:=Vals.get (i:=i) (x:=x) t (by simpa using e);exact ⟨u,by simpa using h1,h2⟩
theorem Vals.set {x:V} {u:Value} (r:RelV x u):∀ {xs:List V} {us:List Value} (i:Nat),Vals xs us→Vals (xs.set i x) (us.set i u)
 | _,_,_,.nil=>.nil
 | _,_,0,.cons _ t=>.cons r t
 | _,_,i+1,.cons q t=>.cons q (Vals.set r i t)
theorem Vals.append:∀ {xs ys:List V} {us ws:List Value},Vals xs us→Vals ys ws→Vals (xs++ys) (us++ws)
 | _,_,_,_,.nil,s=>s
 | _,_,_,_,.cons r t,s=>.cons r (Vals.append t s)
theorem Vals.take:∀ {xs:List V} {us:List Value} (n:Nat),Vals xs us→Vals (xs.take n) (us.take n)
 | _,_,0,_=>.nil
 | _,_,_+1,.nil=>.nil
 | _,_,n+1,.cons r t=>.cons r (Vals.take n t)
theorem Vals.drop:∀ {xs:List V} {us:List Value} (n:Nat),Vals xs us→Vals (xs.drop n) (us.drop n)
 | _,_,0,r=>r
 | _,_,_+1,.nil=>.nil
 | _,_,n+1,.cons _ t=>Vals.drop n t
def dC:Option V→Option Value→Prop
 | some v,some u=>RelV v u
 | none,none=>True
 | _,_=>False
def KV {κ:Type}:List (κ×V)→List (κ×Value)→Prop:=Paired fun (p:κ×V) (q:κ×Value)=>p.1=q.1∧RelV p.2 q.2
def kV:Key→V
 | .inl i=>.int i
 | .inr x=>.str x
inductive HO where
 /-- a list -/
 | lst (xs:List V)
 /-- a tuple (never changes) -/
 | tup (xs:List V)
 /-- a dict whose keys are ints and texts; one whose keys are tuples of ints and texts (f6 empty one is both) -/
 | dK (kvs:List (Key×V)) | dT (kvs:List (List Key×V))
 /-- a set of ints: aq members,aq size -/
 | set (S:Int→Bool) (n:Nat)
 /-- an instance of f6 class at C,aq dict at dx,aq attributes -/
 | ins (C dx:Addr) (fs:List (Str×V))
 /-- f6 dict of f6 instance at x -/
 | own (x:Addr)
 /-- f6 dict of an exception -/
 | xd (fs:List (Str×V))
 /-- a bound method,f of x -/
 | met (f x:Addr)
 /-- a range object lo,lo+1,.. below hi -/
 | tM (lo hi:Int)
 /-- a thing that is known to f6 object (f6 script; a dict while a loop walks it): read,never written while it is so -/
 | dJ (o:Obj) (u:HO)
 /-- a code object's table -/
 | jU (ps:Array Value)
 /-- any other thing,by what is true of aq one object (a def of one's own: SetO a S n:=HO.ext fun h=>..) -/
 | ext (φ:Heap→Prop)
abbrev Hp:=Addr→Option HO
def upd (H:Hp) (a:Addr) (o:HO):Hp:=fun b=>if b=a then some o else H b
theorem ay {H:Hp} {a:Addr} {o:HO}:upd H a o a=some o:=by unfold upd; rw [if_pos rfl]
theorem ah {H:Hp} {a b:Addr} {o:HO} (h:b≠a):upd H a o b=H b:=by unfold upd; rw [if_neg h]
theorem ki {H:Hp} {a:Addr} {o u:HO}:upd (upd H a o) a u=upd H a u:=by
 funext b; unfold upd; split <;> rfl
theorem Nc {H:Hp} {a b:Addr} {o u:HO} (h:H a=some o) (h':H b=some u) (d:o≠u):a≠b:=by
 intro e; subst e; rw [h] at h'; exact d (Option.some.inj h')
theorem eR {H:Hp} {a b:Addr} {o:HO} (h:H a=some o) (h':H b=none):a≠b:=by
 intro e; subst e; rw [h] at h'; cases h'
section
variable (P:Program) (w:World)
def bP (H:Hp) (h:Heap) (a:Addr):HO→Prop
 | .lst xs=>xs.length≤sizeLine∧∃ (aq:List Value) (n:Nat),Vals xs aq∧h.get? a=some { cls:=.type "list",data:=.seq aq.toArray n }
 | .tup xs=>xs.length≤sizeLine∧∃ aq:List Value,Vals xs aq∧IsTup h a aq.toArray
 | .dK kvs=>kvs.length≤sizeLine∧(a == sysModules)=false∧∃ vs,KV kvs vs∧h.DictOf (dB P w) a vs
 | .dT kvs=>kvs.length≤sizeLine∧(a == sysModules)=false∧∃ xs:List (List Key×Addr×Value),
   Paired (fun (p:List Key×V) (q:List Key×Addr×Value)=>p.1=q.1∧H q.2.1=some (.tup (p.1.map kV))∧RelV p.2 q.2.2) kvs xs ∧
   ∃ o es ep,h.get? a=some o∧o.ExactDict∧o.data=.dict es ep∧es.toList=xs.map (entryOfKey (tupleKind (dB P w)))∧(xs.map (·.1)).Nodup
 | .set S n=>h.SetOf (intKind P w) a S n
 | .ins C dx fs=>H dx=some (.own a)∧fs.length≤1000∧dx≠a∧h.get? a=some (PySem.W.instObj C dx) ∧
   ∃ mA,h.Ns1 dx mA∧(∀ f,dC (fs.lookup f) (mA f))∧PySem.Within mA (fs.map (·.1))
 | .own _=>∃ o,h.get? a=some o
 | .xd fs=>∃ mA,h.Ns1 a mA∧∀ f,dC (fs.lookup f) (mA f)
 | .tM lo hi=>∃ t u v,h.get? a=some { cls:=.type "range",data:=.fields #[.int lo t,.int hi u,.int 1 v] }
 | .dJ o u=>h.get? a=some o∧bP H h a u
 | .jU ps=>h.get? a=some { cls:=.none,data:=.fields ps }
 | .met f x=>h.get? a=some (PySem.W.methodObj (.ref f) (.ref x))
 | .ext φ=>φ h∧(∃ o,h.get? a=some o)∧∀ h1 h2:Heap,φ h1→(∀ o,h1.get? a=some o→h2.get? a=some o)→φ h2
def bR (H:Hp) (h:Heap):Prop:=∀ a o,H a=some o→bP P w H h a o
end
section
variable {P:Program} {w:World} {H H':Hp} {h h':Heap} {a:Addr} {o:HO}
theorem bP.lt (x:bP P w H h a o):a < h.objs.size:=by
 cases o with
 | lst xs=>obtain ⟨_,_,_,_,e⟩:=x; exact Heap.lt_size e
 | tup xs=>obtain ⟨_,_,_,p⟩:=x; exact p.lt
 | dK kvs=>obtain ⟨_,_,_,_,o,_,_,e,_⟩:=x; exact Heap.lt_size e
 | dT kvs=>obtain ⟨_,_,_,_,o,_,_,e,_⟩:=x; exact Heap.lt_size e
 | set S n=>obtain ⟨o,_,_,_,e,_⟩:=x; exact Heap.lt_size e
 | ins C dx fs=>obtain ⟨_,_,_,e,_⟩:=x; exact Heap.lt_size e
 | own y=>obtain ⟨_,e⟩:=x; exact Heap.lt_size e
 | xd fs=>obtain ⟨_,⟨_,_,_,e,_⟩,_⟩:=x; exact Heap.lt_size e
 | tM lo hi=>obtain ⟨_,_,_,e⟩:=x; exact Heap.lt_size e
 | dJ ob u=>obtain ⟨e,_⟩:=x; exact Heap.lt_size e
 | jU ps=>exact Heap.lt_size (show h.get? a=some _ from x)
 | met f y=>exact Heap.lt_size (show h.get? a=some _ from x)
 | ext φ=>obtain ⟨_,⟨_,e⟩,_⟩:=x; exact Heap.lt_size e
theorem Paired.wY {α β:Type} {F G:α→β→Prop}:∀ {l₁:List α} {l₂:List β},Paired F l₁ l₂→(∀ a b,F a b→G a b)→Paired G l₁ l₂
 | _,_,.nil,_=>.nil
 | _,_,.cons r t,f=>.cons (f _ _ r) (Paired.wY t f)
theorem bP.dZ (x:bP P w H h a o) (k:∀ b u,(b=a∨H b=some (.own a))→h.get? b=some u→h'.get? b=some u)
  (ho:∀ b,H b=some (.own a)→H' b=some (.own a)) (ht:∀ b xs,H b=some (.tup xs)→H' b=some (.tup xs)):bP P w H' h' a o:=by
 induction o with
 | lst xs=>obtain ⟨z,aq,n,r,e⟩:=x; exact ⟨z,aq,n,r,k _ _ (.inl rfl) e⟩
 | tup xs=>obtain ⟨z,aq,r,ob,e,c⟩:=x; exact ⟨z,aq,r,ob,k _ _ (.inl rfl) e,c⟩
 | dK kvs=>obtain ⟨z,y,vs,r,ob,es,ep,e,c⟩:=x; exact ⟨z,y,vs,r,ob,es,ep,k _ _ (.inl rfl) e,c⟩
 | dT kvs =>
  obtain ⟨z,y,xs,r,ob,es,ep,e,c⟩:=x;exact ⟨z,y,xs,Paired.wY r fun p q z=>⟨z.1,ht _ _ z.2.1,z.2.2⟩,ob,es,ep,k _ _ (.inl rfl) e,c⟩
 | set S n=>obtain ⟨ob,es,ep,t,e,c⟩:=x; exact ⟨ob,es,ep,t,k _ _ (.inl rfl) e,c⟩
 | ins C dx fs =>
  obtain ⟨d,z,ne,e,mA,⟨od,es,ep,e2,c⟩,r⟩:=x;exact ⟨ho _ d,z,ne,k _ _ (.inl rfl) e,mA,⟨od,es,ep,k _ _ (.inr d) e2,c⟩,r⟩
 | own y=>obtain ⟨ob,e⟩:=x; exact ⟨ob,k _ _ (.inl rfl) e⟩
 | xd fs=>obtain ⟨mA,⟨od,es,ep,e,c⟩,r⟩:=x; exact ⟨mA,⟨od,es,ep,k _ _ (.inl rfl) e,c⟩,r⟩
 | tM lo hi=>obtain ⟨t,u,v,e⟩:=x; exact ⟨t,u,v,k _ _ (.inl rfl) e⟩
 | dJ ob u ih=>obtain ⟨e,q⟩:=x; exact ⟨k _ _ (.inl rfl) e,ih q⟩
 | jU ps =>
  have e:h.get? a=some { cls:=.none,data:=.fields ps }:=x;show h'.get? a=some { cls:=.none,data:=.fields ps };exact k a _ (.inl rfl) e
 | met f y =>
  have e:h.get? a=some (PySem.W.methodObj (.ref f) (.ref y)):=x;show h'.get? a=some (PySem.W.methodObj (.ref f) (.ref y));exact k a _ (.inl rfl) e
 | ext φ=>obtain ⟨p,⟨o,e⟩,st⟩:=x; exact ⟨st _ _ p fun o q=>k _ _ (.inl rfl) q,⟨o,k _ _ (.inl rfl) e⟩,st⟩
theorem bR.lt (x:bR P w H h) (e:H a=some o):a < h.objs.size:=(x a o e).lt
theorem bR.fresh (x:bR P w H h) (e:h.objs.size≤a):H a=none:=by
 cases q:H a with
 | none=>rfl
 | some u=>exact absurd (Nat.lt_of_lt_of_le (x.lt q) e) (Nat.lt_irrefl _)
theorem bR.kept (x:bR P w H h) (k:∀ b u,h.get? b=some u→h'.get? b=some u):bR P w H h':=fun a o e =>
 (x a o e).dZ (fun b u _ q=>k b u q) (fun _ q=>q) fun _ _ q=>q
theorem bR.laid (x:bR P w H h) (k:∀ b u,h.get? b=some u→h'.get? b=some u) (hp:h.objs.size≤a) (new:bP P w (upd H a o) h' a o):bR P w (upd H a o) h':=fun b u e=>by
 have hn:=x.fresh hp;by_cases hb:b=a
 ·subst hb; rw [ay] at e; cases e; exact new
 ·rw [ah hb] at e;exact (x b u e).dZ (fun c v _ q=>k c v q) (fun c q=>by rw [ah (eR q hn)]; exact q) fun c xs q=>by rw [ah (eR q hn)]; exact q
end
def Rd (H:Hp) (a:Addr) (u:HO):Prop:=H a=some u∨∃ o,H a=some (.dJ o u)
theorem Rd.ok {P:Program} {w:World} {H:Hp} {h:Heap} {a:Addr} {u:HO} (r:Rd H a u) (x:bR P w H h):bP P w H h a u:=by
 rcases r with r | ⟨o,r⟩
 ·exact x a u r
 ·obtain ⟨_,q⟩:=x a _ r;exact q
def rD:Option HO→Prop
 | some (.lst _)=>True
 | some (.dK _)=>True
 | some (.dT _)=>True
 | some (.set _ _)=>True
 | some (.ins _ _ _)=>True
 | some (.ext _)=>True
 | _=>False
section
variable {P:Program} {w:World} {H:Hp} {h h':Heap} {x e:Addr} {o':HO}
theorem bR.write (ok:bR P w H h) (mu:rD (H x)) (he:e=x∨H e=some (.own x)) (k:∀ b u,b≠e→h.get? b=some u→h'.get? b=some u) (pd:∃ u,h'.get? e=some u)
  (new:bP P w (upd H x o') h' x o'):bR P w (upd H x o') h':=fun b u q=>by
 have HY:∀ c y,H c=some (.own y)→c≠x:=fun c y r z=>by subst z; rw [r] at mu; exact mu
 have ntup:∀ c xs,H c=some (.tup xs)→c≠x:=fun c xs r z=>by subst z; rw [r] at mu; exact mu
 by_cases hb:b=x
 ·subst hb; rw [ay] at q; cases q; exact new
 ·rw [ah hb] at q;by_cases mD:b=e
  ·have q':H b=some (.own x):=by
    rcases he with z | z
    ·exact absurd (mD.trans z) hb
    ·rw [mD]; exact z
   rw [q] at q'; cases q';obtain ⟨v,hv⟩:=pd;exact ⟨v,by rw [mD]; exact hv⟩
  ·refine (ok b u q).dZ (fun c v hc r=>k c v ?_ r) (fun c r=>by rw [ah (HY c b r)]; exact r) fun c xs r=>by rw [ah (ntup c xs r)]; exact r
   rcases hc with rfl | hc
   ·exact mD
   ·rintro rfl;rcases he with z | z
    ·exact HY c b hc z
    ·rw [hc] at z; cases z; exact hb rfl
end
structure Un (fs ex:List Addr) (H H':Hp) (h h':Heap):Prop where
 keep:∀ b o,h.get? b=some o→H b=none→b ∉ fs→b ∉ ex→h'.get? b=some o
 slot:∀ b o,h.get? b=some o→H b=none→b∈fs→b ∉ ex→∃ sl,h'.get? b=some { o with slots:=sl }
 free:∀ b o,h.get? b=some o→H b=none→b ∉ ex→H' b=none
 there:∀ b o,h.get? b=some o→b ∉ ex→∃ o',h'.get? b=some o'
 fw:∀ b xs,H b=some (.tup xs)→H' b=some (.tup xs)
 eS:∀ b o u,H b=some (.dJ o u)→H' b=some (.dJ o u)
 fm:∀ b ps,H b=some (.jU ps)→∃ more,H' b=some (.jU (ps++more))
section
variable {fs fs' ex ex':List Addr} {H H1 H2:Hp} {h h1 h2 h':Heap} {a x e:Addr} {o:HO}
theorem Un.any (u:Un fs ex H H1 h h1) {b:Addr} {ob:Obj} (q:h.get? b=some ob) (n:H b=none) (hx:b ∉ ex):∃ sl,h1.get? b=some { ob with slots:=sl }:=by
 by_cases hb:b∈fs
 ·exact u.slot b ob q n hb hx
 ·exact ⟨ob.slots,u.keep b ob q n hb hx⟩
theorem Un.kept (k:∀ b u,h.get? b=some u→h'.get? b=some u):Un fs ex H H h h' :=
 ⟨fun b ob q _ _ _=>k b ob q,fun b ob q _ _ _=>⟨ob.slots,k b ob q⟩,fun _ _ _ n _=>n,fun b ob q _=>⟨ob,k b ob q⟩,fun _ _ q=>q,fun _ _ _ q=>q,fun _ ps q=>⟨#[],by rw [q]; simp⟩⟩
theorem Un.refl:Un fs ex H H h h:=Un.kept fun _ _ q=>q
theorem Un.laid (k:∀ b u,h.get? b=some u→h'.get? b=some u) (hp:h.objs.size≤a) (hn:H a=none):Un fs ex H (upd H a o) h h' where
 keep:=fun b u q _ _ _=>k b u q
 slot:=fun b u q _ _ _=>⟨u.slots,k b u q⟩
 free:=fun b u q n _=>by rw [ah (Nat.ne_of_lt (Nat.lt_of_lt_of_le (Heap.lt_size q) hp))]; exact n
 there:=fun b u q _=>⟨u,k b u q⟩
 fw:=fun b xs q=>by rw [ah (eR q hn)]; exact q
 eS:=fun b u xs q=>by rw [ah (eR q hn)]; exact q
 fm:=fun b ps q=>⟨#[],by rw [ah (eR q hn),q]; simp⟩
theorem Un.write (mu:rD (H x)) (he:e=x∨H e=some (.own x)) (k:∀ b u,b≠e→h.get? b=some u→h'.get? b=some u) (pd:∃ u,h'.get? e=some u):Un fs ex H (upd H x o) h h':=by
 have hx:∀ b,H b=none→b≠x:=fun b n z=>by subst z; rw [n] at mu; exact mu
 have hb:∀ b,H b=none→b≠e:=fun b n z=>by
  subst z;rcases he with r | r
  ·exact hx b n r
  ·rw [n] at r; cases r
 have hm:∀ b u,H b=some u→¬ rD (some u)→b≠x:=fun b u q nm z=>by subst z; rw [q] at mu; exact nm mu
 refine ⟨fun b u q n _ _=>k b u (hb b n) q,fun b u q n _ _=>⟨u.slots,k b u (hb b n) q⟩,fun b u q n _=>by rw [ah (hx b n)]; exact n,fun b u q _=>?_,
  fun b xs q=>by rw [ah (hm b _ q fun z=>z)]; exact q,fun b u xs q=>by rw [ah (hm b _ q fun z=>z)]; exact q,fun b ps q=>⟨#[],by rw [ah (hm b _ q fun z=>z),q]; simp⟩⟩
 by_cases mD:b=e
 ·subst mD; exact pd
 ·exact ⟨u,k b u mD q⟩
end
def uj (h:Heap) (H:Hp):List Addr:=(List.range h.objs.size).filter fun a=>(H a).isSome
def iZ (h:Heap) (H:Hp):Heap:=PySem.W.hideAll h (uj h H)
theorem Tu (h:Heap) (H:Hp):(iZ h H).objs.size=h.objs.size:=PySem.W.hideAll_size _ _
theorem Nj {h:Heap} {H:Hp} {b:Addr} {o:Obj} (e:h.get? b=some o) (n:H b=none):(iZ h H).get? b=some o :=
 PySem.W.hideAll_get _ e fun hm=>by
  have q:(H b).isSome=true:=(List.mem_filter.mp hm).2;rw [n] at q; simp at q
theorem LN {h:Heap} {H:Hp} {b:Addr} {o:Obj} (e:(iZ h H).get? b=some o):h.get? b=some o∧H b=none:=by
 have e':h.get? b=some o:=PySem.W.of_hideAll (uj h H) e;refine ⟨e',?_⟩;cases q:H b with
 | none=>rfl
 | some x =>
  have hm:b∈uj h H:=List.mem_filter.mpr ⟨List.mem_range.mpr (Heap.lt_size e'),by simp [q]⟩;have z:(iZ h H).get? b=none:=PySem.W.hideAll_none (uj h H) hm;rw [z] at e; cases e
def Ur (g h:Heap) (L:Addr):List (Addr×Obj):=(List.range h.objs.size).filterMap fun a=>if a=L∨(g.get? a).isSome=true then none else (h.get? a).map fun o=>(a,o)
def rest (g h:Heap) (L d:Addr):List (Addr×Obj):=(Ur g h L).filter fun p=>decide (p.1≠d)
end L2
namespace L2
open PySem PySem.Spec PyProof.Rows
structure Mod (K:PySem.W.Frag) (mg:Str→Option Value) (base:Heap):Prop where
 gC:K.In base
 glob:base.Ns mainGlobals mg
 blt:∃ mb,base.Ns builtinsNs mb∧∀ x:Str,x ≠ "__name__" → mb x=bootBuiltins x
 nolimit:base.NoLimit
structure Cx where
 prog:Program
 w:World
 K:PySem.W.Frag
 mg:Str→Option Value
 base:Heap
 A:Around
 N:List Str
 s₀:Shared
 H₀:Hp
 env:Env
 outer:List Env
 stack:List Env
 ex:List Addr
 fn:Str→Bool
 calm:Bool
 pn:List (Addr×Obj)
 xe:Value→Shared→Prop
def bH (l:List Env):List Addr:=l.filterMap (·.frame)
abbrev Cx.fs (X:Cx):List Addr:=bH X.outer
def qb (sc:Scope) (x:Str):Prop:=sc.names.lookup x=some .local∨sc.names.lookup x=some .cell∨sc.names.lookup x=some .free
def Loc (sc:Scope) (x:Str):Prop:=sc.names.lookup x=some .local∨sc.names.lookup x=some .cell
def Look (env:Env) (h:Heap) (m:Str→Option Value) (x:Str) (u:Value):Prop :=
 (env.kindOf x=some .local∧m x=some u)∨((env.kindOf x=some .cell∨env.kindOf x=some .free)∧∃ c,env.cells.lookup x=some c∧h.IsCell c (some u))
structure Cx.Ok (X:Cx):Prop where
 mod:Mod X.K X.mg X.base
 kind:X.env.scope.kind=.function
 glob:X.env.globals=mainGlobals
 blt:X.env.builtins=builtinsNs
 above:X.s₀.heap.objs.size≤X.env.locals
 inj:∀ x y c,X.env.cells.lookup x=some c→X.env.cells.lookup y=some c→x=y
 has:∀ x,(X.env.kindOf x=some .cell∨X.env.kindOf x=some .free)→∃ c,X.env.cells.lookup x=some c
 jQ:∀ x c,X.fn x=true→X.env.cells.lookup x=some c→X.s₀.heap.objs.size≤c
 hd:X.calm=true→X.A.handled=none
 frames:X.A.frames=some X.stack
 cH:X.stack=X.outer∨(X.stack=X.env::X.outer∧X.env.frame=some X.env.locals)
 qd:∀ b∈X.ex,b≠X.env.locals∧∀ x c,X.env.cells.lookup x=some c→c≠b
 bs:∀ b o,X.base.get? b=some o→X.s₀.heap.get? b=some o∧X.H₀ b=none
 gb:X.base.objs.size≤X.s₀.heap.objs.size
 kc:∀ b o,X.base.get? b=some o→b ∉ X.ex
 kF:∀ b∈X.ex,b ∉ X.fs
 eY:X.s₀.heap.FunFrames X.base X.outer
 hU:∀ b∈X.fs,X.H₀ b=none
structure Inv (X:Cx) (pins:List (Addr×Obj)) (σ:List (Option V)) (H:Hp) (s:Shared):Prop where
 ok:X.Ok
 os:s.os=X.s₀.os
 bare:AllBare s.gens
 base:Un X.fs X.ex X.H₀ H X.s₀.heap s.heap
 loc:∃ m,s.heap.Ns X.env.locals m∧∀ (i:Nat) (x:Str) (v:V),X.N[i]?=some x→σ[i]?=some (some v)→qb X.env.scope x→∃ u,RelV v u∧Look X.env s.heap m x u
 cell:∀ x c,X.env.cells.lookup x=some c→∃ v,s.heap.IsCell c v
 free:H X.env.locals=none
 eU:∀ x c,X.env.cells.lookup x=some c→H c=none
 pin:∀ p∈X.pn++pins,s.heap.get? p.1=some p.2∧H p.1=none∧p.1≠X.env.locals∧p.1 ∉ X.fs∧∀ v,p.2.data≠.cell v
 aC:bR X.prog X.w H s.heap
 len:σ.length=X.N.length
section
variable {X:Cx} {pins:List (Addr×Obj)} {σ:List (Option V)} {H H':Hp} {s:Shared} {h':Heap}
theorem Cx.Ok.Kx (ok:X.Ok) {b:Addr} {o:Obj} (e:X.base.get? b=some o):b ∉ X.fs:=fun hb=>by
 have:=(ok.eY.mem hb).1;rw [e] at this; cases this
theorem Inv.bs (I:Inv X pins σ H s):∀ b o,X.base.get? b=some o→s.heap.get? b=some o∧H b=none:=fun b o e =>
 ⟨I.base.keep b o (I.ok.bs b o e).1 (I.ok.bs b o e).2 (I.ok.Kx e) (I.ok.kc b o e),I.base.free b o (I.ok.bs b o e).1 (I.ok.bs b o e).2 (I.ok.kc b o e)⟩
theorem Inv.bk (I:Inv X pins σ H s):∀ b o,X.base.get? b=some o→s.heap.get? b=some o:=fun b o e=>(I.bs b o e).1
theorem Inv.mod (I:Inv X pins σ H s):Mod X.K X.mg X.base:=I.ok.mod
theorem Inv.bQ (I:Inv X pins σ H s):X.K.In s.heap:=I.ok.mod.gC.keeps I.bk
theorem Inv.lt (I:Inv X pins σ H s):X.env.locals < s.heap.objs.size:=let ⟨_,hn,_⟩:=I.loc; hn.lt
theorem Inv.sz (I:Inv X pins σ H s):X.s₀.heap.objs.size≤s.heap.objs.size:=Nat.le_trans I.ok.above (Nat.le_of_lt I.lt)
theorem Inv.Cj (I:Inv X pins σ H s) {a:Addr} (h:s.heap.objs.size≤a):a ∉ X.fs:=fun hb=>by
 obtain ⟨_,o,ho,_⟩:=I.ok.eY.mem hb;exact absurd (Nat.lt_of_lt_of_le (Heap.lt_size ho) (Nat.le_trans I.sz h)) (Nat.lt_irrefl _)
theorem Inv.kY (I:Inv X pins σ H s):∀ x c,X.env.cells.lookup x=some c→c≠X.env.locals:=fun x c e z=>by
 obtain ⟨v,o,ho,hd⟩:=I.cell x c e;obtain ⟨m,⟨o',es,ep,ho',hd',_⟩,_⟩:=I.loc;rw [z,ho'] at ho; cases ho; rw [hd'] at hd; cases hd
theorem Inv.eY (I:Inv X pins σ H s):s.heap.FunFrames X.base X.outer:=by
 have all:∀ (l:List Env),(∀ b∈bH l,b∈X.fs)→X.s₀.heap.FunFrames X.base l→s.heap.FunFrames X.base l:=by
  intro l
  induction l with
  | nil=>intro _ _; trivial
  | cons env r ih =>
   intro hs hl;obtain ⟨hk,⟨L,o,hf,hn,ho,hd⟩,hr⟩:=hl;have hL:L∈X.fs:=hs L (by unfold bH; rw [List.filterMap_cons,hf]; exact List.mem_cons_self);obtain ⟨sl,e⟩:=I.base.slot L o ho (I.ok.hU L hL) hL fun z=>I.ok.kF L z hL;exact ⟨hk,⟨L,_,hf,hn,e,hd⟩,ih (fun b hb=>hs b (by unfold bH; rw [List.filterMap_cons,hf]; exact List.mem_cons_of_mem _ hb)) hr⟩
 exact all X.outer (fun _ hb=>hb) I.ok.eY
theorem Inv.stack (I:Inv X pins σ H s):s.heap.FunFrames X.base X.stack:=by
 rcases I.ok.cH with e | ⟨e,hf⟩
 ·rw [e]; exact I.eY
 ·rw [e];obtain ⟨m,hn,_⟩:=I.loc;refine .cons (by rw [I.ok.kind]; decide) hf hn ?_ I.eY;exact Heap.get?_none_of_le (Nat.le_trans I.ok.gb I.ok.above)
theorem Inv.uF (I:Inv X pins σ H s):∀ b∈bH X.stack,b∈X.env.locals::X.fs:=fun b hb=>by
 rcases I.ok.cH with e | ⟨e,hf⟩
 ·rw [e] at hb; exact List.mem_cons_of_mem _ hb
 ·rw [e] at hb;unfold bH at hb;rw [List.filterMap_cons,hf] at hb;exact hb
theorem Inv.tD (I:Inv X pins σ H s):∀ b∈bH X.stack,H b=none:=fun b hb=>by
 rcases List.mem_cons.mp (I.uF b hb) with e | hb
 ·rw [e]; exact I.free
 ·obtain ⟨_,o,ho,_⟩:=I.ok.eY.mem hb;exact I.base.free b o ho (I.ok.hU b hb) fun z=>I.ok.kF b z hb
theorem Inv.step {g':Array GenState} {t':Nat} {d':Drawn} {ch:List Addr} (I:Inv X pins σ H s)
  (iF:∀ b∈ch,(b∈X.ex∨X.s₀.heap.objs.size≤b)∧b≠X.env.locals∧(∀ x c,X.env.cells.lookup x=some c→c≠b)∧∀ p∈X.pn++pins,p.1≠b)
  (keep:∀ b o,b≠X.env.locals→b ∉ X.fs→b ∉ ch→s.heap.get? b=some o→H b=none→h'.get? b=some o)
  (slot:∀ b o,b≠X.env.locals→b∈X.fs→b ∉ ch→s.heap.get? b=some o→H b=none→∃ sl,h'.get? b=some { o with slots:=sl }) (free:∀ b o,b ∉ ch→s.heap.get? b=some o→H b=none→H' b=none)
  (there:∀ b o,b ∉ ch→s.heap.get? b=some o→∃ o',h'.get? b=some o')
  (fw:∀ b xs,H b=some (.tup xs)→H' b=some (.tup xs)) (eS:∀ b o u,H b=some (.dJ o u)→H' b=some (.dJ o u)) (fm:∀ b ps,H b=some (.jU ps)→∃ more,H' b=some (.jU (ps++more)))
  (ns:∀ m,s.heap.Ns X.env.locals m→h'.Ns X.env.locals m) (aC:bR X.prog X.w H' h') (hg:AllBare g') :
  Inv X pins σ H' { s with heap:=h',gens:=g',drawn:=d',toks:=t' }:=by
 have sC:∀ b o,X.s₀.heap.get? b=some o→b≠X.env.locals:=fun b o e=>Nat.ne_of_lt (Nat.lt_of_lt_of_le (Heap.lt_size e) I.ok.above);have vG:∀ b o,X.s₀.heap.get? b=some o→b ∉ X.ex→b ∉ ch:=fun b o e hx hb=>by
  rcases (iF b hb).1 with z | z
  ·exact hx z
  ·exact absurd (Nat.lt_of_lt_of_le (Heap.lt_size e) z) (Nat.lt_irrefl _)
 have cellK:∀ x c,X.env.cells.lookup x=some c→∀ v,s.heap.IsCell c v→h'.IsCell c v:=fun x c e v ⟨o,ho,hd⟩=>by
  have sj:c ∉ ch:=fun z=>(iF c z).2.2.1 x c e rfl;by_cases hc:c∈X.fs
  ·obtain ⟨sl,q⟩:=slot c o (I.kY x c e) hc sj ho (I.eU x c e);exact ⟨_,q,hd⟩
  ·exact ⟨o,keep c o (I.kY x c e) hc sj ho (I.eU x c e),hd⟩
 refine ⟨I.ok,I.os,hg,⟨fun b o e n hb hx=>?_,fun b o e n hb hx=>?_,fun b o e n hx=>?_,fun b o e hx=>?_,fun b xs e=>fw b xs (I.base.fw b xs e),fun b o xs e=>eS b o xs (I.base.eS b o xs e),fun b ps e=>?_⟩,?_,fun x c e=>?_,?_,fun x c e=>?_,fun p hp=>?_,aC,I.len⟩
 ·exact keep b o (sC b o e) hb (vG b o e hx) (I.base.keep b o e n hb hx) (I.base.free b o e n hx)
 ·obtain ⟨sl,e1⟩:=I.base.slot b o e n hb hx;obtain ⟨sl',e2⟩:=slot b _ (sC b o e) hb (vG b o e hx) e1 (I.base.free b o e n hx);exact ⟨sl',e2⟩
 ·obtain ⟨o',e1⟩:=I.base.there b o e hx;exact free b o' (vG b o e hx) e1 (I.base.free b o e n hx)
 ·obtain ⟨o',e1⟩:=I.base.there b o e hx;exact there b o' (vG b o e hx) e1
 ·obtain ⟨m1,e1⟩:=I.base.fm b ps e;obtain ⟨m2,e2⟩:=fm b _ e1;exact ⟨m1++m2,by rw [e2,Array.append_assoc]⟩
 ·obtain ⟨m,hn,hl⟩:=I.loc;refine ⟨m,ns m hn,fun i x v e1 e2 e3=>?_⟩;obtain ⟨u,r,l⟩:=hl i x v e1 e2 e3;refine ⟨u,r,?_⟩;rcases l with l | ⟨k,c,e,z⟩
  ·exact .inl l
  ·exact .inr ⟨k,c,e,cellK x c e _ z⟩
 ·obtain ⟨v,z⟩:=I.cell x c e;exact ⟨v,cellK x c e v z⟩
 ·obtain ⟨m,⟨o,_,_,ho,_⟩,_⟩:=I.loc;exact free _ o (fun z=>(iF _ z).2.1 rfl) ho I.free
 ·obtain ⟨v,o,ho,hd⟩:=I.cell x c e;exact free c o (fun z=>(iF c z).2.2.1 x c e rfl) ho (I.eU x c e)
 ·obtain ⟨e,n,ne,nf,d⟩:=I.pin p hp;have sj:p.1 ∉ ch:=fun z=>(iF p.1 z).2.2.2 p hp rfl;exact ⟨keep p.1 p.2 ne nf sj e n,free p.1 p.2 sj e n,ne,nf,d⟩
theorem Inv.un {t':Nat} (I:Inv X pins σ H s) (u:Un X.fs [] H H' s.heap h') (aC:bR X.prog X.w H' h'):Inv X pins σ H' { s with heap:=h',toks:=t' }:=by
 obtain ⟨m,⟨o,es,ep,ho,r⟩,_⟩:=id I.loc;obtain ⟨sl,hL⟩:=u.any ho I.free (by simp);exact I.step (g':=s.gens) (d':=s.drawn) (ch:=[]) (fun _ z=>nomatch z) (fun b o _ hb _ e n=>u.keep b o e n hb (by simp)) (fun b o _ hb _ e n=>u.slot b o e n hb (by simp)) (fun b o _ e n=>u.free b o e n (by simp)) (fun b o _ e=>u.there b o e (by simp)) u.fw u.eS u.fm (fun m' hm=>by
  obtain ⟨o',es',ep',ho',r'⟩:=hm;rw [ho] at ho'; cases ho';exact ⟨_,es',ep',hL,r'⟩) aC I.bare
theorem Inv.call {g':Array GenState} {t':Nat} {d':Drawn} {ch:List Addr} (I:Inv X pins σ H s) (u:Un (bH X.stack) ch H H' s.heap h') (aC:bR X.prog X.w H' h') (hg:AllBare g')
  (iF:∀ b∈ch,(b∈X.ex∨X.s₀.heap.objs.size≤b)∧b≠X.env.locals∧(∀ x c,X.env.cells.lookup x=some c→c≠b)∧∀ p∈X.pn++pins,p.1≠b) :
  Inv X pins σ H' { s with heap:=h',gens:=g',drawn:=d',toks:=t' }:=by
 obtain ⟨m,⟨o,es,ep,ho,r⟩,_⟩:=id I.loc;obtain ⟨sl,hL⟩:=u.any ho I.free fun z=>(iF _ z).2.1 rfl;exact I.step (ch:=ch) iF (fun b o hL hb hc e n=>u.keep b o e n (fun z=>(List.mem_cons.mp (I.uF b z)).elim hL hb) hc) (fun b o _ _ hc e n=>u.any e n hc) (fun b o hc e n=>u.free b o e n hc) (fun b o hc e=>u.there b o e hc) u.fw u.eS u.fm (fun m' hm=>by
  obtain ⟨o',es',ep',ho',r'⟩:=hm;rw [ho] at ho'; cases ho';exact ⟨_,es',ep',hL,r'⟩) aC hg
theorem Inv.turned {t':Nat} {it:Addr} (I:Inv X pins σ H s) (k:∀ b o,b≠it→s.heap.get? b=some o→h'.get? b=some o) (hn:H it=none) (hL:it≠X.env.locals)
  (h1:it∈X.ex∨X.s₀.heap.objs.size≤it) (h2:∀ x c,X.env.cells.lookup x=some c→c≠it) (h3:∀ p∈X.pn++pins,p.1≠it):Inv X pins σ H { s with heap:=h',toks:=t' }:=by
 have J5:∀ b u,H b=some u→b≠it:=fun b u e z=>by rw [z,hn] at e; cases e
 refine I.step (g':=s.gens) (d':=s.drawn) (ch:=[it]) (fun b hb=>?_) (fun b o _ _ hc e _=>k b o (fun z=>hc (by simp [z])) e) (fun b o _ _ hc e _=>⟨o.slots,k b o (fun z=>hc (by simp [z])) e⟩) (fun _ _ _ _ n=>n)
  (fun b o hc e=>⟨o,k b o (fun z=>hc (by simp [z])) e⟩) (fun _ _ e=>e) (fun _ _ _ e=>e) (fun b ps e=>⟨#[],by rw [e]; simp⟩) (fun m hm=>?_) (fun b u e=>?_) I.bare
 ·have e:b=it:=by simpa using hb
  subst e;exact ⟨h1,hL,h2,h3⟩
 ·obtain ⟨o,es,ep,ho,r⟩:=hm;exact ⟨o,es,ep,k _ o (Ne.symm hL) ho,r⟩
 ·refine (I.aC b u e).dZ (fun c v hc q=>k c v ?_ q) (fun _ q=>q) fun _ _ q=>q;rcases hc with z | z
  ·rw [z]; exact J5 b u e
  ·exact J5 c _ z
theorem Inv.tok (I:Inv X pins σ H s) (t:Nat):Inv X pins σ H { s with toks:=t }:=I.un (h':=s.heap) (t':=t) Un.refl I.aC
theorem Inv.kept {t':Nat} (I:Inv X pins σ H s) (k:∀ b u,s.heap.get? b=some u→h'.get? b=some u):Inv X pins σ H { s with heap:=h',toks:=t' }:=I.un (Un.kept k) (I.aC.kept k)
theorem Inv.laid {a:Addr} {o:HO} {t':Nat} (I:Inv X pins σ H s) (k:∀ b u,s.heap.get? b=some u→h'.get? b=some u) (hp:s.heap.objs.size≤a) (new:bP X.prog X.w (upd H a o) h' a o) :
  Inv X pins σ (upd H a o) { s with heap:=h',toks:=t' }:=I.un (Un.laid k hp (I.aC.fresh hp)) (I.aC.laid k hp new)
theorem Inv.write {x e:Addr} {o:HO} {t':Nat} (I:Inv X pins σ H s) (mu:rD (H x)) (he:e=x∨H e=some (.own x)) (k:∀ b u,b≠e→s.heap.get? b=some u→h'.get? b=some u) (pd:∃ u,h'.get? e=some u)
  (new:bP X.prog X.w (upd H x o) h' x o):Inv X pins σ (upd H x o) { s with heap:=h',toks:=t' }:=I.un (Un.write mu he k pd) (I.aC.write mu he k pd new)
theorem Inv.rE {pins':List (Addr×Obj)} (I:Inv X pins σ H s) (h:∀ p∈pins',s.heap.get? p.1=some p.2∧H p.1=none∧p.1≠X.env.locals∧p.1 ∉ X.fs∧∀ v,p.2.data≠.cell v):Inv X pins' σ H s :=
 ⟨I.ok,I.os,I.bare,I.base,I.loc,I.cell,I.free,I.eU,fun p hp=>(List.mem_append.mp hp).elim (fun z=>I.pin p (List.mem_append_left _ z)) (h p),I.aC,I.len⟩
theorem Fw {N:List Str} (hN:N.Nodup) {i j:Nat} {x:Str} (a:N[i]?=some x) (b:N[j]?=some x):i=j:=by
 obtain ⟨h1,e1⟩:=List.getElem?_eq_some_iff.mp a;obtain ⟨h2,e2⟩:=List.getElem?_eq_some_iff.mp b;exact (List.getElem_inj hN).mp (e1.trans e2.symm)
theorem DO {M:Model} {A:Around} {E:Value→Shared→Prop} {i:Nat} {x:Str} {v:V} {u:Value} {Q:Unit→Shared→Prop} (I:Inv X pins σ H s) (hN:X.N.Nodup) (hi:X.N[i]?=some x) (hx:Loc X.env.scope x) (r:RelV v u)
  (h:∀ s',Inv X pins (σ.set i (some v)) H s'→(∃ a,Heap.SameBut a s.heap s'.heap∧(a=X.env.locals∨X.env.cells.lookup x=some a))→Q () s') (hf:X.fn x=true∨X.env.scope.names.lookup x=some .local:=by first | exact .inl rfl | exact .inr rfl | assumption):wpAny M A (storeName X.env x u) Q E s:=by
 obtain ⟨m,hn,hl⟩:=id I.loc;have hcls:(X.env.scope.kind == .class || (X.env.scope.kind == .module && X.env.locals != X.env.globals))=false:=by rw [I.ok.kind]; rfl
 have JL:i < σ.length:=by rw [I.len]; exact (List.getElem?_eq_some_iff.mp hi).1
 have kY:=I.kY;have tracked:∀ {a:Addr} {h':Heap},(∃ o,s.heap.get? a=some o∧H a=none)→Heap.SameBut a s.heap h'→bR X.prog X.w H h':=fun {a h'} ha hs b ob e=>by
  obtain ⟨_,_,kM⟩:=ha;refine (I.aC b ob e).dZ (fun c w' hc q=>(hs.2 c ?_).trans q) (fun _ q=>q) fun _ _ q=>q;rintro rfl;rcases hc with rfl | hc
  ·rw [kM] at e; cases e
  ·rw [kM] at hc; cases hc
 rcases hx with hk | hk
 ·refine wpAny_storeName_local hk hn (fun h' hn' hs=>?_) hcls;obtain ⟨oL,_,_,jK,_⟩:=id hn;refine h _ ⟨I.ok,I.os,I.bare,⟨fun b o e n hb hx=>?_,fun b o e n hb hx=>?_,I.base.free,fun b o e hx=>?_,I.base.fw,I.base.eS,I.base.fm⟩,⟨_,hn',fun j y v' e1 e2 e3=>?_⟩,fun y c e=>?_,I.free,I.eU,fun p hp=>?_,tracked ⟨oL,jK,I.free⟩ hs,by simpa using I.len⟩ ⟨_,hs,.inl rfl⟩
  ·exact (hs.2 b (Nat.ne_of_lt (Nat.lt_of_lt_of_le (Heap.lt_size e) I.ok.above))).trans (I.base.keep b o e n hb hx)
  ·obtain ⟨sl,e1⟩:=I.base.slot b o e n hb hx;exact ⟨sl,(hs.2 b (Nat.ne_of_lt (Nat.lt_of_lt_of_le (Heap.lt_size e) I.ok.above))).trans e1⟩
  ·obtain ⟨o',e1⟩:=I.base.there b o e hx;exact ⟨o',(hs.2 b (Nat.ne_of_lt (Nat.lt_of_lt_of_le (Heap.lt_size e) I.ok.above))).trans e1⟩
  ·by_cases hj:j=i
   ·subst hj;rw [hi] at e1; cases e1;rw [List.getElem?_set_self JL] at e2;cases e2;exact ⟨u,r,.inl ⟨hk,by simp⟩⟩
   ·rw [List.getElem?_set_ne (Ne.symm hj)] at e2;obtain ⟨u',r',q⟩:=hl j y v' e1 e2 e3;refine ⟨u',r',?_⟩;rcases q with ⟨k,e⟩ | ⟨k,c,e,z⟩
    ·refine .inl ⟨k,?_⟩;have:y≠x:=fun e=>hj (Fw hN e1 (e ▸ hi));simp [this,e]
    ·exact .inr ⟨k,c,e,z.sameBut hs (kY y c e)⟩
  ·obtain ⟨w',z⟩:=I.cell y c e;exact ⟨w',z.sameBut hs (kY y c e)⟩
  ·obtain ⟨e,n,ne,nf,d⟩:=I.pin p hp;exact ⟨(hs.2 p.1 ne).trans e,n,ne,nf,d⟩
 ·have Bt:X.fn x=true:=by
   rcases hf with z | z
   ·exact z
   ·rw [z] at hk; cases hk
  obtain ⟨c,hc⟩:=I.ok.has x (.inl hk);obtain ⟨w',z⟩:=I.cell x c hc;refine wpAny_storeName_cell I.ok.kind hk hc z (fun h' hc' hs=>?_);obtain ⟨oc,Jp,hocd⟩:=id z;refine h { s with heap:=h' } ⟨I.ok,I.os,I.bare,⟨fun b o e n hb hx=>?_,fun b o e n hb hx=>?_,I.base.free,fun b o e hx=>?_,I.base.fw,I.base.eS,I.base.fm⟩,⟨m,hn.sameBut hs (Ne.symm (kY x c hc)),fun j y v' e1 e2 e3=>?_⟩,fun y c' e=>?_,I.free,I.eU,fun p hp=>?_,tracked ⟨oc,Jp,I.eU x c hc⟩ hs,by simpa using I.len⟩ ⟨c,hs,.inr hc⟩
  ·exact (hs.2 b (Nat.ne_of_lt (Nat.lt_of_lt_of_le (Heap.lt_size e) (I.ok.jQ x c Bt hc)))).trans (I.base.keep b o e n hb hx)
  ·obtain ⟨sl,e1⟩:=I.base.slot b o e n hb hx;exact ⟨sl,(hs.2 b (Nat.ne_of_lt (Nat.lt_of_lt_of_le (Heap.lt_size e) (I.ok.jQ x c Bt hc)))).trans e1⟩
  ·obtain ⟨o',e1⟩:=I.base.there b o e hx;exact ⟨o',(hs.2 b (Nat.ne_of_lt (Nat.lt_of_lt_of_le (Heap.lt_size e) (I.ok.jQ x c Bt hc)))).trans e1⟩
  ·by_cases hj:j=i
   ·subst hj;rw [hi] at e1; cases e1;rw [List.getElem?_set_self JL] at e2;cases e2;exact ⟨u,r,.inr ⟨.inl hk,c,hc,hc'⟩⟩
   ·rw [List.getElem?_set_ne (Ne.symm hj)] at e2;obtain ⟨u',r',q⟩:=hl j y v' e1 e2 e3;refine ⟨u',r',?_⟩;rcases q with q | ⟨k,c',e,z'⟩
    ·exact .inl q
    ·refine .inr ⟨k,c',e,z'.sameBut hs ?_⟩;rintro rfl;exact hj (Fw hN e1 (I.ok.inj _ _ _ e hc ▸ hi))
  ·by_cases vM:c'=c
   ·subst vM; exact ⟨_,hc'⟩
   ·obtain ⟨w2,z2⟩:=I.cell y c' e;exact ⟨w2,z2.sameBut hs vM⟩
  ·obtain ⟨e,n,ne,nf,d⟩:=I.pin p hp;refine ⟨(hs.2 p.1 ?_).trans e,n,ne,nf,d⟩;intro q;rw [q,Jp] at e;have q':oc=p.2:=Option.some.inj e;exact d w' (by rw [← q']; exact hocd)
theorem Dk {M:Model} {A:Around} {E:Value→Shared→Prop} {i:Nat} {x:Str} {v:V} {u:Value} {Q:Unit→Shared→Prop} (I:Inv X pins σ H s) (hN:X.N.Nodup) (hi:X.N[i]?=some x) (hx:Loc X.env.scope x) (r:RelV v u)
  (h:∀ s',Inv X pins (σ.set i (some v)) H s'→Q () s') (hf:X.fn x=true∨X.env.scope.names.lookup x=some .local:=by first | exact .inl rfl | exact .inr rfl | assumption):wpAny M A (storeName X.env x u) Q E s :=
 DO I hN hi hx r (fun s' I' _=>h s' I') hf
theorem Inv.D7 {s':Shared} {ch:List Addr} (I:Inv X pins σ H s) (ho:s'.os=s.os) (u:Un (bH X.stack) ch H H' s.heap s'.heap) (aC:bR X.prog X.w H' s'.heap) (hg:AllBare s'.gens)
  (iF:∀ b∈ch,(b∈X.ex∨X.s₀.heap.objs.size≤b)∧b≠X.env.locals∧(∀ x c,X.env.cells.lookup x=some c→c≠b)∧∀ p∈X.pn++pins,p.1≠b):Inv X pins σ H' s':=by
 obtain ⟨h',g',d',t',o'⟩:=s';have e:o'=s.os:=ho;subst e;exact I.call (g':=g') (t':=t') (d':=d') u aC hg iF
end
abbrev XK:=Value→Option Addr→Hp→Prop
abbrev St:=List (Option V)
abbrev VK:=V→Hp→Prop
abbrev TE:=St→Hp→VK→Prop
abbrev TT:=St→Hp→(Bool→Hp→Prop)→Prop
abbrev TA:=St→Hp→(List V→Hp→Prop)→Prop
structure Ends where
 nx:St→Hp→Prop
 rt:VK
 bk:St→Hp→Prop:=fun _ _=>False
 ct:St→Hp→Prop:=fun _ _=>False
abbrev TS:=Ends→St→Hp→Prop
def EP (X:Cx) (pins:List (Addr×Obj)) (σ:St) (Q:VK) (u:Value) (s':Shared):Prop:=∃ v H',Inv X pins σ H' s'∧RelV v u∧Q v H'
def TP (X:Cx) (pins:List (Addr×Obj)) (σ:St) (Q:Bool→Hp→Prop) (b:Bool) (s':Shared):Prop:=∃ H',Inv X pins σ H' s'∧Q b H'
def AP (X:Cx) (pins:List (Addr×Obj)) (σ:St) (Q:List V→Hp→Prop) (us:List Value) (s':Shared):Prop:=∃ vs H',Inv X pins σ H' s'∧Vals vs us∧Q vs H'
def SP (X:Cx) (pins:List (Addr×Obj)) (D:Ends) (f:Flow) (s':Shared):Prop :=
 match f with
 | .next=>∃ σ' H',Inv X pins σ' H' s'∧D.nx σ' H'
 | .brk=>∃ σ' H',Inv X pins σ' H' s'∧D.bk σ' H'
 | .cont=>∃ σ' H',Inv X pins σ' H' s'∧D.ct σ' H'
 | .ret u=>∃ v σ' H',Inv X pins σ' H' s'∧RelV v u∧D.rt v H'
def PE (X:Cx) (e:Expr) (t:TE):Prop :=
 ∀ (pins:List (Addr×Obj)) (s:Shared) (σ:St) (H:Hp) (Q:VK),Inv X pins σ H s→t σ H Q→wpAny (model X.prog X.w) X.A (eval e X.env) (EP X pins σ Q) X.xe s
def PT (X:Cx) (e:Expr) (t:TT):Prop :=
 ∀ (pins:List (Addr×Obj)) (s:Shared) (σ:St) (H:Hp) (Q:Bool→Hp→Prop),Inv X pins σ H s→t σ H Q→wpAny (model X.prog X.w) X.A (isTrue e X.env (eval e X.env)) (TP X pins σ Q) X.xe s
def PW (X:Cx) (e:Expr) (t:TT):Prop :=
 ∀ (whole:Sem Value) (pins:List (Addr×Obj)) (s:Shared) (σ:St) (H:Hp) (Q:Bool→Hp→Prop),Inv X pins σ H s→t σ H Q→wpAny (model X.prog X.w) X.A (isTrue e X.env whole) (TP X pins σ Q) X.xe s
theorem PW.pt {X:Cx} {e:Expr} {t:TT} (h:PW X e t):PT X e t:=h _
def PA (X:Cx) (es:List Expr) (t:TA):Prop :=
 ∀ (pos:Pos) (pins:List (Addr×Obj)) (s:Shared) (σ:St) (H:Hp) (Q:List V→Hp→Prop),Inv X pins σ H s→t σ H Q→wpAny (model X.prog X.w) X.A (spliced (backTo pos (starEach es X.env))) (AP X pins σ Q) X.xe s
def PS (X:Cx) (st:Stmt) (t:TS):Prop :=
 ∀ (pins:List (Addr×Obj)) (s:Shared) (σ:St) (H:Hp) (D:Ends),Inv X pins σ H s→t D σ H→wpAny (model X.prog X.w) X.A (exec st X.env) (SP X pins D) X.xe s
def cP (X:Cx) (st:List Stmt) (t:TS):Prop :=
 ∀ (pins:List (Addr×Obj)) (s:Shared) (σ:St) (H:Hp) (D:Ends),Inv X pins σ H s→t D σ H→wpAny (model X.prog X.w) X.A (execs st X.env) (SP X pins D) X.xe s
theorem aD {α:Type} {t:Sem α} {Q Q':α→Shared→Prop} {M:Model} {A:Around} {E:Value→Shared→Prop} {s:Shared} (h:wpAny M A t Q E s) (hQ:∀ a s,Q a s→Q' a s):wpAny M A t Q' E s:=wpAny_mono h hQ fun _ _ x=>x
end L2
namespace L2
open PySem PySem.Spec PyProof.Rows
section
variable {X:Cx}
def FC (i:Nat):TE:=fun σ H Q=>∃ v,σ[i]?=some (some v)∧Q v H
def tC (v:V):TE:=fun _ H Q=>Q v H
theorem Cm {i:Nat} {x:Str} {pos:Pos} (hN:X.N[i]?=some x) (hv:qb X.env.scope x) (hd:(x == ("__debug__" : Str))=false:=by decide) (cE:(x == ("__classdict__" : Str))=false:=by decide):PE X (.Name x pos) (FC i):=by
 intro pins s σ H Q I h;obtain ⟨v,e,h⟩:=h;obtain ⟨m,hn,hl⟩:=I.loc;obtain ⟨u,r,l⟩:=hl i x v hN e hv;have fin:EP X pins σ Q u s:=⟨v,H,I,r,h⟩;rcases l with ⟨hk,hm⟩ | ⟨hk,c,hc,Jj⟩
 ·exact wpAny_Name (wpAny_loadName_local I.ok.kind hk hn hm fin) hd
 ·rcases hk with hk | hk
  ·exact wpAny_Name (wpAny_loadName_cell I.ok.kind hk hc Jj fin) hd
  ·exact wpAny_Name (wpAny_loadName_free I.ok.kind hk hc Jj fin cE) hd
theorem Qn {i j pos}:PE X (.Constant (.int i) j pos) (tC (.int i)):=fun _ _ _ H _ I h=>wpAny_Constant_int ⟨.int i,H,I.tok _,⟨_,rfl⟩,h⟩
theorem SM {b j pos}:PE X (.Constant (.bool b) j pos) (tC (.bl b)):=fun _ _ _ H _ I h=>Constant_bool ⟨.bl b,H,I,rfl,h⟩
theorem UI {j pos}:PE X (.Constant .none j pos) (tC .ax):=fun _ _ _ H _ I h=>Constant_none ⟨.ax,H,I,rfl,h⟩
theorem P0 {x j pos}:PE X (.Constant (.str x) j pos) (tC (.str x)):=fun _ _ _ H _ I h=>Calls.Constant_str ⟨.str x,H,I.tok _,⟨_,rfl⟩,h⟩
def Gl (X:Cx) (x:Str):Prop:=X.env.kindOf x=some .globalImplicit
theorem ju {E:Value→Shared→Prop} {pins:List (Addr×Obj)} {s:Shared} {σ:St} {H:Hp} {x:Str} {u:Value} {pos:Pos} {Q:Value→Shared→Prop} (I:Inv X pins σ H s) (hg:Gl X x) (hm:X.mg x=some u) (h:Q u s)
  (hd:(x == ("__debug__" : Str))=false:=by decide):wpAny (model X.prog X.w) X.A (eval (.Name x pos) X.env) Q E s :=
 Calls.Name_function_global I.ok.kind hg (Calls.loadGlobal_global (by rw [I.ok.glob]; exact I.mod.glob.keeps I.bk) hm h) hd
theorem lZ {E:Value→Shared→Prop} {pins:List (Addr×Obj)} {s:Shared} {σ:St} {H:Hp} {x:Str} {u:Value} {pos:Pos} {Q:Value→Shared→Prop} (I:Inv X pins σ H s) (hg:Gl X x) (hm:X.mg x=none) (hv:bootBuiltins x=some u) (h:Q u s)
  (hn:x ≠ "__name__" := by decide) (hd:(x == ("__debug__" : Str))=false:=by decide):wpAny (model X.prog X.w) X.A (eval (.Name x pos) X.env) Q E s:=by
 obtain ⟨mb,h1,h2⟩:=I.mod.blt;exact Calls.Name_function_global I.ok.kind hg (Calls.loadGlobal_builtin (by rw [I.ok.glob]; exact I.mod.glob.keeps I.bk) hm (by rw [I.ok.blt]; exact h1.keeps I.bk) ((h2 x hn).trans hv) h) hd
theorem O7 {x:Str} {v:V} {u:Value} {pos:Pos} (hg:Gl X x) (hm:X.mg x=some u) (r:RelV v u) (hd:(x == ("__debug__" : Str))=false:=by decide):PE X (.Name x pos) (tC v) :=
 fun _ _ _ H _ I h=>ju I hg hm ⟨v,H,I,r,h⟩ hd
theorem OL {x:Str} {v:V} {u:Value} {pos:Pos} (hg:Gl X x) (hm:X.mg x=none) (hv:bootBuiltins x=some u) (r:RelV v u) (hn:x ≠ "__name__" := by decide) (hd:(x == ("__debug__" : Str))=false:=by decide):PE X (.Name x pos) (tC v) :=
 fun _ _ _ H _ I h=>lZ I hg hm hv ⟨v,H,I,r,h⟩ hn hd
def MO (ta tb:TE) (k:Int→Int→Hp→Prop):St→Hp→Prop:=fun σ H=>ta σ H fun x H1=>tb σ H1 fun y H2=>∃ i j,x=.int i∧y=.int j∧k i j H2
variable {a b:Expr} {ta tb:TE} {pos:Pos}
def PC (X:Cx) (op:CmpOp) (a b:Expr) (t:TE):Prop :=
 ∀ (pins:List (Addr×Obj)) (s:Shared) (σ:St) (H:Hp) (Q:VK),Inv X pins σ H s→t σ H Q →
  wpAny (model X.prog X.w) X.A (eval a X.env) (fun v s₁=>wpAny (model X.prog X.w) X.A (eval b X.env) (fun u s₂=>wpAny (model X.prog X.w) X.A (compareOp op v u) (EP X pins σ Q) X.xe s₂) X.xe s₁) X.xe s
theorem uP (b:Expr) {op:CmpOp} (h:op≠.In) (h2:op≠.NotIn):behindInMarks op b=false:=by
 have e1:(op == CmpOp.In)=false:=by cases op <;> first | rfl | exact absurd rfl h
 have e2:(op == CmpOp.NotIn)=false:=by cases op <;> first | rfl | exact absurd rfl h2
 cases b <;> simp [behindInMarks,e1,e2]
def nQ (p:Int→Int→Bool) (ta tb:TE):TE:=fun σ H Q=>MO ta tb (fun i j H2=>Q (.bl (p i j)) H2) σ H
abbrev V9:TE→TE→TE:=nQ fun i j=>decide (i < j)
abbrev Wo:TE→TE→TE:=nQ fun i j=>decide (i≤j)
abbrev V4:TE→TE→TE:=nQ fun i j=>decide (j < i)
abbrev Wa:TE→TE→TE:=nQ fun i j=>decide (j≤i)
abbrev Wd:TE→TE→TE:=nQ fun i j=>decide (i=j)
abbrev Wb:TE→TE→TE:=nQ fun i j=>!decide (i=j)
def KS (ta:TE):TE:=fun σ H Q=>ta σ H fun x H1=>Q (.bl (decide (x=.ax))) H1
def tB (t:TE):TT:=fun σ H Q=>t σ H fun x H1=>∃ c,x=.bl c∧Q c H1
variable {tA tB':TT} {rest:List Expr}
def zC (t u:TT):TT:=fun σ H Q=>t σ H fun c H1=>if c=true then u σ H1 Q else Q false H1
def xK (t u:TT):TT:=fun σ H Q=>t σ H fun c H1=>if c=true then Q true H1 else u σ H1 Q
def yZ (t:TT):TT:=fun σ H Q=>t σ H fun c H1=>Q (!c) H1
theorem R0 (ha:PT X a tA):PW X (.BoolOp .And [a] pos) tA:=by
 intro wh pins s σ H Q I h;refine isTrue_and (aD (ha pins s σ H Q I h) fun c s1 e=>?_);cases c with
 | true=>exact isTrue_and_nil e
 | false=>exact e
theorem R5 (ha:PT X a tA):PW X (.BoolOp .Or [a] pos) tA:=by
 intro wh pins s σ H Q I h;refine isTrue_or (aD (ha pins s σ H Q I h) fun c s1 e=>?_);cases c with
 | false=>exact isTrue_or_nil e
 | true=>exact e
theorem Ku (ha:PT X a tA) (hb:PW X (.BoolOp .And (b::rest) pos) tB'):PW X (.BoolOp .And (a::b::rest) pos) (zC tA tB'):=by
 intro wh pins s σ H Q I h;refine isTrue_and (aD (ha pins s σ H _ I h) fun c s1 ⟨H1,I1,q1⟩=>?_);cases c with
 | true=>exact hb wh pins s1 σ H1 Q I1 q1
 | false=>exact ⟨H1,I1,q1⟩
theorem RU (ha:PT X a tA) (hb:PW X (.BoolOp .Or (b::rest) pos) tB'):PW X (.BoolOp .Or (a::b::rest) pos) (xK tA tB'):=by
 intro wh pins s σ H Q I h;refine isTrue_or (aD (ha pins s σ H _ I h) fun c s1 ⟨H1,I1,q1⟩=>?_);cases c with
 | true=>exact ⟨H1,I1,q1⟩
 | false=>exact hb wh pins s1 σ H1 Q I1 q1
theorem NQ (ha:PT X a tA):PT X (.UnaryOp .Not a pos) (yZ tA):=by
 intro pins s σ H Q I h;exact isTrue_not (ha pins s σ H (fun c H1=>Q (!c) H1) I h)
theorem UU {op} {t:TE} (h:PE X a t):PE X (.BoolOp op [a] pos) t:=fun pins s σ H Q I hw=>BoolOp_one (h pins s σ H Q I hw)
def wq (t:TT) (ta tb:TE):TE:=fun σ H Q=>t σ H fun c H1=>if c=true then ta σ H1 Q else tb σ H1 Q
theorem NB {c:Expr} (hc:PT X c tA) (ha:PE X a ta) (hb:PE X b tb):PE X (.IfExp c a b pos) (wq tA ta tb):=by
 intro pins s σ H Q I h;refine wpAny_IfExp (aD (hc pins s σ H _ I h) fun d s1 ⟨H1,I1,q1⟩=>?_);cases d with
 | true=>exact ha pins s1 σ H1 Q I1 q1
 | false=>exact hb pins s1 σ H1 Q I1 q1
end
end L2
namespace L2
open PySem PySem.Spec PyProof.Rows
def aK (K:PySem.W.Frag) (H:Hp) (a:Addr) (xs:List V):Prop :=
 Rd H a (.lst xs) ∨
  ∃ (o:Obj) (aq:Array Value) (n:Nat),K.lookup a=some o∧o.cls=.type "list" ∧ o.dict=none∧o.data=.seq aq n∧aq.size≤sizeLine∧Vals xs aq.toList
def bV (K:PySem.W.Frag) (H:Hp) (a:Addr) (xs:List V):Prop :=
 Rd H a (.tup xs) ∨
  ∃ (o:Obj) (aq:Array Value) (n:Nat),K.lookup a=some o∧o.cls=.type "tuple" ∧ o.data=.seq aq n∧aq.size≤sizeLine∧Vals xs aq.toList
def OV:Value→Option V
 | .none=>some .ax
 | .bool b=>some (.bl b)
 | .int i _=>some (.int i)
 | .str x _=>some (.str x)
 | .bytes b _=>some (.byt b)
 | .float b _=>some (.ly b)
 | .ref a=>some (.ref a)
 | .type n=>some (.ty n)
 | _=>none
theorem RelV.abs {x:V} {u:Value} (r:RelV x u):OV u=some x:=by
 cases x with
 | ax=>cases r; rfl
 | bl _=>cases r; rfl
 | int _=>obtain ⟨t,rfl⟩:=r; rfl
 | str _=>obtain ⟨t,rfl⟩:=r; rfl
 | byt _=>obtain ⟨t,rfl⟩:=r; rfl
 | ly _=>obtain ⟨t,rfl⟩:=r; rfl
 | ref _=>cases r; rfl
 | ty _=>cases r; rfl
theorem RelV.inj {x y:V} {u:Value} (r:RelV x u) (q:RelV y u):x=y:=Option.some.inj (r.abs.symm.trans q.abs)
theorem Vals.inj:∀ {xs ys:List V} {us:List Value},Vals xs us→Vals ys us→xs=ys
 | _,_,_,.nil,.nil=>rfl
 | _,_,_,.cons r t,.cons r' t'=>by rw [r.inj r',Vals.inj t t']
section
variable {X:Cx} {pins:List (Addr×Obj)} {σ:St} {H:Hp} {s:Shared} {a:Addr} {xs ys:List V}
theorem aK.of {K:PySem.W.Frag} (h:H a=some (.lst xs)):aK K H a xs:=.inl (.inl h)
theorem bV.of {K:PySem.W.Frag} (h:H a=some (.tup xs)):bV K H a xs:=.inl (.inl h)
theorem Inv.list (I:Inv X pins σ H s) (h:aK X.K H a xs):∃ aq:List Value,Vals xs aq∧PlainL s.heap a aq.toArray∧xs.length≤sizeLine:=by
 rcases h with h | ⟨o,aq,n,hk,hc,hd,hs,hz,r⟩
 ·obtain ⟨z,aq,n,r,e⟩:=h.ok I.aC;exact ⟨aq,r,⟨_,n,e,rfl,rfl,rfl⟩,z⟩
 ·refine ⟨aq.toList,r,⟨o,n,I.bQ a o hk,hc,hd,by simpa using hs⟩,?_⟩;have e:=r.length;simp only [Array.length_toList] at e;omega
theorem Inv.tuple (I:Inv X pins σ H s) (h:bV X.K H a xs):∃ aq:List Value,Vals xs aq∧IsTup s.heap a aq.toArray∧xs.length≤sizeLine:=by
 rcases h with h | ⟨o,aq,n,hk,hc,hs,hz,r⟩
 ·obtain ⟨z,aq,r,p⟩:=h.ok I.aC;exact ⟨aq,r,p,z⟩
 ·refine ⟨aq.toList,r,⟨o,I.bQ a o hk,hc,n,by simpa using hs⟩,?_⟩;have e:=r.length;simp only [Array.length_toList] at e;omega
theorem Inv.OE (I:Inv X pins σ H s) (h:aK X.K H a xs) (h':aK X.K H a ys):xs=ys:=by
 obtain ⟨aq,r,⟨o,n,e,_,_,d⟩,_⟩:=I.list h;obtain ⟨its',r',⟨o',n',e',_,_,d'⟩,_⟩:=I.list h';rw [e] at e'; cases e';rw [d] at d';injection d' with d1 _;have:aq=its':=by simpa using congrArg Array.toList d1
 subst this;exact r.inj r'
end
abbrev Cx.il (X:Cx) (E:Value→Shared→Prop):Cx:={ X with xe:=E }
abbrev Cx.nt (X:Cx):Cx:=X.il fun _ _=>False
theorem Cx.Ok.il {X:Cx} (ok:X.Ok) (E:Value→Shared→Prop):(X.il E).Ok :=
 ⟨ok.mod,ok.kind,ok.glob,ok.blt,ok.above,ok.inj,ok.has,ok.jQ,ok.hd,ok.frames,ok.cH,ok.qd,ok.bs,ok.gb,ok.kc,ok.kF,ok.eY,ok.hU⟩
theorem Cx.Ok.jY {X:Cx} {E:Value→Shared→Prop} (ok:(X.il E).Ok):X.Ok :=
 ⟨ok.mod,ok.kind,ok.glob,ok.blt,ok.above,ok.inj,ok.has,ok.jQ,ok.hd,ok.frames,ok.cH,ok.qd,ok.bs,ok.gb,ok.kc,ok.kF,ok.eY,ok.hU⟩
section
variable {X:Cx} {pins:List (Addr×Obj)} {σ:St} {H:Hp} {s:Shared} {E:Value→Shared→Prop}
theorem Inv.il (I:Inv X pins σ H s) (E:Value→Shared→Prop):Inv (X.il E) pins σ H s:=⟨I.ok.il E,I.os,I.bare,I.base,I.loc,I.cell,I.free,I.eU,I.pin,I.aC,I.len⟩
theorem Inv.jY (I:Inv (X.il E) pins σ H s):Inv X pins σ H s:=⟨I.ok.jY,I.os,I.bare,I.base,I.loc,I.cell,I.free,I.eU,I.pin,I.aC,I.len⟩
theorem SP.jY {D:Ends} {f:Flow} {s':Shared} (h:SP (X.il E) pins D f s'):SP X pins D f s':=by
 cases f with
 | next=>obtain ⟨σ',H',I,q⟩:=h; exact ⟨σ',H',I.jY,q⟩
 | brk=>obtain ⟨σ',H',I,q⟩:=h; exact ⟨σ',H',I.jY,q⟩
 | cont=>obtain ⟨σ',H',I,q⟩:=h; exact ⟨σ',H',I.jY,q⟩
 | ret u=>obtain ⟨v,σ',H',I,r,q⟩:=h; exact ⟨v,σ',H',I.jY,r,q⟩
theorem cP.nt {st:List Stmt} {t:TS} (h:cP X.nt st t):cP X st t:=fun pins s σ H D I hw =>
 wpAny_mono (h pins s σ H D (I.il _) hw) (fun _ _ q=>q.jY) fun _ _ z=>False.elim z
end
section
variable {X:Cx} {st:Stmt} {rest:List Stmt} {t u:TS} {e:Expr} {te:TE} {pos:Pos}
def w8:TS:=fun D σ H=>D.nx σ H
def Se (t u:TS):TS:=fun D σ H=>t { D with nx:=u D } σ H
theorem Sa:cP X [] w8:=fun _ _ σ H _ I h=>wpAny_execs_nil ⟨σ,H,I,h⟩
theorem Vk (h1:PS X st t) (h2:cP X rest u):cP X (st::rest) (Se t u):=by
 intro pins s σ H D I h;refine wpAny_execs_cons (aD (h1 pins s σ H { D with nx:=u D } I h) fun f s1 q=>?_);cases f with
 | next =>
  obtain ⟨σ',H',I',q⟩:=q;exact h2 pins s1 σ' H' D I' q
 | ret v=>exact q
 | brk=>exact q
 | cont=>exact q
theorem Vt (h1:PS X st t):cP X [st] t:=by
 intro pins s σ H D I h;refine wpAny_execs_cons (aD (h1 pins s σ H D I h) fun f s1 q=>?_);cases f with
 | next=>exact wpAny_execs_nil q
 | ret v=>exact q
 | brk=>exact q
 | cont=>exact q
theorem Inv.quiet {pins:List (Addr×Obj)} {σ:St} {H:Hp} {s:Shared} (I:Inv X pins σ H s):interactive X.env=false:=by simp [interactive,I.ok.kind]
def xU (te:TE):TS:=fun D σ H=>te σ H fun _ H1=>D.nx σ H1
theorem Md (he:PE X e te) (hs:swapsWith e none pos.line X.env=pure false:=by rfl):PS X (.Expr e pos) (xU te):=by
 intro pins s σ H D I h;exact wpAny_Expr_any (aD (he pins s σ H _ I h) fun v s1 ⟨x,H1,I1,r1,q1⟩=>⟨σ,H1,I1,q1⟩) I.quiet hs
def yl (te:TE):TS:=fun D σ H=>te σ H D.rt
theorem Vj (he:PE X e te):PS X (.Return (some e) pos) (yl te):=by
 intro pins s σ H D I h;exact wpAny_Return_some (aD (he pins s σ H _ I h) fun v s1 ⟨x,H1,I1,r1,q1⟩=>⟨x,σ,H1,I1,r1,q1⟩)
def vV:TS:=fun D _ H=>D.rt .ax H
theorem Rg:PS X (.Return none pos) vV:=fun _ _ σ H _ I h=>wpAny_Return_none ⟨.ax,σ,H,I,rfl,h⟩
def wy (c:TT) (t u:TS):TS:=fun D σ H=>c σ H fun b H1=>if b=true then t D σ H1 else u D σ H1
theorem UN {c:Expr} {a b:List Stmt} {tc:TT} (hc:PT X c tc) (ha:cP X a t) (hb:cP X b u):PS X (.If c a b pos) (wy tc t u):=by
 intro pins s σ H D I h;refine wpAny_If (aD (hc pins s σ H _ I h) fun d s1 ⟨H1,I1,q1⟩=>?_);cases d with
 | true=>exact ha pins s1 σ H1 D I1 q1
 | false=>exact hb pins s1 σ H1 D I1 q1
def wM:TS:=fun _ _ _=>False
theorem Rh:PS X st wM:=fun _ _ _ _ _ _ h=>h.elim
end
abbrev TG:=V→St→Hp→(St→Hp→Prop)→Prop
abbrev hJ:=List V→St→Hp→(St→Hp→Prop)→Prop
def PG (X:Cx) (target:Expr) (t:TG):Prop :=
 ∀ (pins:List (Addr×Obj)) (s:Shared) (σ:St) (H:Hp) (v:V) (u:Value) (Q:St→Hp→Prop),Inv X pins σ H s→RelV v u→t v σ H Q →
  wpAny (model X.prog X.w) X.A (assign target X.env u) (fun _ s'=>∃ σ' H',Inv X pins σ' H' s'∧Q σ' H') X.xe s
def qt (X:Cx) (ts:List Expr) (t:hJ):Prop :=
 ∀ (pins:List (Addr×Obj)) (s:Shared) (σ:St) (H:Hp) (vs:List V) (us:List Value) (Q:St→Hp→Prop),Inv X pins σ H s→Vals vs us→t vs σ H Q →
  wpAny (model X.prog X.w) X.A (assignInOrder ((assignEach ts X.env).map (·.2)) us) (fun _ s'=>∃ σ' H',Inv X pins σ' H' s'∧Q σ' H') X.xe s
abbrev qm:=V→V→V→Hp→(Hp→Prop)→Prop
def sP (X:Cx) (t:qm):Prop :=
 ∀ (pins:List (Addr×Obj)) (s:Shared) (σ:St) (H:Hp) (o i v:V) (ov iv u:Value) (Q:Hp→Prop),Inv X pins σ H s→RelV o ov→RelV i iv→RelV v u→t o i v H Q →
  wpAny (model X.prog X.w) X.A (setItem ov iv u) (fun _ s'=>∃ H',Inv X pins σ H' s'∧Q H') X.xe s
abbrev We:=V→V→Hp→VK→Prop
section
variable {X:Cx} {pos:Pos}
def eO (i:Nat):TG:=fun v σ H Q=>Q (σ.set i (some v)) H
theorem Kw {i:Nat} {x:Str} (hN:X.N.Nodup) (hi:X.N[i]?=some x) (hx:Loc X.env.scope x) (hf:X.fn x=true∨X.env.scope.names.lookup x=some .local:=by first | exact .inl rfl | exact .inr rfl | assumption):PG X (.Name x pos) (eO i):=by
 intro pins s σ H v u Q I r h;exact wpAny_assign_Name (Dk I hN hi hx r (fun s' I'=>⟨_,H,I',h⟩) hf)
def zH:hJ:=fun vs σ H Q=>vs=[]∧Q σ H
def Ag (t:TG) (u:hJ):hJ:=fun vs σ H Q=>∃ v r,vs=v::r∧t v σ H fun σ' H'=>u r σ' H' Q
theorem T3:qt X [] zH:=by
 intro pins s σ H vs us Q I r h;obtain ⟨e,h⟩:=h;subst e;cases r;exact assignInOrder_nil ⟨σ,H,I,h⟩
theorem Nf {e:Expr} {es:List Expr} {t:TG} {u:hJ} (h1:PG X e t) (h2:qt X es u)
  (hs:(assignEach (e::es) X.env).map (·.2)=assign e X.env::(assignEach es X.env).map (·.2):=by rfl):qt X (e::es) (Ag t u):=by
 intro pins s σ H vs us Q I r h;obtain ⟨v,vr,e1,h⟩:=h;subst e1;cases r with
 | cons r rr =>
  rw [hs];refine assignInOrder_cons (aD (h1 pins s σ H _ _ _ I r h) fun _ s1 ⟨σ1,H1,I1,q1⟩=>?_);exact h2 pins s1 σ1 H1 _ _ Q I1 rr q1
def Af (K:PySem.W.Frag) (n:Nat) (t:hJ):TG:=fun v σ H Q=>∃ a xs,v=.ref a∧bV K H a xs∧xs.length=n∧t xs σ H Q
theorem S6 {es:List Expr} {k:Nat} {t:hJ} {n:Nat} (hc:X.calm=true) (h:qt X es t)
  (hn:(assignEach es X.env).length=n:=by rfl) (aQ:(assignEach es X.env).findIdx? (·.1)=none:=by rfl):PG X (.Tuple es k pos) (Af X.K n t):=by
 intro pins s σ H v u Q I r hw;obtain ⟨a,xs,e1,hq,hl,hw⟩:=hw;subst e1;cases r;obtain ⟨aq,rv,ht,hz⟩:=I.tuple hq;refine assign_Tuple_tuple (I.ok.hd hc) ht (by simp [hn,← hl,rv.length]) aQ fun h' hx=>?_;have I1:Inv X pins σ H { s with heap:=h' }:=I.kept (t':=s.toks) fun b o e=>hx b o (Nat.ne_of_lt (Heap.lt_size e)) e;exact h pins _ σ H xs _ Q I1 (by simpa using rv) hw
def yr (to ti:TE) (t:qm):TG:=fun v σ H Q=>to σ H fun o H1=>ti σ H1 fun i H2=>t o i v H2 fun H3=>Q σ H3
theorem Qq {o i:Expr} {to ti:TE} {t:qm} (ho:PE X o to) (hi:PE X i ti) (hs:sP X t)
  (ha:∀ v,assign (.Subscript o i pos) X.env v=(do
   let ov ← holding [v] (eval o X.env)
   let iv ← holding [v,ov] (eval i X.env)
   standAt pos
   holding [v,ov,iv] (setItem ov iv v)
   release [v,ov,iv] []):=by intro _; rfl):PG X (.Subscript o i pos) (yr to ti t):=by
 intro pins s σ H v u Q I r h;rw [ha];refine wpAny_bind (wpAny_holding (aD (ho pins s σ H _ I h) fun ov s1 ⟨x,H1,I1,r1,q1⟩=>?_));refine wpAny_bind (wpAny_holding (aD (hi pins s1 σ H1 _ I1 q1) fun iv s2 ⟨y,H2,I2,r2,q2⟩=>?_));refine wpAny_bind (wpAny_standAt (wpAny_bind (wpAny_holding (aD (hs pins s2 σ H2 x y v ov iv u _ I2 r1 r2 r q2) fun _ s3 ⟨H3,I3,q3⟩=>?_))));exact wpAny_release ⟨σ,H3,I3,q3⟩
def j5 (te:TE) (g:TG):TS:=fun D σ H=>te σ H fun x H1=>g x σ H1 D.nx
theorem Uy {tg e:Expr} {te:TE} {g:TG} (he:PE X e te) (hg:PG X tg g) (hs:swapsWithSole [tg] e pos.line X.env=pure false:=by rfl) (hw:swappedStores [tg] e X.env=pure none:=by rfl)
  (h1:(assignEach [tg] X.env).map (·.2)=[assign tg X.env]:=by rfl):PS X (.Assign [tg] e pos) (j5 te g):=by
 intro pins s σ H D I h;refine wpAny_Assign_stores (aD (he pins s σ H _ I h) fun v s1 ⟨x,H1,I1,r1,q1⟩=>?_) hs hw;rw [h1];exact aD (hg pins s1 σ H1 x v _ I1 r1 q1) fun _ s2 q=>q
theorem SI {i:Nat} {x:Str} {e:Expr} {te:TE} {pos':Pos} (hN:X.N.Nodup) (hi:X.N[i]?=some x) (hx:Loc X.env.scope x) (he:PE X e te) (hs:swapsWith e (some (.Name x pos')) pos.line X.env=pure false:=by rfl) (hf:X.fn x=true∨X.env.scope.names.lookup x=some .local:=by first | exact .inl rfl | exact .inr rfl | assumption) :
  PS X (.Assign [.Name x pos'] e pos) (j5 te (eO i)):=by
 intro pins s σ H D I h;refine wpAny_Assign_Name (aD (he pins s σ H _ I h) fun v s1 ⟨y,H1,I1,r1,q1⟩=>?_) hs;exact Dk I1 hN hi hx r1 (fun s2 I2=>⟨_,H1,I2,q1⟩) hf
end
section
variable {X:Cx} {pos:Pos}
def CB (c:TT) (tb:TS):TS:=fun D σ H=>∃ W:Nat→St→Hp→Prop,(∃ m,W m σ H)∧∀ m σ H,W m σ H →
 c σ H fun b H1=>if b=true then ∃ N:St→Hp→Prop,(∀ σ' H',N σ' H'→∃ m',m' < m∧W m' σ' H')∧tb { D with nx:=N,ct:=N,bk:=D.nx } σ H1 else D.nx σ H1
theorem Tr {c:Expr} {body:List Stmt} {tc:TT} {tb:TS} (hp:PassesOwn (model X.prog X.w) X.A X.env X.xe) (hc:PT X c tc) (hb:cP X body tb):PS X (.While c body [] pos) (CB tc tb):=by
 intro pins s σ H D I h;obtain ⟨W,⟨m0,w0⟩,turn⟩:=h;refine wpAny_While (codeAny_whileLoop (fun n s'=>∃ σ' H',Inv X pins σ' H' s'∧W n σ' H') ?_ m0 ⟨σ,H,I,w0⟩);rintro n s1 ⟨σ1,H1,I1,w1⟩;refine wpAny_passesOwn hp (aD (hc pins s1 σ1 H1 _ I1 (turn n σ1 H1 w1)) fun b s2 ⟨H2,I2,q2⟩=>?_);cases b with
 | true =>
  obtain ⟨N,hN,q2⟩:=q2;rw [if_pos rfl];refine wpAny_passesOwn hp (aD (hb pins s2 σ1 H2 _ I2 q2) fun f s3 q3=>?_);cases f with
  | next =>
   obtain ⟨σ3,H3,I3,n3⟩:=q3;obtain ⟨m',hm,w3⟩:=hN σ3 H3 n3;exact ⟨m',hm,σ3,H3,I3,w3⟩
  | cont =>
   obtain ⟨σ3,H3,I3,n3⟩:=q3;obtain ⟨m',hm,w3⟩:=hN σ3 H3 n3;exact ⟨m',hm,σ3,H3,I3,w3⟩
  | brk=>exact q3
  | ret v=>exact q3
 | false =>
  rw [if_neg Bool.false_ne_true];exact wpAny_execs_nil ⟨σ1,H2,I2,q2⟩
end
structure It where
 go:Nat→Hp→Prop
 i9:Nat→Hp→V→Hp→Prop
 stop:Nat→Hp→Prop
def iX (X:Cx) (pins:List (Addr×Obj)) (H:Hp) (b:Addr):Prop :=
 H b=none∧b≠X.env.locals∧b ∉ X.fs∧(b∈X.ex∨X.s₀.heap.objs.size≤b)∧(∀ x c,X.env.cells.lookup x=some c→c≠b)∧∀ p∈X.pn++pins,p.1≠b
theorem Inv.yU {X:Cx} {pins:List (Addr×Obj)} {σ:St} {H H':Hp} {s:Shared} {b:Addr} (I:Inv X pins σ H s) (hb:s.heap.objs.size≤b) (hn:H' b=none):iX X pins H' b:=by
 refine ⟨hn,Nat.ne_of_gt (Nat.lt_of_lt_of_le I.lt hb),I.Cj hb,.inr (Nat.le_trans I.sz hb),fun x c e z=>?_,fun p hp z=>?_⟩
 ·obtain ⟨v,q⟩:=I.cell x c e;exact absurd (Nat.lt_of_lt_of_le q.lt (by rw [z]; exact hb)) (Nat.lt_irrefl _)
 ·exact absurd (Nat.lt_of_lt_of_le (Heap.lt_size (I.pin p hp).1) (by rw [z]; exact hb)) (Nat.lt_irrefl _)
structure Turn (P:Program) (w:World) (K:PySem.W.Frag) (tg:Expr) (J:It) (fp:List Addr) (it:Addr) (tn:Nat→Heap→Prop):Prop where
 mem:it∈fp
 obj:∀ i h,tn i h→∀ b∈fp,∃ o,h.get? b=some o∧∀ v,o.data≠.cell v
 keep:∀ i h h',tn i h→(∀ b∈fp,∀ o,h.get? b=some o→h'.get? b=some o)→tn i h'
 item:∀ (X:Cx),X.prog=P→X.w=w→X.K=K→X.calm=true→∀ (i:Nat) (pins:List (Addr×Obj)) (s:Shared) (σ:St) (H:Hp) (E:Value→Shared→Prop),Inv X pins σ H s→(∀ b∈fp,iX X pins H b)→tn i s.heap→J.go i H →
  wpAny (model P w) X.A (pyNext (.ref it)) (fun r s1=>∃ u,r=some u ∧
   wpAny (model P w) X.A (letOwnedTupleGo tg (.ref it) u) (fun _ s2=>∃ x H',Inv X pins σ H' s2∧RelV x u∧J.i9 i H x H'∧tn (i+1) s2.heap∧∀ b∈fp,H' b=none) E s1) E s
 done:∀ (X:Cx),X.prog=P→X.w=w→X.K=K→X.calm=true→∀ (i:Nat) (pins:List (Addr×Obj)) (s:Shared) (σ:St) (H:Hp) (E:Value→Shared→Prop),Inv X pins σ H s→(∀ b∈fp,iX X pins H b)→tn i s.heap→J.stop i H →
  wpAny (model P w) X.A (pyNext (.ref it)) (fun r s1=>r=none∧Inv X pins σ H s1) E s
 self:∀ (A:Around) (i:Nat) (s:Shared) (Q:Value→Shared→Prop) (E:Value→Shared→Prop),tn i s.heap→Q (.ref it) s→wpAny (model P w) A (pyIter (.ref it)) Q E s
abbrev TI:=St→Hp→(It→Hp→Prop)→Prop
def HB (X:Cx) (pins:List (Addr×Obj)) (σ:St) (tg:Expr) (R:It→Hp→Prop) (AG:Value) (s2:Shared):Prop :=
 ∃ (it:Addr) (fp:List Addr) (tn:Nat→Heap→Prop) (J:It) (H':Hp),AG=.ref it∧Inv X pins σ H' s2∧Turn X.prog X.w X.K tg J fp it tn∧tn 0 s2.heap∧(∀ b∈fp,iX X pins H' b)∧R J H'
def PI (X:Cx) (tg iter:Expr) (wi:TI):Prop :=
 ∀ (pins:List (Addr×Obj)) (s:Shared) (σ:St) (H:Hp) (R:It→Hp→Prop),Inv X pins σ H s→wi σ H R →
  wpAny (model X.prog X.w) X.A (eval iter X.env) (fun v s1=>wpAny (model X.prog X.w) X.A (pyIter v) (HB X pins σ tg R) X.xe s1) X.xe s
theorem v9 {M:Model} {A:Around} {E:Value→Shared→Prop} {s:Shared} {tg:Expr} {it:Addr} {u:Value} {o:Obj} {n:String} {vs:Array Value} {Q:Unit→Shared→Prop} (ho:s.heap.get? it=some o) (hc:o.cls=.type n) (hd:o.data=.fields vs)
  (hn:["enumerate", "zip", "dict_itemiterator", "dict_reverseitemiterator", "odict_iterator", "itertools.zip_longest", "itertools.pairwise"].contains n=false) (hQ:Q () s):wpAny M A (letOwnedTupleGo tg (.ref it) u) Q E s:=by
 unfold letOwnedTupleGo;cases tg <;> first
  | exact wpAny_pure hQ
  | (cases u <;> first
    | exact wpAny_pure hQ
    | (refine wpAny_bind (wpAny_load ho ?_)
       rw [hc,hd];show wpAny M A (if (["enumerate", "zip", "dict_itemiterator", "dict_reverseitemiterator", "odict_iterator", "itertools.zip_longest", "itertools.pairwise"].contains n && vs[0]? == some (rawInt _))=true then _ else _) Q E s;rw [if_neg (by intro h; rw [hn,Bool.false_and] at h; cases h)];exact wpAny_pure hQ))
def ij (K:PySem.W.Frag) (a:Addr):It :=
 ⟨fun i H=>∃ xs x,aK K H a xs∧xs[i]?=some x,fun i H x H'=>H'=H∧∀ xs,aK K H a xs→xs[i]?=some x,fun i H=>∃ xs,aK K H a xs∧xs.length≤i⟩
def kD (lo:Int) (n:Nat):It:=⟨fun i _=>i < n,fun i H x H'=>H'=H∧x=.int (lo+i),fun i _=>n≤i⟩
theorem LK {P:Program} {w:World} {K:PySem.W.Frag} {tg:Expr} (a it:Addr):Turn P w K tg (ij K a) [it] it (fun i h=>h.IsListIter it a i) where
 mem:=by simp
 obj:=fun i h st b hb=>by
  have e:b=it:=by simpa using hb
  subst e;obtain ⟨o,e,c,d⟩:=st;exact ⟨o,e,fun v z=>by rw [d] at z; cases z⟩
 keep:=fun i h h' st k=>st.at fun o e=>k it (by simp) o e
 item:=by
  intro X hP hw hK hc i pins s σ H E I hf st hg;subst hP hw hK;obtain ⟨xs,x,hq,hx⟩:=hg;obtain ⟨aq,rv,p,hz⟩:=I.list hq;obtain ⟨u,hu,ru⟩:=rv.get hx;obtain ⟨f0,f1,f2,f3,f4,f5⟩:=hf it (by simp);refine wpAny_pyNext_list_item st p.isList (x:=u) (by simpa using hu) fun h' st' sb=>?_;have I1:Inv X pins σ H { s with heap:=h' }:=I.turned (t':=s.toks) (fun b o hb e=>(sb.2 b hb).trans e) f0 f1 f3 f4 f5;obtain ⟨o,e,c,d⟩:=id st';exact ⟨u,rfl,v9 (s:={ s with heap:=h' }) e c d (by decide) ⟨x,H,I1,ru,⟨rfl,fun ys hy=>by rw [I.OE hy hq]; exact hx⟩,st',fun b hb=>(hf b hb).1⟩⟩
 done:=by
  intro X hP hw hK hc i pins s σ H E I hf st hg;subst hP hw hK;obtain ⟨xs,hq,hx⟩:=hg;obtain ⟨aq,rv,p,hz⟩:=I.list hq;obtain ⟨f0,f1,f2,f3,f4,f5⟩:=hf it (by simp);have hl:=rv.length;exact wpAny_pyNext_list_end (I.ok.hd hc) st p.isList (by simp; omega) fun h' eb=>⟨rfl,I.turned (t':=s.toks) (fun b o hb e=>eb b o hb e) f0 f1 f3 f4 f5⟩
 self:=fun _ _ _ _ _ st h=>wpAny_pyIter_listiter st h
theorem UZ {P:Program} {w:World} {K:PySem.W.Frag} {tg:Expr} (it:Addr) (lo:Int) (n:Nat):Turn P w K tg (kD lo n) [it] it (fun i h=>IsRangeIter h it (lo+(i:Nat) * 1) ((n:Int) - (i:Nat)) 1) where
 mem:=by simp
 obj:=fun i h st b hb=>by
  have e:b=it:=by simpa using hb
  subst e;exact ⟨_,st,fun v z=>by
   have z':Data.fields _=Data.cell v:=z;cases z'⟩
 keep:=fun i h h' st k=>k it (by simp) _ st
 item:=by
  intro X hP hw hK hc i pins s σ H E I hf st hg;subst hP hw hK;obtain ⟨f0,f1,f2,f3,f4,f5⟩:=hf it (by simp);have W:=Walks.range (prog:=X.prog) (w:=X.w) (I.ok.hd hc) it lo 1 n;refine W.item i s _ _ hg st fun v h' tk hv st' kk=>?_;obtain ⟨t,rfl⟩:=hv;have I1:Inv X pins σ H { s with heap:=h',toks:=tk }:=I.turned (fun b o hb e=>kk b o (by simpa using hb) e) f0 f1 f3 f4 f5;refine ⟨_,rfl,v9 (s:={ s with heap:=h',toks:=tk }) (n := "range_iterator") st' rfl rfl (by decide) ⟨.int (lo+i),H,I1,⟨t,?_⟩,⟨rfl,rfl⟩,st',fun b hb=>(hf b hb).1⟩⟩;rw [Int.mul_one]
 done:=by
  intro X hP hw hK hc i pins s σ H E I hf st hg;subst hP hw hK;obtain ⟨f0,f1,f2,f3,f4,f5⟩:=hf it (by simp);exact wpAny_pyNext_range_end (I.ok.hd hc) st (by have:n≤i:=hg; omega) fun h' eb=>⟨rfl,I.turned (t':=s.toks) (fun b o hb e=>eb b o hb e) f0 f1 f3 f4 f5⟩
 self:=fun _ _ _ _ _ st h=>wpAny_pyIter_rangeiter st h
end L2
namespace L2
open PySem PySem.Spec PyProof.Rows
section
variable {X:Cx} {tg:Expr}
def Mr (K:PySem.W.Frag) (tl:TE):TI:=fun σ H R=>tl σ H fun x H1=>∃ a,x=.ref a∧(∃ xs,aK K H1 a xs)∧R (ij K a) H1
theorem Uc {l:Expr} {tl:TE} (hl:PE X l tl):PI X tg l (Mr X.K tl):=by
 intro pins s σ H R I h;refine aD (hl pins s σ H _ I h) fun v s1 ⟨x,H1,I1,r1,q1⟩=>?_;obtain ⟨a,e,⟨xs,hq⟩,q⟩:=q1;subst e;cases r1;obtain ⟨aq,rv,p,hz⟩:=I1.list hq;refine wpAny_pyIter_list p.isList ?_;refine ⟨s1.heap.objs.size,[s1.heap.objs.size],_,_,H1,rfl,I1.kept (t':=s1.toks) fun b o e=>Heap.get?_push_of_some _ e,LK a _,⟨_,Heap.get?_push_size _ rfl,rfl,rfl⟩,fun b hb=>?_,q⟩;have e:b=s1.heap.objs.size:=by simpa using hb
 subst e;exact I1.yU (Nat.le_refl _) (I1.aC.fresh (Nat.le_refl _))
theorem Ou {pins:List (Addr×Obj)} {σ:St} {H:Hp} {s:Shared} {R:It→Hp→Prop} {E:Value→Shared→Prop} {lo hi:Int} {t u v:Tok} {tk:Nat} (I:Inv X pins σ H s) (h1:-(2 ^ 62)≤lo) (h2:lo < 2 ^ 62) (h3:-(2 ^ 62)≤hi) (h4:hi < 2 ^ 62)
  (q:R (kD lo (hi - lo).toNat) H):wpAny (model X.prog X.w) X.A (pyIter (.ref s.heap.objs.size)) (HB X pins σ tg R) E { s with heap:=s.heap.push { cls:=.type "range",data:=.fields #[.int lo t,.int hi u,.int 1 v] },toks:=tk }:=by
 refine wpAny_pyIter_range (IsRange.new ..) (small_one h1 h2 h3 h4) ?_;have I1:Inv X pins σ H { s with heap:=s.heap.push { cls:=.type "range",data:=.fields #[.int lo t,.int hi u,.int 1 v] },toks:=tk }:=I.kept fun b o e=>Heap.get?_push_of_some _ e;refine ⟨(s.heap.push { cls:=.type "range",data:=.fields #[.int lo t,.int hi u,.int 1 v] }).objs.size,[(s.heap.push { cls:=.type "range",data:=.fields #[.int lo t,.int hi u,.int 1 v] }).objs.size],_,_,H,rfl,
  I1.kept (t':=tk) fun b o e=>Heap.get?_push_of_some _ e,UZ _ lo (hi - lo).toNat,?_,fun b hb=>?_,q⟩
 ·have e1:lo+((0:Nat):Int) * 1=lo:=by simp
  have e2:(((hi - lo).toNat:Nat):Int) - ((0:Nat):Int)=Builtin.Range.rangeSize lo hi 1:=by rw [rangeSize_one]; split <;> omega
  show IsRangeIter _ _ (lo+((0:Nat):Int) * 1) ((((hi - lo).toNat:Nat):Int) - ((0:Nat):Int)) 1;rw [e1,e2];exact Heap.get?_push_size _ rfl
 ·have e:b=(s.heap.push { cls:=.type "range",data:=.fields #[.int lo t,.int hi u,.int 1 v] }).objs.size:=by simpa using hb
  subst e;exact I1.yU (Nat.le_refl _) (I1.aC.fresh (Nat.le_refl _))
def LM (ta:TA):TI:=fun σ H R=>ta σ H fun vs H1=>∃ j:Int,vs=[.int j]∧-(2 ^ 62)≤j∧j < 2 ^ 62∧R (kD 0 j.toNat) H1
theorem KN {a:Expr} {ta:TA} {p pos:Pos} (hg:Gl X "range") (hm:X.mg "range" = none) (ha:PA X [a] ta) (hs:starEach [a] X.env=[(false,eval a X.env)]:=by rfl):PI X tg (.Call (.Name "range" p) [a] [] pos) (LM ta):=by
 intro pins s σ H R I h;refine Call_ (lZ I hg hm boot_range (PyProof.Rows.callWith_type1 (aD (ha pos pins s σ H _ I h) fun us s1 ⟨vs,H1,I1,r1,q1⟩=>?_) hs rfl));obtain ⟨j,e,q1,q2,q⟩:=q1;subst e;cases r1 with
 | cons r rr =>
  cases rr;obtain ⟨t,rfl⟩:=r;exact call_range_1 (Ou I1 (by omega) (by omega) q1 q2 (by simpa using q))
def sS (wi:TI) (g:TG) (tb:TS):TS:=fun D σ H=>wi σ H fun J H1=>∃ W:Nat→Nat→St→Hp→Prop,(∃ m,W 0 m σ H1)∧∀ i m σ H,W i m σ H →
 (J.stop i H∧D.nx σ H)∨(J.go i H∧∃ N:St→Hp→Prop,(∀ σ' H',N σ' H'→∃ m',m' < m∧W (i+1) m' σ' H')∧∀ x H',J.i9 i H x H'→g x σ H' fun σ2 H2=>tb { D with nx:=N,ct:=N,bk:=D.nx } σ2 H2)
def pP (fp:List Addr) (h:Heap):List (Addr×Obj):=fp.filterMap fun b=>(h.get? b).map fun o=>(b,o)
theorem tK {fp:List Addr} {h:Heap} {b:Addr} {o:Obj} (hb:b∈fp) (e:h.get? b=some o):(b,o)∈pP fp h:=List.mem_filterMap.mpr ⟨b,hb,by rw [e]; rfl⟩
theorem T7 {fp:List Addr} {h:Heap} {p:Addr×Obj} (hp:p∈pP fp h):p.1∈fp∧h.get? p.1=some p.2:=by
 obtain ⟨b,hb,e⟩:=List.mem_filterMap.mp hp;cases q:h.get? b with
 | none=>rw [q] at e; cases e
 | some o =>
  rw [q] at e;have e':(b,o)=p:=Option.some.inj e;subst e';exact ⟨hb,q⟩
theorem Inv.pinned {pins:List (Addr×Obj)} {σ:St} {H:Hp} {s:Shared} {fp:List Addr} (I:Inv X pins σ H s) (hf:∀ b∈fp,iX X pins H b) (ho:∀ b∈fp,∃ o,s.heap.get? b=some o∧∀ v,o.data≠.cell v):Inv X (pins++pP fp s.heap) σ H s :=
 I.rE fun p hp=>(List.mem_append.mp hp).elim (fun z=>I.pin p (List.mem_append_right _ z)) fun z=>by
  obtain ⟨hb,e⟩:=T7 z;obtain ⟨f0,f1,f2,_⟩:=hf p.1 hb;obtain ⟨o,e',d⟩:=ho p.1 hb;rw [e] at e'; cases e';exact ⟨e,f0,f1,f2,d⟩
theorem Inv.we {pins pl:List (Addr×Obj)} {σ:St} {H:Hp} {s:Shared} (I:Inv X (pins++pl) σ H s):Inv X pins σ H s:=I.rE fun p hp=>I.pin p (List.mem_append_right _ (List.mem_append_left _ hp))
theorem Oq {iter:Expr} {body:List Stmt} {wi:TI} {g:TG} {tb:TS} {pos:Pos} (hp:PassesOwn (model X.prog X.w) X.A X.env X.xe) (hc:X.calm=true) (hi:PI X tg iter wi) (hg:PG X tg g) (hb:cP X body tb)
  (hs:∀ x,foldedSetIterable iter X.env x=pure x:=by intro _; rfl):PS X (.For tg iter body [] pos) (sS wi g tb):=by
 intro pins s σ H D I h;refine wpAny_For (aD (hi pins s σ H _ I h) fun v s1 h1=>aD h1 fun AG s2 h2=>?_) hs;obtain ⟨it,fp,tn,J,H2,e,I2,T,eI,f2,W,⟨m0,w0⟩,turn⟩:=h2;subst e
 -- what stays true of f6 iterator's objects through f6 loop
 have By:∀ {H':Hp},(∀ b∈fp,H' b=none)→∀ b∈fp,iX X pins H' b:=fun hn b hb=>⟨hn b hb,(f2 b hb).2⟩;refine codeAny_forLoop_any (fun n s'=>∃ i σ' H',Inv X pins σ' H' s'∧tn i s'.heap∧(∀ b∈fp,H' b=none)∧W i n σ' H') ?_ m0 ⟨0,σ,H2,I2,eI,fun b hb=>(f2 b hb).1,w0⟩;rintro n s3 ⟨i,σ3,H3,I3,Jr,vK,w3⟩;rcases turn i n σ3 H3 w3 with ⟨stop,qn⟩ | ⟨go,N,hN,step⟩
 ·refine wpAny_passesOwn hp (aD (T.done X rfl rfl rfl hc i pins s3 σ3 H3 X.xe I3 (By vK) Jr stop) fun r s4 ⟨hr,I4⟩=>?_);subst hr;exact wpAny_execs_nil ⟨σ3,H3,I4,qn⟩
 ·refine wpAny_passesOwn hp (aD (T.item X rfl rfl rfl hc i pins s3 σ3 H3 X.xe I3 (By vK) Jr go) fun r s4 ⟨u,hr,h4⟩=>?_);subst hr;refine wpAny_passesOwn hp (aD h4 fun _ s5 ⟨x,H5,I5,r5,y5,o6,vo⟩=>?_);have I5':=I5.pinned (By vo) (T.obj _ _ o6);refine wpAny_passesOwn hp (aD (hg _ s5 σ3 H5 x u _ I5' r5 (step x H5 y5)) fun _ s6 ⟨σ6,H6,I6,q6⟩=>?_);refine wpAny_passesOwn hp (aD (hb _ s6 σ6 H6 _ I6 q6) fun f s7 q7=>?_);have again:∀ {σ7:St} {H7:Hp},Inv X (pins++pP fp s5.heap) σ7 H7 s7→N σ7 H7→∃ m,m < n∧∃ i σ' H',Inv X pins σ' H' s7∧tn i s7.heap∧(∀ b∈fp,H' b=none)∧W i m σ' H':=fun {σ7 H7} I7 n7=>by
   obtain ⟨m',hm,w7⟩:=hN σ7 H7 n7;refine ⟨m',hm,i+1,σ7,H7,I7.we,T.keep _ _ _ o6 fun b hb o e=>(I7.pin (b,o) (List.mem_append_right _ (List.mem_append_right _ (tK hb e)))).1,fun b hb=>?_,w7⟩;obtain ⟨o,e,d⟩:=T.obj _ _ o6 b hb;exact (I7.pin (b,o) (List.mem_append_right _ (List.mem_append_right _ (tK hb e)))).2.1
  cases f with
  | next=>obtain ⟨σ7,H7,I7,n7⟩:=q7; exact again I7 n7
  | cont=>obtain ⟨σ7,H7,I7,n7⟩:=q7; exact again I7 n7
  | brk=>obtain ⟨σ7,H7,I7,q7⟩:=q7; exact ⟨σ7,H7,I7.we,q7⟩
  | ret v=>obtain ⟨x7,σ7,H7,I7,r7,q7⟩:=q7; exact ⟨x7,σ7,H7,I7.we,r7,q7⟩
end
theorem Nw {K:PySem.W.Frag} {a:Addr} {xs:List V} {g:TG} {tb:TS} {D:Ends} {σ:St} {H:Hp} (Pv:Nat→St→Hp→Prop) (h0:Pv 0 σ H) (hl:∀ i σ H,i≤xs.length→Pv i σ H→aK K H a xs)
  (hs:∀ i x σ H,xs[i]?=some x→Pv i σ H→g x σ H fun σ2 H2=>tb { D with nx:=Pv (i+1),ct:=Pv (i+1),bk:=D.nx } σ2 H2) (hd:∀ σ H,Pv xs.length σ H→D.nx σ H) :
  ∃ W:Nat→Nat→St→Hp→Prop,(∃ m,W 0 m σ H)∧∀ i m σ H,W i m σ H →
   ((ij K a).stop i H∧D.nx σ H)∨((ij K a).go i H∧∃ N:St→Hp→Prop,(∀ σ' H',N σ' H'→∃ m',m' < m∧W (i+1) m' σ' H')∧∀ x H',(ij K a).i9 i H x H'→g x σ H' fun σ2 H2=>tb { D with nx:=N,ct:=N,bk:=D.nx } σ2 H2):=by
 refine ⟨fun i m σ H=>m=xs.length - i∧i≤xs.length∧Pv i σ H,⟨xs.length,by simp,Nat.zero_le _,h0⟩,?_⟩;rintro i m σ H ⟨rfl,hi,p⟩;have q:=hl i σ H hi p;by_cases bU:i < xs.length
 ·refine .inr ⟨⟨xs,xs[i],q,by simp [bU]⟩,Pv (i+1),fun σ' H' p'=>⟨xs.length - (i+1),by omega,rfl,bU,p'⟩,fun x H' y=>?_⟩;obtain ⟨e,y⟩:=y;subst e;exact hs i x σ _ (y xs q) p
 ·have e:i=xs.length:=by omega
  subst e;exact .inl ⟨⟨xs,q,Nat.le_refl _⟩,hd σ H p⟩
theorem QN {lo:Int} {n:Nat} {g:TG} {tb:TS} {D:Ends} {σ:St} {H:Hp} (Pv:Nat→St→Hp→Prop) (h0:Pv 0 σ H)
  (hs:∀ i σ H,i < n→Pv i σ H→g (.int (lo+i)) σ H fun σ2 H2=>tb { D with nx:=Pv (i+1),ct:=Pv (i+1),bk:=D.nx } σ2 H2) (hd:∀ σ H,Pv n σ H→D.nx σ H) :
  ∃ W:Nat→Nat→St→Hp→Prop,(∃ m,W 0 m σ H)∧∀ i m σ H,W i m σ H →
   ((kD lo n).stop i H∧D.nx σ H)∨((kD lo n).go i H∧∃ N:St→Hp→Prop,(∀ σ' H',N σ' H'→∃ m',m' < m∧W (i+1) m' σ' H')∧∀ x H',(kD lo n).i9 i H x H'→g x σ H' fun σ2 H2=>tb { D with nx:=N,ct:=N,bk:=D.nx } σ2 H2):=by
 refine ⟨fun i m σ H=>m=n - i∧i≤n∧Pv i σ H,⟨n,by simp,Nat.zero_le _,h0⟩,?_⟩;rintro i m σ H ⟨rfl,hi,p⟩;by_cases bU:i < n
 ·refine .inr ⟨bU,Pv (i+1),fun σ' H' p'=>⟨n - (i+1),by omega,rfl,bU,p'⟩,fun x H' y=>?_⟩;obtain ⟨e,y⟩:=y;subst e y;exact hs i σ _ bU p
 ·have e:i=n:=by omega
  subst e;exact .inl ⟨Nat.le_refl _,hd σ H p⟩
end L2
namespace L2
open PySem PySem.Spec PyProof.Rows
abbrev R2:=V→V→Hp→VK→Prop
def bc (X:Cx) (f:Value→Value→Sem Value) (r:R2):Prop :=
 ∀ (pins:List (Addr×Obj)) (s:Shared) (σ:St) (H:Hp) (x y:V) (v u:Value) (Q:VK),Inv X pins σ H s→RelV x v→RelV y u→r x y H Q →
  wpAny (model X.prog X.w) X.A (f v u) (EP X pins σ Q) X.xe s
def qp (X:Cx) (f:Value→Sem Value) (r:V→Hp→VK→Prop):Prop :=
 ∀ (pins:List (Addr×Obj)) (s:Shared) (σ:St) (H:Hp) (x:V) (v:Value) (Q:VK),Inv X pins σ H s→RelV x v→r x H Q →
  wpAny (model X.prog X.w) X.A (f v) (EP X pins σ Q) X.xe s
def cC (X:Cx) (f:Value) (r:List V→Hp→VK→Prop):Prop :=
 ∀ (pins:List (Addr×Obj)) (s:Shared) (σ:St) (H:Hp) (xs:List V) (us:List Value) (Q:VK),Inv X pins σ H s→Vals xs us→r xs H Q →
  wpAny (model X.prog X.w) X.A (call f us) (EP X pins σ Q) X.xe s
def gG (r:R2) (ta tb:TE):TE:=fun σ H Q=>ta σ H fun x H1=>tb σ H1 fun y H2=>r x y H2 Q
def vP (r:V→Hp→VK→Prop) (ta:TE):TE:=fun σ H Q=>ta σ H fun x H1=>r x H1 Q
def rI (C:Int→Int→Prop) (g:Int→Int→V):R2:=fun x y H Q=>∃ i j,x=.int i∧y=.int j∧C i j∧Q (g i j) H
def md (g:Int→Int→V):R2:=fun x y H Q=>∃ i j,x=.int i∧y=.int j∧Q (g i j) H
def rU (g:Int→V):V→Hp→VK→Prop:=fun x H Q=>∃ i,x=.int i∧Q (g i) H
section
variable {X:Cx} {a b c:Expr} {ta tb tc:TE} {pos:Pos}
theorem xN (ha:PE X a ta) (hb:PE X b tb) {pins:List (Addr×Obj)} {s:Shared} {σ:St} {H:Hp} {R:V→V→Hp→Prop} (I:Inv X pins σ H s)
  (h:ta σ H fun x H1=>tb σ H1 fun y H2=>R x y H2) {Q:Value→Shared→Prop} {f:Value→Value→Sem Value}
  (hf:∀ v u s2 x y H2,Inv X pins σ H2 s2→RelV x v→RelV y u→R x y H2→wpAny (model X.prog X.w) X.A (f v u) Q X.xe s2) :
  wpAny (model X.prog X.w) X.A (eval a X.env) (fun v s₁=>wpAny (model X.prog X.w) X.A (eval b X.env) (fun u s₂=>wpAny (model X.prog X.w) X.A (f v u) Q X.xe s₂) X.xe s₁) X.xe s:=by
 refine aD (ha pins s σ H _ I h) fun v s1 ⟨x,H1,I1,r1,q1⟩=>?_;refine aD (hb pins s1 σ H1 _ I1 q1) fun u s2 ⟨y,H2,I2,r2,q2⟩=>?_;exact hf v u s2 x y H2 I2 r1 r2 q2
theorem NO {op:Operator} {r:R2} (ho:bc X (binaryOp op) r) (ha:PE X a ta) (hb:PE X b tb):PE X (.BinOp a op b pos) (gG r ta tb):=by
 intro pins s σ H Q I h;exact wpAny_BinOp (xN ha hb I h fun v u s2 x y H2 I2 rx ry q=>ho pins s2 σ H2 x y v u Q I2 rx ry q)
theorem L8 {op:UnaryOp} {r:V→Hp→VK→Prop} (ho:qp X (unaryOp op) r) (ha:PE X a ta):PE X (.UnaryOp op a pos) (vP r ta):=by
 intro pins s σ H Q I h;exact UnaryOp_ (aD (ha pins s σ H _ I h) fun v s1 ⟨x,H1,I1,r1,q1⟩=>ho pins s1 σ H1 x v Q I1 r1 q1)
theorem wH {f:Value→Value→Sem Value} {C:Int→Int→Prop} {g:Int→Int→Int}
  (rule:∀ (i j:Int) (t u:Tok) (s:Shared) (Q:Value→Shared→Prop) (E:Value→Shared→Prop),C i j→Q (.int (g i j) s.toks) { s with toks:=s.toks+1 }→wpAny (model X.prog X.w) X.A (f (.int i t) (.int j u)) Q E s) :
  bc X f (rI C fun i j=>.int (g i j)):=by
 intro pins s σ H x y v u Q I rx ry h;obtain ⟨i,j,rfl,rfl,hc,q⟩:=h;obtain ⟨t,rfl⟩:=rx;obtain ⟨t',rfl⟩:=ry;exact rule i j t t' s _ _ hc ⟨.int (g i j),H,I.tok _,⟨_,rfl⟩,q⟩
theorem NA {f:Value→Value→Sem Value} {g:Int→Int→Int}
  (rule:∀ (i j:Int) (t u:Tok) (s:Shared) (Q:Value→Shared→Prop) (E:Value→Shared→Prop),Q (.int (g i j) s.toks) { s with toks:=s.toks+1 }→wpAny (model X.prog X.w) X.A (f (.int i t) (.int j u)) Q E s) :
  bc X f (md fun i j=>.int (g i j)):=by
 intro pins s σ H x y v u Q I rx ry h;obtain ⟨i,j,rfl,rfl,q⟩:=h;obtain ⟨t,rfl⟩:=rx;obtain ⟨t',rfl⟩:=ry;exact rule i j t t' s _ _ ⟨.int (g i j),H,I.tok _,⟨_,rfl⟩,q⟩
theorem ze {f:Value→Value→Sem Value} {g:Int→Int→Bool}
  (rule:∀ (i j:Int) (t u:Tok) (s:Shared) (Q:Value→Shared→Prop) (E:Value→Shared→Prop),Q (.bool (g i j)) s→wpAny (model X.prog X.w) X.A (f (.int i t) (.int j u)) Q E s) :
  bc X f (md fun i j=>.bl (g i j)):=by
 intro pins s σ H x y v u Q I rx ry h;obtain ⟨i,j,rfl,rfl,q⟩:=h;obtain ⟨t,rfl⟩:=rx;obtain ⟨t',rfl⟩:=ry;exact rule i j t t' s _ _ ⟨.bl (g i j),H,I,rfl,q⟩
def Ht (i j:Int):Prop:=0 < j∧j < 1073741824
def tZ (i j:Int):Prop:=(-(2 ^ 64) < i∧i < 2 ^ 64)∨(-(2 ^ 64) < j∧j < 2 ^ 64)
theorem tZ.ok {i j:Int} (h:tZ i j):IntMulOk i j:=by
 rcases h with ⟨h1,h2⟩ | ⟨h1,h2⟩
 ·exact .of_left (intBits_le_64 h1 h2)
 ·exact .of_right (intBits_le_64 h1 h2)
theorem SK:bc X (binaryOp .Add) (md fun i j=>.int (i+j)):=NA fun _ _ _ _ _ _ _ q=>add_int q
theorem R1:bc X (binaryOp .Mult) (rI tZ fun i j=>.int (i * j)):=wH fun _ _ _ _ _ _ _ hc q=>mul_int q hc.ok
theorem Q6:bc X (binaryOp .FloorDiv) (rI Ht fun i j=>.int (i / j)):=wH fun i j _ _ _ _ _ hc q=>by
 have h1:(0:Int) < j:=hc.1;have h2:j < 1073741824:=hc.2;exact floordiv_int (by omega) (by rw [Int.fdiv_eq_ediv_of_nonneg i (by omega)]; exact q) (.inl (PyProof.noPylong_small (by omega)))
theorem Ux:bc X (binaryOp .Mod) (rI (fun _ j=>0 < j) fun i j=>.int (i % j)):=wH fun i j _ _ _ _ _ hc q=>by
 have h1:(0:Int) < j:=hc;exact mod_int' (by omega) (by rw [Int.fmod_eq_emod_of_nonneg i (by omega)]; exact q)
theorem LS {f:Value→Sem Value} {g:Int→Int}
  (rule:∀ (i:Int) (t:Tok) (s:Shared) (Q:Value→Shared→Prop) (E:Value→Shared→Prop),Q (.int (g i) s.toks) { s with toks:=s.toks+1 }→wpAny (model X.prog X.w) X.A (f (.int i t)) Q E s) :
  qp X f (rU fun i=>.int (g i)):=by
 intro pins s σ H x v Q I rx h;obtain ⟨i,rfl,q⟩:=h;obtain ⟨t,rfl⟩:=rx;exact rule i t s _ _ ⟨.int (g i),H,I.tok _,⟨_,rfl⟩,q⟩
theorem Sh:qp X (unaryOp .USub) (rU fun i=>.int (-i)):=LS fun _ _ _ _ _ q=>neg_int q
end
def tJ:V→V→Bool
 | .ax,.ax=>true | .ax,.int _=>true | .int _,.ax=>true | .ax,.bl _=>true | .bl _,.ax=>true | .ax,.str _=>true | .str _,.ax=>true
 | .int _,.int _=>true | .bl _,.bl _=>true | .str _,.str _=>true | .byt _,.byt _=>true
 | .int _,.str _=>true | .str _,.int _=>true | .bl _,.str _=>true | .str _,.bl _=>true
 | _,_=>false
def Rx:R2:=fun x y H Q=>tJ x y=true∧Q (.bl (decide (x=y))) H
def NH:R2:=fun x y H Q=>tJ x y=true∧Q (.bl (!decide (x=y))) H
theorem Gz {i j:Int}:decide (V.int i=V.int j)=(i == j):=by
 rw [Bool.eq_iff_iff];simp
theorem FR {i j:Bool}:decide (V.bl i=V.bl j)=(i == j):=by
 rw [Bool.eq_iff_iff];simp
theorem Fc {i j:Str}:decide (V.str i=V.str j)=(i == j):=by
 rw [Bool.eq_iff_iff];simp
theorem GD {i j:Array UInt8}:decide (V.byt i=V.byt j)=(i.toList == j.toList):=by
 rw [Bool.eq_iff_iff];cases i;cases j;simp
section
variable {X:Cx} {a b c:Expr} {ta tb tc:TE} {pos:Pos}
theorem bW {pins:List (Addr×Obj)} {σ:St} {H:Hp} {s:Shared} {Q:VK} {k k':Bool} (I:Inv X pins σ H s) (q:Q (.bl k) H) (e:k=k'):EP X pins σ Q (.bool k') s:=by
 subst e;exact ⟨.bl k,H,I,rfl,q⟩
theorem Oo:bc X (compareOp .Eq) Rx:=by
 intro pins s σ H x y v u Q I rx ry h;obtain ⟨hs,q⟩:=h;cases x with
 | ax =>
  cases rx;cases y with
  | ax=>cases ry; exact PySem.EqNone.eq_none_none (bW I q (by simp))
  | bl j=>cases ry; exact PySem.EqNone.eq_none_bool (bW I q (by simp))
  | int j=>obtain ⟨t',rfl⟩:=ry; exact PySem.EqNone.eq_none_int (bW I q (by simp))
  | str j=>obtain ⟨t',rfl⟩:=ry; exact PySem.EqNone.eq_none_str (bW I q (by simp))
  | _=>exact absurd (show false=true from hs) Bool.false_ne_true
 | bl i =>
  cases rx;cases y with
  | ax=>cases ry; exact PySem.EqNone.eq_bool_none (bW I q (by simp))
  | bl j=>cases ry; exact eq_bool (bW I q FR)
  | str j=>obtain ⟨t',rfl⟩:=ry; exact PySem.EqMixed.eq_bool_str (bW I q (by simp))
  | _=>exact absurd (show false=true from hs) Bool.false_ne_true
 | int i =>
  obtain ⟨t,rfl⟩:=rx;cases y with
  | ax=>cases ry; exact PySem.EqNone.eq_int_none (bW I q (by simp))
  | int j=>obtain ⟨t',rfl⟩:=ry; exact eq_int (bW I q Gz)
  | str j=>obtain ⟨t',rfl⟩:=ry; exact PySem.EqMixed.eq_int_str (bW I q (by simp))
  | _=>exact absurd (show false=true from hs) Bool.false_ne_true
 | str i =>
  obtain ⟨t,rfl⟩:=rx;cases y with
  | ax=>cases ry; exact PySem.EqNone.eq_str_none (bW I q (by simp))
  | bl j=>cases ry; exact PySem.EqMixed.eq_str_bool (bW I q (by simp))
  | int j=>obtain ⟨t',rfl⟩:=ry; exact PySem.EqMixed.eq_str_int (bW I q (by simp))
  | str j=>obtain ⟨t',rfl⟩:=ry; exact eq_str (bW I q Fc)
  | _=>exact absurd (show false=true from hs) Bool.false_ne_true
 | byt i =>
  obtain ⟨t,rfl⟩:=rx;cases y with
  | byt j=>obtain ⟨t',rfl⟩:=ry; exact PySem.W.eq_bytes (bW I q GD)
  | _=>exact absurd (show false=true from hs) Bool.false_ne_true
 | _=>cases y <;> exact absurd (show false=true from hs) Bool.false_ne_true
theorem OS:bc X (compareOp .NotEq) NH:=by
 intro pins s σ H x y v u Q I rx ry h;obtain ⟨hs,q⟩:=h;cases x with
 | ax =>
  cases rx;cases y with
  | ax=>cases ry; exact PySem.EqNone.ne_none_none (bW I q (by simp))
  | bl j=>cases ry; exact PySem.EqNone.ne_none_bool (bW I q (by simp))
  | int j=>obtain ⟨t',rfl⟩:=ry; exact PySem.EqNone.ne_none_int (bW I q (by simp))
  | str j=>obtain ⟨t',rfl⟩:=ry; exact PySem.EqNone.ne_none_str (bW I q (by simp))
  | _=>exact absurd (show false=true from hs) Bool.false_ne_true
 | bl i =>
  cases rx;cases y with
  | ax=>cases ry; exact PySem.EqNone.ne_bool_none (bW I q (by simp))
  | bl j=>cases ry; exact ne_bool (bW I q (congrArg not FR))
  | str j=>obtain ⟨t',rfl⟩:=ry; exact PySem.EqMixed.ne_bool_str (bW I q (by simp))
  | _=>exact absurd (show false=true from hs) Bool.false_ne_true
 | int i =>
  obtain ⟨t,rfl⟩:=rx;cases y with
  | ax=>cases ry; exact PySem.EqNone.ne_int_none (bW I q (by simp))
  | int j=>obtain ⟨t',rfl⟩:=ry; exact ne_int (bW I q (congrArg not Gz))
  | str j=>obtain ⟨t',rfl⟩:=ry; exact PySem.EqMixed.ne_int_str (bW I q (by simp))
  | _=>exact absurd (show false=true from hs) Bool.false_ne_true
 | str i =>
  obtain ⟨t,rfl⟩:=rx;cases y with
  | ax=>cases ry; exact PySem.EqNone.ne_str_none (bW I q (by simp))
  | bl j=>cases ry; exact PySem.EqMixed.ne_str_bool (bW I q (by simp))
  | int j=>obtain ⟨t',rfl⟩:=ry; exact PySem.EqMixed.ne_str_int (bW I q (by simp))
  | str j=>obtain ⟨t',rfl⟩:=ry; exact ne_str (bW I q (congrArg not Fc))
  | _=>exact absurd (show false=true from hs) Bool.false_ne_true
 | byt i =>
  obtain ⟨t,rfl⟩:=rx;cases y with
  | byt j=>obtain ⟨t',rfl⟩:=ry; exact PySem.W.ne_bytes (bW I q (congrArg not GD))
  | _=>exact absurd (show false=true from hs) Bool.false_ne_true
 | _=>cases y <;> exact absurd (show false=true from hs) Bool.false_ne_true
theorem TC:bc X (compareOp .Lt) (md fun i j=>.bl (decide (i < j))):=ze fun _ _ _ _ _ _ _ q=>lt_int q
theorem OY:bc X (compareOp .LtE) (md fun i j=>.bl (decide (i≤j))):=ze fun _ _ _ _ _ _ _ q=>le_int q
theorem N3:bc X (compareOp .Gt) (md fun i j=>.bl (decide (j < i))):=ze fun _ _ _ _ _ _ _ q=>gt_int q
theorem Ud:bc X (compareOp .In) (fun x y H Q=>∃ i j,x=.str i∧y=.str j∧Q (.bl (!(Builtin.Str.occurrences j i 0 j.length 1).isEmpty)) H):=by
 intro pins s σ H x y v u Q I rx ry h;obtain ⟨i,j,rfl,rfl,q⟩:=h;obtain ⟨t,rfl⟩:=rx;obtain ⟨t',rfl⟩:=ry;exact in_str (bW I q rfl)
theorem oy:bc X (compareOp .Is) (fun x y H Q=>y=.ax∧Q (.bl (decide (x=.ax))) H):=by
 intro pins s σ H x y v u Q I rx ry h;obtain ⟨rfl,q⟩:=h;cases ry;refine is_none_gen (bW I q ?_);cases x <;> first
  | (cases rx; rfl)
  | (obtain ⟨t,rfl⟩:=rx; rfl)
theorem lV:bc X (compareOp .IsNot) (fun x y H Q=>y=.ax∧Q (.bl (!decide (x=.ax))) H):=by
 intro pins s σ H x y v u Q I rx ry h;obtain ⟨rfl,q⟩:=h;cases ry;refine isnot_none_gen (bW I q ?_);cases x <;> first
  | (cases rx; rfl)
  | (obtain ⟨t,rfl⟩:=rx; rfl)
theorem bc.or {f:Value→Value→Sem Value} {r r':R2} (h:bc X f r) (h':bc X f r'):bc X f (fun x y H Q=>r x y H Q∨r' x y H Q):=by
 intro pins s σ H x y v u Q I rx ry q;rcases q with q | q
 ·exact h pins s σ H x y v u Q I rx ry q
 ·exact h' pins s σ H x y v u Q I rx ry q
theorem Mx {op:CmpOp} {r:R2} (ho:bc X (compareOp op) r) (ha:PE X a ta) (hb:PE X b tb) (hm:behindInMarks op b=false):PE X (.Compare a [op] [b] pos) (gG r ta tb):=by
 intro pins s σ H Q I h;exact wpAny_Compare1 (xN ha hb I h fun v u s2 x y H2 I2 rx ry q=>ho pins s2 σ H2 x y v u Q I2 rx ry q) hm
theorem qX:(sizeLine:Nat) < 2 ^ 63:=by rw [sizeLine_eq]; decide
theorem Oc:bc X (binaryOp .Add) (fun x y H Q=>∃ i j,x=.str i∧y=.str j∧i.length+j.length≤sizeLine∧Q (.str (i++j)) H):=by
 intro pins s σ H x y v u Q I rx ry h;obtain ⟨i,j,rfl,rfl,hz,q⟩:=h;obtain ⟨t,rfl⟩:=rx;obtain ⟨t',rfl⟩:=ry;exact add_str (fun t' tk=>⟨.str (i++j),H,I.tok _,⟨_,rfl⟩,q⟩) hz
theorem vals1 {x:V} {us:List Value} (r:Vals [x] us):∃ u,us=[u]∧RelV x u:=by
 cases r with
 | cons r1 r2=>cases r2; exact ⟨_,rfl,r1⟩
theorem vals2 {x y:V} {us:List Value} (r:Vals [x,y] us):∃ u w',us=[u,w']∧RelV x u∧RelV y w':=by
 cases r with
 | cons r1 r2 =>
  cases r2 with
  | cons r3 r4=>cases r4; exact ⟨_,_,rfl,r1,r3⟩
def LD (K:PySem.W.Frag) (x:V) (H:Hp) (n:Nat):Prop :=
 match x with
 | .str y=>y.length≤sizeLine∧n=y.length
 | .byt y=>y.size≤sizeLine∧n=y.size
 | .ref p=>(∃ xs,aK K H p xs∧n=xs.length)∨∃ xs,bV K H p xs∧n=xs.length
 | _=>False
theorem Gw:cC X (.builtin "len") (fun xs H Q=>∃ x n,xs=[x]∧LD X.K x H n∧Q (.int n) H):=by
 intro pins s σ H xs us Q I r h;obtain ⟨x,n,rfl,e,q⟩:=h;obtain ⟨u,rfl,rx⟩:=vals1 r;have hl:=qX;have hs:sizeLine=16777216:=sizeLine_eq;cases x with
 | str y =>
  obtain ⟨t,rfl⟩:=rx;obtain ⟨hy,e'⟩:y.length≤sizeLine∧n=y.length:=e;subst e';exact len_str (by omega) ⟨.int _,H,I.tok _,⟨_,rfl⟩,q⟩
 | byt y =>
  obtain ⟨t,rfl⟩:=rx;obtain ⟨hy,e'⟩:y.size≤sizeLine∧n=y.size:=e;subst e';exact PySem.W.len_bytes (by omega) ⟨.int _,H,I.tok _,⟨_,rfl⟩,q⟩
 | ref p =>
  cases rx;have e':(∃ xs,aK X.K H p xs∧n=xs.length)∨∃ xs,bV X.K H p xs∧n=xs.length:=e;rcases e' with ⟨xs,hx,e'⟩ | ⟨xs,hx,e'⟩
  ·subst e';obtain ⟨aq,r',pl,hz⟩:=I.list hx;have hlen:=r'.length;exact Calls.call_len_list pl.isList (by simp only [List.size_toArray]; omega) ⟨.int xs.length,H,I.tok _,⟨_,by simp only [List.size_toArray]; rw [hlen]⟩,q⟩
  ·subst e';obtain ⟨aq,r',pl,hz⟩:=I.tuple hx;have hlen:=r'.length;exact len_tuple pl (by simp only [List.size_toArray]; omega) ⟨.int xs.length,H,I.tok _,⟨_,by simp only [List.size_toArray]; rw [hlen]⟩,q⟩
 | _=>exact (show False from e).elim
end
end L2
namespace L2
open PySem PySem.Spec PyProof.Rows
structure lT (h:Heap) (x dx C:Addr) (mA:Str→Option Value):Prop where
 obj:h.get? x=some (PySem.W.instObj C dx)
 ns:h.Ns1 dx mA
 ne:dx≠x
theorem LU {h:Heap} {dx:Addr} {mA:Str→Option Value} (n:h.Ns1 dx mA):∃ od,h.get? dx=some od∧∀ name,PySem.W.lookIn name od=some (mA name):=by
 obtain ⟨o,es,ep,ho,hd,hk,_,hm⟩:=n;refine ⟨o,ho,fun name=>?_⟩;have e:=hm name;unfold nsFind findBy at e;rw [← Array.find?_toList] at e;unfold PySem.W.lookIn;rw [hd];dsimp only;split
 ·rename_i y q;rw [q] at e;exact congrArg some e
 ·rename_i q;rw [q] at e;have a:es.toList.any (·.refKey)=false:=by
   rw [List.any_eq_false];intro y hy;obtain ⟨z,t,hkey⟩:=hk y (Array.mem_toList_iff.mp hy);simp [DictEntry.refKey,hkey]
  have a':¬ es.toList.any (·.refKey)=true:=by rw [a]; exact Bool.false_ne_true
  rw [if_neg a'];exact congrArg some e
theorem lT.look {h:Heap} {x dx C:Addr} {mA:Str→Option Value} (I:lT h x dx C mA):∃ od,PySem.W.InstAt h x (PySem.W.instObj C dx) C (some od)∧∀ name,PySem.W.lookIn name od=some (mA name) :=
 let ⟨od,ho,hl⟩:=LU I.ns
 ⟨od,⟨I.obj,rfl,rfl,ho⟩,hl⟩
section
variable {prog:Program} {w:World} {A:Around} {E:Value→Shared→Prop} {s:Shared} {K:PySem.W.Frag} {x dx C f:Addr} {mA:Str→Option Value} {name:Str} {v:Value}
theorem get_map {expr:Bool} {Q:Value→Shared→Prop} (X:K.In s.heap) (I:lT s.heap x dx C mA) (hg:PySem.W.plainGet K C name=true) (hh:PySem.W.hasDictIn K C=true)
  (ha:PySem.W.findIn K (.ref C) name=some none) (hv:mA name=some v) (hv':PySem.W.handedIn v=true) (h:Q v { s with toks:=s.toks+1 }) :
  wpAny (model prog w) A (getAttr (.ref x) name expr) Q E s:=by
 obtain ⟨od,J,hl⟩:=I.look;exact PySem.W.get_value X J (PySem.W.plainGet_of hg).1 (PySem.W.findObj_own hh ha rfl (by rw [hl,hv])) hv' h
theorem PR {pl:Sem Bool} {Q:Value×List Value→Shared→Prop} (X:K.In s.heap) (I:lT s.heap x dx C mA) (hg:PySem.W.plainGet K C name=true)
  (hf:PySem.W.findIn K (.ref C) name=some (some (.ref f))) (ht:PySem.W.isFn K (.ref f)=true) (hv:mA name=none) (h:Q (.ref f,[.ref x]) s) :
  wpAny (model prog w) A (getMethod (.ref x) name pl) Q E s:=by
 obtain ⟨od,J,hl⟩:=I.look;exact PySem.W.method_fn X J (PySem.W.plainGet_of hg).1 (PySem.W.plainGet_of hg).2 hf (beq_iff_eq.mp ht) (by show (PySem.W.lookIn name od).map (·.isSome)=some false; rw [hl,hv]; rfl) h
theorem Rp {ns:List Str} {Q:Unit→Shared→Prop} (X:K.In s.heap) (I:lT s.heap x dx C mA)
  (hs:PySem.W.findIn K (.ref C) "__setattr__" = some (some (.builtin "object.__setattr__"))) (hp:PySem.W.plainOver K C=true) (ht:PySem.W.takerIn K C name=some none) (hh:PySem.W.hasDictIn K C=true)
  (hw:PySem.Within mA ns) (hsz:ns.length≤sizeLine)
  (h:∀ h',lT h' x dx C (fun y=>if y=name then some v else mA y)→Heap.SameBut dx s.heap h'→Q () { s with heap:=h',toks:=s.toks+2 }) :
  wpAny (model prog w) A (setAttr (.ref x) name v) Q E s:=by
 obtain ⟨od,J,hl⟩:=I.look;refine PySem.W.set_plain X J hs (PySem.W.osa_open (s:={ s with toks:=s.toks+1 }) (r:=none) X J hp ht fun b=>?_);obtain ⟨cd,hc,hd'⟩:=PySem.W.any_some hh;have hx:s.heap.get? x=some ⟨.ref C,some dx,.plain,#[]⟩:=I.obj;refine wpAny_bind (wpAny_pure (wpAny_bind (wpAny_bind (wpAny_loadPart hx (wpAny_bind (PySem.W.Looks.here (s:={ s with toks:=s.toks+1 }) (PySem.W.looks_clsIn X hc) ?_))))));rw [hd'];refine wpAny_pure (a:=some dx) (wpAny_bind (wpAny_pure (wpAny_bind ?_)));refine wpAny_nsSet1 (s:={ s with toks:=s.toks+1 }) I.ns fun h' gO vC=>?_;obtain ⟨oD,esD,epD,AL,A8,AX⟩:=gO.count (PySem.Within.cons name v hw);refine wpAny_bind (wpAny_lookBehind AL (by rw [A8]; exact pastItsLine_dict (Nat.le_trans AX (by rw [List.length_cons]; omega))) ?_);exact wpAny_pure (h _ ⟨(vC.2 _ (Ne.symm I.ne)).trans I.obj,gO,I.ne⟩ vC)
theorem TF {R:Result→Shared→Prop} {vs:List Value} {kw:List (Str×Value)} (X:K.In s.heap) (hm:PySem.W.makesIn K C=true)
  (hi:PySem.W.findIn K (.ref C) "__init__" = some (some (.ref f))) (hf:PySem.W.typeIn K (.ref f)=some (.type "function"))
  (h:codeAny (model prog w) (A.under (.builtin "type.__call__" ⟨.ref C::vs,kw⟩)) (.call (.ref f) ⟨.ref (s.heap.objs.size+1)::vs,kw⟩) (PySem.W.InitBack (s.heap.objs.size+1) R)
   { s with heap:=(s.heap.push PySem.W.emptyDict).push (PySem.W.instObj C s.heap.objs.size) }) :
  codeAny (model prog w) A (.call (.ref C) ⟨vs,kw⟩) R s:=by
 obtain ⟨hh,g,d,t,os⟩:=s;exact PySem.W.make_core (PySem.W.makes_of X hm) (PySem.W.looks_findIn X hi) (fun self=>PySem.W.bind_fn X self hf) (.inl rfl) h
end
def ae (f:Str) (v:V):List (Str×V)→List (Str×V)
 | []=>[(f,v)]
 | (g,x)::r=>if g=f then (g,v)::r else (g,x)::ae f v r
theorem dk (f g:Str) (v:V):∀ fs:List (Str×V),(ae f v fs).lookup g=if g=f then some v else fs.lookup g
 | []=>by
  show List.lookup g [(f,v)]=_;by_cases h:g=f
  ·have hb:(g == f)=true:=beq_iff_eq.mpr h;simp only [List.lookup,hb,if_pos h]
  ·have hb:(g == f)=false:=beq_eq_false_iff_ne.mpr h;simp only [List.lookup,hb,if_neg h]
 | (k,x)::r=>by
  have ih:=dk f g v r;rw [show ae f v ((k,x)::r)=(if k=f then (k,v)::r else (k,x)::ae f v r) from rfl];by_cases hk:k=f
  ·rw [if_pos hk];by_cases h:g=k
   ·have hb:(g == k)=true:=beq_iff_eq.mpr h;simp only [List.lookup,hb,if_pos (h.trans hk)]
   ·have hb:(g == k)=false:=beq_eq_false_iff_ne.mpr h;simp only [List.lookup,hb,if_neg (fun e:g=f=>h (e.trans hk.symm))]
  ·rw [if_neg hk];by_cases h:g=k
   ·have hb:(g == k)=true:=beq_iff_eq.mpr h;simp only [List.lookup,hb,if_neg (fun e:g=f=>hk (h.symm.trans e))]
   ·have hb:(g == k)=false:=beq_eq_false_iff_ne.mpr h;simp only [List.lookup,hb];exact ih
theorem xi (f:Str) (v:V):∀ fs:List (Str×V),f∈(ae f v fs).map (·.1)∧∀ g,g∈fs.map (·.1)→g∈(ae f v fs).map (·.1)
 | []=>⟨by simp [ae],fun g h=>by simp at h⟩
 | (k,x)::r=>by
  obtain ⟨i1,i2⟩:=xi f v r;rw [show ae f v ((k,x)::r)=(if k=f then (k,v)::r else (k,x)::ae f v r) from rfl];by_cases hk:k=f
  ·rw [if_pos hk];subst hk;exact ⟨by simp,fun g h=>by simpa using h⟩
  ·rw [if_neg hk];refine ⟨?_,fun g h=>?_⟩
   ·rw [List.map_cons];exact List.mem_cons_of_mem _ i1
   ·rw [List.map_cons] at h ⊢;rcases List.mem_cons.mp h with e | e
    ·exact List.mem_cons.mpr (.inl e)
    ·exact List.mem_cons_of_mem _ (i2 g e)
theorem xG (f:Str) (v:V):∀ fs:List (Str×V),(ae f v fs).length≤fs.length+1
 | []=>by simp [ae]
 | (k,x)::r=>by
  have ih:=xG f v r;rw [show ae f v ((k,x)::r)=(if k=f then (k,v)::r else (k,x)::ae f v r) from rfl];by_cases hk:k=f
  ·rw [if_pos hk,List.length_cons,List.length_cons]; omega
  ·rw [if_neg hk,List.length_cons,List.length_cons]; omega
theorem dC.some_of {v:V} {o:Option Value} (r:dC (some v) o):∃ u,o=some u∧RelV v u:=by
 cases o with
 | none=>exact (show False from r).elim
 | some u=>exact ⟨u,rfl,r⟩
theorem dC.none_of {o:Option Value} (r:dC none o):o=none:=by
 cases o with
 | none=>rfl
 | some u=>exact (show False from r).elim
theorem MQ {v:V} {u:Value} (r:RelV v u):PySem.W.handedIn u=true:=by
 cases v with
 | ax=>cases (show u=Value.none from r); rfl
 | bl b=>cases (show u=Value.bool b from r); rfl
 | int i=>obtain ⟨t,e⟩:=(show ∃ t,u=Value.int i t from r); cases e; rfl
 | str x=>obtain ⟨t,e⟩:=(show ∃ t,u=Value.str x t from r); cases e; rfl
 | byt b=>obtain ⟨t,e⟩:=(show ∃ t,u=Value.bytes b t from r); cases e; rfl
 | ly b=>obtain ⟨t,e⟩:=(show ∃ t,u=Value.float b t from r); cases e; rfl
 | ref a=>cases (show u=Value.ref a from r); rfl
 | ty n=>cases (show u=Value.type n from r); rfl
section
variable {P:Program} {w:World} {H H':Hp} {h h':Heap} {a C dx:Addr} {fs fs':List (Str×V)}
theorem u0 (aC:bR P w H h) (e:H a=some (.ins C dx fs)):∃ mA,lT h a dx C mA∧(∀ f,dC (fs.lookup f) (mA f))∧PySem.Within mA (fs.map (·.1))∧fs.length≤1000∧H dx=some (.own a):=by
 obtain ⟨d,z,ne,ob,mA,n,r,q⟩:=(show bP P w H h a (.ins C dx fs) from aC a _ e);exact ⟨mA,⟨ob,n,ne⟩,r,q,z,d⟩
end
structure cz (K:PySem.W.Frag) (C:Addr):Prop where
 pg:PySem.W.plainGet K C Str.empty=true
 hd:PySem.W.hasDictIn K C=true
 po:PySem.W.plainOver K C=true
 sa:PySem.W.findIn K (.ref C) "__setattr__" = some (some (.builtin "object.__setattr__"))
theorem cz.get {K:PySem.W.Frag} {C:Addr} (c:cz K C) (f:Str):PySem.W.plainGet K C f=true:=c.pg
def bx (K:PySem.W.Frag) (C:Addr) (f:Str):Prop:=PySem.W.findIn K (.ref C) f=some none
theorem bx.SW {K:PySem.W.Frag} {C:Addr} {f:Str} (n:bx K C f):PySem.W.takerIn K C f=some none:=by
 unfold PySem.W.takerIn;rw [show PySem.W.findIn K (.ref C) f=some none from n];rfl
structure Wj (K:PySem.W.Frag) (C:Addr) (f:Str) (v:V) (u:Value):Prop where
 at_:PySem.W.findIn K (.ref C) f=some (some u)
 rel:RelV v u
 get:PySem.W.specialIn K u "__get__" = some none
 cp:PySem.W.copiedNames.contains f=false
structure Meth (K:PySem.W.Frag) (C:Addr) (m:Str) (f:Addr):Prop where
 at_:PySem.W.findIn K (.ref C) m=some (some (.ref f))
 fn:PySem.W.isFn K (.ref f)=true
 kp:PySem.W.keepIn K (.ref f)=true
section
variable {X:Cx} {pins:List (Addr×Obj)} {σ:St} {H:Hp} {s:Shared} {a C dx:Addr} {fs:List (Str×V)} {f:Str} {v:V} {A:Around} {E:Value→Shared→Prop}
theorem FX {b:Bool} {Q:Value→Shared→Prop} (I:Inv X pins σ H s) (e:H a=some (.ins C dx fs)) (c:cz X.K C) (n:bx X.K C f) (l:fs.lookup f=some v)
  (h:∀ u s',Inv X pins σ H s'→RelV v u→Q u s'):wpAny (model X.prog X.w) A (getAttr (.ref a) f b) Q E s:=by
 obtain ⟨mA,O,r,_,_,_⟩:=u0 I.aC e;obtain ⟨u,hu,ru⟩:=dC.some_of (v:=v) (o:=mA f) (by rw [← l]; exact r f);exact get_map I.bQ O (c.get f) c.hd n hu (MQ ru) (h u _ (I.tok _) ru)
theorem wx {m:Str} {g:Addr} {pl:Sem Bool} {Q:Value×List Value→Shared→Prop} (I:Inv X pins σ H s) (e:H a=some (.ins C dx fs)) (c:cz X.K C) (k:Meth X.K C m g) (l:fs.lookup m=none)
  (h:Q (.ref g,[.ref a]) s):wpAny (model X.prog X.w) A (getMethod (.ref a) m pl) Q E s:=by
 obtain ⟨mA,O,r,_,_,_⟩:=u0 I.aC e;have hn:mA m=none:=dC.none_of (by rw [← l]; exact r m);exact PR I.bQ O (c.get m) k.at_ k.fn hn h
theorem Gv {y:V} {u:Value} {Q:Unit→Shared→Prop} (I:Inv X pins σ H s) (e:H a=some (.ins C dx fs)) (c:cz X.K C) (n:bx X.K C f) (hl:fs.length < 1000) (ry:RelV y u)
  (h:∀ s',Inv X pins σ (upd H a (.ins C dx (ae f y fs))) s'→Q () s'):wpAny (model X.prog X.w) A (setAttr (.ref a) f u) Q E s:=by
 obtain ⟨mA,O,r,wi,_,ho⟩:=u0 I.aC e;have hz:(fs.map (·.1)).length≤sizeLine:=by rw [List.length_map,sizeLine_eq]; omega
 refine Rp I.bQ O c.sa c.po n.SW c.hd wi hz fun h' O' sb=>h _ ?_;have hd:∃ o,h'.get? dx=some o:=let ⟨o,_,_,e',_⟩:=O'.ns; ⟨o,e'⟩
 refine I.write (x:=a) (e:=dx) (by rw [e]; exact True.intro) (.inr ho) (fun b q hb z=>(sb.2 b hb).trans z) hd ?_;refine ⟨by rw [ah O.ne]; exact ho,?_,O.ne,O'.obj,_,O'.ns,fun g=>?_,fun g hg=>?_⟩
 ·have:=xG f y fs; omega
 ·show dC ((ae f y fs).lookup g) (if g=f then some u else mA g);rw [dk];by_cases q:g=f
  ·rw [if_pos q,if_pos q]; exact ry
  ·rw [if_neg q,if_neg q]; exact r g
 ·by_cases q:g=f
  ·rw [q]; exact (xi f y fs).1
  ·refine (xi f y fs).2 g (wi g fun z=>hg ?_);show (if g=f then some u else mA g)=none;rw [if_neg q]; exact z
theorem Inv.made (I:Inv X pins σ H s):Inv X pins σ (upd (upd H s.heap.objs.size (.own (s.heap.objs.size+1))) (s.heap.objs.size+1) (.ins C s.heap.objs.size []))
  { s with heap:=(s.heap.push PySem.W.emptyDict).push (PySem.W.instObj C s.heap.objs.size) }:=by
 have e1:(s.heap.push PySem.W.emptyDict).get? s.heap.objs.size=some PySem.W.emptyDict:=Heap.get?_push_size s.heap rfl;have e2:((s.heap.push PySem.W.emptyDict).push (PySem.W.instObj C s.heap.objs.size)).get? (s.heap.objs.size+1)=some (PySem.W.instObj C s.heap.objs.size):=by
  have:=Heap.get?_push_size (s.heap.push PySem.W.emptyDict) (o:=PySem.W.instObj C s.heap.objs.size) rfl
  rwa [Heap.size_push] at this
 have e3:(s.heap.push PySem.W.emptyDict).Ns s.heap.objs.size (fun _=>none):=⟨PySem.W.emptyDict,#[],_,e1,rfl,(fun e he=>absurd he (by simp)),fun _=>rfl⟩;have I1:=I.laid (a:=s.heap.objs.size) (o:=.own (s.heap.objs.size+1)) (h':=s.heap.push PySem.W.emptyDict) (t':=s.toks) (fun b u q=>Heap.get?_push_of_some _ q) (Nat.le_refl _) ⟨_,e1⟩;refine I1.laid (a:=s.heap.objs.size+1) (o:=.ins C s.heap.objs.size []) (t':=s.toks) (fun b u q=>Heap.get?_push_of_some _ q) (Nat.le_of_eq (Heap.size_push _ _)) ?_;have ne:s.heap.objs.size≠s.heap.objs.size+1:=Nat.ne_of_lt (Nat.lt_succ_self _);refine ⟨by rw [ah ne,ay],Nat.zero_le _,ne,e2,fun _=>none,(Heap.Ns1.of_empty e3).at fun o q=>Heap.get?_push_of_some _ q,fun _=>True.intro,fun y hy=>absurd rfl hy⟩
theorem UL {prog:Program} {w:World} {env:Env} {e:Expr} {f:Str} {pos:Pos} {s:Shared} {Q:Value→Shared→Prop} (hb:attributeBase e f env (eval e env)=eval e env)
  (h:wpAny (model prog w) A (eval e env) (fun o s₁=>wpAny (model prog w) A (getAttr o f true) Q E s₁) E s):wpAny (model prog w) A (eval (.Attribute e f pos) env) Q E s :=
 Attribute_any_ h (by rw [arm_eval_Attribute,hb])
end
def yo (X:Cx) (op:Operator) (rd:V→V→Hp→VK→Prop):Prop :=
 ∀ (pins:List (Addr×Obj)) (s:Shared) (σ:St) (H:Hp) (x y:V) (u v:Value) (Q:VK),Inv X pins σ H s→RelV x u→RelV y v→rd x y H Q→wpAny (model X.prog X.w) X.A (inplaceOp op u v) (EP X pins σ Q) X.xe s
section
variable {X:Cx} {o e value:Expr} {f:Str} {pos pos' tpos:Pos} {ta tv:TE}
def Cb:V→V→Hp→VK→Prop:=fun x y H Q=>∃ i j,x=.int i∧y=.int j∧Q (.int (i+j)) H
theorem kh:yo X .Add Cb:=by
 rintro pins s σ H x y u v Q I rx ry ⟨i,j,rfl,rfl,q⟩;obtain ⟨t,rfl⟩:=(show ∃ t,u=Value.int i t from rx);obtain ⟨t',rfl⟩:=(show ∃ t',v=Value.int j t' from ry);exact PyProof.Rows.iadd_int ⟨.int (i+j),H,I.tok _,⟨_,rfl⟩,q⟩
end
section
variable {X:Cx} {pins:List (Addr×Obj)} {σ:St} {H:Hp} {s:Shared} {A:Around} {E:Value→Shared→Prop} {Q:Value→Shared→Prop} {c:Value} {b:Bool}
inductive er (K:PySem.W.Frag) (H:Hp):V→Value→Prop where
 | ax:er K H .ax (.type "NoneType")
 | bl (x:Bool):er K H (.bl x) (.type "bool")
 | int (i:Int):er K H (.int i) (.type "int")
 | str (x:Str):er K H (.str x) (.type "str")
 | ly (x:UInt64):er K H (.ly x) (.type "float")
 | lst {a:Addr} {xs:List V} (e:H a=some (.lst xs)):er K H (.ref a) (.type "list")
 | dJ {a:Addr} {o:Obj} {xs:List V} (e:H a=some (.dJ o (.lst xs))):er K H (.ref a) (.type "list")
 | tup {a:Addr} {xs:List V} (e:H a=some (.tup xs)):er K H (.ref a) (.type "tuple")
 | dK {a:Addr} {kvs:List (Key×V)} (e:H a=some (.dK kvs)):er K H (.ref a) (.type "dict")
 | dT {a:Addr} {kvs:List (List Key×V)} (e:H a=some (.dT kvs)):er K H (.ref a) (.type "dict")
 | ins {a C dx:Addr} {fs:List (Str×V)} (e:H a=some (.ins C dx fs)) (cl:cz K C) (ha:PySem.W.findIn K (.ref C) "__class__" = some (some (.builtin "object.__class__")))
   (hn:PySem.W.specialIn K (.builtin "object.__class__") "__get__" = some (some (.builtin "getset_descriptor.__get__"))) (dm:PySem.W.takesIn K (.builtin "object.__class__")=some true)
   (hm:PySem.W.mroIn K C (.type "object")=some true):er K H (.ref a) (.ref C)
theorem zf {x:V} {u t:Value} (I:Inv X pins σ H s) (rx:RelV x u) (ty:er X.K H x t) (e:PySem.W.kitOne X.K t c=some b) (h:∀ tk,Q (.bool b) { s with toks:=tk }) :
  wpAny (model X.prog X.w) A (call (.builtin "isinstance") [u,c]) Q E s:=by
 cases ty with
 | ax=>cases (show u=Value.none from rx); exact PySem.W.kia_one PySem.W.kitx_none I.bQ True.intro e (fun z=>nomatch z) h
 | bl y=>cases (show u=Value.bool y from rx); exact PySem.W.kia_one PySem.W.kitx_bool I.bQ True.intro e (fun z=>nomatch z) h
 | int i=>obtain ⟨t,q⟩:=(show ∃ t,u=Value.int i t from rx); cases q; exact PySem.W.kia_one PySem.W.kitx_int I.bQ True.intro e (fun z=>nomatch z) h
 | str y=>obtain ⟨t,q⟩:=(show ∃ t,u=Value.str y t from rx); cases q; exact PySem.W.kia_one PySem.W.kitx_str I.bQ True.intro e (fun z=>nomatch z) h
 | ly y=>obtain ⟨t,q⟩:=(show ∃ t,u=Value.float y t from rx); cases q; exact PySem.W.kia_one PySem.W.kitx_float I.bQ True.intro e (fun z=>nomatch z) h
 | @lst a xs ea =>
  cases (show u=Value.ref a from rx);obtain ⟨_,_,n,_,h1⟩:=(show bP X.prog X.w H s.heap a (.lst xs) from I.aC a _ ea);exact PySem.W.kia_one PySem.W.kitx_list I.bQ ⟨_,h1,rfl⟩ e (fun z=>nomatch z) h
 | @dJ a ob xs ea =>
  cases (show u=Value.ref a from rx);obtain ⟨_,_,_,n,_,h1⟩:=(show bP X.prog X.w H s.heap a (.dJ ob (.lst xs)) from I.aC a _ ea);exact PySem.W.kia_one PySem.W.kitx_list I.bQ ⟨_,h1,rfl⟩ e (fun z=>nomatch z) h
 | @tup a xs ea =>
  cases (show u=Value.ref a from rx);obtain ⟨_,_,_,p⟩:=(show bP X.prog X.w H s.heap a (.tup xs) from I.aC a _ ea);obtain ⟨o,h1,h2,_⟩:=p;exact PySem.W.kia_one PySem.W.kitx_tuple I.bQ ⟨o,h1,h2⟩ e (fun z=>nomatch z) h
 | @dK a kvs ea =>
  cases (show u=Value.ref a from rx);obtain ⟨_,_,vs,_,p⟩:=(show bP X.prog X.w H s.heap a (.dK kvs) from I.aC a _ ea);obtain ⟨o,es,ep,h1,h2,_⟩:=p;exact PySem.W.kia_one PySem.W.kitx_dict I.bQ ⟨o,h1,h2.1⟩ e (fun z=>nomatch z) h
 | @dT a kvs ea =>
  cases (show u=Value.ref a from rx);obtain ⟨_,_,xs,_,o,es,ep,h1,h2,_⟩:=(show bP X.prog X.w H s.heap a (.dT kvs) from I.aC a _ ea);exact PySem.W.kia_one PySem.W.kitx_dict I.bQ ⟨o,h1,h2.1⟩ e (fun z=>nomatch z) h
 | @ins a C dx fs ea cl ha hn dm hm =>
  cases (show u=Value.ref a from rx);obtain ⟨mA,O,_⟩:=u0 I.aC ea;obtain ⟨od,J,_⟩:=O.look;exact PySem.W.kia_one (PySem.W.kitx_own (cl.get _) cl.hd ha hn dm hm) I.bQ J e (fun z=>nomatch z) h
end
end L2
namespace L2
open PySem PySem.Spec PyProof.Rows
structure bz (k:Nat) (A:Around):Prop where
 hd:A.handled=none
 dp:A.depth+3 * k+5 < recursionLimit
 un:A.units+16 * k+200 < cLine
theorem bz.mono {j k:Nat} {A:Around} (r:bz k A) (h:j≤k):bz j A:=⟨r.hd,by have:=r.dp; omega,by have:=r.un; omega⟩
theorem bz.deeper {k:Nat} {A:Around} (r:bz (k+1) A) (env:Env):bz k (A.deeper env) :=
 ⟨r.hd,by have:=r.dp; show A.depth+1+3 * k+5 < _; omega,by have:=r.un; show A.units+3+16 * k+200 < _; omega⟩
theorem Ut {A:Around} {C:Addr} {us:List Value} {kw:List (Str×Value)}:(A.under (.builtin "type.__call__" ⟨.ref C::us,kw⟩)).depth=A.depth+1:=by
 first | rfl | simp [Around.under,Code.weight,Code.isCreation,Code.isGuard,Code.isCaller,Code.frames,Code.isFrame,guardIds]
theorem Lk {A:Around} {C:Addr} {us:List Value} {kw:List (Str×Value)}:(A.under (.builtin "type.__call__" ⟨.ref C::us,kw⟩)).units=A.units+1:=by
 first | rfl | simp [Around.under,Code.cUnits,Code.frames,Code.isFrame]
theorem bz.make {k:Nat} {A:Around} (r:bz (k+1) A) (C:Addr) (us:List Value) (kw:List (Str×Value)):bz k (A.under (.builtin "type.__call__" ⟨.ref C::us,kw⟩)) :=
 ⟨r.hd,by have:=r.dp; rw [Ut]; omega,by have:=r.un; rw [Lk]; omega⟩
theorem bz.depth {k:Nat} {A:Around} (r:bz k A):A.depth < recursionLimit:=by have:=r.dp; omega
theorem bz.units {k:Nat} {A:Around} (r:bz k A):A.units+64 < cLine:=by have:=r.un; omega
theorem bz.fV {k:Nat} {A:Around} (r:bz k A):A.units < cLine:=by have:=r.un; omega
def gn:TA:=fun _ H Q=>Q [] H
def gL (ta:TE) (tr:TA):TA:=fun σ H Q=>ta σ H fun x H1=>tr σ H1 fun xs H2=>Q (x::xs) H2
section
variable {X:Cx} {e:Expr} {es:List Expr} {te:TE} {t:TA} {pos:Pos}
theorem U1:PA X [] gn:=fun _ _ _ _ H Q I h=>Calls.spliced_nil ⟨[],H,I,.nil,h⟩
theorem TQ (ha:PE X e te) (hr:PA X es t) (hs:starEach (e::es) X.env=(false,eval e X.env)::starEach es X.env:=by rfl):PA X (e::es) (gL te t):=by
 intro pos pins s σ H Q I h;rw [hs];show wpAny _ _ (spliced ((false,eval e X.env)::backTo pos (starEach es X.env))) _ _ s;refine Calls.spliced_cons (aD (ha pins s σ H _ I h) fun u s1 ⟨x,H1,I1,r1,q1⟩=>?_);exact aD (hr pos pins s1 σ H1 _ I1 q1) fun us s2 ⟨xs,H2,I2,r2,q2⟩=>⟨x::xs,H2,I2,.cons r1 r2,q2⟩
def pU (t:TA):TE:=fun σ H Q=>t σ H fun xs H1=>xs.length≤sizeLine∧∀ p,H1 p=none→Q (.ref p) (upd H1 p (.tup xs))
def uX (t:TA):TE:=fun σ H Q=>t σ H fun xs H1=>xs.length≤sizeLine∧∀ p,H1 p=none→Q (.ref p) (upd H1 p (.lst xs))
theorem NF {x1} (h:PA X es t):PE X (.Tuple es x1 pos) (pU t):=by
 intro pins s σ H Q I hq;refine wpAny_Tuple_spliced (aD (h pos pins s σ H _ I hq) fun us s1 ⟨xs,H1,I1,r,z,q⟩=>⟨by rw [← r.length]; exact z,?_⟩);have hf:H1 s1.heap.objs.size=none:=I1.aC.fresh (Nat.le_refl _);refine ⟨.ref s1.heap.objs.size,upd H1 s1.heap.objs.size (.tup xs),I1.laid (t':=s1.toks) (fun b u e=>Heap.get?_push_of_some _ e) (Nat.le_refl _) ?_,rfl,q _ hf⟩;exact ⟨z,us,r,⟨_,Heap.get?_push_size _ rfl,rfl,_,rfl⟩⟩
theorem Lu (h:PA X es t):PE X (.List es pos) (uX t):=by
 intro pins s σ H Q I hq;refine wpAny_List_spliced (aD (h pos pins s σ H _ I hq) fun us s1 ⟨xs,H1,I1,r,z,q⟩=>⟨by rw [← r.length]; exact z,?_⟩);have hf:H1 s1.heap.objs.size=none:=I1.aC.fresh (Nat.le_refl _);refine ⟨.ref s1.heap.objs.size,upd H1 s1.heap.objs.size (.lst xs),I1.laid (t':=s1.toks) (fun b u e=>Heap.get?_push_of_some _ e) (Nat.le_refl _) ?_,rfl,q _ hf⟩;exact ⟨z,us,0,r,Heap.get?_push_size _ rfl⟩
end
abbrev Sp:=List V→Hp→VK→XK→Prop
abbrev dh:=List Env→Hp→Shared→XK→Value→Shared→Prop
structure kz (P:Program) (w:World) (K:PySem.W.Frag) (mg:Str→Option Value) (base:Heap) (A:Around) (outer:List Env) (s:Shared) (H:Hp):Prop where
 frames:A.frames=some outer
 mod:Mod K mg base
 bs:∀ b o,base.get? b=some o→s.heap.get? b=some o∧H b=none
 gb:base.objs.size≤s.heap.objs.size
 eY:s.heap.FunFrames base outer
 hU:∀ b∈bH outer,H b=none
 aC:bR P w H s.heap
 bare:AllBare s.gens
def CE (outer:List Env) (P:Program) (w:World) (H:Hp) (s:Shared) (Q:VK) (u:Value) (s':Shared):Prop :=
 ∃ v H',s'.os=s.os∧AllBare s'.gens∧Un (bH outer) [] H H' s.heap s'.heap∧bR P w H' s'.heap∧RelV v u∧Q v H'
def CR (CX:dh) (outer:List Env) (P:Program) (w:World) (H:Hp) (s:Shared) (Q:VK) (E:XK) (r:Result) (s':Shared):Prop :=
 match r with
 | .ok (.ret u)=>CE outer P w H s Q u s'
 | .ok _=>False
 | .error e=>CX outer H s E e s'
structure aA (P:Program) (w:World) (K:PySem.W.Frag) (mg:Str→Option Value) (base:Heap) (CX:dh) (k:Nat) (f:Addr) (fd:FuncData) (ps:List Str) (sp:Sp):Prop where
 len:∀ vs H Q E,sp vs H Q E→vs.length=ps.length
 run:∀ (A:Around) (outer:List Env) (s:Shared) (H:Hp) (args:Args) (us:List Value) (vs:List V) (Q:VK) (E:XK),bz k A→kz P w K mg base A outer s H→BindsTo s fd args (ps.zip us)→Vals vs us→sp vs H Q E →
  codeAny (model P w) A (.call (.ref f) args) (CR CX outer P w H s Q E) s
theorem aA.imp {P:Program} {w:World} {K:PySem.W.Frag} {mg:Str→Option Value} {base:Heap} {CX:dh} {k:Nat} {f:Addr} {fd:FuncData} {ps:List Str} {sp sp':Sp} (F:aA P w K mg base CX k f fd ps sp)
  (h:∀ vs H Q E,sp' vs H Q E→sp vs H Q E):aA P w K mg base CX k f fd ps sp' :=
 ⟨fun vs H Q E q=>F.len vs H Q E (h _ _ _ _ q),fun A outer s H args us vs Q E hr he hb hv hs=>F.run A outer s H args us vs Q E hr he hb hv (h _ _ _ _ hs)⟩
theorem kz.make {P:Program} {w:World} {K:PySem.W.Frag} {mg:Str→Option Value} {base:Heap} {A:Around} {outer:List Env} {s:Shared} {H:Hp} (e:kz P w K mg base A outer s H) (C:Addr) (us:List Value) (kw:List (Str×Value)) :
  kz P w K mg base (A.under (.builtin "type.__call__" ⟨.ref C::us,kw⟩)) outer s H:=⟨by first | exact e.frames | (simpa [Around.under,Code.envs,Code.isFrame,pushEnvs] using e.frames),e.mod,e.bs,e.gb,e.eY,e.hU,e.aC,e.bare⟩
section
variable {X:Cx} {pins:List (Addr×Obj)} {σ:St} {H:Hp} {s s':Shared}
theorem Inv.p6 (I:Inv X pins σ H s):kz X.prog X.w X.K X.mg X.base X.A X.stack s H :=
 ⟨I.ok.frames,I.ok.mod,I.bs,Nat.le_trans I.ok.gb I.sz,I.stack,I.tD,I.aC,I.bare⟩
theorem Inv.after {Q:VK} {u:Value} (I:Inv X pins σ H s) (h:CE X.stack X.prog X.w H s Q u s'):EP X pins σ Q u s':=by
 obtain ⟨v,H',os,bare,un,aC,r,q⟩:=h;obtain ⟨hh,g,d,t,os'⟩:=s';obtain rfl:os'=s.os:=os;exact ⟨v,H',I.call (h':=hh) (g':=g) (d':=d) (t':=t) (ch:=[]) un aC bare (fun b z=>absurd z (by simp)),r,q⟩
end
def tq (sp:Sp) (bp:List V) (E:XK) (t:TA):TE:=fun σ H Q=>t σ H fun vs H1=>sp (vs++bp) H1 Q E
def qB (C:Addr) (m:Str) (sp:Sp) (bp:List V) (E:XK) (ta:TE) (t:TA):TE:=fun σ H Q=>ta σ H fun x H1=>∃ a dx fs,x=.ref a∧H1 a=some (.ins C dx fs)∧fs.lookup m=none ∧
 t σ H1 fun vs H2=>sp (x::(vs++bp)) H2 Q E
def pH (C:Addr) (sp:Sp) (bp:List V) (E:XK) (t:TA):TE:=fun σ H Q=>t σ H fun vs H1=>∀ x dx,H1 x=none→H1 dx=none→dx≠x →
 sp (.ref x::(vs++bp)) (upd (upd H1 dx (.own x)) x (.ins C dx [])) (fun v H2=>v=.ax∧Q (.ref x) H2) E
def Binds (K:PySem.W.Frag) (fd:FuncData) (ps:List Str) (ds:List Value):Prop :=
 ∀ (s:Shared) (us:List Value),K.In s.heap→(us++ds).length=ps.length→BindsTo s fd ⟨us,[]⟩ (ps.zip (us++ds))
theorem Binds.all {K:PySem.W.Frag} {fd:FuncData} {ps:List Str} (h:∀ us:List Value,us.length=ps.length→bindArgs fd ⟨us,[]⟩=pure (ps.zip us)):Binds K fd ps []:=fun s us _ hl=>by
 rw [List.append_nil] at hl ⊢;exact .of_eq (h us hl)
def Passes (CX:dh) (X:Cx) (E:XK):Prop:=∀ (pins:List (Addr×Obj)) (σ:St) (H:Hp) (s:Shared) (e:Value) (s':Shared),Inv X pins σ H s→CX X.stack H s E e s'→X.xe e s'
section
variable {X:Cx} {CX:dh} {k:Nat} {f C:Addr} {fd:FuncData} {ps:List Str} {sp:Sp} {bp:List V} {ds:List Value} {E:XK} {x m:Str} {p pos apos:Pos} {e o:Expr} {es:List Expr} {ta:TE} {t:TA}
theorem yI {pins:List (Addr×Obj)} {σ:St} {H:Hp} {s:Shared} {Q:VK} {us:List Value} {vs:List V} (F:aA X.prog X.w X.K X.mg X.base CX k f fd ps sp) (hr:bz k X.A) (hb:Binds X.K fd ps ds) (hd:Vals bp ds) (hx:Passes CX X E)
  (I:Inv X pins σ H s) (r:Vals vs us) (h:sp (vs++bp) H Q E):wpAny (model X.prog X.w) X.A (call (.ref f) us) (EP X pins σ Q) X.xe s:=by
 have r2:Vals (vs++bp) (us++ds):=r.append hd;have hl:(us++ds).length=ps.length:=by rw [← r2.length]; exact F.len _ _ _ _ h
 refine wpAny_call (codeAny_mono (F.run X.A X.stack s H ⟨us,[]⟩ (us++ds) (vs++bp) Q E hr I.p6 (hb s us I.bQ hl) r2 h) fun r s' hq=>?_);cases r with
 | error e=>exact hx pins σ H s e s' I hq
 | ok fl =>
  cases fl with
  | ret u=>exact I.after hq
  | next=>exact False.elim hq
  | brk=>exact False.elim hq
  | cont=>exact False.elim hq
theorem Nx (F:aA X.prog X.w X.K X.mg X.base CX k f fd ps sp) (hr:bz k X.A) (hg:Gl X x) (hm:X.mg x=some (.ref f)) (hk:PySem.W.keepIn X.K (.ref f)=true) (hb:Binds X.K fd ps ds) (hd:Vals bp ds) (hx:Passes CX X E)
  (ha:PA X (e::es) t) (bF:(x == ("__debug__" : Str))=false:=by decide) (he:starEach (e::es) X.env=(false,eval e X.env)::starEach es X.env:=by rfl) (bg:(backTo pos (starEach es X.env)).any (·.1)=false:=by rfl) :
  PE X (.Call (.Name x p) (e::es) [] pos) (tq sp bp E t):=by
 intro pins s σ H Q I h;refine wpAny_Call_Name_kw (ju I hg hm ?_ bF);refine PySem.W.callWith_K (h₀:=X.base) I.ok.mod.gC hk (aD (ha pos pins s σ H _ I h) fun us s1 ⟨vs,H1,I1,r,q⟩=>⟨I1.bQ,?_⟩) he bg;exact yI F hr hb hd hx I1 r q
theorem Mz {pl:Sem Bool} (he:PE X o ta) (c:cz X.K C) (hm:Meth X.K C m f) (F:aA X.prog X.w X.K X.mg X.base CX k f fd ps sp) (hr:bz k X.A) (hb:Binds X.K fd ps ds) (hd:Vals bp ds) (hx:Passes CX X E) (ha:PA X (e::es) t)
  (aQ:starEach (e::es) X.env=(false,eval e X.env)::starEach es X.env:=by rfl) (bg:(backTo pos (starEach es X.env)).any (·.1)=false:=by rfl)
  (ht:eval (.Call (.Attribute o m apos) (e::es) [] pos) X.env=(do
   let ov ← eval o X.env
   standAt apos.atName
   let (f,first) ← holding [ov] (getMethod ov m pl)
   callWith pos f first (backTo pos (starEach (e::es) X.env)) (backToKw pos (keywordEach [] X.env))):=by rfl) :
  PE X (.Call (.Attribute o m apos) (e::es) [] pos) (qB C m sp bp E ta t):=by
 intro pins s σ H Q I h;refine PySem.W.methodCall_KW (pl:=pl) (aD (he pins s σ H _ I h) fun u s1 ⟨x,H1,I1,rx,a,dx,fs,ex,ea,l,q⟩=>?_) ht;subst ex;obtain rfl:u=Value.ref a:=rx;refine wx I1 ea c hm l ?_;refine PySem.W.callWith_K (first:=[.ref a]) (h₀:=X.base) I.ok.mod.gC hm.kp (aD (ha pos pins s1 σ H1 _ I1 q) fun us s2 ⟨vs,H2,I2,r,q2⟩=>⟨I2.bQ,?_⟩) aQ bg;exact yI (us:=.ref a::us) (vs:=.ref a::vs) F hr hb hd hx I2 (.cons rfl r) q2
theorem NS {pl:Sem Bool} (he:PE X o ta) (c:cz X.K C) (hm:Meth X.K C m f) (F:aA X.prog X.w X.K X.mg X.base CX k f fd ps sp) (hr:bz k X.A) (hb:Binds X.K fd ps ds) (hd:Vals bp ds) (hx:Passes CX X E)
  (ht:eval (.Call (.Attribute o m apos) [] [] pos) X.env=(do
   let ov ← eval o X.env
   standAt apos.atName
   let (f,first) ← holding [ov] (getMethod ov m pl)
   callWith pos f first (backTo pos (starEach [] X.env)) (backToKw pos (keywordEach [] X.env))):=by rfl) :
  PE X (.Call (.Attribute o m apos) [] [] pos) (qB C m sp bp E ta gn):=by
 intro pins s σ H Q I h;refine PySem.W.methodCall_KW (pl:=pl) (aD (he pins s σ H _ I h) fun u s1 ⟨x,H1,I1,rx,a,dx,fs,ex,ea,l,q⟩=>?_) ht;subst ex;obtain rfl:u=Value.ref a:=rx;refine wx I1 ea c hm l ?_;exact PySem.W.callWith_K0 (first:=[.ref a]) I1.bQ hm.kp (yI (us:=[.ref a]) (vs:=[.ref a]) F hr hb hd hx I1 (.cons rfl .nil) q)
structure Mk (K:PySem.W.Frag) (C f:Addr):Prop where
 makes:PySem.W.makesIn K C=true
 init:PySem.W.findIn K (.ref C) "__init__" = some (some (.ref f))
 fn:PySem.W.isFn K (.ref f)=true
 kp:PySem.W.keepIn K (.ref C)=true
theorem HG {pins:List (Addr×Obj)} {σ:St} {H:Hp} {s:Shared} {Q:VK} {us:List Value} {vs:List V} (M:Mk X.K C f) (F:aA X.prog X.w X.K X.mg X.base CX k f fd ps sp) (hr:bz (k+1) X.A) (hb:Binds X.K fd ps ds) (hd:Vals bp ds)
  (hx:Passes CX X E) (I:Inv X pins σ H s) (r:Vals vs us)
  (h:∀ x dx,H x=none→H dx=none→dx≠x→sp (.ref x::(vs++bp)) (upd (upd H dx (.own x)) x (.ins C dx [])) (fun v H2=>v=.ax∧Q (.ref x) H2) E) :
  wpAny (model X.prog X.w) X.A (call (.ref C) us) (EP X pins σ Q) X.xe s:=by
 have hq:=h (s.heap.objs.size+1) s.heap.objs.size (I.aC.fresh (Nat.le_succ _)) (I.aC.fresh (Nat.le_refl _)) (Nat.ne_of_lt (Nat.lt_succ_self _));have I2:=Inv.made (C:=C) I;have r2:Vals (V.ref (s.heap.objs.size+1)::(vs++bp)) (Value.ref (s.heap.objs.size+1)::(us++ds)):=.cons rfl (r.append hd);have hl:(Value.ref (s.heap.objs.size+1)::us++ds).length=ps.length:=by
  have e:=r2.length;rw [F.len _ _ _ _ hq] at e;exact e.symm
 refine wpAny_call (TF (f:=f) I.bQ M.makes M.init (beq_iff_eq.mp M.fn) (codeAny_mono (F.run _ X.stack _ _ ⟨Value.ref (s.heap.objs.size+1)::us,[]⟩ (Value.ref (s.heap.objs.size+1)::(us++ds)) _ _ E (hr.make C us [])
  (I2.p6.make C us []) (hb _ (Value.ref (s.heap.objs.size+1)::us) I2.bQ hl) r2 hq) fun r s' hq'=>?_))
 cases r with
 | error e=>exact hx pins σ _ _ e s' I2 hq'
 | ok fl =>
  cases fl with
  | ret u =>
   obtain ⟨v,H',I3,rv,ev,q3⟩:=I2.after hq';subst ev;exact ⟨rv,⟨V.ref (s.heap.objs.size+1),H',I3,rfl,q3⟩⟩
  | next=>exact False.elim hq'
  | brk=>exact False.elim hq'
  | cont=>exact False.elim hq'
theorem OC (M:Mk X.K C f) (F:aA X.prog X.w X.K X.mg X.base CX k f fd ps sp) (hr:bz (k+1) X.A) (hg:Gl X x) (hm:X.mg x=some (.ref C)) (hb:Binds X.K fd ps ds) (hd:Vals bp ds) (hx:Passes CX X E)
  (ha:PA X (e::es) t) (bF:(x == ("__debug__" : Str))=false:=by decide) (he:starEach (e::es) X.env=(false,eval e X.env)::starEach es X.env:=by rfl) (bg:(backTo pos (starEach es X.env)).any (·.1)=false:=by rfl) :
  PE X (.Call (.Name x p) (e::es) [] pos) (pH C sp bp E t):=by
 intro pins s σ H Q I h;refine wpAny_Call_Name_kw (ju I hg hm ?_ bF);refine PySem.W.callWith_K (h₀:=X.base) I.ok.mod.gC M.kp (aD (ha pos pins s σ H _ I h) fun us s1 ⟨vs,H1,I1,r,q⟩=>⟨I1.bQ,?_⟩) he bg;exact HG M F hr hb hd hx I1 r q
theorem LG (M:Mk X.K C f) (F:aA X.prog X.w X.K X.mg X.base CX k f fd ps sp) (hr:bz (k+1) X.A) (hg:Gl X x) (hm:X.mg x=some (.ref C)) (hb:Binds X.K fd ps ds) (hd:Vals bp ds) (hx:Passes CX X E)
  (bF:(x == ("__debug__" : Str))=false:=by decide):PE X (.Call (.Name x p) [] [] pos) (pH C sp bp E gn):=by
 intro pins s σ H Q I h;refine wpAny_Call_Name_kw (ju I hg hm ?_ bF);exact PySem.W.callWith_K0 I.bQ M.kp (HG (us:=[]) M F hr hb hd hx I .nil h)
end
def PK (X:Cx) (iP:List Keyword) (t:TA):Prop :=
 ∀ (pos:Pos) (pins:List (Addr×Obj)) (s:Shared) (σ:St) (H:Hp) (Q:List V→Hp→Prop),Inv X pins σ H s→t σ H Q→wpAny (model X.prog X.w) X.A (evalAll ((backToKw pos (keywordEach iP X.env)).map (·.2))) (AP X pins σ Q) X.xe s
section
variable {X:Cx} {CX:dh} {k:Nat} {f C:Addr} {fd:FuncData} {ps ks:List Str} {sp:Sp} {E:XK} {x m:Str} {p pos apos vn:Pos} {e o:Expr} {es:List Expr} {iP:List Keyword} {te ta:TE} {t tk:TA} {nm:Option Str}
theorem Q0:PK X [] gn:=fun _ _ _ _ H Q I h=>wpAny_evalAll_nil ⟨[],H,I,.nil,h⟩
theorem UC (ha:PE X e te) (hr:PK X iP t):PK X (⟨nm,e,vn⟩::iP) (gL te t):=by
 intro pos pins s σ H Q I h;show wpAny _ _ (evalAll ((do let v ← eval e X.env; standAt pos; pure v)::(backToKw pos (keywordEach iP X.env)).map (·.2))) _ _ s;refine wpAny_evalAll_cons (wpAny_bind (aD (ha pins s σ H _ I h) fun u s1 ⟨x,H1,I1,r1,q1⟩=>wpAny_bind (wpAny_standAt (wpAny_pure ?_))));exact aD (hr pos pins s1 σ H1 _ I1 q1) fun us s2 ⟨xs,H2,I2,r2,q2⟩=>⟨x::xs,H2,I2,.cons r1 r2,q2⟩
structure uE (K:PySem.W.Frag) (fd:FuncData) (ps ks:List Str) (g:List Value→List Value→List Value) (gV:List V→List V→List V):Prop where
 to:∀ (s:Shared) (us ws:List Value),K.In s.heap→(g us ws).length=ps.length→BindsTo s fd ⟨us,ks.zip ws⟩ (ps.zip (g us ws))
 rel:∀ {vs:List V} {us:List Value} {zs:List V} {ws:List Value},Vals vs us→Vals zs ws→Vals (gV vs zs) (g us ws)
def yG (sp:Sp) (gV:List V→List V→List V) (E:XK) (t tk:TA):TE:=fun σ H Q=>t σ H fun vs H1=>tk σ H1 fun zs H2=>sp (gV vs zs) H2 Q E
variable {g:List Value→List Value→List Value} {gV:List V→List V→List V}
theorem Q4 {pins:List (Addr×Obj)} {σ:St} {H:Hp} {s:Shared} {Q:VK} {us ws:List Value} {vs zs:List V} (F:aA X.prog X.w X.K X.mg X.base CX k f fd ps sp) (hr:bz k X.A) (hb:uE X.K fd ps ks g gV) (hx:Passes CX X E)
  (I:Inv X pins σ H s) (r:Vals vs us) (rz:Vals zs ws) (h:sp (gV vs zs) H Q E):wpAny (model X.prog X.w) X.A (call (.ref f) us (ks.zip ws)) (EP X pins σ Q) X.xe s:=by
 have r2:=hb.rel r rz;have hl:(g us ws).length=ps.length:=by rw [← r2.length]; exact F.len _ _ _ _ h
 refine wpAny_call (codeAny_mono (F.run X.A X.stack s H ⟨us,ks.zip ws⟩ (g us ws) (gV vs zs) Q E hr I.p6 (hb.to s us ws I.bQ hl) r2 h) fun r s' hq=>?_);cases r with
 | error e=>exact hx pins σ H s e s' I hq
 | ok fl =>
  cases fl with
  | ret u=>exact I.after hq
  | next=>exact False.elim hq
  | brk=>exact False.elim hq
  | cont=>exact False.elim hq
theorem Ko (F:aA X.prog X.w X.K X.mg X.base CX k f fd ps sp) (hr:bz k X.A) (hg:Gl X x) (hm:X.mg x=some (.ref f)) (hk:PySem.W.keepIn X.K (.ref f)=true) (hb:uE X.K fd ps ks g gV) (hx:Passes CX X E)
  (ha:PA X (e::es) t) (BO:PK X iP tk) (jA:(backToKw pos (keywordEach iP X.env)).all (·.1.isSome)=true:=by rfl) (rP:(backToKw pos (keywordEach iP X.env)).filterMap (·.1)=ks:=by rfl)
  (bF:(x == ("__debug__" : Str))=false:=by decide) (he:starEach (e::es) X.env=(false,eval e X.env)::starEach es X.env:=by rfl)
  (bg:((backTo pos (starEach (e::es) X.env)).any (·.1) || (backToKw pos (keywordEach iP X.env)).any (·.1.isNone))=false:=by rfl) :
  PE X (.Call (.Name x p) (e::es) iP pos) (yG sp gV E t tk):=by
 intro pins s σ H Q I h;refine wpAny_Call_Name_kw (ju I hg hm ?_ bF);refine PySem.W.callWith_KW (h₀:=X.base) I.ok.mod.gC hk jA (aD (ha pos pins s σ H _ I h) fun us s1 ⟨vs,H1,I1,r,q⟩=>?_) bg he;refine aD (BO pos pins s1 σ H1 _ I1 q) fun ws s2 ⟨zs,H2,I2,rz,q2⟩=>⟨I2.bQ,?_⟩;rw [rP];exact Q4 F hr hb hx I2 r rz q2
end
structure aH (N P:List Str) (sc:Scope):Prop where
 kind:sc.kind=.function
 co:sc.isCoroutine=false
 gen:sc.isGenerator=false
 nd:N.Nodup
 pre:N.take P.length=P
 par:∀ x∈P,sc.names.lookup x=some .local∨sc.names.lookup x=some .cell
 Pc:∀ y∈sc.names,y.2≠.free
theorem Cp {kindOf:Str→Option NameKind} {x:Str}:∀ {binds:List (Str×Value)} {m:Str→Option Value},(∀ v,(x,v) ∉ binds)→bindL kindOf binds m x=m x
 | [],_,_=>rfl
 | (n,v)::r,m,h=>by
  unfold bindL;rw [Cp fun w hw=>h w (List.mem_cons_of_mem _ hw)];split
  ·have:x≠n:=by rintro rfl; exact h v List.mem_cons_self
   simp [this]
  ·rfl
theorem EU {kindOf:Str→Option NameKind} {x:Str}:∀ {binds:List (Str×Value)} {m:Str→Option Value},(∀ v,(x,v) ∉ binds)→bindC kindOf binds m x=m x
 | [],_,_=>rfl
 | (n,v)::r,m,h=>by
  unfold bindC;rw [EU fun w hw=>h w (List.mem_cons_of_mem _ hw)];split
  ·rfl
  ·have:x≠n:=by rintro rfl; exact h v List.mem_cons_self
   simp [this]
theorem C0 {kindOf:Str→Option NameKind} {x:Str} {v:Value}:∀ {P:List Str} {vs:List Value} {i:Nat} {m:Str→Option Value},P.Nodup→P[i]?=some x→vs[i]?=some v→kindOf x=some .local →
  bindL kindOf (P.zip vs) m x=some v
 | [],_,_,_,_,h,_,_=>by simp at h
 | _::_,[],_,_,_,_,h,_=>by simp at h
 | p::P,w::vs,0,m,nd,h1,h2,hk=>by
  simp at h1 h2; subst h1; subst h2;show bindL kindOf ((p,w)::P.zip vs) m p=_;unfold bindL;rw [Cp fun v hv=>(List.nodup_cons.mp nd).1 (List.of_mem_zip hv).1,if_pos hk];simp
 | p::P,w::vs,i+1,m,nd,h1,h2,hk=>by
  show bindL kindOf ((p,w)::P.zip vs) m x=_;unfold bindL;exact C0 (i:=i) (List.nodup_cons.mp nd).2 (by simpa using h1) (by simpa using h2) hk
theorem B1 {kindOf:Str→Option NameKind} {x:Str} {v:Value}:∀ {P:List Str} {vs:List Value} {i:Nat} {m:Str→Option Value},P.Nodup→P[i]?=some x→vs[i]?=some v→kindOf x≠some .local →
  bindC kindOf (P.zip vs) m x=some v
 | [],_,_,_,_,h,_,_=>by simp at h
 | _::_,[],_,_,_,_,h,_=>by simp at h
 | p::P,w::vs,0,m,nd,h1,h2,hk=>by
  simp at h1 h2; subst h1; subst h2;show bindC kindOf ((p,w)::P.zip vs) m p=_;unfold bindC;rw [EU fun v hv=>(List.nodup_cons.mp nd).1 (List.of_mem_zip hv).1,if_neg hk];simp
 | p::P,w::vs,i+1,m,nd,h1,h2,hk=>by
  show bindC kindOf ((p,w)::P.zip vs) m x=_;unfold bindC;exact B1 (i:=i) (List.nodup_cons.mp nd).2 (by simpa using h1) (by simpa using h2) hk
def start (N:List Str) (vs:List V):St:=vs.map some++List.replicate (N.length - vs.length) none
def fP (CX:dh) (P:Program) (w:World) (K:PySem.W.Frag) (mg:Str→Option Value) (base:Heap) (N:List Str) (qual:Str) (scope:Scope) (f:Addr) (cd:Value) (A:Around) (outer:List Env) (s:Shared) (H:Hp) (E:XK):Cx where
 prog:=P
 w:=w
 K:=K
 mg:=mg
 base:=base
 A:=A.deeper (envOfC qual scope s.heap.objs.size f cd)
 N:=N
 s₀:=s
 H₀:=H
 env:=envOfC qual scope s.heap.objs.size f cd
 outer:=outer
 stack:=envOfC qual scope s.heap.objs.size f cd::outer
 ex:=[]
 calm:=true
 fn:=fun _=>true
 pn:=[]
 xe:=fun e s'=>wpAny (model P w) (A.deeper (envOfC qual scope s.heap.objs.size f cd)) (leaving (envOfC qual scope s.heap.objs.size f cd) e) (fun _ s''=>CX outer H s E e s'') (fun e' s''=>CX outer H s E e' s'') s'
theorem B8 {sc:Scope} {n:Nat} {x:Str} (h:sc.names.lookup x=some .cell):∃ c,(cellsFrom n sc.names []).lookup x=some c:=by
 have q:=PySem.W.cellsFrom_some sc.names n [] (.inl h);exact Option.isSome_iff_exists.mp q
theorem LA {CX:dh} {P:Program} {w:World} {K:PySem.W.Frag} {mg:Str→Option Value} {base:Heap} {N ps:List Str} {qual:Str} {scope:Scope} {f:Addr} {cd:Value} {A:Around} {outer:List Env} {s s1:Shared} {H:Hp} {E:XK} {us:List Value} {vs:List V}
  (S:aH N ps scope) (hd:A.handled=none) (e0:kz P w K mg base A outer s H) (hl:vs.length=ps.length) (r:Vals vs us)
  (x:InCallC s s.heap.objs.size (bindL (envOfC qual scope s.heap.objs.size f cd).kindOf (ps.zip us) fun _=>none) (cellsFrom (s.heap.objs.size+1) scope.names []) (bindC (envOfC qual scope s.heap.objs.size f cd).kindOf (ps.zip us) fun _=>none) s1) :
  Inv (fP CX P w K mg base N qual scope f cd A outer s H E) [] (start N vs) H s1:=by
 have bg:ps.length≤N.length:=by have:=congrArg List.length S.pre; rw [List.length_take] at this; omega
 obtain ⟨h1,tk,rfl,hk⟩:=x.done;have sJ:∀ b:Addr,b ∉ (fP CX P w K mg base N qual scope f cd A outer s H E).ex:=fun b z=>absurd (show b∈([]:List Addr) from z) (by simp);refine ⟨⟨e0.mod,S.kind,rfl,rfl,Nat.le_refl _,fun y z c h1 h2=>?_,fun y hy=>?_,fun y c _ h=>?_,fun _=>hd,Around.frames_deeper e0.frames,.inr ⟨rfl,rfl⟩,fun b z=>absurd z (sJ b),e0.bs,e0.gb,fun b _ _=>sJ b,fun b z=>absurd z (sJ b),e0.eY,e0.hU⟩,
  rfl,e0.bare,Un.kept hk,⟨_,x.toInCall.ns,fun i y v h1 h2 h3=>?_⟩,fun y c h=>⟨_,x.cell y c h⟩,e0.aC.fresh (Nat.le_refl _),fun y c h=>?_,fun p hp=>absurd (show p∈([]:List (Addr×Obj)) from hp) (by simp),e0.aC.kept hk,?_⟩
 ·exact name_of_addr x.apart (PySem.mem_of_lookup h1) (PySem.mem_of_lookup h2)
 ·have hy:scope.names.lookup y=some .cell∨scope.names.lookup y=some .free:=hy;rcases hy with hy | hy
  ·exact B8 hy
  ·exact absurd rfl (S.Pc _ (PySem.mem_of_lookup hy))
 ·exact Nat.le_of_lt (x.above y c (PySem.mem_of_lookup h))
 ·have hi:i < vs.length:=by
   unfold start at h2;by_cases hi:i < vs.length
   ·exact hi
   ·rw [List.getElem?_append_right (by simpa using hi)] at h2;rw [List.getElem?_replicate] at h2;split at h2 <;> cases h2
  have ha:vs[i]?=some v:=by
   unfold start at h2;rw [List.getElem?_append_left (by simpa using hi),List.getElem?_map] at h2;cases e:vs[i]? with
   | none=>rw [e] at h2; cases h2
   | some a=>rw [e] at h2; cases h2; rfl
  obtain ⟨u,hu,rv⟩:=r.get ha;have hp:ps[i]?=some y:=by
   rw [← S.pre,List.getElem?_take_of_lt (by omega)]; exact h1
  have Jz:ps.Nodup:=by rw [← S.pre]; exact S.nd.sublist (List.take_sublist _ _)
  refine ⟨u,rv,?_⟩;rcases S.par y (List.mem_of_getElem? hp) with k | k
  ·exact .inl ⟨k,C0 Jz hp hu k⟩
  ·obtain ⟨c,e⟩:=B8 (n:=s.heap.objs.size+1) k;refine .inr ⟨.inl k,c,e,?_⟩;have q:=x.cell y c e;rw [B1 Jz hp hu (by show scope.names.lookup y≠_; rw [k]; decide)] at q;exact q
 ·exact e0.aC.fresh (Nat.le_of_lt (x.above y c (PySem.mem_of_lookup h)))
 ·unfold start;show _=N.length;rw [List.length_append,List.length_map,List.length_replicate];omega
theorem yj {CX:dh} {P:Program} {w:World} {K:PySem.W.Frag} {mg:Str→Option Value} {base:Heap} {k:Nat} {f:Addr} {name qual:Str} {params:Arguments} {body:List Stmt} {scope:Scope} {dV kV doc pm az ct oc:Value} {an od:Option Addr}
  {cZ:Array (Option Value)} {N ps:List Str} {sp:Sp} (lk:K.lookup f=some ⟨oc,od,.func (PySem.W.fnOf name qual params body scope dV kV doc pm an az ct),cZ⟩) (cE:PySem.W.codeIn K az qual=true) (S:aH N ps scope)
  (len:∀ vs H Q E,sp vs H Q E→vs.length=ps.length)
  (AU:∀ (A:Around) (outer:List Env) (s:Shared) (H:Hp) (vs:List V) (Q:VK) (E:XK),bz k (A.deeper (envOfC qual scope s.heap.objs.size f az))→sp vs H Q E →
   ∃ t,cP (fP CX P w K mg base N qual scope f az A outer s H E) body t∧t { nx:=fun _ H'=>Q .ax H',rt:=Q } (start N vs) H) :
  aA P w K mg base CX (k+1) f (PySem.W.fnOf name qual params body scope dV kV doc pm an az ct) ps sp:=by
 refine ⟨len,fun A outer s H args us vs Q E hr e0 hb r fE=>?_⟩;have hl:=len _ _ _ _ fE;have KX:K.In s.heap:=e0.mod.gC.keeps fun b o e=>(e0.bs b o e).1;have lim:s.heap.NoLimit:=e0.mod.nolimit.keeps fun b o e=>(e0.bs b o e).1;have hkind:∀ y∈ps.zip us,scope.names.lookup y.1=some .local∨(scope.names.lookup y.1=some .cell∧((cellsFrom (s.heap.objs.size+1) scope.names []).lookup y.1).isSome=true):=fun ⟨n,v⟩ hy=>by
  rcases S.par n (List.of_mem_zip hy).1 with q | q
  ·exact .inl q
  ·exact .inr ⟨q,PySem.W.cellsFrom_some _ _ _ (.inl q)⟩
 refine codeAny_call_function hr.depth (KX _ _ lk) rfl S.co S.gen rfl (PySem.W.codeRec_of KX cE) (hb _ _ _ _ ?_);refine wpAny_newFunctionEnv_cells S.kind hkind fun env he s1 x=>?_;subst he;refine ⟨lim.keeps x.toInCall.keep,codeAny_func ?_⟩;obtain ⟨t,ht,hq⟩:=AU A outer s H vs Q E (hr.deeper _) fE;have I:Inv (fP CX P w K mg base N qual scope f az A outer s H E) [] (start N vs) H s1:=LA S hr.hd e0 hl r x;refine wpAny_mono (ht [] s1 (start N vs) H _ I hq) (fun fl s' hs=>?_) fun e s' hs=>hs;have fin:∀ {σ':St} {H':Hp} {v:V} {u:Value},Inv (fP CX P w K mg base N qual scope f az A outer s H E) [] σ' H' s'→RelV v u→Q v H'→CE outer P w H s Q u s' :=
  fun {σ' H' v u} J rv q=>⟨v,H',J.os,J.bare,J.base,J.aC,rv,q⟩
 cases fl with
 | ret u =>
  obtain ⟨v,σ',H',J,rv,q⟩:=hs;exact fin J rv q
 | next =>
  obtain ⟨σ',H',J,q⟩:=hs;exact fin (v:=V.ax) (u:=Value.none) J rfl q
 | brk =>
  obtain ⟨_,_,_,q⟩:=hs;exact False.elim q
 | cont =>
  obtain ⟨_,_,_,q⟩:=hs;exact False.elim q
end L2
namespace L2
open PySem PySem.Spec PyProof.Rows
section
variable {X:Cx} {x:Str} {p pos:Pos} {e:Expr} {es:List Expr} {t:TA} {id T:String} {r:List V→Hp→VK→Prop}
def lJ (r:List V→Hp→VK→Prop) (t:TA):TE:=fun σ H Q=>t σ H fun vs H1=>r vs H1 Q
theorem R8 (hc:cC X (.builtin id) r) (hg:Gl X x) (hm:X.mg x=none) (hv:bootBuiltins x=some (.builtin id)) (ha:PA X (e::es) t) (hn:x ≠ "__name__" := by decide) (bF:(x == ("__debug__" : Str))=false:=by decide)
  (he:starEach (e::es) X.env=(false,eval e X.env)::starEach es X.env:=by rfl) (bg:(backTo pos (starEach es X.env)).any (·.1)=false:=by rfl):PE X (.Call (.Name x p) (e::es) [] pos) (lJ r t):=by
 intro pins s σ H Q I h;refine wpAny_Call_Name_kw (lZ I hg hm hv ?_ hn bF);exact PyProof.Rows.callWith_builtin1 (aD (ha pos pins s σ H _ I h) fun us s1 ⟨vs,H1,I1,r1,q1⟩=>hc pins s1 σ H1 vs us Q I1 r1 q1) he bg
theorem O2 (hc:cC X (.type T) r) (hg:Gl X x) (hm:X.mg x=none) (hv:bootBuiltins x=some (.type T)) (ha:PA X (e::es) t) (hn:x ≠ "__name__" := by decide) (bF:(x == ("__debug__" : Str))=false:=by decide)
  (he:starEach (e::es) X.env=(false,eval e X.env)::starEach es X.env:=by rfl) (bg:(backTo pos (starEach es X.env)).any (·.1)=false:=by rfl):PE X (.Call (.Name x p) (e::es) [] pos) (lJ r t):=by
 intro pins s σ H Q I h;refine wpAny_Call_Name_kw (lZ I hg hm hv ?_ hn bF);exact PyProof.Rows.callWith_type1 (aD (ha pos pins s σ H _ I h) fun us s1 ⟨vs,H1,I1,r1,q1⟩=>hc pins s1 σ H1 vs us Q I1 r1 q1) he bg
end
end L2
namespace HT
open PySem PyProof.Rows
section
open PySem.SeqAt
open PySem.AutoSeq1 (wpAny_loadPart')
open PySem.MeetsSeq PySem.MeetsSeq2 PySem.MeetsSeq3
end
section
variable {prog:Program} {w:World} {A:Around} {E:Value→Shared→Prop} {s:Shared}
def bj (n d:Nat):Option Int→Nat
 | none=>d
 | some v=>if v < 0 then (v+(n:Int)).toNat else min v.toNat n
theorem Ti (n d:Nat):bj n d none=d:=rfl
theorem CM (n d k:Nat):bj n d (some (k:Int))=min k n:=by
 show (if (k:Int) < 0 then ((k:Int)+(n:Int)).toNat else min (k:Int).toNat n)=min k n;rw [if_neg (by omega),Int.toNat_natCast]
theorem UX (n d:Nat) (hd:d≤n) (o:Option Int):bj n d o≤n:=by
 cases o with
 | none=>exact hd
 | some v =>
  show (if v < 0 then (v+(n:Int)).toNat else min v.toNat n)≤n;by_cases hv:v < 0
  ·rw [if_pos hv]; omega
  ·rw [if_neg hv]; exact Nat.min_le_right _ _
theorem FZ (v:Int) (n d:Nat):(if v < 0 then max (v+(n:Int)) 0 else min v (n:Int))=((bj n d (some v):Nat):Int):=by
 show (if v < 0 then max (v+(n:Int)) 0 else min v (n:Int))=(((if v < 0 then (v+(n:Int)).toNat else min v.toNat n):Nat):Int);by_cases hv:v < 0
 ·simp only [if_pos hv]; omega
 ·simp only [if_neg hv]; omega
theorem OM (lo hi:Option Int) (n:Nat):Builtin.Slice.sliceAdjust lo hi 1 (n:Int)=(((bj n 0 lo:Nat):Int),((bj n n hi:Nat):Int)):=by
 have h1:¬ ((1:Int) < 0):=by omega
 unfold Builtin.Slice.sliceAdjust;simp only [h1,if_false];refine Prod.ext ?_ ?_
 ·cases lo with
  | none=>rfl
  | some v=>exact FZ v n 0
 ·cases hi with
  | none=>rfl
  | some v=>exact FZ v n n
theorem Ts (i j:Nat):Builtin.Slice.slicePlaces (i:Int) (j:Int) 1=j - i:=by
 unfold Builtin.Slice.slicePlaces;have h1:(1:Int) > 0:=by omega
 simp only [h1,if_true,Int.ediv_one];split <;> omega
theorem G0 {v:Value} {o:Option Int} {Q:Option Int→Shared→Prop} (p:IsPart v o) (h:Q o s):wpAny (model prog w) A (Builtin.Slice.slicePartIndex v) Q E s:=by
 cases p with
 | none=>exact slicePart_none h
 | int i t=>exact slicePart_int h
theorem U2 {sl:Addr} {vl vu:Value} {lo hi:Option Int} {n:Nat} {Q:Int×Int×Nat→Shared→Prop} (hs:s.heap.IsSliceOf sl vl vu .none) (pl:IsPart vl lo) (pu:IsPart vu hi)
  (h:Q (((bj n 0 lo:Nat):Int),1,bj n n hi - bj n 0 lo) s):wpAny (model prog w) A (Builtin.Slice.sliceApplied (.ref sl) (pure (n:Int))) Q E s:=by
 obtain ⟨os,mR,IS,vp⟩:=id hs;unfold Builtin.Slice.sliceApplied Builtin.Slice.sliceFields;refine wpAny_bind (wpAny_bind (wpAny_field mR vp (x:=vl) rfl (wpAny_bind (wpAny_field mR vp (x:=vu) rfl (wpAny_bind (wpAny_field mR vp (x:=.none) rfl (wpAny_pure ?_)))))));refine wpAny_bind (slicePart_none ?_);show wpAny _ _ (if ((1:Int) == 0)=true then _ else _) _ _ s;rw [if_neg (by decide)];refine wpAny_bind (G0 pl (wpAny_bind (G0 pu (wpAny_bind (wpAny_pure ?_)))));show wpAny _ _ (match Builtin.Slice.sliceAdjust lo hi 1 (n:Int) with | (lo,hi)=>pure (lo,(1:Int),Builtin.Slice.slicePlaces lo hi 1)) _ _ s;rw [OM lo hi n];show wpAny _ _ (pure (((bj n 0 lo:Nat):Int),(1:Int),Builtin.Slice.slicePlaces ((bj n 0 lo:Nat):Int) ((bj n n hi:Nat):Int) 1)) _ _ s;rw [Ts];exact wpAny_pure h
theorem Vo (xs:Array Value) (i k:Nat):((List.range k).filterMap fun (m:Nat)=>xs[((i:Int)+(m:Int) * 1).toNat]?).toArray=((xs.toList.drop i).take k).toArray:=by
 have e:(fun (m:Nat)=>xs[((i:Int)+(m:Int) * 1).toNat]?)=fun m=>xs[i+m]?:=by
  funext m
  have:((i:Int)+(m:Int) * 1).toNat=i+m:=by omega
  rw [this]
 rw [e];have:=pick_run xs i k;rw [List.filterMap_map] at this;have e2:((fun x=>xs[x]?) ∘ fun x=>i+x)=fun m=>xs[i+m]?:=rfl;rw [e2] at this;rw [this]
theorem NJ {t sl:Addr} {items:Array Value} {vl vu:Value} {lo hi:Option Int} {Q:Value→Shared→Prop} (ht:IsTup s.heap t items) (hs:s.heap.IsSliceOf sl vl vu .none) (pl:IsPart vl lo) (pu:IsPart vu hi)
  (hw:¬ (bj items.size 0 lo=0∧bj items.size items.size hi=items.size))
  (h:Q (.ref s.heap.objs.size) { s with heap:=s.heap.push { cls:=.type "tuple",data:=.seq ((items.toList.drop (bj items.size 0 lo)).take (bj items.size items.size hi - bj items.size 0 lo)).toArray } })
  (hsz:items.size≤sizeLine):wpAny (model prog w) A (getItem (.ref t) (.ref sl)) Q E s:=by
 have vm:sizeOk (.seq ((items.toList.drop (bj items.size 0 lo)).take (bj items.size items.size hi - bj items.size 0 lo)).toArray):=by
  show ((items.toList.drop (bj items.size 0 lo)).take (bj items.size items.size hi - bj items.size 0 lo)).toArray.size≤sizeLine;rw [List.size_toArray,List.length_take,List.length_drop,Array.length_toList];omega
 have hj:bj items.size items.size hi≤items.size:=UX _ _ (Nat.le_refl _) hi;obtain ⟨os,mR,IS,vp⟩:=id hs;have hTs:s.TypeIs (.ref sl) "slice" := ⟨os,mR,IS⟩;unfold getItem
 try with_reducible refine wpAny_holding ?_
 first | refine wpAny_bind (wpAny_pure ?_) | skip
 refine wpAny_bind (wpAny_sequenceKey ht.typeIs (by decide) ?_);refine wpAny_bind (wpAny_callSpecial?_slot (name:=Str.ofString "__getitem__") ht.typeIs PyProof.Rows.slot_tuple_getitem
  (wpAny_call_entry PyProof.Rows.slot_tuple_getitem ht.typeIs entry_tuple_getitem ?_ (args_tuple_getitem _ _)))
 show wpAny _ _ (Builtin.Tuple.tupleItemsOf (.ref t) >>= _) _ _ s;refine wpAny_bind (tupleItemsOf_ ht ?_);refine wpAny_bind (wpAny_typeOf hTs ?_);rw [if_pos (by decide)];refine wpAny_bind (U2 hs pl pu ?_);have hno:¬ ((((bj items.size 0 lo:Nat):Int) == 0 && (1:Int) == 1 && (bj items.size items.size hi - bj items.size 0 lo) == items.size)=true):=by
  intro q;rw [Bool.and_eq_true,Bool.and_eq_true] at q;have q1:((bj items.size 0 lo:Nat):Int)=0:=eq_of_beq q.1.1;have q2:bj items.size items.size hi - bj items.size 0 lo=items.size:=eq_of_beq q.2;exact hw ⟨by omega,by omega⟩
 show wpAny _ _ (if (((bj items.size 0 lo:Nat):Int) == 0 && (1:Int) == 1 && (bj items.size items.size hi - bj items.size 0 lo) == items.size)=true then _ else _) _ _ s;rw [if_neg hno,Vo]
 first
  | exact wpAny_bind (m:=Builtin.Tuple.tupleExact _) (wpAny_newObj_type (wpAny_pure ⟨_,rfl,wpAny_pure h⟩) vm)
  | exact wpAny_bind (m:=Builtin.Tuple.tupleExact _) (wpAny_newObj_type (wpAny_bind (wpAny_pure (wpAny_pure ⟨_,rfl,wpAny_pure h⟩))) vm)
  | exact wpAny_bind (wpAny_bind (m:=Builtin.Tuple.tupleExact _) (wpAny_newObj_type (wpAny_pure (wpAny_pure ⟨_,rfl,wpAny_pure h⟩)) vm))
  | exact wpAny_bind (wpAny_bind (m:=Builtin.Tuple.tupleExact _) (wpAny_newObj_type (wpAny_pure ⟨_,rfl,wpAny_pure h⟩) vm))
end
end HT
namespace L2
open PySem PySem.Spec PyProof.Rows
abbrev TO:=St→Hp→(Option Int→Hp→Prop)→Prop
def PO (X:Cx) (e:Option Expr) (t:TO):Prop :=
 ∀ (pins:List (Addr×Obj)) (s:Shared) (σ:St) (H:Hp) (Q:Option Int→Hp→Prop),Inv X pins σ H s→t σ H Q →
  wpAny (model X.prog X.w) X.A (evalPart e X.env) (fun u s'=>∃ o H',Inv X pins σ H' s'∧IsPart u o∧Q o H') X.xe s
def y9:TO:=fun _ H Q=>Q none H
section
variable {X:Cx} {e:Expr} {te:TE} {lo hi:Option Expr} {tl th:TO} {pos p2:Pos}
theorem Si:PO X none y9:=by
 intro pins s σ H Q I h;rw [evalPart_none];exact wpAny_pure ⟨none,H,I,.none,h⟩
def f7 (X:Cx) (r:V→Option Int→Option Int→Hp→VK→Prop):Prop :=
 ∀ (pins:List (Addr×Obj)) (s:Shared) (σ:St) (H:Hp) (x:V) (v vl vu:Value) (lo hi:Option Int) (sl:Addr) (Q:VK),Inv X pins σ H s→RelV x v→s.heap.IsSliceOf sl vl vu .none→IsPart vl lo→IsPart vu hi→r x lo hi H Q →
  ∃ T id,typeLookup (.type T) "__getitem__" = pure (some (.builtin id))∧s.TypeIs v T∧wpAny (model X.prog X.w) X.A (getItem v (.ref sl)) (EP X pins σ Q) X.xe s
theorem f7.or {r r':V→Option Int→Option Int→Hp→VK→Prop} (h:f7 X r) (h':f7 X r'):f7 X (fun x lo hi H Q=>r x lo hi H Q∨r' x lo hi H Q):=by
 intro pins s σ H x v vl vu lo hi sl Q I rx hs pl pu q;rcases q with q | q
 ·exact h pins s σ H x v vl vu lo hi sl Q I rx hs pl pu q
 ·exact h' pins s σ H x v vl vu lo hi sl Q I rx hs pl pu q
def zU (r:V→Option Int→Option Int→Hp→VK→Prop) (te:TE) (tl th:TO):TE:=fun σ H Q=>te σ H fun x H1=>tl σ H1 fun l H2=>th σ H2 fun u H3=>r x l u H3 Q
theorem Q1 {r:V→Option Int→Option Int→Hp→VK→Prop} (hr:f7 X r) (he:PE X e te) (hl:PO X lo tl) (hu:PO X hi th):PE X (.Subscript e (.Slice lo hi none p2) pos) (zU r te tl th):=by
 intro pins s σ H Q I h;refine Subscript_ (aD (he pins s σ H _ I h) fun v s1 ⟨x,H1,I1,r1,q1⟩=>?_);refine wpAny_Slice (aD (hl pins s1 σ H1 _ I1 q1) fun vl s2 ⟨l,H2,I2,pl,q2⟩=>aD (hu pins s2 σ H2 _ I2 q2) fun vu s3 ⟨u,H3,I3,pu,q3⟩=>?_);rw [evalPart_none];refine wpAny_pure ?_;have I4:Inv X pins σ H3 { s3 with heap:=s3.heap.push { cls:=.type "slice",data:=.fields #[vl,vu,.none] } }:=I3.kept (t':=s3.toks) fun b ob q=>Heap.get?_push_of_some _ q;obtain ⟨T,id,hT,ht,hg⟩:=hr pins { s3 with heap:=s3.heap.push { cls:=.type "slice",data:=.fields #[vl,vu,.none] } } σ H3 x v vl vu l u s3.heap.objs.size Q I4 r1 (Heap.IsSliceOf.new ..) pl pu q3;show wpAny (model X.prog X.w) X.A (subscriptTail e (.Slice lo hi none p2) v (.ref s3.heap.objs.size)) (EP X pins σ Q) X.xe { s3 with heap:=s3.heap.push { cls:=.type "slice",data:=.fields #[vl,vu,.none] } };exact tail_any (ops:=[.ref s3.heap.objs.size,v]) ht hT hg (by with_unfolding_all rfl)
def gA (xs:List V) (lo hi:Option Int):List V:=(xs.drop (HT.bj xs.length 0 lo)).take (HT.bj xs.length xs.length hi - HT.bj xs.length 0 lo)
theorem Fl (xs:List V) (lo hi:Option Int):(gA xs lo hi).length≤xs.length:=by
 unfold gA;rw [List.length_take,List.length_drop];omega
def F6 (K:PySem.W.Frag):V→Option Int→Option Int→Hp→VK→Prop:=fun x lo hi H Q=>∃ a xs,x=.ref a∧bV K H a xs ∧
 ¬ (HT.bj xs.length 0 lo=0∧HT.bj xs.length xs.length hi=xs.length)∧∀ p,H p=none→Q (.ref p) (upd H p (.tup (gA xs lo hi)))
theorem Vh:f7 X (F6 X.K):=by
 intro pins s σ H x v vl vu lo hi sl Q I rx hs pl pu h;obtain ⟨a,xs,rfl,hx,hw,q⟩:=h;cases rx;obtain ⟨aq,r,ht,hz⟩:=I.tuple hx;have hlen:aq.toArray.size=xs.length:=by rw [List.size_toArray]; exact r.length.symm
 refine ⟨"tuple",_,PyProof.Rows.slot_tuple_getitem.lookup,ht.typeIs,?_⟩;refine HT.NJ ht hs pl pu (by rw [hlen]; exact hw) ?_ (by rw [hlen]; exact hz);rw [hlen];refine ⟨.ref s.heap.objs.size,_,I.laid (t':=s.toks) (o:=.tup (gA xs lo hi)) (fun b ob q=>Heap.get?_push_of_some _ q) (Nat.le_refl _) ?_,rfl,q _ (I.aC.fresh (Nat.le_refl _))⟩;exact ⟨Nat.le_trans (Fl xs lo hi) hz,_,(r.drop (HT.bj xs.length 0 lo)).take (HT.bj xs.length xs.length hi - HT.bj xs.length 0 lo),IsTup.new _ _⟩
end
end L2
namespace L2
open PySem PySem.Spec PyProof.Rows
def fB (n:Nat) (i:Int):Option Nat:=if 0≤i then (if i < n then some i.toNat else none) else if -(n:Int)≤i then some (i+n).toNat else none
def cq {α:Type} (xs:List α) (i:Int):Option α:=(fB xs.length i).bind fun j=>xs[j]?
theorem Dq {n:Nat} {i:Int} {j:Nat} (h:fB n i=some j):seqIndex? i n=some j∧j < n∧-(n:Int)≤i∧i < n:=by
 unfold fB at h;by_cases h0:0≤i
 ·rw [if_pos h0] at h;by_cases h1:i < n
  ·rw [if_pos h1] at h;have e:i.toNat=j:=Option.some.inj h;exact ⟨by rw [seqIndex_of h0 h1,e],by omega,by omega,h1⟩
  ·rw [if_neg h1] at h; cases h
 ·rw [if_neg h0] at h;by_cases h1:-(n:Int)≤i
  ·rw [if_pos h1] at h;have e:(i+n).toNat=j:=Option.some.inj h;exact ⟨by rw [seqIndex_neg (by omega) h1,e],by omega,h1,by omega⟩
  ·rw [if_neg h1] at h; cases h
theorem zG {α:Type} {xs:List α} {i:Int} {v:α} (h:cq xs i=some v):∃ j,seqIndex? i xs.length=some j∧xs[j]?=some v∧j < xs.length∧-(xs.length:Int)≤i∧i < xs.length:=by
 unfold cq at h;cases e:fB xs.length i with
 | none=>rw [e] at h; cases h
 | some j =>
  rw [e] at h;obtain ⟨h1,h2,h3,h4⟩:=Dq e;exact ⟨j,h1,h,h2,h3,h4⟩
theorem gH {α:Type} {xs:List α} {j:Nat} {v:α} (h:xs[j]?=some v):cq xs (j:Int)=some v:=by
 have hj:j < xs.length:=(List.getElem?_eq_some_iff.mp h).1;have e:fB xs.length (j:Int)=some j:=by
  unfold fB;rw [if_pos (by omega),if_pos (by omega)]; simp
 unfold cq; rw [e]; exact h
theorem jr {α:Type} (xs:List α) (v:α):cq (xs++[v]) (-1)=some v:=by
 have hl:(xs++[v]).length=xs.length+1:=by simp
 have e:fB (xs++[v]).length (-1)=some xs.length:=by
  unfold fB;rw [hl,if_neg (by decide),if_pos (by omega)]
  congr 1
  omega
 unfold cq;rw [e];show (xs++[v])[xs.length]?=some v;simp
def Gg (b:Expr):Prop:=∀ o i,subscripted b false o i=operate [o,i] (getItem o i)
def eC (X:Cx) (r:R2):Prop :=
 ∀ (value slice:Expr) (pins:List (Addr×Obj)) (s:Shared) (σ:St) (H:Hp) (x y:V) (v u:Value) (Q:VK),Inv X pins σ H s→RelV x v→RelV y u→r x y H Q →
  subscripted slice false v u=operate [v,u] (getItem v u)→wpAny (model X.prog X.w) X.A (subscriptTail value slice v u) (EP X pins σ Q) X.xe s
def cO (X:Cx) (id:String) (r:V→List V→Hp→VK→Prop):Prop :=
 ∀ (pins:List (Addr×Obj)) (s:Shared) (σ:St) (H:Hp) (x:V) (xs:List V) (v:Value) (us:List Value) (Q:VK),Inv X pins σ H s→RelV x v→Vals xs us→r x xs H Q →
  wpAny (model X.prog X.w) X.A (call (.builtin id) (v::us)) (EP X pins σ Q) X.xe s
section
variable {X:Cx} {a b:Expr} {ta tb:TE} {pos:Pos}
theorem eC.or {r r':R2} (h:eC X r) (h':eC X r'):eC X (fun x y H Q=>r x y H Q∨r' x y H Q):=by
 intro value slice pins s σ H x y v u Q I rx ry q hs;rcases q with q | q
 ·exact h value slice pins s σ H x y v u Q I rx ry q hs
 ·exact h' value slice pins s σ H x y v u Q I rx ry q hs
theorem M8 {r:R2} (hr:eC X r) (ha:PE X a ta) (hb:PE X b tb) (hs:Gg b):PE X (.Subscript a b pos) (gG r ta tb):=by
 intro pins s σ H Q I h;exact Subscript_ (xN ha hb I h fun v u s2 x y H2 I2 rx ry q=>hr a b pins s2 σ H2 x y v u Q I2 rx ry q (hs _ _))
def Gn (K:PySem.W.Frag):R2:=fun x y H Q=>∃ p xs i v,x=.ref p∧y=.int i∧aK K H p xs∧cq xs i=some v∧Q v H
def DP (K:PySem.W.Frag):R2:=fun x y H Q=>∃ p xs i v,x=.ref p∧y=.int i∧bV K H p xs∧cq xs i=some v∧Q v H
def Ha:R2:=fun x y H Q=>∃ z i c,x=.str z∧y=.int i∧z.length≤sizeLine∧cq z.cps.toList i=some c∧Q (.str ⟨#[c]⟩) H
theorem EC:eC X (Gn X.K):=by
 intro value slice pins s σ H x y v u Q I rx ry h hs;obtain ⟨p,xs,i,z,rfl,rfl,hq,he,q⟩:=h;cases rx;obtain ⟨t,rfl⟩:=ry;obtain ⟨aq,r,pl,hz⟩:=I.list hq;obtain ⟨j,h1,h2,h3,h4,h5⟩:=zG he;obtain ⟨w,ew,rw'⟩:=r.get h2;have hl:=r.length;have hn:=qX;have fin:EP X pins σ Q w s:=⟨z,H,I,rw',q⟩;by_cases h0:0≤i
 ·have hj:i.toNat=j:=by
   rw [seqIndex_of h0 h5] at h1;exact Option.some.inj h1
  exact item_listR pl.isList h0 (by omega) (by rw [hj]; simpa using ew) fin hs
 ·have hj:(i+(aq.toArray.size:Int)).toNat=j:=by
   rw [seqIndex_neg (by omega) h4] at h1;rw [List.size_toArray,← hl];exact Option.some.inj h1
  exact subscriptTail_builtinR (x:=w) pl.isList.typeIs slot_list_getitem.lookup
   (wpAny_getItem_list_neg (Q:=fun r s'=>r=w∧EP X pins σ Q r s') pl.isList (by omega) (by rw [List.size_toArray] <;> omega) (by omega) (by rw [hj]; simpa using ew) ⟨rfl,fin⟩) hs
theorem Kt:eC X (DP X.K):=by
 intro value slice pins s σ H x y v u Q I rx ry h hs;obtain ⟨p,xs,i,z,rfl,rfl,hq,he,q⟩:=h;cases rx;obtain ⟨t,rfl⟩:=ry;obtain ⟨aq,r,pl,hz⟩:=I.tuple hq;obtain ⟨j,h1,h2,h3,h4,h5⟩:=zG he;obtain ⟨w,ew,rw'⟩:=r.get h2;have hl:=r.length;have hn:=qX;have fin:EP X pins σ Q w s:=⟨z,H,I,rw',q⟩;exact subscriptTail_builtinR (x:=w) pl.typeIs slot_tuple_getitem.lookup
  (getItem_tuple (j:=j) (Q:=fun r s'=>r=w∧EP X pins σ Q r s') pl (by omega) (by omega) (by rw [List.size_toArray,← hl]; exact h1) (by simpa using ew) ⟨rfl,fin⟩) hs
theorem Na:eC X Ha:=by
 intro value slice pins s σ H x y v u Q I rx ry h hs;obtain ⟨z,i,c,rfl,rfl,hz,he,q⟩:=h;obtain ⟨t,rfl⟩:=rx;obtain ⟨t',rfl⟩:=ry;obtain ⟨j,h1,h2,h3,h4,h5⟩:=zG he;have hl:z.cps.toList.length=z.length:=by simp [Str.length]
 rw [hl] at h1 h4 h5;have hn:=qX;exact tail_any (typeIs_str s z t) slot_str_getitem.lookup (getItem_str (c:=c) (by
  have e1:decide (i < -(2 ^ 63:Int))=false:=decide_eq_false (by omega);have e2:decide (i ≥ 2 ^ 63)=false:=decide_eq_false (by omega);rw [e1,e2,Bool.or_false]) (by rw [h1]; simpa using h2) ⟨.str ⟨#[c]⟩,H,I.tok _,⟨_,rfl⟩,q⟩) hs
def Kv (K:PySem.W.Frag):R2:=fun x y H Q=>Gn K x y H Q∨DP K x y H Q∨Ha x y H Q
theorem Vs:eC X (Kv X.K):=EC.or (Kt.or Na)
theorem Su (aq:List Value) (n j:Nat) (u:Value):Obj.mapSeq (·.setIfInBounds j u) { cls:=.type "list",data:=.seq aq.toArray n }={ cls:=.type "list",data:=.seq (aq.set j u).toArray n }:=by
 simp [Obj.mapSeq]
theorem Inv.lst {pins:List (Addr×Obj)} {σ:St} {H:Hp} {s:Shared} {p:Addr} {xs:List V} (I:Inv X pins σ H s) (h:H p=some (.lst xs)) :
  ∃ (aq:List Value) (n:Nat),Vals xs aq∧s.heap.get? p=some { cls:=.type "list",data:=.seq aq.toArray n }∧xs.length≤sizeLine:=by
 obtain ⟨z,aq,n,r,e⟩:=I.aC p _ h;exact ⟨aq,n,r,e,z⟩
theorem Inv.K8 {pins:List (Addr×Obj)} {σ:St} {H:Hp} {s:Shared} {p:Addr} {xs ys:List V} {aq its':List Value} {n n':Nat} {f:Obj→Obj} (I:Inv X pins σ H s) (h:H p=some (.lst xs))
  (ho:s.heap.get? p=some { cls:=.type "list",data:=.seq aq.toArray n }) (hf:f { cls:=.type "list",data:=.seq aq.toArray n }={ cls:=.type "list",data:=.seq its'.toArray n' }) (r:Vals ys its') (hz:ys.length≤sizeLine) (t:Nat) :
  Inv X pins σ (upd H p (.lst ys)) { s with heap:=s.heap.update p f,toks:=t }:=by
 have e:(s.heap.update p f).get? p=some { cls:=.type "list",data:=.seq its'.toArray n' }:=by
  rw [Heap.get?_update_self f ho (by rw [hf] <;> rfl),hf]
 refine I.write (x:=p) (e:=p) (by rw [h]; trivial) (.inl rfl) (fun b u hb q=>(Heap.get?_update_other _ _ (Ne.symm hb)).trans q) ⟨_,e⟩ ?_;exact ⟨hz,its',n',r,e⟩
def M7:V→V→V→Hp→(Hp→Prop)→Prop:=fun o i v H Q=>∃ p xs k j,o=.ref p∧i=.int k∧H p=some (.lst xs)∧fB xs.length k=some j∧Q (upd H p (.lst (xs.set j v)))
theorem set_list:sP X M7:=by
 intro pins s σ H o i v ov iv u Q I ro ri rv h;obtain ⟨p,xs,k,j,rfl,rfl,hp,hj,q⟩:=h;cases ro;obtain ⟨t,rfl⟩:=ri;obtain ⟨aq,n,r,ho,hz⟩:=I.lst hp;obtain ⟨h1,h2,h3,h4⟩:=Dq hj;have hl:=r.length;have hn:=qX;have I':Inv X pins σ (upd H p (.lst (xs.set j v))) { s with heap:=s.heap.update p (Obj.mapSeq (·.setIfInBounds j u)) } :=
  I.K8 hp ho (Su aq n j u) (r.set rv j) (by rw [List.length_set]; exact hz) s.toks
 by_cases h0:0≤k
 ·have hk:k.toNat=j:=by
   rw [seqIndex_of h0 h4] at h1;exact Option.some.inj h1
  exact PySem.W.ki_setAt ho h0 (by omega) (by rw [List.size_toArray,← hl]; exact h4) (by rw [hk]; exact ⟨_,I',q⟩)
 ·have hk:(k+(aq.toArray.size:Int)).toNat=j:=by
   rw [seqIndex_neg (by omega) h3] at h1;rw [List.size_toArray,← hl];exact Option.some.inj h1
  exact PySem.W.ki_setBack ho (by omega) (by rw [List.size_toArray,← hl]; exact h3) (by omega) (by rw [hk]; exact ⟨_,I',q⟩)
theorem P2 (lo hi:Option Int) (n:Nat):(sliceBounds lo hi none n).1=((HT.bj n 0 lo:Nat):Int)∧(sliceBounds lo hi none n).2.1=((HT.bj n n hi:Nat):Int)∧(sliceBounds lo hi none n).2.2=1:=by
 refine ⟨?_,?_,rfl⟩
 ·cases lo with
  | none=>simp [sliceBounds,HT.bj]
  | some i =>
   simp only [sliceBounds,HT.bj,Option.getD_none,show (1:Int) > 0 by decide,if_true];by_cases h:i < 0
   ·simp only [h,if_true] <;> omega
   ·simp only [h,if_false] <;> omega
 ·cases hi with
  | none=>simp [sliceBounds,HT.bj]
  | some i =>
   simp only [sliceBounds,HT.bj,Option.getD_none,show (1:Int) > 0 by decide,if_true];by_cases h:i < 0
   ·simp only [h,if_true] <;> omega
   ·simp only [h,if_false] <;> omega
theorem U3 (aq:List Value) (lo hi:Option Int):slicePick aq.toArray lo hi none=((aq.drop (HT.bj aq.length 0 lo)).take (HT.bj aq.length aq.length hi - HT.bj aq.length 0 lo)).toArray:=by
 obtain ⟨h1,h2,h3⟩:=P2 lo hi aq.toArray.size;unfold slicePick;rw [h1,h2,h3];simp only [sliceRange_one,pick_run,List.size_toArray] <;> rfl
def Rw (K:PySem.W.Frag):V→Option Int→Option Int→Hp→VK→Prop:=fun x lo hi H Q=>∃ a xs,x=.ref a∧aK K H a xs∧∀ p,H p=none→Q (.ref p) (upd H p (.lst (gA xs lo hi)))
theorem Ks:f7 X (Rw X.K):=by
 intro pins s σ H x v vl vu lo hi sl Q I rx hs pl pu h;obtain ⟨a,xs,rfl,hx,q⟩:=h;cases rx;obtain ⟨aq,r,ht,hz⟩:=I.list hx;have hlen:=r.length;refine ⟨"list",_,slot_list_getitem.lookup,ht.isList.typeIs,?_⟩;refine wpAny_getItem_list_slice ht.isList hs pl pu .none (by simp) ?_ (by rw [List.size_toArray] <;> omega);rw [U3,← hlen];refine ⟨.ref s.heap.objs.size,_,I.laid (t':=s.toks) (o:=.lst (gA xs lo hi)) (fun b ob q=>Heap.get?_push_of_some _ q) (Nat.le_refl _) ?_,rfl,q _ (I.aC.fresh (Nat.le_refl _))⟩;exact ⟨Nat.le_trans (Fl xs lo hi) hz,_,0,(r.drop (HT.bj xs.length 0 lo)).take (HT.bj xs.length xs.length hi - HT.bj xs.length 0 lo),Heap.get?_push_size _ rfl⟩
def cm:V→Bool
 | .ax=>true
 | .bl _=>true
 | .int _=>true
 | .str _=>true
 | _=>false
def eN:V→V→Bool
 | .ax,.ax=>true
 | .bl a,.bl b=>a == b
 | .bl a,.int b=>(if a then 1 else 0) == b
 | .int a,.bl b=>a == (if b then 1 else 0)
 | .int a,.int b=>a == b
 | .str a,.str b=>a == b
 | _,_=>false
theorem BW {A:Around} {s:Shared} {y x:V} {u v:Value} (ry:RelV y u) (rx:RelV x v) (fy:cm y=true) (fx:cm x=true):SeqAt.EqAt A s u v (eN y x):=by
 cases y with
 | ax =>
  cases ry;cases x with
  | ax=>cases rx; exact SeqAt.EqAt.same _
  | bl b=>cases rx; exact SeqAt.EqAt.none_bool b
  | int b=>obtain ⟨t,rfl⟩:=rx; exact SeqAt.EqAt.none_int b t
  | str b=>obtain ⟨t,rfl⟩:=rx; exact SeqAt.EqAt.none_str b t
  | _=>exact absurd (show false=true from fx) Bool.false_ne_true
 | bl a =>
  cases ry;cases x with
  | ax=>cases rx; exact SeqAt.EqAt.bool_none a
  | bl b=>cases rx; exact SeqAt.EqAt.bool_bool a b
  | int b=>obtain ⟨t,rfl⟩:=rx; exact SeqAt.EqAt.bool_int a b t
  | str b=>obtain ⟨t,rfl⟩:=rx; exact SeqAt.EqAt.bool_str a b t
  | _=>exact absurd (show false=true from fx) Bool.false_ne_true
 | int a =>
  obtain ⟨t',rfl⟩:=ry;cases x with
  | ax=>cases rx; exact SeqAt.EqAt.int_none a t'
  | bl b=>cases rx; exact SeqAt.EqAt.int_bool a t' b
  | int b=>obtain ⟨t,rfl⟩:=rx; exact SeqAt.EqAt.int_int a t' b t
  | str b=>obtain ⟨t,rfl⟩:=rx; exact SeqAt.EqAt.int_str a t' b t
  | _=>exact absurd (show false=true from fx) Bool.false_ne_true
 | str a =>
  obtain ⟨t',rfl⟩:=ry;cases x with
  | ax=>cases rx; exact SeqAt.EqAt.str_none a t'
  | bl b=>cases rx; exact SeqAt.EqAt.str_bool a t' b
  | int b=>obtain ⟨t,rfl⟩:=rx; exact SeqAt.EqAt.str_int a t' b t
  | str b=>obtain ⟨t,rfl⟩:=rx; exact SeqAt.EqAt.str_str a t' b t
  | _=>exact absurd (show false=true from fx) Bool.false_ne_true
 | _=>exact absurd (show false=true from fy) Bool.false_ne_true
def eW (x:V) (u:Value):Bool:=match u with
 | .none=>eN .ax x
 | .bool b=>eN (.bl b) x
 | .int i _=>eN (.int i) x
 | .str z _=>eN (.str z) x
 | _=>false
theorem FF {x y:V} {u:Value} (r:RelV y u) (f:cm y=true):eW x u=eN y x:=by
 cases y with
 | ax=>cases r; rfl
 | bl b=>cases r; rfl
 | int i=>obtain ⟨t,rfl⟩:=r; rfl
 | str z=>obtain ⟨t,rfl⟩:=r; rfl
 | _=>exact absurd (show false=true from f) Bool.false_ne_true
theorem rk {x:V}:∀ {xs:List V} {us:List Value},Vals xs us→xs.all cm=true→us.any (eW x)=xs.any fun y=>eN y x
 | _,_,.nil,_=>rfl
 | y::xs,u::us,.cons r t,f=>by
  rw [List.all_cons,Bool.and_eq_true] at f;rw [List.any_cons,List.any_cons,FF r f.1,rk t f.2]
theorem rK {A:Around} {s:Shared} {x:V} {v:Value} (rx:RelV x v) (fx:cm x=true):∀ {xs:List V} {us:List Value},Vals xs us→xs.all cm=true→∀ u∈us,SeqAt.EqAt A s u v (eW x u)
 | _,_,.nil,_=>fun u hu=>by cases hu
 | y::xs,u::us,.cons r t,f=>fun u' hu=>by
  rw [List.all_cons,Bool.and_eq_true] at f;rcases List.mem_cons.mp hu with rfl | hu
  ·rw [FF r f.1]; exact BW r rx f.1 fx
  ·exact rK rx fx t f.2 u' hu
def fQ (x:V) (xs:List V):Bool:=xs.any fun y=>eN y x
def Gp (K:PySem.W.Frag) (neg:Bool):R2:=fun x y H Q=>∃ p xs,y=.ref p∧(aK K H p xs∨bV K H p xs)∧cm x=true∧xs.all cm=true∧Q (.bl (if neg then !fQ x xs else fQ x xs)) H
theorem G7:bc X (compareOp .In) (Gp X.K false):=by
 intro pins s σ H x y v u Q I rx ry h;obtain ⟨p,xs,rfl,hq,fx,fs,q⟩:=h;cases ry;rcases hq with hq | hq
 ·obtain ⟨aq,r,pl,hz⟩:=I.list hq;refine SeqAt.in_listAt (eW x) pl.isList (fun w hw=>rK rx fx r fs w (by simpa using hw)) ⟨.bl _,H,I,rfl,?_⟩;rw [show aq.toArray.any (eW x)=aq.any (eW x) by simp,rk r fs];exact q
 ·obtain ⟨aq,r,pl,hz⟩:=I.tuple hq;refine SeqAt.in_tupleAt (eW x) pl (fun w hw=>rK rx fx r fs w (by simpa using hw)) ⟨.bl _,H,I,rfl,?_⟩;rw [show aq.toArray.any (eW x)=aq.any (eW x) by simp,rk r fs];exact q
theorem Sn:bc X (compareOp .NotIn) (Gp X.K true):=by
 intro pins s σ H x y v u Q I rx ry h;obtain ⟨p,xs,rfl,hq,fx,fs,q⟩:=h;cases ry;rcases hq with hq | hq
 ·obtain ⟨aq,r,pl,hz⟩:=I.list hq;refine SeqAt.notIn_listAt (eW x) pl.isList (fun w hw=>rK rx fx r fs w (by simpa using hw)) ⟨.bl _,H,I,rfl,?_⟩;rw [show aq.toArray.any (eW x)=aq.any (eW x) by simp,rk r fs];exact q
 ·obtain ⟨aq,r,pl,hz⟩:=I.tuple hq;refine SeqAt.notIn_tupleAt (eW x) pl (fun w hw=>rK rx fx r fs w (by simpa using hw)) ⟨.bl _,H,I,rfl,?_⟩;rw [show aq.toArray.any (eW x)=aq.any (eW x) by simp,rk r fs];exact q
def SO (K:PySem.W.Frag) (T:String) (x:V) (H:Hp):Prop:=match x with
 | .str _=>T = "str"
 | .int _=>T = "int"
 | .ref p=>(T = "list" ∧ ∃ xs,aK K H p xs)∨(T = "tuple" ∧ ∃ o,K.lookup p=some o∧o.cls=.type "tuple" ∧ o.dict=none) ∨
   (T = "dict" ∧ ((∃ kvs,H p=some (.dK kvs))∨∃ kvs,H p=some (.dT kvs)))∨(T = "set" ∧ ∃ S n,H p=some (.set S n))
 | _=>False
theorem yk {pins:List (Addr×Obj)} {σ:St} {H:Hp} {s:Shared} {T:String} {x:V} {v:Value} (I:Inv X pins σ H s) (r:RelV x v) (ty:SO X.K T x H) :
  s.TypeIs v T∧∀ a,v=.ref a→∃ ob,s.heap.get? a=some ob∧ob.dict=none:=by
 cases x with
 | str z =>
  obtain ⟨t,rfl⟩:=r;cases (show T = "str" from ty);exact ⟨typeIs_str s z t,fun _ e=>nomatch e⟩
 | int i =>
  obtain ⟨t,rfl⟩:=r;cases (show T = "int" from ty);exact ⟨typeIs_int s i t,fun _ e=>nomatch e⟩
 | ref p =>
  cases r;rcases ty with ⟨rfl,xs,hq⟩ | ⟨rfl,o,hk,hc,hd⟩ | ⟨rfl,hk⟩ | ⟨rfl,S,n,hk⟩
  ·obtain ⟨aq,_,pl,_⟩:=I.list hq;refine ⟨pl.isList.typeIs,fun a e=>?_⟩;cases e;obtain ⟨o,n,e,c,hd,_⟩:=pl;exact ⟨o,e,hd⟩
  ·refine ⟨⟨o,I.bQ p o hk,hc⟩,fun a e=>?_⟩;cases e;exact ⟨o,I.bQ _ o hk,hd⟩
  ·have z:∃ o,s.heap.get? p=some o∧o.ExactDict:=by
    rcases hk with ⟨kvs,hk⟩ | ⟨kvs,hk⟩
    ·obtain ⟨_,_,_,_,o,_,_,e,ex,_⟩:=I.aC p _ hk;exact ⟨o,e,ex⟩
    ·obtain ⟨_,_,_,_,o,_,_,e,ex,_⟩:=I.aC p _ hk;exact ⟨o,e,ex⟩
   obtain ⟨o,e,ex⟩:=z;refine ⟨⟨o,e,ex.1⟩,fun a e2=>?_⟩;cases e2;exact ⟨o,e,ex.2.1⟩
  ·obtain ⟨o,_,_,_,e,ex,_⟩:=I.aC p _ hk;refine ⟨⟨o,e,ex.1⟩,fun a e2=>?_⟩;cases e2;exact ⟨o,e,ex.2.1⟩
 | _=>exact False.elim ty
variable {o e:Expr} {es:List Expr} {to:TE} {t:TA} {name:Str} {apos bt:Pos} {T id:String} {r:V→List V→Hp→VK→Prop}
/- xs.append(e),list.index on a module's tuple .. are cO facts of 06m -/
end
end L2
namespace L2
open PySem PySem.Spec PyProof.Rows
def tV (X:Cx) (id:String) (r:V→List V→Hp→VK→Prop):Prop :=
 ∀ (pins:List (Addr×Obj)) (s:Shared) (σ:St) (H:Hp) (x:V) (xs:List V) (v:Value) (us:List Value) (Q:VK),Inv X pins σ H s→RelV x v→Vals xs us→r x xs H Q →
  wpAny (model X.prog X.w) X.A (call (.builtin id) (v::us)) (EP X pins σ Q) X.xe s
theorem Vals.one:∀ {x:V} {us:List Value},Vals [x] us→∃ u,us=[u]∧RelV x u
 | _,_,.cons r .nil=>⟨_,rfl,r⟩
theorem Vals.zero:∀ {us:List Value},Vals [] us→us=[]
 | _,.nil=>rfl
theorem Vals.dropLast {xs:List V} {us:List Value} (h:Vals xs us):Vals xs.dropLast us.dropLast:=by
 induction h with
 | nil=>exact .nil
 | cons r t ih =>
  cases t with
  | nil=>exact .nil
  | cons q t'=>exact .cons r ih
theorem Vals.eraseIdx:∀ {xs:List V} {us:List Value} (i:Nat),Vals xs us→Vals (xs.eraseIdx i) (us.eraseIdx i)
 | _,_,_,.nil=>.nil
 | _,_,0,.cons _ t=>t
 | _,_,i+1,.cons r t=>.cons r (Vals.eraseIdx i t)
theorem Vals.rep {xs:List V} {us:List Value} (h:Vals xs us):∀ k:Nat,Vals (List.replicate k xs).flatten (List.replicate k us).flatten
 | 0=>.nil
 | k+1=>by
  rw [List.replicate_succ,List.replicate_succ,List.flatten_cons,List.flatten_cons];exact Vals.append h (Vals.rep h k)
theorem LC {α:Type} (l:List α):l.eraseIdx (l.length - 1)=l.dropLast:=by
 induction l with
 | nil=>rfl
 | cons a r ih =>
  cases r with
  | nil=>rfl
  | cons b r =>
   have e:(a::b::r).length - 1=((b::r).length - 1)+1:=by
    have h1:(a::b::r).length=r.length+2:=rfl;have h2:(b::r).length=r.length+1:=rfl;omega
   rw [e,List.eraseIdx_cons_succ,ih]
   all_goals rfl
theorem Gq {α:Type}:∀ (l:List α) (i:Nat),(l.eraseIdx i).length≤l.length
 | [],_=>Nat.le_refl _
 | _::_,0=>Nat.le_succ _
 | _::r,i+1=>Nat.succ_le_succ (Gq r i)
theorem foldl_rep (aq:List Value):∀ (k:Nat) (acc:List Value),
  List.foldl (fun x1 x2=>x1++x2) acc.toArray (List.replicate k aq.toArray)=(acc++(List.replicate k aq).flatten).toArray
 | 0,acc=>by simp
 | k+1,acc=>by
  have e:acc.toArray++aq.toArray=(acc++aq).toArray:=by simp
  have e2:(acc++aq)++(List.replicate k aq).flatten=acc++(List.replicate (k+1) aq).flatten:=by
   rw [List.replicate_succ,List.flatten_cons,List.append_assoc]
  rw [← e2,← foldl_rep aq k (acc++aq),← e,List.replicate_succ,List.foldl_cons]
section
variable {X:Cx} {pins:List (Addr×Obj)} {σ:St} {H:Hp} {s:Shared} {l b:Addr} {xs ys zs:List V}
theorem Inv.sZ {aq its':List Value} {n:Nat} {f:Array Value→Array Value} {t':Nat} (I:Inv X pins σ H s) (hH:H l=some (.lst xs))
  (e:s.heap.get? l=some { cls:=.type "list",data:=.seq aq.toArray n }) (hf:f aq.toArray=its'.toArray) (hv:Vals ys its') (hz:ys.length≤sizeLine) :
  Inv X pins σ (upd H l (.lst ys)) { s with heap:=s.heap.update l (Obj.mapSeq f),toks:=t' }:=by
 have q:=PySem.IsL.update e f;rw [hf] at q;refine I.write (x:=l) (e:=l) (by rw [hH]; exact trivial) (.inl rfl) (fun b' u hb hu=>(Heap.get?_update_other s.heap (Obj.mapSeq f) (Ne.symm hb)).trans hu) ⟨_,q⟩ ?_;exact ⟨hz,its',_,hv,q⟩
theorem Inv.D8 {aq:List Value} {t':Nat} (I:Inv X pins σ H s) (hv:Vals ys aq) (hz:ys.length≤sizeLine) :
  Inv X pins σ (upd H s.heap.objs.size (.lst ys)) { s with heap:=s.heap.push { cls:=.type "list",data:=.seq aq.toArray },toks:=t' } :=
 I.laid (fun _ _ q=>Heap.get?_push_of_some _ q) (Nat.le_refl _) ⟨hz,aq,0,hv,Heap.get?_push_size _ rfl⟩
theorem Inv.fresh (I:Inv X pins σ H s):H s.heap.objs.size=none:=I.aC.fresh (Nat.le_refl _)
theorem Inv.jZ (I:Inv X pins σ H s) (hH:H l=some (.lst xs)):xs.length≤sizeLine∧∃ (aq:List Value) (n:Nat),Vals xs aq∧xs.length=aq.length∧s.heap.get? l=some { cls:=.type "list",data:=.seq aq.toArray n }:=by
 obtain ⟨z,aq,n,r,e⟩:=I.aC l _ hH;exact ⟨z,aq,n,r,r.length,e⟩
theorem F4 {n:Nat} (h:n≤sizeLine):Builtin.List.listTooLong n=false:=by
 unfold Builtin.List.listTooLong;exact decide_eq_false (by omega)
end
section
variable {X:Cx}
def Vu:V→List V→Hp→VK→Prop:=fun x vs H Q=>∃ l xs y,x=.ref l∧vs=[y]∧H l=some (.lst xs)∧xs.length < sizeLine∧Q .ax (upd H l (.lst (xs++[y])))
theorem LX:tV X "list.append" Vu:=by
 intro pins s σ H x vs v us Q I rx rv h;obtain ⟨l,xs,y,rfl,rfl,hH,hz,q⟩:=h;cases rx;obtain ⟨u,rfl,ru⟩:=rv.one;obtain ⟨z,aq,n,r,hl,e⟩:=I.jZ hH;refine call_meets F.slot_list_append ⟨_,e,rfl⟩ F.entry_list_append (F.args_list_append_2 _ _) (PySem.list_append l aq.toArray n u (by rw [List.size_toArray]; omega)) ⟨e,?_⟩;refine ⟨.ax,_,I.sZ (its':=aq++[u]) hH e (by simp) (r.append (.cons ru .nil)) ?_,rfl,q⟩;rw [List.length_append,List.length_singleton];omega
def Vm:V→List V→Hp→VK→Prop:=fun x vs H Q=>∃ l b xs zs,x=.ref l∧vs=[.ref b]∧H l=some (.lst xs)∧H b=some (.lst zs)∧xs.length+zs.length≤sizeLine∧Q .ax (upd H l (.lst (xs++zs)))
theorem Pt:tV X "list.extend" Vm:=by
 intro pins s σ H x vs v us Q I rx rv h;obtain ⟨l,b,xs,zs,rfl,rfl,hH,hB,hz,q⟩:=h;cases rx;obtain ⟨u,rfl,ru⟩:=rv.one;cases ru;obtain ⟨z,aq,n,r,hl,e⟩:=I.jZ hH;obtain ⟨z2,mv,n2,r2,ck,e2⟩:=I.jZ hB;have hsz:aq.toArray.size+mv.toArray.size≤sizeLine:=by rw [List.size_toArray,List.size_toArray]; omega
 have AR:¬ (!aq.toArray.isEmpty && Builtin.List.listTooLong (aq.toArray.size+mv.toArray.size))=true:=by
  rw [F4 hsz,Bool.and_false];exact Bool.false_ne_true
 refine call_meets F.slot_list_extend ⟨_,e,rfl⟩ F.entry_list_extend (F.args_list_extend_2 _ _)
  (AutoSeq1.list_extend_list_list_0 l aq.toArray n b mv.toArray n2 AR (by rw [List.size_toArray]; omega) (by omega)) ⟨e,e2,?_⟩
 refine ⟨.ax,_,I.sZ (its':=aq++mv) hH e (by simp) (r.append r2) ?_,rfl,q⟩;rw [List.length_append];omega
def Dn:V→List V→Hp→VK→Prop:=fun x vs H Q=>∃ l xs y,x=.ref l∧vs=[]∧H l=some (.lst xs)∧xs[xs.length - 1]?=some y∧Q y (upd H l (.lst xs.dropLast))
theorem Ma:tV X "list.pop" Dn:=by
 intro pins s σ H x vs v us Q I rx rv h;obtain ⟨l,xs,y,rfl,rfl,hH,hy,q⟩:=h;cases rx;have hus:=rv.zero;subst hus;obtain ⟨z,aq,n,r,hl,e⟩:=I.jZ hH;obtain ⟨u,hu,ru⟩:=r.get hy;have hy':aq.toArray[aq.toArray.size - 1]?=some u:=by
  show aq.toArray[aq.length - 1]?=some u;rw [← Array.getElem?_toList,← hl];exact hu
 refine call_meets F.slot_list_pop ⟨_,e,rfl⟩ F.entry_list_pop (F.args_list_pop_1 _) (MeetsSeq.list_pop_last l aq.toArray n u hy' (by rw [List.size_toArray]; omega)) ⟨e,?_⟩;refine ⟨y,_,I.sZ (its':=aq.dropLast) hH e ?_ r.dropLast ?_,ru,q⟩
 ·show aq.toArray.eraseIdxIfInBounds (aq.toArray.size - 1)=aq.dropLast.toArray;rw [List.size_toArray,List.eraseIdxIfInBounds_toArray,LC]
 ·rw [List.length_dropLast];omega
def GK:V→List V→Hp→VK→Prop:=fun x vs H Q=>∃ l xs i k y,x=.ref l∧vs=[.int i]∧H l=some (.lst xs)∧-(2 ^ 63)≤i∧i < 2 ^ 63∧seqIndex? i xs.length=some k∧xs[k]?=some y∧Q y (upd H l (.lst (xs.eraseIdx k)))
theorem Pq:tV X "list.pop" GK:=by
 intro pins s σ H x vs v us Q I rx rv h;obtain ⟨l,xs,i,k,y,rfl,rfl,hH,h1,h2,hk,hy,q⟩:=h;cases rx;obtain ⟨u,rfl,ru⟩:=rv.one;obtain ⟨t,rfl⟩:=ru;obtain ⟨z,aq,n,r,hl,e⟩:=I.jZ hH;obtain ⟨w,hw,rw'⟩:=r.get hy;refine call_meets F.slot_list_pop ⟨_,e,rfl⟩ F.entry_list_pop (F.args_list_pop_2 _ _)
  (MeetsSeq.list_pop_at l aq.toArray n i t k w (fitsIndex_both h1 h2) (by rw [List.size_toArray,← hl]; exact hk) (by rw [← Array.getElem?_toList]; exact hw) (by rw [List.size_toArray]; omega)) ⟨e,?_⟩
 refine ⟨y,_,I.sZ (its':=aq.eraseIdx k) hH e ?_ (r.eraseIdx k) ?_,rw',q⟩
 ·show aq.toArray.eraseIdxIfInBounds k=(aq.eraseIdx k).toArray;rw [List.eraseIdxIfInBounds_toArray]
 ·have:=Gq xs k;omega
def To:R2:=fun x y H Q=>∃ l b xs zs,x=.ref l∧y=.ref b∧H l=some (.lst xs)∧H b=some (.lst zs)∧xs.length+zs.length≤sizeLine∧∀ p,H p=none→Q (.ref p) (upd H p (.lst (xs++zs)))
theorem Kz:bc X (binaryOp .Add) To:=by
 intro pins s σ H x y v u Q I rx ry h;obtain ⟨l,b,xs,zs,rfl,rfl,hH,hB,hz,q⟩:=h;cases rx;cases ry;obtain ⟨z,aq,n,r,hl,e⟩:=I.jZ hH;obtain ⟨z2,mv,n2,r2,ck,e2⟩:=I.jZ hB;refine PySem.P.add_list e e2 ?_ (by rw [List.size_toArray,List.size_toArray]; omega);have ea:aq.toArray++mv.toArray=(aq++mv).toArray:=by simp
 rw [ea];exact ⟨.ref _,_,I.D8 (t':=s.toks) (r.append r2) (by rw [List.length_append]; omega),rfl,q _ I.fresh⟩
def TX:R2:=fun x y H Q=>∃ l k xs,x=.ref l∧y=.int k∧H l=some (.lst xs)∧-(2 ^ 63)≤k∧k < 2 ^ 63∧xs.length * k.toNat≤sizeLine ∧
 ∀ p,H p=none→Q (.ref p) (upd H p (.lst (List.replicate k.toNat xs).flatten))
theorem len_rep {α:Type} (xs:List α) (k:Nat):(List.replicate k xs).flatten.length=k * xs.length:=by
 induction k with
 | zero=>simp
 | succ k ih=>rw [List.replicate_succ,List.flatten_cons,List.length_append,ih,Nat.succ_mul,Nat.add_comm]
theorem T6:bc X (binaryOp .Mult) TX:=by
 intro pins s σ H x y v u Q I rx ry h;obtain ⟨l,k,xs,rfl,rfl,hH,h1,h2,hz,q⟩:=h;cases rx;obtain ⟨t,rfl⟩:=ry;obtain ⟨z,aq,n,r,hl,e⟩:=I.jZ hH;have hlen:aq.toArray.size * k.toNat≤sizeLine:=by rw [List.size_toArray,← hl]; exact hz
 have hcap:¬ aq.toArray.size * k.toNat > (2 ^ 63 - 1) / 8:=by
  have:(sizeLine:Nat)≤(2 ^ 63 - 1) / 8:=by decide
  omega
 have BA:¬ (!Builtin.List.listFitsIndex k)=true:=by
  rw [fitsIndex_both h1 h2];exact Bool.false_ne_true
 have AR:¬ Builtin.List.listTooLong (aq.toArray.size * k.toNat)=true:=by
  rw [F4 hlen];exact Bool.false_ne_true
 have hnew:List.foldl (fun x1 x2=>x1++x2) #[] (List.replicate (if aq.toArray.isEmpty=true then 0 else k.toNat) aq.toArray)=(List.replicate k.toNat aq).flatten.toArray:=by
  have f0:∀ m:Nat,List.foldl (fun x1 x2=>x1++x2) #[] (List.replicate m aq.toArray)=(List.replicate m aq).flatten.toArray:=fun m=>by
   have:=foldl_rep aq m [];rw [List.nil_append] at this;exact this
  rw [f0];cases aq with
  | nil=>simp
  | cons a r'=>rw [if_neg (by simp)]
 refine wpAny_binaryOp_repeat_ref (T := "list") (U := "int") (by decide) ⟨_,e,rfl⟩ (fun s'=>typeIs_int s' k t) noFill_list_mul F.fills_int_mul F.slot_int_rmul repeat_list F.slot_int_index.lookup
  (call_meets F.slot_int_rmul (typeIs_int s k t) F.entry_int_rmul (F.args_int_rmul_2 _ _) (int___rmul___int_list k t l aq.toArray n)
   ⟨e,rfl,⟨_,e,rfl⟩,call_meets F.slot_list_mul ⟨_,e,rfl⟩ F.entry_list_mul (F.args_list_mul_2 _ _) (AutoListH.list___mul___list_int_3 l aq.toArray n k t BA hcap AR) ⟨e,?_⟩⟩)
 rw [hnew];exact ⟨.ref _,_,I.D8 (t':=s.toks) (r.rep k.toNat) (by rw [len_rep,Nat.mul_comm]; exact hz),rfl,q _ I.fresh⟩
end
section
variable {prog:Program} {w:World} {A:Around} {E:Value→Shared→Prop} {s:Shared}
end
section
variable {X:Cx}
end
end L2
namespace L2
open PySem PySem.Spec PyProof.Rows
section
variable {κ:Type} [DecidableEq κ]
def aN (kvs:List (κ×V)) (k:κ):Option V:=(kvs.find? fun kv=>decide (kv.1=k)).map (·.2)
def putK (kvs:List (κ×V)) (k:κ) (v:V):List (κ×V) :=
 if (kvs.any fun kv=>decide (kv.1=k))=true then kvs.map (fun kv=>if kv.1=k then (kv.1,v) else kv) else kvs++[(k,v)]
theorem gK {p:κ×V} {r:List (κ×V)} {k:κ} (e:p.1=k):aN (p::r) k=some p.2:=by simp [aN,List.find?_cons,e]
theorem gB {p:κ×V} {r:List (κ×V)} {k:κ} (e:¬ p.1=k):aN (p::r) k=aN r k:=by simp [aN,List.find?_cons,e]
theorem n8 (k:κ):∀ kvs:List (κ×V),(kvs.any fun kv=>decide (kv.1=k))=(aN kvs k).isSome
 | []=>rfl
 | p::r=>by
  rw [List.any_cons];by_cases e:p.1=k
  ·simp only [gK e,decide_eq_true e,Bool.true_or,Option.isSome_some]
  ·rw [gB e,decide_eq_false e,Bool.false_or]; exact n8 k r
theorem GW (k j:κ) (y:V):∀ kvs:List (κ×V),aN (kvs.map fun kv=>if kv.1=k then (kv.1,y) else kv) j=(aN kvs j).map fun x=>if j=k then y else x
 | []=>rfl
 | p::r=>by
  have ih:=GW k j y r;rw [List.map_cons];by_cases h:p.1=k
  ·rw [if_pos h];by_cases e:p.1=j
   ·rw [gK (p:=(p.1,y)) e,gK e,Option.map_some,if_pos (e.symm.trans h)]
   ·rw [gB (p:=(p.1,y)) e,gB e,ih]
  ·rw [if_neg h];by_cases e:p.1=j
   ·rw [gK (p:=p) e,gK e,Option.map_some,if_neg (fun z=>h (e.trans z))]
   ·rw [gB (p:=p) e,gB e,ih]
theorem y1 (k j:κ) (y:V):∀ kvs:List (κ×V),aN kvs k=none→aN (kvs++[(k,y)]) j=if j=k then some y else aN kvs j
 | [],_=>by
  by_cases e:k=j
  ·rw [if_pos e.symm]; exact gK (p:=(k,y)) e
  ·rw [if_neg (fun z=>e z.symm)]; exact gB (p:=(k,y)) e
 | p::r,hn=>by
  rw [List.cons_append];have hk:¬ p.1=k:=fun z=>by rw [gK z] at hn; cases hn
  rw [gB hk] at hn;have ih:=y1 k j y r hn;by_cases e:p.1=j
  ·rw [gK e,gK e,if_neg (fun z=>hk (e.trans z))]
  ·rw [gB e,gB e,ih]
theorem Pn (kvs:List (κ×V)) (k j:κ) (y:V):aN (putK kvs k y) j=if j=k then some y else aN kvs j:=by
 unfold putK;by_cases a:(kvs.any fun kv=>decide (kv.1=k))=true
 ·rw [if_pos a,GW];rw [n8] at a;by_cases e:j=k
  ·obtain ⟨x,hx⟩:=Option.isSome_iff_exists.mp a;rw [if_pos e,e,hx,Option.map_some,if_pos rfl]
  ·rw [if_neg e];cases aN kvs j with
   | none=>rfl
   | some x=>rw [Option.map_some,if_neg e]
 ·rw [if_neg a];refine y1 k j y kvs ?_;rw [n8] at a;cases q:aN kvs k with
  | none=>rfl
  | some x=>rw [q] at a; exact (a rfl).elim
theorem DD (kvs:List (κ×V)) (k:κ) (v:V):(putK kvs k v).length≤kvs.length+1:=by
 unfold putK;split
 ·rw [List.length_map]; omega
 ·rw [List.length_append,List.length_cons,List.length_nil]; omega
theorem dC.qG {o:Option V} {u:Option Value} (r:dC o u):o.isSome=u.isSome:=by
 cases o with
 | none=>cases u with
  | none=>rfl
  | some _=>exact (show False from r).elim
 | some _=>cases u with
  | none=>exact (show False from r).elim
  | some _=>rfl
theorem dC.getD {o:Option V} {u:Option Value} {d:V} {d':Value} (r:dC o u) (rd:RelV d d'):RelV (o.getD d) (u.getD d'):=by
 cases o with
 | none=>cases u with
  | none=>exact rd
  | some _=>exact (show False from r).elim
 | some _=>cases u with
  | none=>exact (show False from r).elim
  | some _=>exact r
theorem KV.val {kvs:List (κ×V)} {vs:List (κ×Value)} (r:KV kvs vs) (k:κ):dC (aN kvs k) (valueAt vs k):=by
 unfold KV at r
 induction r with
 | nil=>exact True.intro
 | @cons p q ps qs h t ih =>
  obtain ⟨h1,h2⟩:=h;by_cases e:p.1=k
  ·have e':q.1=k:=h1.symm.trans e;have b:valueAt (q::qs) k=some q.2:=by simp [valueAt,List.find?_cons,e']
   rw [gK e,b]; exact h2
  ·have e':¬ q.1=k:=fun z=>e (h1.trans z);have b:valueAt (q::qs) k=valueAt qs k:=by simp [valueAt,List.find?_cons,e']
   rw [gB e,b]; exact ih
theorem KV.any {kvs:List (κ×V)} {vs:List (κ×Value)} (r:KV kvs vs) (k:κ):(kvs.any fun kv=>decide (kv.1=k))=vs.any fun kv=>decide (kv.1=k):=by
 unfold KV at r
 induction r with
 | nil=>rfl
 | cons h t ih=>rw [List.any_cons,List.any_cons,ih,h.1]
theorem KV.wa {kvs:List (κ×V)} {vs:List (κ×Value)} (r:KV kvs vs) (k:κ) {y:V} {u:Value} (ry:RelV y u) :
  KV (kvs.map fun kv=>if kv.1=k then (kv.1,y) else kv) (vs.map fun kv=>if kv.1=k then (kv.1,u) else kv):=by
 unfold KV at r ⊢
 induction r with
 | nil=>exact .nil
 | @cons p q ps qs h t ih =>
  rw [List.map_cons,List.map_cons];refine .cons ?_ ih;obtain ⟨h1,h2⟩:=h;by_cases e:p.1=k
  ·rw [if_pos e,if_pos (h1.symm.trans e)]; exact ⟨h1,ry⟩
  ·rw [if_neg e,if_neg (fun z=>e (h1.trans z))]; exact ⟨h1,h2⟩
theorem KV.put {kvs:List (κ×V)} {vs:List (κ×Value)} (r:KV kvs vs) (k:κ) {y:V} {u:Value} (ry:RelV y u):KV (putK kvs k y) (stored vs k u):=by
 unfold putK stored;rw [r.any k];by_cases e:(vs.any fun kv=>decide (kv.1=k))=true
 ·rw [if_pos e,if_pos e]; exact r.wa k ry
 ·rw [if_neg e,if_neg e]; exact Paired.snoc r ⟨rfl,ry⟩
theorem KV.keys {kvs:List (κ×V)} {vs:List (κ×Value)} (r:KV kvs vs):kvs.map (·.1)=vs.map (·.1):=by
 unfold KV at r
 induction r with
 | nil=>rfl
 | cons h t ih=>rw [List.map_cons,List.map_cons,ih,h.1]
theorem KV.length {kvs:List (κ×V)} {vs:List (κ×Value)} (r:KV kvs vs):kvs.length=vs.length:=Paired.length r
end
theorem nT {P:Program} {w:World} {k:Key} {u:Value} (r:RelV (kV k) u):(dB P w).is k u=true:=by
 cases k with
 | inl i=>obtain ⟨t,e⟩:=(show ∃ t,u=Value.int i t from r); subst e; exact Vf P w i t
 | inr x=>obtain ⟨t,e⟩:=(show ∃ t,u=Value.str x t from r); subst e; exact MP P w x t
theorem GG {P:Program} {w:World}:∀ {ks:List Key} {us:List Value},Vals (ks.map kV) us→ItemsAre (dB P w) ks us
 | [],_,r=>by rw [List.map_nil] at r; cases r; exact .nil
 | k::ks,_,r=>by
  rw [List.map_cons] at r;cases r with
  | cons h t=>exact .cons (nT h) (GG t)
abbrev KT (H:Hp):List (List Key×V)→List (List Key×Addr×Value)→Prop:=Paired fun p q=>p.1=q.1∧H q.2.1=some (.tup (p.1.map kV))∧RelV p.2 q.2.2
theorem KT.val {H:Hp} {kvs:List (List Key×V)} {xs:List (List Key×Addr×Value)} (r:KT H kvs xs) (k:List Key):dC (aN kvs k) ((atKey xs k).map (·.2)):=by
 induction r with
 | nil=>exact True.intro
 | @cons p q ps qs h t ih =>
  obtain ⟨h1,_,h2⟩:=h;by_cases e:p.1=k
  ·have e':q.1=k:=h1.symm.trans e;have b:atKey (q::qs) k=some q.2:=by simp [atKey,List.find?_cons,e']
   rw [gK e,b]; exact h2
  ·have e':¬ q.1=k:=fun z=>e (h1.trans z);have b:atKey (q::qs) k=atKey qs k:=by simp [atKey,List.find?_cons,e']
   rw [gB e,b]; exact ih
theorem KT.wa {H:Hp} {kvs:List (List Key×V)} {xs:List (List Key×Addr×Value)} (r:KT H kvs xs) (k:List Key) {y:V} {u:Value} (ry:RelV y u) :
  KT H (kvs.map fun kv=>if kv.1=k then (kv.1,y) else kv) (xs.map (putAt k u)):=by
 induction r with
 | nil=>exact .nil
 | @cons p q ps qs h t ih =>
  rw [List.map_cons,List.map_cons];refine .cons ?_ ih;obtain ⟨h1,h2,h3⟩:=h;unfold putAt;by_cases e:p.1=k
  ·rw [if_pos e,if_pos (h1.symm.trans e)]; exact ⟨h1,h2,ry⟩
  ·rw [if_neg e,if_neg (fun z=>e (h1.trans z))]; exact ⟨h1,h2,h3⟩
theorem KT.put {H:Hp} {kvs:List (List Key×V)} {xs:List (List Key×Addr×Value)} (r:KT H kvs xs) (k:List Key) {b:Addr} {y:V} {u:Value} (hb:H b=some (.tup (k.map kV))) (ry:RelV y u) :
  KT H (putK kvs k y) (storedH xs k b u):=by
 have e:(kvs.any fun kv=>decide (kv.1=k))=(atKey xs k).isSome:=by
  rw [n8,(r.val k).qG,Option.isSome_map]
 unfold putK storedH;rw [e];by_cases q:(atKey xs k).isSome=true
 ·rw [if_pos q,if_pos q]; exact r.wa k ry
 ·rw [if_neg q,if_neg q]; exact Paired.snoc r ⟨rfl,hb,ry⟩
theorem KT.keeps {H H':Hp} {kvs:List (List Key×V)} {xs:List (List Key×Addr×Value)} (r:KT H kvs xs) (ht:∀ b ys,H b=some (.tup ys)→H' b=some (.tup ys)):KT H' kvs xs :=
 Paired.wY r fun _ _ z=>⟨z.1,ht _ _ z.2.1,z.2.2⟩
section
variable {P:Program} {w:World} {H:Hp} {h:Heap} {a:Addr}
theorem F2 {u:HO} (ok:bR P w H h) (e:Rd H a u):bP P w H h a u:=e.ok ok
theorem lX {kvs:List (Key×V)} (ok:bR P w H h) (e:Rd H a (.dK kvs)):kvs.length≤sizeLine∧(a == sysModules)=false∧∃ vs,KV kvs vs∧h.DictOf (dB P w) a vs :=
 show bP P w H h a (.dK kvs) from F2 ok e
theorem LB {kvs:List (Key×V)} (ok:bR P w H h) (e:H a=some (.dK kvs)):kvs.length≤sizeLine∧(a == sysModules)=false∧∃ vs,KV kvs vs∧h.DictOf (dB P w) a vs:=lX ok (.inl e)
theorem mV {ks:List Key} (ok:bR P w H h) (e:H a=some (.tup (ks.map kV))):(tupleKind (dB P w)).is h ks a:=by
 obtain ⟨_,aq,r,o,h1,h2,n,h3⟩:=(show bP P w H h a (.tup (ks.map kV)) from ok a _ e);exact ⟨o,aq.toArray,n,h1,h2,h3,by simpa using GG r⟩
theorem l9 {kvs:List (List Key×V)} (ok:bR P w H h) (e:Rd H a (.dT kvs)):kvs.length≤sizeLine∧(a == sysModules)=false ∧
  ∃ xs,KT H kvs xs∧h.DictOfH (tupleKind (dB P w)) a xs:=by
 obtain ⟨z,y,xs,r,o,es,ep,h1,h2,h3,h4,h5⟩:=(show bP P w H h a (.dT kvs) from F2 ok e);refine ⟨z,y,xs,r,o,es,ep,h1,h2,h3,h4,fun x hx=>?_,h5⟩;have all:∀ {l:List (List Key×V)} {m:List (List Key×Addr×Value)},KT H l m→∀ x∈m,(tupleKind (dB P w)).is h x.1 x.2.1:=by
  intro l m q
  induction q with
  | nil=>intro x hx; exact nomatch hx
  | @cons p q ps qs hq t ih =>
   intro x hx;rcases List.mem_cons.mp hx with e | hx
   ·subst e;exact mV ok (by rw [← hq.1]; exact hq.2.1)
   ·exact ih x hx
 exact all r x hx
theorem K6 {kvs:List (List Key×V)} (ok:bR P w H h) (e:H a=some (.dT kvs)):kvs.length≤sizeLine∧(a == sysModules)=false ∧
  ∃ xs,KT H kvs xs∧h.DictOfH (tupleKind (dB P w)) a xs:=l9 ok (.inl e)
end
def cN (H:Hp) (a:Addr) (y:V) (r:Option V):Prop :=
 (∃ kvs k,Rd H a (.dK kvs)∧y=kV k∧r=aN kvs k)∨∃ kvs k b,Rd H a (.dT kvs)∧y=.ref b∧H b=some (.tup (k.map kV))∧r=aN kvs k
def gF (H:Hp) (a:Addr) (y v:V) (H':Hp):Prop :=
 (∃ kvs k,H a=some (.dK kvs)∧y=kV k∧kvs.length < sizeLine∧H'=upd H a (.dK (putK kvs k v))) ∨
 ∃ kvs k b,H a=some (.dT kvs)∧y=.ref b∧H b=some (.tup (k.map kV))∧kvs.length < sizeLine∧H'=upd H a (.dT (putK kvs k v))
theorem cN.k {H:Hp} {a:Addr} {kvs:List (Key×V)} {k:Key} (e:H a=some (.dK kvs)):cN H a (kV k) (aN kvs k):=.inl ⟨kvs,k,.inl e,rfl,rfl⟩
theorem gF.k {H:Hp} {a:Addr} {kvs:List (Key×V)} {k:Key} {v:V} (e:H a=some (.dK kvs)) (hl:kvs.length < sizeLine):gF H a (kV k) v (upd H a (.dK (putK kvs k v))):=.inl ⟨kvs,k,e,rfl,hl,rfl⟩
theorem gF.t {H:Hp} {a b:Addr} {kvs:List (List Key×V)} {k:List Key} {v:V} (e:H a=some (.dT kvs)) (eb:H b=some (.tup (k.map kV))) (hl:kvs.length < sizeLine) :
  gF H a (.ref b) v (upd H a (.dT (putK kvs k v))):=.inr ⟨kvs,k,b,e,rfl,eb,hl,rfl⟩
section
variable {X:Cx} {pins:List (Addr×Obj)} {σ:St} {H:Hp} {s:Shared} {a:Addr} {y v:V} {u r:Value} {o:Option V} {A:Around} {E:Value→Shared→Prop}
theorem Inv.big (I:Inv X pins σ H s):sysModules < s.heap.objs.size:=by
 have h:mainGlobals < s.heap.objs.size:=(I.mod.glob.keeps I.bk).lt;exact Nat.lt_trans (by decide) h
theorem MR {Q:Value→Shared→Prop} (hu:A.units+1 < cLine) (I:Inv X pins σ H s) (g:cN H a y (some v)) (ry:RelV y u) (h:∀ w' s',Inv X pins σ H s'→RelV v w'→Q w' s') :
  wpAny (model X.prog X.w) A (getItem (.ref a) u) Q E s:=by
 rcases g with ⟨kvs,k,e,ey,l⟩ | ⟨kvs,k,b,e,ey,eb,l⟩
 ·subst ey;obtain ⟨z,hd,vs,rel,dd⟩:=lX I.aC e;obtain ⟨w',hw,rw'⟩:=dC.some_of (v:=v) (o:=valueAt vs k) (by rw [l]; exact rel.val k);exact wpAny_getItem_of (nT ry) dd.mapOf hw (h w' _ (I.tok _) rw')
 ·subst ey;cases (show u=Value.ref b from ry);obtain ⟨z,hd,xs,rel,dd⟩:=l9 I.aC e;obtain ⟨w',hw,rw'⟩:=dC.some_of (v:=v) (o:=(atKey xs k).map (·.2)) (by rw [l]; exact rel.val k);obtain ⟨p,hp,ej⟩:=Option.map_eq_some_iff.mp hw;refine wpAny_getItem_heap (tupleKind_room_in1 hu) (mV I.aC eb) dd hp ?_;rw [ej];exact h w' _ (I.tok _) rw'
theorem Lp {Q:Value→Shared→Prop} (hu:A.units+1 < cLine) (I:Inv X pins σ H s) (g:cN H a y o) (ry:RelV y u) (h:∀ s',Inv X pins σ H s'→Q (.bool o.isSome) s') :
  wpAny (model X.prog X.w) A (compareOp .In u (.ref a)) Q E s:=by
 rcases g with ⟨kvs,k,e,ey,l⟩ | ⟨kvs,k,b,e,ey,eb,l⟩
 ·subst ey;obtain ⟨z,hd,vs,rel,dd⟩:=lX I.aC e;refine wpAny_in_of (nT ry) hd dd.mapOf ?_;rw [← (rel.val k).qG,← l];exact h _ (I.tok _)
 ·subst ey;cases (show u=Value.ref b from ry);obtain ⟨z,hd,xs,rel,dd⟩:=l9 I.aC e;refine wpAny_in_heap (tupleKind_room_in1 hu) (mV I.aC eb) hd dd ?_;have q:=(rel.val k).qG;rw [Option.isSome_map] at q;rw [← q,← l];exact h _ (I.tok _)
theorem RB {Q:Value→Shared→Prop} (hu:A.units+1 < cLine) (I:Inv X pins σ H s) (g:cN H a y o) (ry:RelV y u) (h:∀ s',Inv X pins σ H s'→Q (.bool (!o.isSome)) s') :
  wpAny (model X.prog X.w) A (compareOp .NotIn u (.ref a)) Q E s:=by
 rcases g with ⟨kvs,k,e,ey,l⟩ | ⟨kvs,k,b,e,ey,eb,l⟩
 ·subst ey;obtain ⟨z,hd,vs,rel,dd⟩:=lX I.aC e;refine wpAny_notIn_of (nT ry) hd dd.mapOf ?_;rw [← (rel.val k).qG,← l];exact h _ (I.tok _)
 ·subst ey;cases (show u=Value.ref b from ry);obtain ⟨z,hd,xs,rel,dd⟩:=l9 I.aC e;refine wpAny_notIn_heap (tupleKind_room_in1 hu) (mV I.aC eb) hd dd ?_;have q:=(rel.val k).qG;rw [Option.isSome_map] at q;rw [← q,← l];exact h _ (I.tok _)
theorem Ex {h':Heap} {t':Nat} {ob:HO} (I:Inv X pins σ H s) (mu:rD (H a)) (hs:Heap.SameBut a s.heap h') (he:∃ q,h'.get? a=some q) (new:bP X.prog X.w (upd H a ob) h' a ob) :
  Inv X pins σ (upd H a ob) { s with heap:=h',toks:=t' } :=
 I.write (x:=a) (e:=a) mu (.inl rfl) (fun b q hb z=>(hs.2 b hb).trans z) he new
theorem Lg {P:Program} {w:World} {H':Hp} {h':Heap} {kvs:List (Key×V)} {vs:List (Key×Value)} (z:kvs.length≤sizeLine) (hd:(a == sysModules)=false) (rel:KV kvs vs) (dd:h'.DictOf (dB P w) a vs) :
  bP P w H' h' a (.dK kvs):=⟨z,hd,vs,rel,dd⟩
theorem Uz {H':Hp} {Q:Unit→Shared→Prop} (hu:A.units+1 < cLine) (I:Inv X pins σ H s) (g:gF H a y v H') (ry:RelV y u) (rv:RelV v r) (h:∀ s',Inv X pins σ H' s'→Q () s') :
  wpAny (model X.prog X.w) A (setItem (.ref a) u r) Q E s:=by
 rcases g with ⟨kvs,k,e,ey,l,eH⟩ | ⟨kvs,k,b,e,ey,eb,l,eH⟩
 ·subst ey eH;obtain ⟨z,hd,vs,rel,dd⟩:=LB I.aC e;have hz:vs.length≤sizeLine:=by rw [← rel.length]; exact z
  have hl:(putK kvs k v).length≤sizeLine:=by have:=DD kvs k v; omega
  refine wpAny_setItem_pairs (hsz:=hz) (nT ry) dd fun h' dd' hs=>h _ ?_;have he:∃ q,h'.get? a=some q:=let ⟨q,_,_,hq,_⟩:=dd'; ⟨q,hq⟩
  exact Ex I (by rw [e]; exact True.intro) hs he (Lg hl hd (rel.put k rv) dd')
 ·subst ey eH;cases (show u=Value.ref b from ry);obtain ⟨z,hd,xs,rel,dd⟩:=K6 I.aC e;have hz:xs.length≤sizeLine:=by rw [← Paired.length rel]; exact z
  have hl:(putK kvs k v).length≤sizeLine:=by have:=DD kvs k v; omega
  refine wpAny_setItem_heap (hsz:=hz) (tupleKind_room_in1 hu) (mV I.aC eb) dd fun h' dd' hs=>h _ ?_;obtain ⟨q,es,ep,hq,h2,h3,h4,_,h5⟩:=dd';refine Ex I (by rw [e]; exact True.intro) hs ⟨q,hq⟩ ⟨hl,hd,_,(rel.put k eb rv).keeps fun c ys ec=>?_,q,es,ep,hq,h2,h3,h4,h5⟩;rw [ah (Nc ec e (fun z=>nomatch z))];exact ec
end
section
variable {X:Cx} {pins:List (Addr×Obj)} {σ:St} {H:Hp} {s:Shared} {a:Addr} {kvs:List (Key×V)} {k:Key} {u:Value} {A:Around} {E:Value→Shared→Prop}
end
def zF (i:Expr):Prop:=∀ ov iv,subscripted i false ov iv=operate [ov,iv] (getItem ov iv)
theorem Kg {prog:Program} {w:World} {A:Around} {E:Value→Shared→Prop} {s:Shared} {env:Env} {value slice:Expr} {pos:Pos} {T id:String} {Q:Value→Shared→Prop}
  (hl:typeLookup (.type T) "__getitem__" = pure (some (.builtin id))) (hs:zF slice)
  (h:wpAny (model prog w) A (eval value env) (fun o s₁=>wpAny (model prog w) A (eval slice env) (fun i s₂=>s₂.TypeIs o T∧wpAny (model prog w) A (getItem o i) Q E s₂) E s₁) E s) :
  wpAny (model prog w) A (eval (.Subscript value slice pos) env) Q E s:=by
 refine Subscript_ (wpAny_mono h (fun o s₁ h₁=>wpAny_mono h₁ (fun i s₂ h₂=>?_) fun _ _ x=>x) fun _ _ x=>x);obtain ⟨hT,h₂⟩:=h₂;unfold subscriptTail;refine wpAny_bind ?_;rw [getitemInPython_of_ne hT.not_modules];refine wpAny_bind (wpAny_specialOf hT hl ?_);have fin:wpAny (model prog w) A (subscripted slice false o i) (fun r s₃=>wpAny (model prog w) A (letTemporaryGo value o r >>= fun _=>pure r) Q E s₃) E s₂:=by
  rw [hs o i];exact wpAny_operating (wpAny_mono h₂ (fun r s₃ h₃=>wpAny_bind (wpAny_letTemporaryGo (wpAny_pure h₃))) fun _ _ x=>x)
 first
  | exact wpAny_pure (wpAny_bind fin)
  | exact wpAny_bind (wpAny_pure (wpAny_bind fin))
  | exact wpAny_bind fin
theorem Lv {X:Cx} {pins:List (Addr×Obj)} {σ:St} {H:Hp} {s:Shared} {a:Addr} {y:V} {o:Option V} (I:Inv X pins σ H s) (g:cN H a y o):s.TypeIs (.ref a) "dict" := by
 rcases g with ⟨kvs,k,e,_,_⟩ | ⟨kvs,k,b,e,_,_,_⟩
 ·obtain ⟨_,_,vs,_,dd⟩:=lX I.aC e;exact dd.typeIs
 ·obtain ⟨_,_,xs,_,dd⟩:=l9 I.aC e;exact dd.typeIs
def z7 (td ty:TE):TE:=fun σ H Q=>td σ H fun x H1=>ty σ H1 fun y H2=>∃ a v,x=.ref a∧cN H2 a y (some v)∧Q v H2
def wC (ty td:TE):TE:=fun σ H Q=>ty σ H fun y H1=>td σ H1 fun x H2=>∃ a o,x=.ref a∧cN H2 a y o∧Q (.bl o.isSome) H2
def xA (ty td:TE):TE:=fun σ H Q=>ty σ H fun y H1=>td σ H1 fun x H2=>∃ a o,x=.ref a∧cN H2 a y o∧Q (.bl (!o.isSome)) H2
def xg (td ty tv:TE):TS:=fun D σ H=>tv σ H fun v H1=>td σ H1 fun x H2=>ty σ H2 fun y H3=>∃ a H4,x=.ref a∧gF H3 a y v H4∧D.nx σ H4
section
variable {X:Cx} {o i e value:Expr} {pos pos' tpos:Pos} {td ty tv:TE}
theorem OA (hu:X.A.units+1 < cLine) (ho:PE X o td) (hi:PE X i ty) (hs:zF i):PE X (.Subscript o i pos) (z7 td ty):=by
 intro pins s σ H Q I h;refine Kg PySem.F.slot_dict_getitem.lookup hs (aD (ho pins s σ H _ I h) fun u s1 ⟨x,H1,I1,rx,q1⟩=>aD (hi pins s1 σ H1 _ I1 q1) fun iv s2 ⟨y,H2,I2,ry,a,v,ex,g,q2⟩=>?_);subst ex;obtain rfl:u=Value.ref a:=rx;exact ⟨Lv I2 g,MR hu I2 g ry fun w' s3 I3 rw'=>⟨v,H2,I3,rw',q2⟩⟩
theorem NV (hu:X.A.units+1 < cLine) (hi:PE X i ty) (ho:PE X o td):PC X .In i o (wC ty td):=by
 intro pins s σ H Q I h;refine aD (hi pins s σ H _ I h) fun iv s1 ⟨y,H1,I1,ry,q1⟩=>aD (ho pins s1 σ H1 _ I1 q1) fun u s2 ⟨x,H2,I2,rx,a,ov,ex,g,q2⟩=>?_;subst ex;obtain rfl:u=Value.ref a:=rx;exact Lp hu I2 g ry fun s3 I3=>⟨.bl ov.isSome,H2,I3,rfl,q2⟩
theorem NX (hu:X.A.units+1 < cLine) (hi:PE X i ty) (ho:PE X o td):PC X .NotIn i o (xA ty td):=by
 intro pins s σ H Q I h;refine aD (hi pins s σ H _ I h) fun iv s1 ⟨y,H1,I1,ry,q1⟩=>aD (ho pins s1 σ H1 _ I1 q1) fun u s2 ⟨x,H2,I2,rx,a,ov,ex,g,q2⟩=>?_;subst ex;obtain rfl:u=Value.ref a:=rx;exact RB hu I2 g ry fun s3 I3=>⟨.bl (!ov.isSome),H2,I3,rfl,q2⟩
theorem VQ (hu:X.A.units+1 < cLine) (ho:PE X o td) (hi:PE X i ty) (hv:PE X value tv) (hs:swapsWith value (some (.Subscript o i pos')) pos.line X.env=pure false) :
  PS X (.Assign [.Subscript o i pos'] value pos) (xg td ty tv):=by
 intro pins s σ H D I h;refine wpAny_Assign_Subscript (aD (hv pins s σ H _ I h) fun r s1 ⟨v,H1,I1,rv,q1⟩=>aD (ho pins s1 σ H1 _ I1 q1) fun u s2 ⟨x,H2,I2,rx,q2⟩=>aD (hi pins s2 σ H2 _ I2 q2) fun iv s3 ⟨y,H3,I3,ry,a,H4,ex,g,q3⟩=>?_) hs;subst ex;obtain rfl:u=Value.ref a:=rx;exact Uz hu I3 g ry rv fun s4 I4=>⟨σ,H4,I4,q3⟩
end
theorem Mg {P:Program} {w:World} {H:Hp} (h:Heap) (hb:sysModules < h.objs.size):bP P w H (h.push { cls:=.type "dict",data:=.dict #[] }) h.objs.size (.dK []) :=
 ⟨Nat.zero_le _,beq_eq_false_iff_ne.mpr (Ne.symm (Nat.ne_of_lt hb)),[],.nil,Heap.DictOf.new h⟩
theorem LJ {P:Program} {w:World} {H:Hp} (h:Heap) (hb:sysModules < h.objs.size):bP P w H (h.push { cls:=.type "dict",data:=.dict #[] }) h.objs.size (.dT []) :=
 ⟨Nat.zero_le _,beq_eq_false_iff_ne.mpr (Ne.symm (Nat.ne_of_lt hb)),[],.nil,_,#[],0,Heap.get?_push_size _ rfl,⟨rfl,rfl,rfl⟩,rfl,rfl,List.nodup_nil⟩
def y2:TE:=fun _ H Q=>∀ p,H p=none→Q (.ref p) (upd H p (.dK []))
def w9:TE:=fun _ H Q=>∀ p,H p=none→Q (.ref p) (upd H p (.dT []))
section
variable {X:Cx} {pos:Pos}
theorem NR:PE X (.Dict [] [] pos) y2:=fun pins s σ H Q I h =>
 wpAny_Dict_empty ⟨.ref s.heap.objs.size,_,I.laid (a:=s.heap.objs.size) (o:=.dK []) (t':=s.toks) (fun _ _ q=>Heap.get?_push_of_some _ q) (Nat.le_refl _) (Mg s.heap I.big),rfl,h _ (I.aC.fresh (Nat.le_refl _))⟩
theorem MV:PE X (.Dict [] [] pos) w9:=fun pins s σ H Q I h =>
 wpAny_Dict_empty ⟨.ref s.heap.objs.size,_,I.laid (a:=s.heap.objs.size) (o:=.dT []) (t':=s.toks) (fun _ _ q=>Heap.get?_push_of_some _ q) (Nat.le_refl _) (LJ s.heap I.big),rfl,h _ (I.aC.fresh (Nat.le_refl _))⟩
end
def Es:List (TE×TE)→St→Hp→(List (V×V)→Hp→Prop)→Prop
 | [],_,H,Q=>Q [] H
 | (tk,tv)::r,σ,H,Q=>tk σ H fun x H1=>tv σ H1 fun y H2=>Es r σ H2 fun ps H3=>Q ((x,y)::ps) H3
abbrev VV:List (V×V)→List (Value×Value)→Prop:=Paired fun p q=>RelV p.1 q.1∧RelV p.2 q.2
def SJ (X:Cx) (pos:Pos) (keys:List (Option Expr)) (values:List Expr) (trs:List (TE×TE)):Prop :=
 ∀ (pins:List (Addr×Obj)) (s:Shared) (σ:St) (H:Hp) (Q:List (V×V)→Hp→Prop),Inv X pins σ H s→Es trs σ H Q →
  wpAny (model X.prog X.w) X.A (evalPairs (pairTrees keys values X.env pos)) (fun vs s'=>∃ ps H',Inv X pins σ H' s'∧VV ps vs∧Q ps H') X.xe s
structure M1 (X:Cx) (o:Expr) (m:Str) (apos:Pos) (e:Expr) (bt:Pos):Prop where
 base:attributeBase o m X.env (eval o X.env)=eval o X.env
 DH:((backTo bt (starEach [e] X.env)).all (fun x=>!x.1) && (backToKw bt (keywordEach [] X.env)).all (fun x=>x.1.isSome)
  && decide (([e]:List Expr).length+([]:List Keyword).length+(if ([]:List Keyword).isEmpty then 0 else 1) < 30))=true
 line:(apos.endLine == bt.line)=true
 trees:backTo bt (starEach [e] X.env)=[(false,eval e X.env)]
structure M2 (X:Cx) (o:Expr) (m:Str) (apos:Pos) (e f:Expr) (bt:Pos):Prop where
 base:attributeBase o m X.env (eval o X.env)=eval o X.env
 DH:((backTo bt (starEach [e,f] X.env)).all (fun x=>!x.1) && (backToKw bt (keywordEach [] X.env)).all (fun x=>x.1.isSome)
  && decide (([e,f]:List Expr).length+([]:List Keyword).length+(if ([]:List Keyword).isEmpty then 0 else 1) < 30))=true
 line:(apos.endLine == bt.line)=true
 trees:backTo bt (starEach [e,f] X.env)=[(false,eval e X.env),(false,eval f X.env)]
def GC (H:Hp) (a:Addr):Prop:=(∃ kvs,Rd H a (.dK kvs))∨∃ kvs,Rd H a (.dT kvs)
theorem VD {X:Cx} {pins:List (Addr×Obj)} {σ:St} {H:Hp} {s:Shared} {a:Addr} (I:Inv X pins σ H s) (d:GC H a) :
  s.TypeIs (.ref a) "dict" ∧ (∀ b,Value.ref a=.ref b→∃ ob,s.heap.get? b=some ob∧ob.dict=none)∧(a == sysModules)=false:=by
 rcases d with ⟨kvs,e⟩ | ⟨kvs,e⟩
 ·obtain ⟨_,hd,vs,_,dd⟩:=lX I.aC e;refine ⟨dd.typeIs,fun b q=>?_,hd⟩;cases q;obtain ⟨ob,_,_,h1,h2,_⟩:=dd;exact ⟨ob,h1,h2.2.1⟩
 ·obtain ⟨_,hd,xs,_,dd⟩:=l9 I.aC e;refine ⟨dd.typeIs,fun b q=>?_,hd⟩;cases q;obtain ⟨ob,_,_,h1,h2,_⟩:=dd;exact ⟨ob,h1,h2.2.1⟩
section
variable {X:Cx} {pins:List (Addr×Obj)} {σ:St} {H:Hp} {s:Shared} {a:Addr} {y d:V} {u r:Value} {o:Option V} {A:Around} {E:Value→Shared→Prop}
theorem Sl {Q:Value→Shared→Prop} (hu:A.units+1 < cLine) (I:Inv X pins σ H s) (g:cN H a y o) (ry:RelV y u) (h:∀ w' s',Inv X pins σ H s'→RelV (o.getD .ax) w'→Q w' s') :
  wpAny (model X.prog X.w) A (call (.builtin "dict.get") [.ref a,u]) Q E s:=by
 rcases g with ⟨kvs,k,e,ey,l⟩ | ⟨kvs,k,b,e,ey,eb,l⟩
 ·subst ey;obtain ⟨z,hd,vs,rel,dd⟩:=lX I.aC e;refine call_meetsIn PySem.F.slot_dict_get dd.typeIs PySem.F.entry_dict_get (PySem.F.args_dict_get_2 _ _) (meets_dict_get (dB X.prog X.w) a (nT ry) hd) ⟨_,dd.mapOf,h _ _ (I.tok _) ?_⟩;rw [l];exact (rel.val k).getD rfl
 ·subst ey;cases (show u=Value.ref b from ry);obtain ⟨z,hd,xs,rel,dd⟩:=l9 I.aC e;refine call_meetsIn PySem.F.slot_dict_get dd.typeIs PySem.F.entry_dict_get (PySem.F.args_dict_get_2 _ _) (meetsH_dict_get (tupleKind (dB X.prog X.w)) a b hd) ⟨tupleKind_room_in1 hu,k,xs,mV I.aC eb,dd,h _ _ (I.tok _) ?_⟩;rw [l];exact (rel.val k).getD rfl
end
def y8 (td ty:TE):TE:=fun σ H Q=>td σ H fun x H1=>∃ a,x=.ref a∧GC H1 a∧ty σ H1 fun y H2=>∃ o,cN H2 a y o∧Q (o.getD .ax) H2
section
variable {X:Cx} {o e f:Expr} {apos bt:Pos} {td ty tx:TE}
theorem UJ (hu:X.A.units+1 < cLine) (ho:PE X o td) (he:PE X e ty) (m:M1 X o "get" apos e bt):PE X (.Call (.Attribute o "get" apos) [e] [] bt) (y8 td ty):=by
 intro pins s σ H Q I h;refine wpAny_Call_method m.base m.DH m.line PySem.F.plainAttrs_dict PySem.F.slot_dict_get PySem.F.type_dict_get (aD (ho pins s σ H _ I h) fun u s1 ⟨x,H1,I1,rx,a,ex,d,q1⟩=>?_);subst ex;obtain rfl:u=Value.ref a:=rx;obtain ⟨t1,t2,_⟩:=VD I1 d;refine ⟨t1,t2,?_⟩;rw [m.trees];refine Calls.callWith_builtin rfl (Calls.evalArgs_plain (Calls.spliced_cons (aD (he pins s1 σ H1 _ I1 q1) fun iv s2 ⟨y,H2,I2,ry,ov,g,q2⟩=>Calls.spliced_nil ?_)));exact Sl hu I2 g ry fun w' s3 I3 rw'=>⟨_,H2,I3,rw',q2⟩
end
section
variable {X:Cx} {pins:List (Addr×Obj)} {σ:St} {H:Hp} {s:Shared} {a:Addr} {kvs:List (Key×V)} {A:Around} {E:Value→Shared→Prop}
end
section
variable {X:Cx} {pins:List (Addr×Obj)} {σ:St} {H:Hp} {s:Shared} {a:Addr} {y:V} {u:Value} {A:Around} {E:Value→Shared→Prop}
end
end L2
namespace Att
open PySem PySem.W PySem.Calls PyProof.Rows
theorem UP {P:Params} {h:Heap}:∀ (ns:List Int) (vs:List Value),WellAll P h vs (ns.map WData.int)→IntsAre vs ns:=by
 intro ns
 induction ns with
 | nil =>
  intro vs w;rw [List.map_nil] at w;cases w;exact .nil
 | cons n ns ih =>
  intro vs w;rw [List.map_cons] at w;cases w with
  | cons a b =>
   cases a;exact .cons _ _ (ih _ b)
theorem Km {l:OpenLaw} {n:Nat} (hn:l.most=some n) {P:Params} {h:Heap} {args:List WData} {vals:List Value}
  (iQ:l.row.toRowW.claim.pre args=true) (mj:WellAll P h vals args) :
  ∃ a vs ns,vals=[Value.ref a]∧args=[WData.list (ns.map WData.int)]∧h.get? a=some { cls:=.type "list",data:=.seq vs.toArray }∧IntsAre vs ns∧ns.length≤n:=by
 have jD:WShape.hasAll [] args [.list .int]=true:=(pre_splitW iQ).1;have hc:l.pre.holds [] { args:=args }=true:=(pre_splitW iQ).2;obtain ⟨d,r,rfl,h1,h2⟩:=hasAllW_cons jD;obtain rfl:=hasAllW_nil h2;obtain ⟨xs,rfl,h3⟩:=hasW_list h1;obtain ⟨ns,rfl⟩:=items_int h3;have hlen:ns.length≤n:=by
  unfold OpenLaw.pre at hc;have h4:(WTm.not (.lt (.lit (.int (n:Int))) (.len (.arg 0)))).holds [] { args:=[.list (ns.map .int)] }=true:=by
   have h4:=(holds_andW hc).1;rw [hn] at h4;exact h4
  have h5:=condW_of h4 (w_not (w_lt w_lit (w_len_list (w_arg rfl))));rw [List.length_map] at h5;refine Nat.le_of_not_lt fun q=>?_;have q':(n:Int) < ((ns.length:Nat):Int):=by omega
  first
   | (rw [decide_eq_true q'] at h5; exact absurd h5 (by decide))
   | (simp at h5; omega)
 cases mj with
 | cons w1 w2 =>
  cases w2;cases w1 with
  | list ho jA=>exact ⟨_,_,ns,rfl,rfl,ho,UP ns _ jA,hlen⟩
theorem RS (l:OpenLaw) (args:List WData):l.row.toRowW.claim.post args (.bool true) args=true :=
 postW_of (r:=l.row.toRowW) (X:=(true == true))
  (show WShape.has [] (.bool true) .bool=true by first | rfl | decide | simp [WShape.has,WShape.arms,WShape.armsAll])
  (show (WTm.eq .res (.lit (.bool true))).value [] { args:=args,res:=some (.bool true),after:=args }=some (.bool (true == true)) from w_eq_bool (w_res rfl) w_lit) rfl
theorem Sz {l:OpenLaw} {n:Nat} {q:Program} {loose:List Str} {XP:(Str→Option Value)→Heap→Prop} {YP:World→Heap→Prop} {d:DefRec}
  (hn:l.most=some n) (sd:d.params.defaults=[])
  (call:∀ (w:World) (s₀ s₁:Shared) (mg mb:Str→Option Value) (fa:Addr) (o:Obj) (pm cd doc:Value) (a:Addr) (vs:List Value) (ns:List Int),
   Ground q loose [] XP w s₀ mg mb s₁.heap→YP w s₁.heap →
   s₁.heap.get? fa=some o→o.data=.func (docDef d.name d.params d.body d.scope pm cd doc)→s₁.heap.CodeRec cd d.name→mg d.name=some (.ref fa) →
   s₁.heap.get? a=some { cls:=.type "list",data:=.seq vs.toArray }→IntsAre vs ns→ns.length≤n→s₁.gens=#[] →
   codeAny (model l.prog w) callerA (.call (.ref fa) ⟨[.ref a],[]⟩) (fun r s'=>r=.ok (.ret (.bool true))∧OldK s₁.heap s'.heap∧s'.os=s₁.os∧AllBare s'.gens) s₁) :
  WalkO q loose XP YP l.row.toRowW d [] (fun f vs=>PySem.call f vs):=by
 intro w s₀ s₁ mg mb G Y fa o pm cd doc dV kV ho hd cE hD hmg hg args vals as iQ hlay hrd mj hlo;obtain rfl:dV=.none:=Dflts.none hD sd;obtain rfl:kV=.none:=Dflts.noKw hD;obtain ⟨a,vs,ns,rfl,rfl,r9,hints,hlen⟩:=Km hn iQ mj;refine enter_call (codeAny_mono (call w s₀ s₁ mg mb fa o pm cd doc a vs ns G Y ho (fd_plain hd) cE hmg r9 hints hlen hg) fun r s' hq=>?_);obtain ⟨rfl,h2,h3,h4⟩:=hq;exact ⟨.inl ⟨.bool true,.bool true,[],rfl,fun _=>rfl,.bool true,RS l _,fun _=>⟨List.Pairwise.nil,fun _ hm=>(nomatch hm)⟩⟩,h2,h3,h4⟩
section
variable {prog:Program} {w:World} {A:Around} {E:Value→Shared→Prop} {s:Shared} {K:Frag}
end
end Att
namespace L2
open PySem PySem.Spec PyProof.Rows
theorem EX:∀ {vs:List Value} {ns:List Int},IntsAre vs ns→Vals (ns.map V.int) vs
 | _,_,.nil=>.nil
 | _,_,.cons n t h=>.cons ⟨t,rfl⟩ (EX h)
def qz (H:Hp):Prop:=∀ b,H b=none∨∃ o xs,H b=some (.dJ o (.lst xs))
theorem Q2 {P:Program} {w:World} {K:PySem.W.Frag} {mg mb:Str→Option Value} {CX:dh} {k:Nat} {fa a:Addr} {fd:FuncData} {x:Str} {sp:Sp} {s₁:Shared} {vs:List Value} {ns:List Int}
  (KX:K.In s₁.heap) (fH:s₁.heap.Ns mainGlobals mg) (hb:s₁.heap.Ns builtinsNs mb) (hbb:∀ x:Str,x ≠ "__name__" → mb x=bootBuiltins x) (hlim:s₁.heap.NoLimit) (hg:s₁.gens=#[])
  (ha:s₁.heap.get? a=some { cls:=.type "list",data:=.seq vs.toArray }) (hi:IntsAre vs ns) (hl:ns.length≤sizeLine) (hr:bz k callerA)
  (F:∀ base:Heap,K.In base→base.Ns mainGlobals mg→aA P w K mg base CX k fa fd [x] sp) (hbind:∀ (s:Shared) (u:Value),BindsTo s fd ⟨[u],[]⟩ [(x,u)])
  (fE:∀ H:Hp,qz H→aK K H a (ns.map V.int)→sp [.ref a] H (fun v _=>v=.bl true) fun _ _ _=>False)
  (Av:∀ H e s',CX [] H s₁ (fun _ _ _=>False) e s'→False) :
  codeAny (model P w) callerA (.call (.ref fa) ⟨[.ref a],[]⟩) (fun r s'=>r=.ok (.ret (.bool true))∧OldK s₁.heap s'.heap∧s'.os=s₁.os∧AllBare s'.gens) s₁:=by
 have rv:=EX hi;have lenV:=hi.length
 -- from an abstract heap in which nothing but f6 script may be tracked
 have core:∀ H:Hp,qz H→aK K H a (ns.map V.int)→bR P w H s₁.heap→(∀ b,H b≠none→b=a)→(H a≠none→K.lookup a=none) →
   codeAny (model P w) callerA (.call (.ref fa) ⟨[.ref a],[]⟩) (fun r s'=>r=.ok (.ret (.bool true))∧OldK s₁.heap s'.heap∧s'.os=s₁.os∧AllBare s'.gens) s₁:=by
  intro H hO hS aC hA hK;have IX:∀ {b:Addr} {o:Obj},s₁.heap.get? b=some o→H b=none→(iZ s₁.heap H).get? b=some o:=fun e n=>Nj e n;have sJ:∀ {b:Addr} {o:Obj} {es:Array DictEntry} {ep:Nat},s₁.heap.get? b=some o→o.data=.dict es ep→H b=none:=fun {b o es ep} e d=>by
   cases q:H b with
   | none=>rfl
   | some u =>
    have e':b=a:=hA b (by rw [q]; simp);subst e';rw [ha] at e; cases e;have d':Data.seq vs.toArray _=Data.dict es ep:=d;cases d'
  have vf:∀ {b:Addr} {m:Str→Option Value},s₁.heap.Ns b m→(iZ s₁.heap H).Ns b m:=fun {b m} ⟨o,es,ep,e,d,r⟩=>⟨o,es,ep,IX e (sJ e d),d,r⟩;have Ic:K.In (iZ s₁.heap H):=fun b o e=>IX (KX b o e) (by
   cases q:H b with
   | none=>rfl
   | some u =>
    have e':b=a:=hA b (by rw [q]; simp);subst e';rw [hK (by rw [q]; simp)] at e; cases e)
  have hM:Mod K mg (iZ s₁.heap H):=⟨Ic,vf fH,⟨mb,vf hb,hbb⟩,let ⟨mc,h1,h2⟩:=hlim; ⟨mc,vf h1,h2⟩⟩;have e0:kz P w K mg (iZ s₁.heap H) callerA [] s₁ H:=⟨rfl,hM,fun b o e=>LN e,Nat.le_of_eq (Tu _ _),trivial,fun b hb=>absurd (show b∈([]:List Addr) from hb) (by simp),aC,.of_eq hg⟩;refine codeAny_mono ((F _ Ic (vf fH)).run callerA [] s₁ H ⟨[.ref a],[]⟩ [.ref a] [.ref a] _ _ hr e0 (hbind s₁ (.ref a)) (.cons rfl .nil) (fE H hO hS)) fun r s' h=>?_;cases r with
  | error e=>exact (Av H e s' h).elim
  | ok fl =>
   cases fl with
   | next=>exact False.elim h
   | brk=>exact False.elim h
   | cont=>exact False.elim h
   | ret u =>
    obtain ⟨v,H',os,bare,un,hok',r',q⟩:=h;have q':v=.bl true:=q;subst q';obtain rfl:u=Value.bool true:=r';refine ⟨rfl,OldK.of_keep fun b o e=>?_,os,bare⟩;cases q:H b with
    | none=>exact un.keep b o e q (by intro z; exact absurd (show b∈([]:List Addr) from z) (by simp)) (by simp)
    | some u =>
     rcases hO b with z | ⟨ob,xs,z⟩
     ·rw [q] at z; cases z
     ·have z2:=un.eS b ob _ z;obtain ⟨e1,_⟩:=aC b _ z;obtain ⟨e2,_⟩:=hok' b _ z2;rw [e] at e1; cases e1;exact e2
 cases hk:K.lookup a with
 | some o =>
  -- f6 script is one of f6 module's own objects
  have e:=KX a o hk;rw [ha] at e;cases e;refine core (fun _=>none) (fun _=>.inl rfl) (.inr ⟨_,vs.toArray,_,hk,rfl,rfl,rfl,by rw [List.size_toArray,lenV]; exact hl,by simpa using rv⟩) (fun b u z=>by have z':(none:Option HO)=some u:=z; cases z') (fun b z=>absurd rfl z) fun z=>absurd rfl z
 | none =>
  refine core (fun b=>if b=a then some (.dJ { cls:=.type "list",data:=.seq vs.toArray } (.lst (ns.map V.int))) else none) (fun b=>?_) (.inl (.inr ⟨{ cls:=.type "list",data:=.seq vs.toArray },if_pos rfl⟩)) (fun b u z=>?_) (fun b z=>?_) fun _=>hk
  ·by_cases hb:b=a
   ·exact .inr ⟨_,_,if_pos hb⟩
   ·exact .inl (if_neg hb)
  ·by_cases hb:b=a
   ·have z':=(if_pos hb).symm.trans z;cases z';subst hb;exact ⟨ha,by rw [List.length_map]; exact hl,vs,_,rv,ha⟩
   ·have z':=(if_neg hb).symm.trans z;cases z'
  ·by_cases hb:b=a
   ·exact hb
   ·exact absurd (if_neg hb) z
end L2
namespace L2
open PySem PySem.Spec PyProof.Rows
abbrev Wn {K:PySem.W.Frag} {h:Heap} (_:K.In h):PySem.W.Frag:=K
theorem U0 {l:PySem.W.OpenLaw} {n k:Nat} {q:Program} {loose:List Str} {XP:(Str→Option Value)→Heap→Prop} {YP:World→Heap→Prop} {d:DefRec} {K:Params→PySem.W.Frag} {CX:World→dh} {sp:World→Sp} {x:Str}
  (hn:l.most=some n) (gO:n≤sizeLine) (sd:d.params.defaults=[]) (hr:bz k callerA)
  (hY:∀ (w:World) (h:Heap),YP w h→(K w.params).In h)
  (F:∀ (w:World) (mg:Str→Option Value) (fa:Addr) (h:Heap),(K w.params).In h→h.Ns mainGlobals mg→mg d.name=some (.ref fa) →
   ∃ fd:FuncData,(∀ (s:Shared) (u:Value),BindsTo s fd ⟨[u],[]⟩ [(x,u)]) ∧
    ∀ base:Heap,(K w.params).In base→base.Ns mainGlobals mg→aA l.prog w (K w.params) mg base (CX w) k fa fd [x] (sp w))
  (fE:∀ (w:World) (H:Hp) (a:Addr) (ns:List Int),ns.length≤n→qz H→aK (K w.params) H a (ns.map V.int)→sp w [.ref a] H (fun v _=>v=.bl true) fun _ _ _=>False)
  (Av:∀ (w:World) (H:Hp) (s:Shared) (e:Value) (s':Shared),CX w [] H s (fun _ _ _=>False) e s'→False) :
  PySem.W.WalkO q loose XP YP l.row.toRowW d [] (fun f vs=>PySem.call f vs):=by
 refine Att.Sz hn sd fun w s₀ s₁ mg mb fa o pm cd doc a vs ns G Y ho hd cE hmg r9 hints hlen hg=>?_;have KX:=hY w _ Y;obtain ⟨fd,hb,hF⟩:=F w mg fa _ KX G.T.g hmg;exact Q2 KX G.T.g G.T.b G.T.builtins G.T.nolimit hg r9 hints (Nat.le_trans hlen gO) hr hF hb (fun H hO hS=>fE w H a ns hlen hO hS) fun H e s'=>Av w H s₁ e s'
end L2
namespace L2
open PySem PySem.Spec PyProof.Rows
def inClass (s:Stmt) (j:Nat):Stmt:=match s with
 | .ClassDef _ _ _ body _ _ _ _ _ _ _=>body.getD j (.Pass ⟨0,0,0,0⟩)
 | _=>.Pass ⟨0,0,0,0⟩
def dM (s:Stmt):Arguments:=match s with
 | .FunctionDef _ a _ _ _ _ _ _ _ _=>a
 | _=>{ posonlyargs:=[],args:=[],vararg:=none,kwonlyargs:=[],kw_defaults:=[],kwarg:=none,defaults:=[] }
def aU (s:Stmt):List Stmt:=match s with
 | .FunctionDef _ _ b _ _ _ _ _ _ _=>b
 | _=>[]
def aB (s:Stmt):Scope:=match s with
 | .FunctionDef _ _ _ _ _ _ sc _ _ _=>sc
 | _=>{ kind:=.function,names:=[],isGenerator:=false,isCoroutine:=false }
abbrev aM:dh:=fun _ _ _ _ _ _=>False
abbrev E0:XK:=fun _ _ _=>False
theorem aw {X:Cx}:Passes aM X E0:=fun _ _ _ _ _ _ _ h=>h.elim
structure ig (K:PySem.W.Frag) (x qual:Str) (st:Stmt) (f:Addr) (fd:FuncData):Prop where
 ex:∃ (oc:Value) (od:Option Addr) (kV doc pm:Value) (an:Option Addr) (az ct:Value) (cZ:Array (Option Value)),
  fd=PySem.W.fnOf x qual (dM st) (aU st) (aB st) .none kV doc pm an az ct∧K.lookup f=some ⟨oc,od,.func fd,cZ⟩∧PySem.W.codeIn K az qual=true
 kp:PySem.W.keepIn K (.ref f)=true
section
variable {P:Program} {w:World} {K:PySem.W.Frag} {mg:Str→Option Value} {base:Heap}
theorem ig.ok {x qual:Str} {st:Stmt} {f:Addr} {fd:FuncData} {N ps:List Str} {k:Nat} {sp:Sp} (F:ig K x qual st f fd) (S:aH N ps (aB st)) (len:∀ vs H Q E,sp vs H Q E→vs.length=ps.length)
  (AU:∀ (az:Value) (A:Around) (outer:List Env) (s:Shared) (H:Hp) (vs:List V) (Q:VK) (E:XK),bz k (A.deeper (envOfC qual (aB st) s.heap.objs.size f az))→sp vs H Q E →
   ∃ t,cP (fP aM P w K mg base N qual (aB st) f az A outer s H E).nt (aU st) t∧t { nx:=fun _ H'=>Q .ax H',rt:=Q } (start N vs) H):aA P w K mg base aM (k+1) f fd ps sp:=by
 obtain ⟨oc,od,kV,doc,pm,an,az,ct,cZ,rfl,lk,cE⟩:=F.ex;refine yj lk cE S len fun A outer s H vs Q E hr fE=>?_;obtain ⟨t,h,q⟩:=AU az A outer s H vs Q E hr fE;exact ⟨t,h.nt,q⟩
theorem ig.binds {x qual:Str} {st:Stmt} {f:Addr} {fd:FuncData} {ps:List Str} (F:ig K x qual st f fd)
  (h:∀ (kV doc pm:Value) (an:Option Addr) (az ct:Value) (us:List Value),us.length=ps.length→bindArgs (PySem.W.fnOf x qual (dM st) (aU st) (aB st) .none kV doc pm an az ct) ⟨us,[]⟩=pure (ps.zip us)):Binds K fd ps []:=by
 obtain ⟨oc,od,kV,doc,pm,an,az,ct,cZ,rfl,lk,cE⟩:=F.ex;exact .all (h kV doc pm an az ct)
theorem x8 {x qual:Str} {st:Stmt} {f:Addr} {oc:Value} {od an:Option Addr} {cZ:Array (Option Value)} {kV doc pm az ct:Value} (l:K.lookup f=some ⟨oc,od,.func (PySem.W.fnOf x qual (dM st) (aU st) (aB st) .none kV doc pm an az ct),cZ⟩)
  (c:PySem.W.codeIn K az qual=true) (k:PySem.W.keepIn K (.ref f)=true):ig K x qual st f (PySem.W.fnOf x qual (dM st) (aU st) (aB st) .none kV doc pm an az ct):=⟨⟨oc,od,kV,doc,pm,an,az,ct,cZ,rfl,l,c⟩,k⟩
end
theorem dX {A:Around} {k:Nat} (hr:bz k A):A.units+1 < cLine:=Nat.lt_of_le_of_lt (Nat.add_le_add_left (by decide:1≤64) _) hr.units
theorem Cf {n:Nat} (h:n≤1000):n < sizeLine:=Nat.lt_of_le_of_lt h (by decide)
section
variable {X:Cx}
theorem pv (i:Nat) {x:Str} {pos:Pos} (hN:X.N[i]?=some x:=by rfl) (hv:qb X.env.scope x:=by first | exact Or.inl rfl | exact Or.inr (Or.inl rfl) | exact Or.inr (Or.inr rfl)) (hd:(x == ("__debug__" : Str))=false:=by decide)
  (cE:(x == ("__classdict__" : Str))=false:=by decide):PE X (.Name x pos) (FC i):=Cm hN hv hd cE
end
theorem bb {A B:Prop} (h:B):if false=true then A else B:=by
 rw [if_neg Bool.false_ne_true];exact h
theorem bM {A B:Prop} (h:A):if true=true then A else B:=by
 rw [if_pos rfl];exact h
theorem jk {c A B:Prop} [Decidable c] (h1:c→A) (h2:¬ c→B):if c then A else B:=by
 by_cases h:c
 ·rw [if_pos h];exact h1 h
 ·rw [if_neg h];exact h2 h
def ai (H H':Hp):Prop:=∀ b o,H b=some o→H' b=some o
theorem ai.refl (H:Hp):ai H H:=fun _ _ h=>h
theorem ai.trans {H H1 H2:Hp} (a:ai H H1) (b:ai H1 H2):ai H H2:=fun c o h=>b c o (a c o h)
theorem ai.free {H H':Hp} (e:ai H H') {l:Addr} (h:H' l=Option.none):H l=Option.none:=by
 cases q:H l with
 | none=>rfl
 | some o =>
  rw [e l o q] at h;cases h
theorem ai.seq {K:PySem.W.Frag} {H H':Hp} {a:Addr} {xs:List V} (e:ai H H') (h:aK K H a xs):aK K H' a xs:=by
 rcases h with (h | ⟨o,h⟩) | h
 ·exact .inl (.inl (e _ _ h))
 ·exact .inl (.inr ⟨o,e _ _ h⟩)
 ·exact .inr h
end L2
namespace L2
open PySem PySem.Spec PyProof.Rows
section
variable {X:Cx}
end
end L2
namespace L2
open PySem PySem.Spec PyProof.Rows
section
variable {κ:Type} [DecidableEq κ]
end
end L2
namespace Tx
open PySem PySem.Builtin PySem.Builtin.Str PySem.StrLaws
def S (l:List Nat):Str:=⟨l.toArray⟩
theorem hV (l:List Nat):(S l).cps.toList=l:=by simp [S]
theorem yM (s:Str):S s.cps.toList=s:=by cases s; simp [S]
theorem bX (l:List Nat):(S l).length=l.length:=by simp [S,Str.length]
theorem rg {a b:List Nat} (h:S a=S b):a=b:=by
 have:=congrArg (fun s=>s.cps.toList) h
 simpa [hV] using this
theorem oG (a b:List Nat):S a++S b=S (a++b):=by
 apply Str.ext';rw [Str.cps_append];simp [S]
theorem jR (c:Nat):(S [c]).length=1:=by rw [bX]; rfl
theorem subAt_one (x:List Nat) (c i:Nat) (h:i < x.length):subAt (S x) (S [c]) i=decide (x[i]?=some c):=by
 rw [subAt_eq,hV,hV,jR];rw [List.drop_eq_getElem_cons h,List.take_succ_cons,List.take_zero,List.getElem?_eq_getElem h];by_cases e:x[i]=c
 ·simp [e]
 ·simp [e]
theorem Kr (x:List Nat) (c:Nat):(!(occurrences (S x) (S [c]) 0 (S x).length 1).isEmpty)=x.contains c:=by
 rw [Bool.eq_iff_iff,found_iff,jR,bX];constructor
 ·rintro ⟨i,h1,h2⟩;rw [subAt_one x c i (by omega)] at h2;have h3:=of_decide_eq_true h2;exact List.elem_iff.mpr (List.mem_of_getElem? h3)
 ·intro h;obtain ⟨i,hi,e⟩:=List.getElem_of_mem (List.elem_iff.mp h);refine ⟨i,by omega,?_⟩;rw [subAt_one x c i hi,List.getElem?_eq_getElem hi,e];simp
def cut (c:Nat):List Nat→List (List Nat)
 | []=>[[]]
 | a::r=>if a=c then []::cut c r else match cut c r with
  | []=>[[a]]
  | h::t=>(a::h)::t
theorem Nl (c:Nat):∀ l,cut c l≠[]
 | []=>by simp [cut]
 | a::r=>by
  unfold cut;split
  ·simp
  ·split <;> simp
def cu (c:Nat):Nat→List Nat→List Nat
 | _,[]=>[]
 | k,a::r=>if a=c then k::cu c (k+1) r else cu c (k+1) r
theorem Hl (c:Nat):∀ (l:List Nat) (k j:Nat),cu c (k+j) l=(cu c k l).map (· + j)
 | [],_,_=>rfl
 | a::r,k,j=>by
  unfold cu;have e:k+j+1=(k+1)+j:=by omega
  rw [e,Hl c r (k+1) j];split <;> simp
theorem zb (x:List Nat) (c limit:Nat):∀ (l:List Nat) (k:Nat) (acc:Array Nat) (free:Nat),x.drop k=l→free≤k→acc.size+l.length < limit→k≤x.length →
  (forIn (List.range' k (x.length+1 - k)) (acc,free) (occBody (S x) (S [c]) x.length limit)).run.fst.toList=acc.toList++cu c k l
 | [],k,acc,free,hd,hf,hl,hk=>by
  have Bj:k=x.length:=by
   have:=congrArg List.length hd;simp at this;omega
  have e:x.length+1 - k=1:=by omega
  have e1:List.range' k 1=[k]:=rfl;rw [e,e1,List.forIn_cons];unfold occBody;have hc:¬ (((((acc,free):Array Nat×Nat).fst.size < limit∧((acc,free):Array Nat×Nat).snd≤k)∧k+(S [c]).length≤x.length)∧subAt (S x) (S [c]) k=true):=by
   rw [jR];rintro ⟨⟨_,h⟩,_⟩;omega
  rw [if_neg hc];simp [cu]
 | a::r,k,acc,free,hd,hf,hl,hk=>by
  have bU:k < x.length:=by
   have:=congrArg List.length hd;simp at this;omega
  have e:x.length+1 - k=(x.length+1 - (k+1))+1:=by omega
  have hx:x[k]?=some a:=by
   have h1:(x.drop k)[0]?=some a:=by rw [hd]; rfl
   rw [List.getElem?_drop] at h1
   simpa using h1
  have hr:x.drop (k+1)=r:=by
   rw [← List.drop_drop,hd]; rfl
  rw [e,List.range'_succ,List.forIn_cons];unfold occBody;simp only [List.length_cons] at hl;by_cases fZ:a=c
  ·have hc:(((((acc,free):Array Nat×Nat).fst.size < limit∧((acc,free):Array Nat×Nat).snd≤k)∧k+(S [c]).length≤x.length)∧subAt (S x) (S [c]) k=true):=by
    rw [jR,subAt_one x c k bU,hx,fZ];refine ⟨⟨⟨?_,hf⟩,by omega⟩,by simp⟩;show acc.size < limit;omega
   rw [if_pos hc];have ih:=zb x c limit r (k+1) (acc.push k) (k+(S [c]).length) hr (by rw [jR]; omega) (by simp; omega) (by omega);refine Eq.trans ih ?_;rw [show cu c k (a::r)=k::cu c (k+1) r from if_pos fZ];simp
  ·have hc:¬ (((((acc,free):Array Nat×Nat).fst.size < limit∧((acc,free):Array Nat×Nat).snd≤k)∧k+(S [c]).length≤x.length)∧subAt (S x) (S [c]) k=true):=by
    rw [subAt_one x c k bU,hx];rintro ⟨_,h⟩;exact fZ (Option.some.inj (of_decide_eq_true h))
   rw [if_neg hc];have ih:=zb x c limit r (k+1) acc free hr (by omega) (by omega) (by omega);refine Eq.trans ih ?_
   conv=>rhs; unfold cu
   rw [if_neg fZ]
theorem yK (x:List Nat) (c:Nat):occurrences (S x) (S [c]) 0 (S x).length ((S x).length+1)=cu c 0 x:=by
 rw [occ_eq,bX];have h:=zb x c (x.length+1) x 0 #[] 0 rfl (Nat.le_refl _) (by simp) (Nat.zero_le _);rw [h];simp
def pieces (l:List Nat) (ps:List Nat):List (List Nat):=((0::ps.map (· + 1)).zip (ps++[l.length])).map fun p=>(l.drop p.1).take (p.2 - p.1)
theorem pY (c:Nat):∀ l:List Nat,pieces l (cu c 0 l)=cut c l
 | []=>rfl
 | a::r=>by
  have ih:=pY c r;have sh:cu c (0+1) r=(cu c 0 r).map (· + 1):=Hl c r 0 1;have tail:∀ (A B:List Nat),((A.map (· + 1)).zip (B.map (· + 1))).map (fun p:Nat×Nat=>((a::r).drop p.1).take (p.2 - p.1))=(A.zip B).map (fun p:Nat×Nat=>(r.drop p.1).take (p.2 - p.1)):=fun A B=>by
   rw [List.zip_map,List.map_map];refine List.map_congr_left fun p _=>?_;show ((a::r).drop (p.1+1)).take (p.2+1 - (p.1+1))=_;rw [List.drop_succ_cons]
   congr 1
   omega
  unfold pieces at ih ⊢;unfold cu cut;rw [sh];by_cases h:a=c
  ·rw [if_pos h,if_pos h];have e1:(0::(0::(cu c 0 r).map (· + 1)).map (· + 1))=0::((0::(cu c 0 r).map (· + 1)).map (· + 1)):=rfl;have e2:(0::(cu c 0 r).map (· + 1))++[(a::r).length]=0::((cu c 0 r++[r.length]).map (· + 1)):=by simp
   rw [e1,e2,List.zip_cons_cons,List.map_cons,tail,ih];simp
  ·rw [if_neg h,if_neg h];have e2:(cu c 0 r).map (· + 1)++[(a::r).length]=(cu c 0 r++[r.length]).map (· + 1):=by simp
   rw [e2];generalize hB:cu c 0 r++[r.length]=B at ih;cases B with
   | nil=>simp at hB
   | cons b B' =>
    rw [List.zip_cons_cons,List.map_cons] at ih;rw [← ih];rw [List.map_cons (l:=B'),List.zip_cons_cons,List.map_cons,tail];simp
theorem Ot (x:List Nat) (i j:Nat):strSub (S x) i j=S ((x.drop i).take (j - i)):=by
 rw [← yM (strSub (S x) i j),strSub_toList,hV]
theorem yP (x:List Nat) (ps:List Nat):partsBetween (S x) ps 1=(pieces x ps).map S:=by
 unfold partsBetween pieces;rw [List.map_map,bX];refine List.map_congr_left fun p _=>?_;exact Ot x p.1 p.2
theorem DJ (c:Nat):∀ l:List Nat,cu c 0 l=[]→cut c l=[l]
 | l,h=>by
  have:=pY c l;rw [h] at this;rw [← this];simp [pieces]
theorem B6 (x:List Nat) (c:Nat) (hc:c < 256):Txt.split (S x) (S [c])=(cut c x).map S:=by
 unfold Txt.split;rw [yK,jR,yP,pY];have nop:∀ k,¬ c∈x→cu c k x=[]:=by
  intro k
  induction x generalizing k with
  | nil=>intro _; rfl
  | cons a r ih =>
   intro hm;unfold cu;rw [if_neg (fun e=>hm (by simp [e]))];exact ih (k+1) fun m=>hm (List.mem_cons_of_mem _ m)
 by_cases h1:(decide ((S x).length < 1) || decide (PySem.Builtin.Str.strKind (S x) < PySem.Builtin.Str.strKind (S [c])))=true
 ·rw [if_pos h1];have hx:cu c 0 x=[]:=by
   refine nop 0 fun m=>?_;rw [bX] at h1;have hk:PySem.Builtin.Str.strKind (S [c])=1:=by unfold PySem.Builtin.Str.strKind S; simp [hc]
   rw [hk] at h1;have hp:¬ x.length < 1:=by cases x with | nil=>simp at m | cons _ _=>simp
   have hq:¬ PySem.Builtin.Str.strKind (S x) < 1:=by unfold PySem.Builtin.Str.strKind; split <;> (try split) <;> omega
   simp [hp,hq] at h1
  rw [DJ c x hx]; rfl
 ·rw [if_neg h1];by_cases h2:(cu c 0 x).isEmpty=true
  ·rw [if_pos h2];rw [DJ c x (List.isEmpty_iff.mp h2)]; rfl
  ·rw [if_neg h2]
end Tx
namespace L2
open PySem PySem.Spec PyProof.Rows
def noStar:Expr→Bool
 | .Starred _ _=>false
 | _=>true
theorem eD {e:Expr} {es:List Expr} {env:Env} (h:noStar e=true):starEach (e::es) env=(false,eval e env)::starEach es env:=by
 cases e <;> first | rfl | cases h
theorem gk {pos:Pos} {env:Env}:∀ {es:List Expr},es.all noStar=true→(backTo pos (starEach es env)).any (·.1)=false
 | [],_=>rfl
 | e::es,h=>by
  rw [List.all_cons,Bool.and_eq_true] at h;rw [eD h.1];have ih:=gk (pos:=pos) (env:=env) h.2;show ((false || (backTo pos (starEach es env)).any (·.1)))=false;rw [ih];rfl
theorem zw {pos:Pos} {env:Env}:∀ {es:List Expr},es.all noStar=true→(backTo pos (starEach es env)).all (fun x=>!x.1)=true
 | [],_=>rfl
 | e::es,h=>by
  rw [List.all_cons,Bool.and_eq_true] at h;rw [eD h.1];have ih:=zw (pos:=pos) (env:=env) h.2;show ((true && (backTo pos (starEach es env)).all (fun x=>!x.1)))=true;rw [ih];rfl
section
variable {X:Cx}
theorem TK {e:Expr} {es:List Expr} {te:TE} {t:TA} (ha:PE X e te) (hr:PA X es t) (hs:noStar e=true:=by rfl):PA X (e::es) (gL te t):=TQ ha hr (eD hs)
theorem Rt {CX:dh} {k:Nat} {f:Addr} {fd:FuncData} {ps:List Str} {sp:Sp} {bp:List V} {ds:List Value} {E:XK} {x:Str} {p pos:Pos} {e:Expr} {es:List Expr} {t:TA}
  (F:aA X.prog X.w X.K X.mg X.base CX k f fd ps sp) (hr:bz k X.A) (hg:Gl X x) (hm:X.mg x=some (.ref f)) (hk:PySem.W.keepIn X.K (.ref f)=true) (hb:Binds X.K fd ps ds) (hd:Vals bp ds) (hx:Passes CX X E)
  (ha:PA X (e::es) t) (hs:(e::es).all noStar=true:=by rfl) (bF:(x == ("__debug__" : Str))=false:=by decide):PE X (.Call (.Name x p) (e::es) [] pos) (tq sp bp E t):=by
 have hs':=hs;rw [List.all_cons,Bool.and_eq_true] at hs';exact Nx F hr hg hm hk hb hd hx ha bF (eD hs'.1) (gk hs'.2)
theorem T8 {x:Str} {p pos:Pos} {e:Expr} {es:List Expr} {t:TA} {id:String} {r:List V→Hp→VK→Prop} (hc:cC X (.builtin id) r) (hg:Gl X x) (hm:X.mg x=none) (hv:bootBuiltins x=some (.builtin id)) (ha:PA X (e::es) t)
  (hs:(e::es).all noStar=true:=by rfl) (hn:x ≠ "__name__" := by decide) (bF:(x == ("__debug__" : Str))=false:=by decide):PE X (.Call (.Name x p) (e::es) [] pos) (lJ r t):=by
 have hs':=hs;rw [List.all_cons,Bool.and_eq_true] at hs';exact R8 hc hg hm hv ha hn bF (eD hs'.1) (gk hs'.2)
theorem U4 {x:Str} {p pos:Pos} {e:Expr} {es:List Expr} {t:TA} {T:String} {r:List V→Hp→VK→Prop} (hc:cC X (.type T) r) (hg:Gl X x) (hm:X.mg x=none) (hv:bootBuiltins x=some (.type T)) (ha:PA X (e::es) t)
  (hs:(e::es).all noStar=true:=by rfl) (hn:x ≠ "__name__" := by decide) (bF:(x == ("__debug__" : Str))=false:=by decide):PE X (.Call (.Name x p) (e::es) [] pos) (lJ r t):=by
 have hs':=hs;rw [List.all_cons,Bool.and_eq_true] at hs';exact O2 hc hg hm hv ha hn bF (eD hs'.1) (gk hs'.2)
end
end L2
namespace L2
open PySem PySem.Spec PyProof.Rows
section
variable {X:Cx}
theorem PE.imp {e:Expr} {t t':TE} (h:PE X e t) (i:∀ σ H Q,t' σ H Q→t σ H Q):PE X e t':=fun pins s σ H Q I hw=>h pins s σ H Q I (i σ H Q hw)
theorem PS.imp {e:Stmt} {t t':TS} (h:PS X e t) (i:∀ D σ H,t' D σ H→t D σ H):PS X e t':=fun pins s σ H D I hw=>h pins s σ H D I (i D σ H hw)
theorem bc.imp {f:Value→Value→Sem Value} {r r':R2} (h:bc X f r) (i:∀ x y H Q,r' x y H Q→r x y H Q):bc X f r':=fun pins s σ H x y v u Q I rx ry q=>h pins s σ H x y v u Q I rx ry (i x y H Q q)
theorem cC.imp {f:Value} {r r':List V→Hp→VK→Prop} (h:cC X f r) (i:∀ xs H Q,r' xs H Q→r xs H Q):cC X f r':=fun pins s σ H xs us Q I rx q=>h pins s σ H xs us Q I rx (i xs H Q q)
def kZ (i:Nat):TE:=fun σ H Q=>match σ[i]? with
 | some (some v)=>Q v H
 | _=>False
theorem qv (i:Nat) {x:Str} {pos:Pos} (hN:X.N[i]?=some x:=by rfl) (hv:qb X.env.scope x:=by first | exact Or.inl rfl | exact Or.inr (Or.inl rfl) | exact Or.inr (Or.inr rfl)) (hd:(x == ("__debug__" : Str))=false:=by decide)
  (cE:(x == ("__classdict__" : Str))=false:=by decide):PE X (.Name x pos) (kZ i):=(Cm hN hv hd cE).imp fun σ H Q h=>by
 unfold kZ at h;split at h
 ·rename_i v e;exact ⟨v,e,h⟩
 ·exact h.elim
def xv:R2:=fun x y H Q=>match x,y with
 | .int i,.int j=>Q (.int (i+j)) H
 | .str a,.str b=>a.length+b.length≤sizeLine∧Q (.str (a++b)) H
 | .ref l,.ref b=>match H l,H b with
  | some (.lst xs),some (.lst zs)=>xs.length+zs.length≤sizeLine∧∀ p,H p=none→Q (.ref p) (upd H p (.lst (xs++zs)))
  | _,_=>False
 | _,_=>False
theorem dQ:bc X (binaryOp .Add) xv:=(SK.or (Oc.or Kz)).imp fun x y H Q h=>by
 unfold xv at h;split at h
 ·exact .inl ⟨_,_,rfl,rfl,h⟩
 ·exact .inr (.inl ⟨_,_,rfl,rfl,h.1,h.2⟩)
 ·split at h
  ·rename_i xs zs h1 h2;exact .inr (.inr ⟨_,_,xs,zs,rfl,rfl,h1,h2,h.1,h.2⟩)
  ·exact h.elim
 ·exact h.elim
def bG (K:PySem.W.Frag) (H:Hp) (p:Addr) (R:List V→Prop):Prop:=match H p with
 | some (.lst xs)=>R xs
 | some (.tup xs)=>R xs
 | _=>∃ xs,(aK K H p xs∨bV K H p xs)∧R xs
theorem yJ {K:PySem.W.Frag} {H:Hp} {p:Addr} {R:List V→Prop} (h:bG K H p R):∃ xs,(aK K H p xs∨bV K H p xs)∧R xs:=by
 unfold bG at h;split at h
 ·rename_i xs e;exact ⟨xs,.inl (aK.of e),h⟩
 ·rename_i xs e;exact ⟨xs,.inr (bV.of e),h⟩
 ·exact h
def uo (K:PySem.W.Frag) (H:Hp) (p:Addr) (R:List V→Prop):Prop:=∃ xs,aK K H p xs∧R xs
theorem zT {K:PySem.W.Frag} {H:Hp} {p:Addr} {R:List V→Prop} (h:uo K H p R):∃ xs,aK K H p xs∧R xs:=h
def qO (C:Int→Int→Prop) (f:Int→Int→Int):R2:=fun x y H Q=>match x,y with
 | .int i,.int j=>C i j∧Q (.int (f i j)) H
 | _,_=>False
theorem Ew {C:Int→Int→Prop} {f:Int→Int→Int} {x y:V} {H:Hp} {Q:VK} (h:qO C f x y H Q):rI C (fun i j=>.int (f i j)) x y H Q:=by
 unfold qO at h;split at h
 ·exact ⟨_,_,rfl,rfl,h.1,h.2⟩
 ·exact h.elim
theorem j0:bc X (binaryOp .Mod) (qO (fun _ j=>0 < j) fun i j=>i % j):=Ux.imp fun _ _ _ _ h=>Ew h
theorem xW:bc X (binaryOp .FloorDiv) (qO Ht fun i j=>i / j):=Q6.imp fun _ _ _ _ h=>Ew h
def om (neg:Bool):R2:=fun x y H Q=>match x,y with
 | .int i,.int j=>Q (.bl (neg ^^ decide (i=j))) H
 | .str i,.str j=>Q (.bl (neg ^^ decide (i=j))) H
 | .bl i,.bl j=>Q (.bl (neg ^^ decide (i=j))) H
 | _,_=>tJ x y=true∧Q (.bl (neg ^^ decide (x=y))) H
theorem Ct (i j:Int):decide (V.int i=V.int j)=decide (i=j):=by by_cases h:i=j <;> simp [h]
theorem Cr (i j:Str):decide (V.str i=V.str j)=decide (i=j):=by by_cases h:i=j <;> simp [h]
theorem Dl (i j:Bool):decide (V.bl i=V.bl j)=decide (i=j):=by by_cases h:i=j <;> simp [h]
theorem QC:bc X (compareOp .Eq) (om false):=Oo.imp fun x y H Q h=>by
 unfold om at h;simp only [Bool.false_bne] at h;split at h
 ·exact ⟨rfl,by rw [Ct]; exact h⟩
 ·exact ⟨rfl,by rw [Cr]; exact h⟩
 ·exact ⟨rfl,by rw [Dl]; exact h⟩
 ·exact h
theorem Ru:bc X (compareOp .NotEq) (om true):=OS.imp fun x y H Q h=>by
 unfold om at h;simp only [Bool.true_bne] at h;split at h
 ·exact ⟨rfl,by rw [Ct]; exact h⟩
 ·exact ⟨rfl,by rw [Cr]; exact h⟩
 ·exact ⟨rfl,by rw [Dl]; exact h⟩
 ·exact h
def ia (f:Int→Int→Bool):R2:=fun x y H Q=>match x,y with
 | .int i,.int j=>Q (.bl (f i j)) H
 | _,_=>False
theorem xp {f:Int→Int→Bool} {x y:V} {H:Hp} {Q:VK} (h:ia f x y H Q):md (fun i j=>.bl (f i j)) x y H Q:=by
 unfold ia at h;split at h
 ·exact ⟨_,_,rfl,rfl,h⟩
 ·exact h.elim
theorem Ek:bc X (compareOp .Lt) (ia fun i j=>decide (i < j)):=TC.imp fun _ _ _ _ h=>xp h
theorem oj:bc X (compareOp .LtE) (ia fun i j=>decide (i≤j)):=OY.imp fun _ _ _ _ h=>xp h
theorem uD:bc X (compareOp .Gt) (ia fun i j=>decide (j < i)):=N3.imp fun _ _ _ _ h=>xp h
def uy (K:PySem.W.Frag):R2:=fun x y H Q=>match x,y with
 | .str i,.str j=>Q (.bl (!(Builtin.Str.occurrences j i 0 j.length 1).isEmpty)) H
 | _,.ref p=>bG K H p fun xs=>cm x=true∧xs.all cm=true∧Q (.bl (fQ x xs)) H
 | _,_=>False
theorem Ub:bc X (compareOp .In) (uy X.K):=(Ud.or G7).imp fun x y H Q h=>by
 unfold uy at h;split at h
 ·exact .inl ⟨_,_,rfl,rfl,h⟩
 ·obtain ⟨xs,h1,h2,h3,h4⟩:=yJ h;exact .inr ⟨_,xs,rfl,h1,h2,h3,h4⟩
 ·exact h.elim
def j3 (t:TE):TT:=fun σ H Q=>t σ H fun x H'=>match x with
 | .bl k=>Q k H'
 | _=>False
theorem wt {x:V} {H:Hp} {Q:Bool→Hp→Prop} (h:(match x with | .bl k=>Q k H | _=>False)):∃ k,x=.bl k∧Q k H:=by
 split at h
 ·exact ⟨_,rfl,h⟩
 ·exact h.elim
theorem Mm {op:CmpOp} {r:R2} {a b:Expr} {ta tb:TE} {pos:Pos} (ho:bc X (compareOp op) r) (ha:PE X a ta) (hb:PE X b tb) (hm:behindInMarks op b=false:=by first | exact uP _ (by decide) (by decide) | rfl) :
  PT X (.Compare a [op] [b] pos) (j3 (gG r ta tb)):=by
 intro pins s σ H Q I h;refine wpAny_isTrue_Compare1 ?_ hm;refine aD (ha pins s σ H _ I h) fun v s1 ⟨x,H1,I1,r1,q1⟩=>aD (hb pins s1 σ H1 _ I1 q1) fun u s2 ⟨y,H2,I2,r2,q2⟩=>?_;refine aD (ho pins s2 σ H2 x y v u _ I2 r1 r2 q2) fun c s3 ⟨z,H3,I3,r3,q3⟩=>?_;obtain ⟨k,rfl,q⟩:=wt q3;cases r3;exact wpAny_truthy_bool ⟨H3,I3,q⟩
theorem R3 {e:Expr} {t:TE} (h:PE X e t) (he:∀ whole,isTrue e X.env whole=(do let v ← whole; standAt e.pos; holding [v] (truthy v)):=by intro _; rfl):PT X e (j3 t):=by
 intro pins s σ H Q I hw;refine isTrue_plain (aD (h pins s σ H _ I hw) fun v s1 ⟨x,H1,I1,r1,q1⟩=>?_) (he _);obtain ⟨d,rfl,q⟩:=wt q1;cases r1;exact wpAny_truthy_bool ⟨H1,I1,q⟩
def z9 (f g:Int→Int→Bool) (ta tb tc:TE):TT:=fun σ H Q=>ta σ H fun x H1=>tb σ H1 fun y H2=>match x,y with
 | .int i,.int j=>if f i j=true then tc σ H2 fun z H3=>(match z with | .int k=>Q (g j k) H3 | _=>False) else Q false H2
 | _,_=>False
def yF (ta tb:TE):TE:=fun σ H Q=>ta σ H fun x H1=>match x with
 | .bl c=>if c=true then tb σ H1 Q else Q (.bl false) H1
 | _=>False
def xl (ta tb:TE):TE:=fun σ H Q=>ta σ H fun x H1=>match x with
 | .bl c=>if c=true then Q (.bl true) H1 else tb σ H1 Q
 | _=>False
def yQ (ta:TE):TE:=fun σ H Q=>ta σ H fun x H1=>match x with
 | .bl c=>Q (.bl (!c)) H1
 | _=>False
variable {a b:Expr} {ta tb:TE} {pos:Pos} {rest:List Expr}
theorem SD (ha:PE X a ta) (hb:PE X (.BoolOp .And (b::rest) pos) tb):PE X (.BoolOp .And (a::b::rest) pos) (yF ta tb):=by
 intro pins s σ H Q I h;refine BoolOp_and (aD (ha pins s σ H _ I h) fun v s1 ⟨x,H1,I1,r1,q1⟩=>?_);have q1':∃ c,x=.bl c∧if c=true then tb σ H1 Q else Q (.bl false) H1:=by
  dsimp only at q1;split at q1
  ·exact ⟨_,rfl,q1⟩
  ·exact q1.elim
 obtain ⟨c,rfl,q1⟩:=q1';cases r1;refine wpAny_truthy_bool ?_;cases c with
 | true=>exact hb pins s1 σ H1 Q I1 q1
 | false=>exact ⟨.bl false,H1,I1,rfl,q1⟩
theorem UH (ha:PE X a ta) (hb:PE X (.BoolOp .Or (b::rest) pos) tb):PE X (.BoolOp .Or (a::b::rest) pos) (xl ta tb):=by
 intro pins s σ H Q I h;refine BoolOp_or (aD (ha pins s σ H _ I h) fun v s1 ⟨x,H1,I1,r1,q1⟩=>?_);have q1':∃ c,x=.bl c∧if c=true then Q (.bl true) H1 else tb σ H1 Q:=by
  dsimp only at q1;split at q1
  ·exact ⟨_,rfl,q1⟩
  ·exact q1.elim
 obtain ⟨c,rfl,q1⟩:=q1';cases r1;refine wpAny_truthy_bool ?_;cases c with
 | false=>exact hb pins s1 σ H1 Q I1 q1
 | true=>exact ⟨.bl true,H1,I1,rfl,q1⟩
def uT:V→Value
 | .ty n=>.type n
 | .ref a=>.ref a
 | _=>.none
theorem RX:cC X (.builtin "isinstance") (fun xs H Q=>∃ x cV t b,xs=[x,cV]∧((∃ n,cV=.ty n)∨∃ a,cV=.ref a)∧er X.K H x t∧PySem.W.kitOne X.K t (uT cV)=some b∧Q (.bl b) H):=by
 intro pins s σ H xs us Q I r h;obtain ⟨x,cV,t,b,rfl,hc,ty,e,q⟩:=h;obtain ⟨u,c',rfl,ru,rc'⟩:=vals2 r;have ec:c'=uT cV:=by
  rcases hc with ⟨n,rfl⟩ | ⟨a,rfl⟩
  ·exact rc'
  ·exact rc'
 subst ec;exact zf I ru ty e fun tk=>⟨.bl b,H,I.tok tk,rfl,q⟩
end
end L2
namespace L2
open PySem PySem.Spec PyProof.Rows
section
variable {X:Cx}
def xu:V→List V→Hp→VK→Prop:=fun x xs H Q=>match x,xs with
 | .str a,[.str b]=>Q (.bl (Txt.startswith a b)) H
 | _,_=>False
theorem Rv:cO X "str.startswith" xu:=by
 intro pins s σ H x xs v us Q I rx r h;unfold xu at h;split at h
 ·rename_i a b;obtain ⟨t,rfl⟩:=rx;obtain ⟨u,rfl,t',rfl⟩:=vals1 r;exact call_meets F.slot_str_startswith (typeIs_str s a t) F.entry_str_startswith (F.args_str_startswith_2 _ _) (gives_str_startswith a b t t').meets ⟨.bl _,H,I,rfl,h⟩
 ·exact h.elim
def zQ:V→List V→Hp→VK→Prop:=fun x xs H Q=>match x,xs with
 | .str a,[.str b]=>Q (.bl (Txt.endswith a b)) H
 | _,_=>False
theorem O9:cO X "str.endswith" zQ:=by
 intro pins s σ H x xs v us Q I rx r h;unfold zQ at h;split at h
 ·rename_i a b;obtain ⟨t,rfl⟩:=rx;obtain ⟨u,rfl,t',rfl⟩:=vals1 r;exact call_meets F.slot_str_endswith (typeIs_str s a t) F.entry_str_endswith (F.args_str_endswith_2 _ _) (gives_str_endswith a b t t').meets ⟨.bl _,H,I,rfl,h⟩
 ·exact h.elim
theorem GN:∀ (l:List (Str×Tok)),Vals ((l.map (·.1)).map V.str) (strValues l)
 | []=>.nil
 | p::r=>.cons ⟨p.2,rfl⟩ (GN r)
theorem ud:∀ {ts:List Str} {us:List Value},Vals (ts.map V.str) us→∃ l:List (Str×Tok),us=strValues l∧l.map (·.1)=ts
 | [],_,.nil=>⟨[],rfl,rfl⟩
 | t::r,_,.cons h h'=>by
  obtain ⟨k,rfl⟩:=h;obtain ⟨l,e1,e2⟩:=ud h';exact ⟨(t,k)::l,by rw [e1]; rfl,by rw [← e2]; rfl⟩
def zp:V→List V→Hp→VK→Prop:=fun x xs H Q=>match x,xs with
 | .str a,[.str b]=>(b.length == 0)=false∧a.length≤sizeLine∧(Builtin.Str.partsBetween a (Builtin.Str.occurrences a b 0 a.length (a.length+1)) b.length).length≤sizeLine ∧
   ∀ l,H l=none→Q (.ref l) (upd H l (.lst ((Txt.split a b).map V.str)))
 | _,_=>False
theorem E7:cO X "str.split" zp:=by
 intro pins s σ H x xs v us Q I rx r h;unfold zp at h;split at h
 ·rename_i a b;obtain ⟨hy,hx,hn,q⟩:=h;obtain ⟨t,rfl⟩:=rx;obtain ⟨w',rfl,u,rfl⟩:=vals1 r;have fin:∀ (l:List (Str×Tok)) (tk:Nat),l.map (·.1)=Txt.split a b→l.length≤sizeLine →
    EP X pins σ Q (.ref s.heap.objs.size) { s with heap:=s.heap.push { cls:=.type "list",data:=.seq (strValues l).toArray },toks:=tk }:=fun l tk e hz =>
   ⟨.ref _,_,I.laid (t':=tk) (o:=.lst ((Txt.split a b).map V.str)) (fun b' o' q'=>Heap.get?_push_of_some _ q') (Nat.le_refl _)
    ⟨by rw [List.length_map,← e,List.length_map]; exact hz,strValues l,0,by rw [← e]; exact GN l,Heap.get?_push_size _ rfl⟩,rfl,q _ (I.aC.fresh (Nat.le_refl _))⟩
  cases h1:(decide (a.length < b.length) || decide (Builtin.Str.strKind a < Builtin.Str.strKind b))
  ·cases hf:(Builtin.Str.occurrences a b 0 a.length (a.length+1)).isEmpty
   ·refine call_meets F.slot_str_split (typeIs_str s a t) F.entry_str_split (F.args_str_split_2 _ _) (meets_str_split_sep a b t u h1 hy hf hx hn) ?_;have e:Txt.split a b=Builtin.Str.partsBetween a (Builtin.Str.occurrences a b 0 a.length (a.length+1)) b.length:=(if_neg (ne_true_of_eq_false h1)).trans (if_neg (ne_true_of_eq_false hf));have z:=fin (numbered s.toks (Builtin.Str.partsBetween a (Builtin.Str.occurrences a b 0 a.length (a.length+1)) b.length)) (s.toks+(Builtin.Str.partsBetween a (Builtin.Str.occurrences a b 0 a.length (a.length+1)) b.length).length)
     ((numbered_texts _ _).trans e.symm) (by
      have:=congrArg List.length (numbered_texts s.toks (Builtin.Str.partsBetween a (Builtin.Str.occurrences a b 0 a.length (a.length+1)) b.length));rw [List.length_map] at this;rw [this]; exact hn)
    rw [← strsFrom_eq] at z;exact z
   ·exact call_meets F.slot_str_split (typeIs_str s a t) F.entry_str_split (F.args_str_split_2 _ _) (meets_str_split_not_found a b t u h1 hy hf)
     (fin [(a,t)] s.toks ((if_neg (ne_true_of_eq_false h1)).trans (if_pos hf)).symm (by show 1≤sizeLine; decide))
  ·exact call_meets F.slot_str_split (typeIs_str s a t) F.entry_str_split (F.args_str_split_2 _ _) (meets_str_split_cannot_occur a b t u h1)
    (fin [(a,t)] s.toks (if_pos h1).symm (by show 1≤sizeLine; decide))
 ·exact h.elim
def rJoin (K:PySem.W.Frag):V→List V→Hp→VK→Prop:=fun x xs H Q=>match x,xs with
 | .str a,[.ref p]=>uo K H p fun xs=>∃ ts:List Str,xs=ts.map V.str∧ts.foldl (fun n z=>n+z.length+a.length) 0≤sizeLine∧Q (.str (Str.join a ts)) H
 | _,_=>False
theorem Ry:cO X "str.join" (rJoin X.K):=by
 intro pins s σ H x xs v us Q I rx r h;unfold rJoin at h;split at h
 ·rename_i a p;obtain ⟨xs,hq,ts,rfl,hz,q⟩:=zT h;obtain ⟨t,rfl⟩:=rx;obtain ⟨w',rfl,e⟩:=vals1 r;cases e;obtain ⟨aq,rv,pl,hl⟩:=I.list hq;obtain ⟨l,rfl,e2⟩:=ud rv;have BA:Builtin.Str.tooLong ((l.map (·.1)).toArray.foldl (· + ·.length+a.length) 0)=false:=by
   unfold Builtin.Str.tooLong;refine decide_eq_false (Nat.not_lt.mpr ?_);rw [List.foldl_toArray,e2];exact hz
  refine call_meets F.slot_str_join (typeIs_str s a t) F.entry_str_join (F.args_str_join_2 _ _) (meets_str_join_list a t p l BA) ⟨pl.isList,?_⟩;have hlen:(Builtin.Str.glued a (l.map (·.1))).length≤sizeLine:=by
   rw [e2,StrLaws.glued_eq_join];refine Nat.le_trans ?_ hz;have:∀ (us:List Str) (n:Nat),n+(Str.join a us).length≤us.foldl (fun n z=>n+z.length+a.length) n:=by
    intro us
    induction us with
    | nil=>intro n; exact Nat.le_refl _
    | cons y r ih =>
     intro n;cases r with
     | nil=>show n+y.length≤n+y.length+a.length; omega
     | cons z r' =>
      have h1:(Str.join a (y::z::r')).length=y.length+a.length+(Str.join a (z::r')).length:=by
       show ((y++a)++Str.join a (z::r')).length=_;rw [Str.length_append,Str.length_append]
      have h2:=ih (n+y.length+a.length);rw [h1];refine Nat.le_trans ?_ h2;omega
   have h0:=this ts 0;omega
  have e3:Builtin.Str.glued a (l.map (·.1))=Str.join a ts:=by rw [e2,StrLaws.glued_eq_join]
  match l,e2,e3,hlen with
  | [],e2,e3,hlen=>exact ⟨hlen,⟨.str (Str.join a ts),H,I.tok _,⟨_,by rw [e3]⟩,q⟩⟩
  | [p],e2,e3,hlen =>
   have e4:Str.join a ts=p.1:=by rw [← e2]; rfl
   exact ⟨.str (Str.join a ts),H,I.tok _,⟨_,by rw [e4]⟩,q⟩
  | p1::p2::r',e2,e3,hlen=>exact ⟨hlen,⟨.str (Str.join a ts),H,I.tok _,⟨_,by rw [e3]⟩,q⟩⟩
 ·exact h.elim
theorem El {v:Value} {o:Option Int} (p:IsPart v o):∃ l:Option (Int×Tok),v=partValue l∧l.map (·.1)=o:=by
 cases p with
 | none=>exact ⟨none,rfl,rfl⟩
 | int i t=>exact ⟨some (i,t),rfl,rfl⟩
def E9:V→Option Int→Option Int→Hp→VK→Prop:=fun x lo hi H Q=>match x with
 | .str z=>z.length≤sizeLine∧Q (.str (Txt.slice z lo hi)) H
 | _=>False
theorem PX:f7 X E9:=by
 intro pins s σ H x v vl vu lo hi sl Q I rx hs pl pu h;unfold E9 at h;split at h
 ·rename_i z;obtain ⟨hz,q⟩:=h;obtain ⟨t,rfl⟩:=rx;obtain ⟨l,rfl,rfl⟩:=El pl;obtain ⟨u,rfl,rfl⟩:=El pu;refine ⟨"str",_,F.slot_str_getitem.lookup,typeIs_str _ _ _,wpAny_getItem_str_slice (l:=l) (u:=u) (st:=none) hs rfl
   (post_val_or_str ⟨Nat.le_trans (Txt.slice_le z _ _) hz,fun t' k=>?_⟩)⟩
  exact ⟨.str (Txt.slice z (l.map (·.1)) (u.map (·.1))),H,I.tok k,⟨t',rfl⟩,q⟩
 ·exact h.elim
def yX:R2:=fun x y H Q=>match x,y with
 | .int i,.int j=>tZ i j∧Q (.int (i * j)) H
 | .str z,.int n=>MulOk z n∧Q (.str (Txt.mul z n)) H
 | .ref l,.int k=>match H l with
  | some (.lst xs)=>-(2 ^ 63)≤k∧k < 2 ^ 63∧xs.length * k.toNat≤sizeLine∧∀ p,H p=none→Q (.ref p) (upd H p (.lst (List.replicate k.toNat xs).flatten))
  | _=>False
 | _,_=>False
theorem LL:bc X (binaryOp .Mult) (fun x y H Q=>∃ z n,x=.str z∧y=.int n∧MulOk z n∧Q (.str (Txt.mul z n)) H):=by
 intro pins s σ H x y v u Q I rx ry h;obtain ⟨z,n,rfl,rfl,hm,q⟩:=h;obtain ⟨t,rfl⟩:=rx;obtain ⟨t',rfl⟩:=ry;exact SB.mul hm fun t2 k=>⟨.str _,H,I.tok _,⟨_,rfl⟩,q⟩
theorem uW:bc X (binaryOp .Mult) yX:=(R1.or (LL.or T6)).imp fun x y H Q h=>by
 unfold yX at h;split at h
 ·exact .inl ⟨_,_,rfl,rfl,h.1,h.2⟩
 ·exact .inr (.inl ⟨_,_,rfl,rfl,h.1,h.2⟩)
 ·split at h
  ·rename_i xs h1;obtain ⟨h2,h3,h4,h5⟩:=h;exact .inr (.inr ⟨_,_,xs,rfl,rfl,h1,h2,h3,h4,h5⟩)
  ·exact h.elim
 ·exact h.elim
theorem HE:∀ {bs:List Bool} {us:List Value},Vals (bs.map V.bl) us→us=bs.map Value.bool
 | [],_,.nil=>rfl
 | b::r,_,.cons h h'=>by
  have h:_=Value.bool b:=h;rw [h,HE h'];rfl
theorem all_range (bs:List Bool):(List.range bs.length).all (fun j=>bs.getD j true)=bs.all id:=by
 rw [Bool.eq_iff_iff,List.all_eq_true,List.all_eq_true];constructor
 ·intro h b hb;obtain ⟨i,hi,e⟩:=List.getElem_of_mem hb;have:=h i (List.mem_range.mpr hi);rw [List.getD_eq_getElem?_getD,List.getElem?_eq_getElem hi,e] at this;exact this
 ·intro h j hj;have hj:=List.mem_range.mp hj;rw [List.getD_eq_getElem?_getD,List.getElem?_eq_getElem hj];exact h _ (List.getElem_mem hj)
theorem T5 (hc:X.calm=true):cC X (.builtin "all") (fun xs H Q=>∃ (p:Addr) (bs:List Bool),xs=[.ref p]∧aK X.K H p (bs.map V.bl)∧Q (.bl (bs.all id)) H):=by
 intro pins s σ H xs us Q I r h;obtain ⟨p,bs,rfl,hq,q⟩:=h;obtain ⟨u,rfl,e⟩:=vals1 r;cases e;obtain ⟨aq,rv,pl,hz⟩:=I.list hq;have eb:=HE rv;subst eb;have bg:p < s.heap.objs.size:=pl.lt;refine call_all_walk (wpAny_pyIter_list pl.isList ?_);refine ⟨s.heap.objs.size,_,_,_,_,_,fun j=>bs.getD j true,rfl,Walks.list (A:=X.A.in1) (show X.A.in1.handled=none from I.ok.hd hc) _ p (Nat.ne_of_lt bg) (bs.map Value.bool).toArray,⟨⟨_,Heap.get?_push_size _ rfl,rfl,rfl⟩,pl.isList.push _⟩,?_,?_⟩
 ·intro i v s' Q' E' hP hQ;have hi:bs[i]?=some (bs.getD i true)∧v=.bool (bs.getD i true):=by
   have hP:(bs.map Value.bool).toArray[i]?=some v:=hP;rw [List.getElem?_toArray,List.getElem?_map] at hP;cases e:bs[i]? with
   | none=>rw [e] at hP; cases hP
   | some b =>
    rw [e] at hP;have:bs.getD i true=b:=by rw [List.getD_eq_getElem?_getD,e]; rfl
    rw [this];exact ⟨rfl,(Option.some.inj hP).symm⟩
  rw [hi.2];exact wpAny_truthy_bool hQ
 ·intro h' tk hk;have e:(List.range (bs.map Value.bool).toArray.size).all (fun j=>bs.getD j true)=bs.all id:=by
   rw [List.size_toArray,List.length_map];exact all_range bs
  rw [e];refine ⟨.bl (bs.all id),H,I.kept (t':=tk) (fun b o eo=>?_),rfl,q⟩;refine hk b o ?_ (Heap.get?_push_of_some _ eo);intro hm;have e1:b=s.heap.objs.size:=by simpa using hm
  exact absurd (Heap.lt_size eo) (by rw [e1]; exact Nat.lt_irrefl _)
def tu (x:Str):It:=⟨fun i _=>i < x.length,fun i H y H'=>H'=H∧∃ c,x.cps[i]?=some c∧y=.str ⟨#[c]⟩,fun i _=>x.length≤i⟩
theorem DA {P:Program} {w:World} {K:PySem.W.Frag} {tg:Expr} {x:Str} {t:Tok} {ty:String} (it:Addr)
  (b8:["enumerate", "zip", "dict_itemiterator", "dict_reverseitemiterator", "odict_iterator", "itertools.zip_longest", "itertools.pairwise"].contains ty=false)
  (W:∀ A:Around,A.handled=none→Walks P w A it [it] [it] x.cps.size (SignAt x) (fun i h=>h.IsStrIter it ty x t i)) (W0:∀ (A:Around) (i:Nat) (s:Shared) (Q:Value→Shared→Prop) (E:Value→Shared→Prop),s.heap.IsStrIter it ty x t i→Q (.ref it) s→wpAny (model P w) A (pyIter (.ref it)) Q E s) :
  Turn P w K tg (tu x) [it] it (fun i h=>i≤x.length∧h.IsStrIter it ty x t i) where
 mem:=by simp
 obj:=fun i h st b hb=>by
  have e:b=it:=by simpa using hb
  subst e;obtain ⟨_,o,e,c,d⟩:=st;exact ⟨o,e,fun v z=>by rw [d] at z; cases z⟩
 keep:=fun i h h' st k=>⟨st.1,let ⟨o,ho,r⟩:=st.2; ⟨o,k it (by simp) o ho,r⟩⟩
 item:=by
  intro X hP hw hK hc i pins s σ H E I hf st hg;subst hP hw hK;obtain ⟨f0,f1,f2,f3,f4,f5⟩:=hf it (by simp);refine (W X.A (I.ok.hd hc)).item i s _ E hg st.2 fun v h' tk hv st' hk=>?_;obtain ⟨c,u,hcx,rfl⟩:=hv;have I1:Inv X pins σ H { s with heap:=h',toks:=tk }:=I.turned (t':=tk) (fun b o hb e=>hk b o (by simpa using hb) e) f0 f1 f3 f4 f5;obtain ⟨o,e,cc,d⟩:=id st';exact ⟨_,rfl,v9 (s:={ s with heap:=h',toks:=tk }) e cc d b8 ⟨.str ⟨#[c]⟩,H,I1,⟨u,rfl⟩,⟨rfl,c,hcx,rfl⟩,⟨hg,st'⟩,fun b hb=>(hf b hb).1⟩⟩
 done:=by
  intro X hP hw hK hc i pins s σ H E I hf st hg;subst hP hw hK;obtain ⟨f0,f1,f2,f3,f4,f5⟩:=hf it (by simp);have hi:i=x.cps.size:=Nat.le_antisymm st.1 hg;subst hi;exact (W X.A (I.ok.hd hc)).done s _ E st.2 fun h' tk hk=>⟨rfl,I.turned (t':=tk) (fun b o hb e=>hk b o (by simpa using hb) e) f0 f1 f3 f4 f5⟩
 self:=fun A i s Q E st h=>W0 A i s Q E st.2 h
def xQ (tl:TE):TI:=fun σ H R=>tl σ H fun x H1=>match x with
 | .str z=>R (tu z) H1
 | _=>False
theorem VL {tg l:Expr} {tl:TE} (hl:PE X l tl):PI X tg l (xQ tl):=by
 intro pins s σ H R I h;refine aD (hl pins s σ H _ I h) fun v s1 ⟨x,H1,I1,r1,q1⟩=>?_;have q1':∃ z,x=.str z∧R (tu z) H1:=by
  dsimp only at q1;split at q1
  ·exact ⟨_,rfl,q1⟩
  ·exact q1.elim
 obtain ⟨z,rfl,q⟩:=q1';obtain ⟨t,rfl⟩:=r1;have fp:∀ b∈[s1.heap.objs.size],iX X pins H1 b:=fun b hb=>by
  have e:b=s1.heap.objs.size:=by simpa using hb
  subst e;exact I1.yU (Nat.le_refl _) (I1.aC.fresh (Nat.le_refl _))
 cases ha:z.cps.all (· < 128)
 ·refine wpAny_pyIter_wide ha ⟨s1.heap.objs.size,[s1.heap.objs.size],_,_,H1,rfl,I1.kept (t':=s1.toks) fun b o e=>Heap.get?_push_of_some _ e,
   DA (ty := "str_iterator") (t:=t) _ (by decide) (fun A hA=>Walks.strWide hA _ z t) (fun A i s Q E st h=>wpAny_pyIter_striter_wide st h),⟨Nat.zero_le _,_,Heap.get?_push_size _ rfl,rfl,rfl⟩,fp,q⟩
 ·refine wpAny_pyIter_ascii ha ⟨s1.heap.objs.size,[s1.heap.objs.size],_,_,H1,rfl,I1.kept (t':=s1.toks) fun b o e=>Heap.get?_push_of_some _ e,
   DA (ty := "str_ascii_iterator") (t:=t) _ (by decide) (fun A hA=>Walks.strAscii hA _ z t) (fun A i s Q E st h=>wpAny_pyIter_striter_ascii st h),⟨Nat.zero_le _,_,Heap.get?_push_size _ rfl,rfl,rfl⟩,fp,q⟩
end
end L2
namespace L2
open PySem PySem.Spec PyProof.Rows
section
variable {X:Cx} {a b c:Expr} {ta tb tc:TE} {pos:Pos}
theorem Mc (ha:PE X a ta):PE X (.UnaryOp .Not a pos) (yQ ta):=by
 intro pins s σ H Q I h;refine UnaryOp_ (aD (ha pins s σ H _ I h) fun v s1 ⟨x,H1,I1,r1,q1⟩=>?_);have q1':∃ k,x=.bl k∧Q (.bl (!k)) H1:=by
  dsimp only at q1;split at q1
  ·exact ⟨_,rfl,q1⟩
  ·exact q1.elim
 obtain ⟨k,rfl,z1⟩:=q1';cases r1;exact not_of (wpAny_truthy_bool ⟨.bl (!k),H1,I1,rfl,z1⟩)
theorem Nz {op op':CmpOp} {f g:Int→Int→Bool} (ho:bc X (compareOp op) (ia f)) (ho':bc X (compareOp op') (ia g)) (ha:PE X a ta) (hb:PE X b tb) (hc:PE X c tc)
  (hm:lastMarks [op,op'] [b,c]=false:=by with_unfolding_all rfl):PT X (.Compare a [op,op'] [b,c] pos) (z9 f g ta tb tc):=by
 intro pins s σ H Q I h;refine isTrue_chain (aD (ha pins s σ H _ I h) fun v s1 ⟨x,H1,I1,r1,q1⟩=>test_link (aD (hb pins s1 σ H1 _ I1 q1) fun u s2 ⟨y,H2,I2,r2,q2⟩=>?_)) hm;have q2':∃ i j,x=.int i∧y=.int j∧if f i j=true then tc σ H2 (fun z H3=>(match z with | .int k=>Q (g j k) H3 | _=>False)) else Q false H2:=by
  dsimp only at q2;split at q2
  ·exact ⟨_,_,rfl,rfl,q2⟩
  ·exact q2.elim
 obtain ⟨i,j,rfl,rfl,z2⟩:=q2';refine aD (ho pins s2 σ H2 (.int i) (.int j) v u (fun z H3=>z=.bl (f i j)∧H3=H2) I2 r1 r2 ⟨rfl,rfl⟩) fun d s3 ⟨z,H3,I3,r3,e,e'⟩=>?_;subst e e';cases r3;refine wpAny_truthy_bool ?_;cases hf:f i j with
 | false =>
  rw [hf] at z2;exact ite_ff ⟨H3,I3,z2⟩
 | true =>
  rw [hf,if_pos rfl] at z2;refine ite_tt (test_last (aD (hc pins s3 σ H3 _ I3 z2) fun w' s4 ⟨z',H4,I4,r4,q4⟩=>?_));have q4':∃ k,z'=.int k∧Q (g j k) H4:=by
   dsimp only at q4;split at q4
   ·exact ⟨_,rfl,q4⟩
   ·exact q4.elim
  obtain ⟨k,rfl,z4⟩:=q4';refine aD (ho' pins s4 σ H4 (.int j) (.int k) u w' (fun z H5=>z=.bl (g j k)∧H5=H4) I4 r2 r4 ⟨rfl,rfl⟩) fun d' s5 ⟨z2,H5,I5,r5,e,e'⟩=>?_;subst e e';cases r5;exact wpAny_truthy_bool ⟨H5,I5,z4⟩
def tH (K:PySem.W.Frag):List V→Hp→VK→Prop:=fun xs H Q=>match xs with
 | [.str y]=>y.length≤sizeLine∧Q (.int y.length) H
 | [.ref p]=>bG K H p fun ys=>Q (.int ys.length) H
 | _=>False
theorem VW:cC X (.builtin "len") (tH X.K):=Gw.imp fun xs H Q h=>by
 unfold tH at h;split at h
 ·exact ⟨_,_,rfl,⟨h.1,rfl⟩,h.2⟩
 ·obtain ⟨ys,h1,h2⟩:=yJ h;rcases h1 with h1 | h1
  ·exact ⟨_,_,rfl,.inl ⟨ys,h1,rfl⟩,h2⟩
  ·exact ⟨_,_,rfl,.inr ⟨ys,h1,rfl⟩,h2⟩
 ·exact h.elim
def Fb (K:PySem.W.Frag):List V→Hp→VK→Prop:=fun xs H Q=>match xs with
 | [x,cV]=>∃ t b,((∃ n,cV=.ty n)∨∃ a,cV=.ref a)∧er K H x t∧PySem.W.kitOne K t (uT cV)=some b∧Q (.bl b) H
 | _=>False
theorem SY:cC X (.builtin "isinstance") (Fb X.K):=RX.imp fun xs H Q h=>by
 unfold Fb at h;split at h
 ·obtain ⟨t,b,h1,h2,h3,h4⟩:=h;exact ⟨_,_,t,b,rfl,h1,h2,h3,h4⟩
 ·exact h.elim
def tU (K:PySem.W.Frag):List V→Hp→VK→Prop:=fun xs H Q=>match xs with
 | [.ref p]=>uo K H p fun xs=>∃ bs:List Bool,xs=bs.map V.bl∧Q (.bl (bs.all id)) H
 | _=>False
theorem Q7 (hc:X.calm=true):cC X (.builtin "all") (tU X.K):=(T5 hc).imp fun xs H Q h=>by
 unfold tU at h;split at h
 ·obtain ⟨xs,h1,bs,rfl,h2⟩:=zT h;exact ⟨_,bs,rfl,h1,h2⟩
 ·exact h.elim
def lO (K:PySem.W.Frag):R2:=fun x y H Q=>match x,y with
 | .ref p,.int i=>bG K H p fun xs=>match cq xs i with
  | some v=>Q v H
  | none=>False
 | .str z,.int i=>z.length≤sizeLine∧match cq z.cps.toList i with
  | some c=>Q (.str ⟨#[c]⟩) H
  | none=>False
 | _,_=>False
theorem eC.imp {r r':R2} (h:eC X r) (i:∀ x y H Q,r' x y H Q→r x y H Q):eC X r':=fun value slice pins s σ H x y v u Q I rx ry q=>h value slice pins s σ H x y v u Q I rx ry (i x y H Q q)
theorem qx:eC X (lO X.K):=Vs.imp fun x y H Q h=>by
 unfold lO at h;split at h
 ·obtain ⟨xs,h1,h2⟩:=yJ h;split at h2
  ·rename_i v e;rcases h1 with h1 | h1
   ·exact .inl ⟨_,xs,_,v,rfl,rfl,h1,e,h2⟩
   ·exact .inr (.inl ⟨_,xs,_,v,rfl,rfl,h1,e,h2⟩)
  ·exact h2.elim
 ·obtain ⟨h1,h2⟩:=h;split at h2
  ·rename_i d e;exact .inr (.inr ⟨_,_,d,rfl,rfl,h1,e,h2⟩)
  ·exact h2.elim
 ·exact h.elim
def uf (K:PySem.W.Frag):V→Option Int→Option Int→Hp→VK→Prop:=fun x lo hi H Q=>match x with
 | .str z=>z.length≤sizeLine∧Q (.str (Txt.slice z lo hi)) H
 | .ref a=>uo K H a fun xs=>∀ p,H p=none→Q (.ref p) (upd H p (.lst (gA xs lo hi)))
 | _=>False
theorem Qv:f7 X (uf X.K):=by
 intro pins s σ H x v vl vu lo hi sl Q I rx hs pl pu h;refine (PX.or Ks) pins s σ H x v vl vu lo hi sl Q I rx hs pl pu ?_;unfold uf at h;split at h
 ·exact .inl h
 ·obtain ⟨xs,h1,h2⟩:=zT h;exact .inr ⟨_,xs,rfl,h1,h2⟩
 ·exact h.elim
def xb (t:TE):TO:=fun σ H Q=>t σ H fun x H1=>match x with
 | .int i=>Q (some i) H1
 | _=>False
theorem Uw {e:Expr} {te:TE} (h:PE X e te):PO X (some e) (xb te):=by
 intro pins s σ H Q I q;refine evalPart_some_step (aD (h pins s σ H _ I q) fun v s1 ⟨x,H1,I1,r1,q1⟩=>?_);have q1':∃ i,x=.int i∧Q (some i) H1:=by
  dsimp only at q1;split at q1
  ·exact ⟨_,rfl,q1⟩
  ·exact q1.elim
 obtain ⟨i,rfl,z1⟩:=q1';obtain ⟨t,rfl⟩:=r1;exact ⟨some i,H1,I1,.int i t,z1⟩
def wc:qm:=fun o i v H Q=>match o,i with
 | .ref p,.int k=>match H p with
  | some (.lst xs)=>(match fB xs.length k with
   | some j=>Q (upd H p (.lst (xs.set j v)))
   | none=>False)
  | _=>False
 | _,_=>False
theorem Hb:sP X wc:=by
 intro pins s σ H o i v ov iv u Q I ro ri rv h;refine set_list pins s σ H o i v ov iv u Q I ro ri rv ?_;unfold wc at h;split at h
 ·split at h
  ·rename_i xs h1;split at h
   ·rename_i j h2;exact ⟨_,xs,_,j,rfl,rfl,h1,h2,h⟩
   ·exact h.elim
  ·exact h.elim
 ·exact h.elim
theorem cO.imp {id:String} {r r':V→List V→Hp→VK→Prop} (h:cO X id r) (i:∀ x xs H Q,r' x xs H Q→r x xs H Q):cO X id r':=fun pins s σ H x xs v us Q I rx rv q=>h pins s σ H x xs v us Q I rx rv (i x xs H Q q)
def wo:V→List V→Hp→VK→Prop:=fun x vs H Q=>match x,vs with
 | .ref l,[y]=>match H l with
  | some (.lst xs)=>xs.length < sizeLine∧Q .ax (upd H l (.lst (xs++[y])))
  | _=>False
 | _,_=>False
theorem jX:cO X "list.append" wo:=cO.imp LX fun x xs H Q h=>by
 unfold wo at h;split at h
 ·split at h
  ·rename_i zs h1;exact ⟨_,zs,_,rfl,rfl,h1,h.1,h.2⟩
  ·exact h.elim
 ·exact h.elim
def vO:V→List V→Hp→VK→Prop:=fun x vs H Q=>match x,vs with
 | .ref l,[.ref b]=>match H l,H b with
  | some (.lst xs),some (.lst zs)=>xs.length+zs.length≤sizeLine∧Q .ax (upd H l (.lst (xs++zs)))
  | _,_=>False
 | _,_=>False
theorem MC:cO X "list.extend" vO:=cO.imp Pt fun x xs H Q h=>by
 unfold vO at h;split at h
 ·split at h
  ·rename_i zs ws h1 h2;exact ⟨_,_,zs,ws,rfl,rfl,h1,h2,h.1,h.2⟩
  ·exact h.elim
 ·exact h.elim
def clsName (H:Hp):V→Option String
 | .ax=>some "NoneType"
 | .bl _=>some "bool"
 | .int _=>some "int"
 | .str _=>some "str"
 | .ref p=>match H p with
  | some (.lst _)=>some "list"
  | some (.tup _)=>some "tuple"
  | some (.dK _)=>some "dict"
  | _=>none
 | _=>none
def rn (T n:String):Bool:=T == n || (T == "bool" && n == "int")
theorem Mw {K:PySem.W.Frag} {H:Hp} {x:V} {T:String} (h:clsName H x=some T):er K H x (.type T)∧T∈["NoneType", "bool", "int", "str", "list", "tuple", "dict"]:=by
 unfold clsName at h;split at h
 ·cases h; exact ⟨.ax,by simp⟩
 ·cases h; exact ⟨.bl _,by simp⟩
 ·cases h; exact ⟨.int _,by simp⟩
 ·cases h; exact ⟨.str _,by simp⟩
 ·split at h
  ·rename_i e; cases h; exact ⟨.lst e,by simp⟩
  ·rename_i e; cases h; exact ⟨.tup e,by simp⟩
  ·rename_i e; cases h; exact ⟨.dK e,by simp⟩
  ·cases h
 ·cases h
theorem UW (K:PySem.W.Frag):∀ T,T∈["NoneType", "bool", "int", "str", "list", "tuple", "dict"]→∀ n,n∈["bool", "int", "str", "list", "tuple", "dict"]→PySem.W.kitOne K (.type T) (.type n)=some (rn T n):=by
 intro T hT n hn;simp only [List.mem_cons,List.mem_nil_iff,or_false] at hT hn;rcases hT with rfl | rfl | rfl | rfl | rfl | rfl | rfl <;> rcases hn with rfl | rfl | rfl | rfl | rfl | rfl <;> kernel_rfl
def zY:List V→Hp→VK→Prop:=fun xs H Q=>match xs with
 | [x,.ty n]=>n∈["bool", "int", "str", "list", "tuple", "dict"]∧match clsName H x with
  | some T=>Q (.bl (rn T n)) H
  | none=>False
 | _=>False
theorem js:cC X (.builtin "isinstance") zY:=SY.imp fun xs H Q h=>by
 unfold zY at h;split at h
 ·rename_i x n;obtain ⟨hn,h⟩:=h;split at h
  ·rename_i T e;obtain ⟨h1,h2⟩:=Mw (K:=X.K) e;exact ⟨_,_,.inl ⟨_,rfl⟩,h1,UW _ T h2 n hn,h⟩
  ·exact h.elim
 ·exact h.elim
def xT (r:V→List V→Hp→VK→Prop) (to:TE) (t:TA):TE:=fun σ H Q=>to σ H fun x H1=>match x with
 | .str z=>t σ H1 fun xs H2=>r (.str z) xs H2 Q
 | _=>False
def xq (r:V→List V→Hp→VK→Prop) (to:TE) (t:TA):TE:=fun σ H Q=>to σ H fun x H1=>match x with
 | .ref l=>(match H1 l with
  | some (.lst _)=>t σ H1 fun xs H2=>r (.ref l) xs H2 Q
  | _=>False)
 | _=>False
section
variable {T:String} {name:Str} {id:String} {r:V→List V→Hp→VK→Prop} {o e:Expr} {es:List Expr} {to:TE} {t:TA} {apos bt:Pos}
theorem Rl (slot:Slot "str" name id) (b8:typeOf (.builtin id)=pure (.type "method_descriptor")) (hm:cO X id r) (ho:PE X o to) (ha:PA X (e::es) t)
  (hs:(e::es).all noStar=true:=by rfl) (aV:decide ((e::es).length+([]:List Keyword).length+(if ([]:List Keyword).isEmpty then 0 else 1) < 30)=true:=by rfl)
  (gT:attributeBase o name X.env (eval o X.env)=eval o X.env:=by rfl) (gS:(apos.endLine == bt.line)=true:=by rfl) :
  PE X (.Call (.Attribute o name apos) (e::es) [] bt) (xT r to t):=by
 have hs':=hs;rw [List.all_cons,Bool.and_eq_true] at hs';have aQ:starEach (e::es) X.env=(false,eval e X.env)::starEach es X.env:=eD hs'.1;have AI:(backTo bt (starEach es X.env)).any (·.1)=false:=gk hs'.2;have BM:((backTo bt (starEach (e::es) X.env)).all (fun x=>!x.1) && (backToKw bt (keywordEach [] X.env)).all (fun x=>x.1.isSome)
   && decide ((e::es).length+([]:List Keyword).length+(if ([]:List Keyword).isEmpty then 0 else 1) < 30))=true:=by
  rw [zw hs,aV];rfl
 intro pins s σ H Q I h;refine wpAny_Call_method_late gT BM gS rfl (aD (ho pins s σ H _ I h) fun v s1 ⟨x,H1,I1,r1,q1⟩=>?_);dsimp only at q1;split at q1
 ·rename_i z;obtain ⟨h1,h2⟩:=yk (T := "str") I1 r1 rfl;refine ⟨"str",id,PySem.F.plainAttrs_str,slot,b8,h1,h2,?_⟩;have hA:=ha bt pins s1 σ H1 _ I1 q1;rw [aQ] at hA ⊢;refine Calls.callWith_builtin (by show (false || (backTo bt (starEach es X.env)).any (·.1))=false; rw [AI] <;> rfl) (Calls.evalArgs_plain ?_);exact aD hA fun us s2 ⟨vs,H2,I2,r2,q2⟩=>hm pins s2 σ H2 (.str z) vs v us Q I2 r1 r2 q2
 ·exact q1.elim
theorem Ov (slot:Slot "list" name id) (b8:typeOf (.builtin id)=pure (.type "method_descriptor")) (hm:cO X id r) (ho:PE X o to) (ha:PA X (e::es) t)
  (hs:(e::es).all noStar=true:=by rfl) (aV:decide ((e::es).length+([]:List Keyword).length+(if ([]:List Keyword).isEmpty then 0 else 1) < 30)=true:=by rfl)
  (gT:attributeBase o name X.env (eval o X.env)=eval o X.env:=by rfl) (gS:(apos.endLine == bt.line)=true:=by rfl) :
  PE X (.Call (.Attribute o name apos) (e::es) [] bt) (xq r to t):=by
 have hs':=hs;rw [List.all_cons,Bool.and_eq_true] at hs';have aQ:starEach (e::es) X.env=(false,eval e X.env)::starEach es X.env:=eD hs'.1;have AI:(backTo bt (starEach es X.env)).any (·.1)=false:=gk hs'.2;have BM:((backTo bt (starEach (e::es) X.env)).all (fun x=>!x.1) && (backToKw bt (keywordEach [] X.env)).all (fun x=>x.1.isSome)
   && decide ((e::es).length+([]:List Keyword).length+(if ([]:List Keyword).isEmpty then 0 else 1) < 30))=true:=by
  rw [zw hs,aV];rfl
 intro pins s σ H Q I h;refine wpAny_Call_method_late gT BM gS rfl (aD (ho pins s σ H _ I h) fun v s1 ⟨x,H1,I1,r1,q1⟩=>?_);dsimp only at q1;split at q1
 ·rename_i l;split at q1
  ·rename_i zs el;obtain ⟨h1,h2⟩:=yk (T := "list") I1 r1 (.inl ⟨rfl,zs,aK.of el⟩);refine ⟨"list",id,PySem.F.plainAttrs_list,slot,b8,h1,h2,?_⟩;have hA:=ha bt pins s1 σ H1 _ I1 q1;rw [aQ] at hA ⊢;refine Calls.callWith_builtin (by show (false || (backTo bt (starEach es X.env)).any (·.1))=false; rw [AI] <;> rfl) (Calls.evalArgs_plain ?_);exact aD hA fun us s2 ⟨vs,H2,I2,r2,q2⟩=>hm pins s2 σ H2 (.ref l) vs v us Q I2 r1 r2 q2
  ·exact q1.elim
 ·exact q1.elim
end
theorem TZ {CX:dh} {P:Program} {w:World} {K:PySem.W.Frag} {mg:Str→Option Value} {base:Heap} {N:List Str} {qual:Str} {scope:Scope} {f:Addr} {cd:Value} {A:Around} {outer:List Env} {s:Shared} {H:Hp} {E:XK} :
  (fP CX P w K mg base N qual scope f cd A outer s H E).K=K:=rfl
theorem cU {α:Type} (a:α) (l:List α):cq (a::l) 0=some a:=gH (j:=0) rfl
theorem wF {α:Type} (a b:α) (l:List α):cq (a::b::l) 1=some b:=gH (j:=1) rfl
theorem CO {α:Type} (a b c:α) (l:List α):cq (a::b::c::l) 2=some c:=gH (j:=2) rfl
theorem QJ (n:Nat):fB (n+1) 0=some 0:=by
 unfold fB;rw [if_pos (by decide),if_pos (by omega)];rfl
theorem ND (n:Nat):fB (n+3) 2=some 2:=by
 unfold fB;rw [if_pos (by decide),if_pos (by omega)];rfl
theorem En {H:Hp} {p b:Addr} {o u:HO} (h:H b=some u) (hp:H p=Option.none):upd H p o b=some u:=by rw [ah (eR h hp)]; exact h
theorem fq:bootBuiltins "isinstance" = some (.builtin "isinstance"):=by decide +kernel
theorem EI:bootBuiltins "all" = some (.builtin "all"):=by decide +kernel
theorem ko:bootBuiltins "str" = some (.type "str"):=by decide +kernel
theorem Lj:bootBuiltins "bool" = some (.type "bool"):=by decide +kernel
theorem qN:bootBuiltins "int" = some (.type "int"):=by decide +kernel
theorem Qw:bootBuiltins "list" = some (.type "list"):=by decide +kernel
end
end L2
namespace L2
open PySem PySem.Spec PyProof.Rows
abbrev DZ (ifs:List Expr) (env:Env):Sem Bool:=forIn ifs true fun c r=>if r=true then do let ok ← isTrue c env (eval c env); pure (ForInStep.yield ok) else pure (ForInStep.yield r)
section
variable {prog:Program} {w:World} {A:Around} {R:Result→Shared→Prop} {s:Shared}
theorem Vw {elt tg iter:Expr} {ifs:List Expr} {scope:Scope} {pos:Pos} {it acc:Value} {env:Env} (J:Nat→Shared→Prop) (hN:∀ e s',notedBy (model prog w) A env (fun e s'=>R (.error e) s') e s'→True)
  (turn:∀ n s,J n s→wpAny (model prog w) A (pyNext it) (fun r s1=>match r with
   | none=>R (.ok .next) s1
   | some v=>wpAny (model prog w) A (letOwnedTupleGo tg it v) (fun _ s2=>wpAny (model prog w) A (assign tg env v) (fun _ s3=>wpAny (model prog w) A (DZ ifs env)
     (fun ok s4=>if ok=true then wpAny (model prog w) A (eval elt env) (fun x s5=>wpAny (model prog w) A (call (.builtin "list.append") [acc,x]) (fun _ s6=>∃ m,m < n∧J m s6) (fun _ _=>False) s5) (fun _ _=>False) s4
      else ∃ m,m < n∧J m s4) (fun _ _=>False) s3) (fun _ _=>False) s2) (fun _ _=>False) s1) (fun _ _=>False) s)
  (n:Nat) (h:J n s):codeAny (model prog w) A (.compLoop (.ListComp elt [⟨tg,iter,ifs,0⟩] scope pos) 0 it acc env) R s:=by
 have no:∀ {E:Value→Shared→Prop} (e:Value) (s':Shared),False→E e s':=fun _ _ z=>z.elim;refine codeAny_loop rfl J (fun n s hI=>?_) n h;refine (show wpAny _ A (Sem.onRaise (compTurn (.ListComp elt [⟨tg,iter,ifs,0⟩] scope pos) 0 it acc env) (fun x=>do noteFrame x env; theTreesLotGoes x)) _ _ s from ?_);refine wpAny_noted ?_;rw [compTurn_list];refine wpAny_bind (wpAny_standAt (wpAny_bind (wpAny_mono (turn n s hI) (fun r s1 q1=>?_) no)));cases r with
 | none=>exact wpAny_pure q1
 | some v =>
  refine wpAny_bind (wpAny_mono q1 (fun _ s2 q2=>wpAny_bind (wpAny_mono q2 (fun _ s3 q3=>wpAny_bind (wpAny_mono q3 (fun ok s4 q4=>?_) no)) no)) no);cases ok with
  | false=>exact wpAny_pure ⟨rfl,q4⟩
  | true=>exact wpAny_bind (wpAny_bind (wpAny_mono q4 (fun x s5 q5=>wpAny_bind (wpAny_mono q5 (fun _ s6 q6=>wpAny_pure (wpAny_pure ⟨rfl,q6⟩)) no)) no))
end
def mW (X:Cx) (ifs:List Expr) (t:TT):Prop :=
 ∀ (pins:List (Addr×Obj)) (s:Shared) (σ:St) (H:Hp) (Q:Bool→Hp→Prop),Inv X pins σ H s→t σ H Q→wpAny (model X.prog X.w) X.A (DZ ifs X.env) (TP X pins σ Q) X.xe s
def g7:TT:=fun _ H Q=>Q true H
theorem LW {X:Cx}:mW X [] g7:=fun _ _ _ H _ I h=>wpAny_tests_nil ⟨H,I,h⟩
theorem Pa {X:Cx} {c:Expr} {t:TT} (h:PT X c t):mW X [c] t:=fun pins s σ H Q I q=>wpAny_tests_one (h pins s σ H Q I q)
def tY (wi:TI) (tt:TT) (te:TE):TE:=fun σ H Q=>wi σ H fun J H1=>∃ W:Nat→List V→Nat→Hp→Prop,(∃ m,W 0 [] m H1)∧∀ i ys m H,W i ys m H →
 ys.length≤sizeLine∧((J.stop i H∧∀ l,H l=none→Q (.ref l) (upd H l (.lst ys))) ∨
  (J.go i H∧ys.length < sizeLine∧∀ y H',J.i9 i H y H'→tt [some y] H' fun c H2=>if c=true then te [some y] H2 fun z H3=>∃ m',m' < m∧W (i+1) (ys++[z]) m' H3 else ∃ m',m' < m∧W (i+1) ys m' H2))
section
variable {X:Cx}
structure xw (X:Cx) (pins:List (Addr×Obj)) (H:Hp) (C:Addr):Prop where
 fr:H C=none
 nl:C≠X.env.locals
 ab:X.s₀.heap.objs.size≤C
 nc:∀ x c,X.env.cells.lookup x=some c→c≠C
 np:∀ p∈X.pn++pins,p.1≠C
theorem xw.go {pins:List (Addr×Obj)} {σ:St} {H:Hp} {s:Shared} {C:Addr} {h':Heap} (o:xw X pins H C) (I:Inv X pins σ H s) (hs:Heap.SameBut C s.heap h'):Inv X pins σ H { s with heap:=h' } :=
 I.turned (t':=s.toks) (fun b ob hb e=>(hs.2 b hb).trans e) o.fr o.nl (.inr o.ab) o.nc o.np
end
end L2
namespace L2
open PySem PySem.Spec PyProof.Rows
def cj (st:Addr) (H H':Hp):Prop:=∀ c o,c≠st→H c=some o→H' c=some o
theorem cj.trans {st:Addr} {H H1 H2:Hp} (a:cj st H H1) (b:cj st H1 H2):cj st H H2:=fun c o n e=>b c o n (a c o n e)
theorem ai.upd {H:Hp} {p:Addr} {o:HO} (h:H p=Option.none):ai H (upd H p o):=fun b u e=>by rw [ah (eR e h)]; exact e
theorem ai.keep {H H':Hp} (h:ai H H') (st:Addr):cj st H H':=fun c o _ e=>h c o e
theorem cj.upd {H:Hp} {p:Addr} {o:HO}:cj p H (upd H p o):=fun c u n e=>by rw [ah n]; exact e
theorem cj.same {H H1 H':Hp} {st:Addr} (a:ai H H1) (h:H st=Option.none) (k:cj st H1 H'):ai H H':=fun c o e=>k c o (eR e h) (a c o e)
def ue:V→Bool
 | .str _=>true
 | _=>false
def mE (t:TE):TE:=fun σ H Q=>∃ M:VK,t σ H M∧∀ v H1,M v H1→Q v H1
def mA (t:TA):TA:=fun σ H Q=>∃ M:List V→Hp→Prop,t σ H M∧∀ v H1,M v H1→Q v H1
theorem PE.m {X:Cx} {e:Expr} {t:TE} (h:PE X e t):PE X e (mE t):=fun pins s σ H Q I ⟨M,h1,h2⟩=>aD (h pins s σ H M I h1) fun _ _ ⟨v,H1,I1,r,q⟩=>⟨v,H1,I1,r,h2 v H1 q⟩
theorem PA.m {X:Cx} {e:List Expr} {t:TA} (h:PA X e t):PA X e (mA t):=fun pos pins s σ H Q I ⟨M,h1,h2⟩=>aD (h pos pins s σ H M I h1) fun _ _ ⟨v,H1,I1,r,q⟩=>⟨v,H1,I1,r,h2 v H1 q⟩
theorem PI.imp {X:Cx} {tg it:Expr} {t t':TI} (h:PI X tg it t) (i:∀ σ H R,t' σ H R→t σ H R):PI X tg it t':=fun pins s σ H R I hw=>h pins s σ H R I (i σ H R hw)
def wX (ta:TA):TI:=fun σ H R=>ta σ H fun vs H1=>match vs with
 | [.int j]=>(-(2 ^ 62)≤j∧j < 2 ^ 62)∧R (kD 0 j.toNat) H1
 | _=>False
theorem L7 {X:Cx} {tg a:Expr} {ta:TA} {p pos:Pos} (hg:Gl X "range") (hm:X.mg "range" = none) (ha:PA X [a] ta) (hs:starEach [a] X.env=[(false,eval a X.env)]:=by rfl):PI X tg (.Call (.Name "range" p) [a] [] pos) (wX ta) :=
 (KN hg hm ha.m hs).imp fun σ H R h=>⟨_,h,fun vs H1 z=>by
  split at z
  ·exact ⟨_,rfl,z.1.1,z.1.2,z.2⟩
  ·exact z.elim⟩
def sQ (K:PySem.W.Frag) (tl:TE):TI:=fun σ H R=>tl σ H fun x H1=>match x with
 | .ref a=>(∃ xs,aK K H1 a xs)∧R (ij K a) H1
 | _=>False
theorem KO {X:Cx} {tg l:Expr} {tl:TE} (hl:PE X l tl):PI X tg l (sQ X.K tl):=(Uc hl.m).imp fun σ H R h=>⟨_,h,fun x H1 z=>by
  split at z
  ·exact ⟨_,rfl,z.1,z.2⟩
  ·exact z.elim⟩
def yV (J:It) (g:TG) (tb:TS) (D:Ends) (σ:St) (H1:Hp):Prop:=∃ W:Nat→Nat→St→Hp→Prop,(∃ m,W 0 m σ H1)∧∀ i m σ H,W i m σ H →
 (J.stop i H∧D.nx σ H)∨(J.go i H∧∃ N:St→Hp→Prop,(∀ σ' H',N σ' H'→∃ m',m' < m∧W (i+1) m' σ' H')∧∀ x H',J.i9 i H x H'→g x σ H' fun σ2 H2=>tb { D with nx:=N,ct:=N,bk:=D.nx } σ2 H2)
theorem NT {wi:TI} {g:TG} {tb:TS} {D:Ends} {σ:St} {H:Hp}:sS wi g tb D σ H=wi σ H fun J H1=>yV J g tb D σ H1:=rfl
theorem O3 {lo:Int} {n:Nat} {g:TG} {tb:TS} {D:Ends} {σ:St} {H:Hp} (Pv:Nat→St→Hp→Prop) (h0:Pv 0 σ H)
  (hs:∀ i σ H,i < n→Pv i σ H→g (.int (lo+i)) σ H fun σ2 H2=>tb { D with nx:=Pv (i+1),ct:=Pv (i+1),bk:=D.nx } σ2 H2) (hd:∀ σ H,Pv n σ H→D.nx σ H):yV (kD lo n) g tb D σ H:=QN Pv h0 hs hd
theorem qH {K:PySem.W.Frag} {a:Addr} {xs:List V} {g:TG} {tb:TS} {D:Ends} {σ:St} {H:Hp} (Pv:Nat→St→Hp→Prop) (h0:Pv 0 σ H) (hl:∀ i σ H,i≤xs.length→Pv i σ H→aK K H a xs)
  (hs:∀ i x σ H,xs[i]?=some x→Pv i σ H→g x σ H fun σ2 H2=>tb { D with nx:=Pv (i+1),ct:=Pv (i+1),bk:=D.nx } σ2 H2) (hd:∀ σ H,Pv xs.length σ H→D.nx σ H):yV (ij K a) g tb D σ H:=Nw Pv h0 hl hs hd
theorem fits {n:Nat} (h:n≤1000):n≤sizeLine:=Nat.le_of_lt (Cf h)
theorem gN {n:Nat} (h:n≤1000):n < sizeLine:=Cf h
def qh (t u:TS):TS:=fun D σ H=>∃ P:St→Hp→Prop,t { D with nx:=P } σ H∧∀ σ' H',P σ' H'→u D σ' H'
theorem RY {X:Cx} {st:Stmt} {rest:List Stmt} {t u:TS} (h1:PS X st t) (h2:cP X rest u):cP X (st::rest) (qh t u):=by
 intro pins s σ H D I h;obtain ⟨P,ht,hu⟩:=h;have h1':PS X st (fun D' σ' H'=>D'={ D with nx:=P }∧t D' σ' H'):=h1.imp fun _ _ _ z=>z.2;have h2':cP X rest (fun D' σ' H'=>P σ' H'∧D'=D):=fun pins s σ H D' I z=>by
  obtain ⟨z1,rfl⟩:=z;exact h2 pins s σ H D' I (hu σ H z1)
 refine Vk (t:=fun D' σ' H'=>t { D with nx:=P } σ' H'∧D'.rt=D.rt∧D'.bk=D.bk∧D'.ct=D.ct∧∀ σ'' H'',P σ'' H''→D'.nx σ'' H'') (u:=fun D' σ' H'=>P σ' H'∧D'=D) ?_ h2' pins s σ H D I ⟨ht,rfl,rfl,rfl,fun σ'' H'' z=>⟨z,rfl⟩⟩;intro pins s σ H D' I z;obtain ⟨z1,z2,z3,z4,z5⟩:=z;refine aD (h1 pins s σ H { D with nx:=P } I z1) fun f s' hq=>?_;cases f with
 | next=>obtain ⟨σ',H',I',q⟩:=hq; exact ⟨σ',H',I',z5 _ _ q⟩
 | brk=>obtain ⟨σ',H',I',q⟩:=hq; exact ⟨σ',H',I',by rw [z3]; exact q⟩
 | cont=>obtain ⟨σ',H',I',q⟩:=hq; exact ⟨σ',H',I',by rw [z4]; exact q⟩
 | ret u=>obtain ⟨v,σ',H',I',r,q⟩:=hq; exact ⟨v,σ',H',I',r,by rw [z2]; exact q⟩
theorem ao {t u:TS} {D:Ends} {σ:St} {H:Hp} (h:t { D with nx:=u D } σ H):qh t u D σ H:=⟨u D,h,fun _ _ z=>z⟩
theorem en {t u:TS} {D:Ends} {σ:St} {H:Hp} (P:St→Hp→Prop) (h1:t { D with nx:=P } σ H) (h2:∀ σ' H',P σ' H'→u D σ' H'):qh t u D σ H:=⟨P,h1,h2⟩
theorem xH {H:Hp} {x:V} {T:String} (h:clsName H x=some T):rn T "str" = ue x:=by
 unfold clsName at h;split at h
 ·cases h; rfl
 ·cases h; rfl
 ·cases h; rfl
 ·cases h; rfl
 ·split at h
  ·cases h; rfl
  ·cases h; rfl
  ·cases h; rfl
  ·cases h
 ·cases h
theorem Pz (H:Hp) (z:Str):clsName H (.str z)=some "str" := rfl
theorem SA (H:Hp) (z:Bool):clsName H (.bl z)=some "bool" := rfl
theorem Oe (H:Hp) (z:Int):clsName H (.int z)=some "int" := rfl
theorem VN (H:Hp):clsName H .ax=some "NoneType" := rfl
theorem uh (n:String) (h:["bool", "int", "str", "list", "tuple", "dict"].contains n=true):n∈["bool", "int", "str", "list", "tuple", "dict"]:=by simpa using h
def sY (K:PySem.W.Frag):R2:=fun x y H Q=>match y with
 | .ref p=>∃ xs,(aK K H p xs∨bV K H p xs)∧cm x=true∧xs.all cm=true∧Q (.bl (fQ x xs)) H
 | _=>False
theorem OQ {X:Cx}:bc X (compareOp .In) (sY X.K):=G7.imp fun x y H Q h=>by
 unfold sY at h;split at h
 ·obtain ⟨xs,h1,h2,h3,h4⟩:=h;exact ⟨_,xs,rfl,h1,h2,h3,h4⟩
 ·exact h.elim
section
variable {X:Cx} {K:PySem.W.Frag}
theorem mU (h:X.K=K):bc X (compareOp .In) (uy K):=h ▸ Ub
theorem Cg (h:X.K=K):bc X (compareOp .In) (sY K):=h ▸ OQ
theorem kb (h:X.K=K):cC X (.builtin "len") (tH K):=h ▸ VW
theorem CZ (h:X.K=K) (hc:X.calm=true):cC X (.builtin "all") (tU K):=h ▸ Q7 hc
theorem bq (h:X.K=K):eC X (lO K):=h ▸ qx
theorem xM (h:X.K=K):f7 X (uf K):=h ▸ Qv
theorem wz (h:X.K=K):cO X "str.join" (rJoin K):=h ▸ Ry
end
def qU:Sp:=fun vs H Q _=>match vs with
 | [.ref st,.int b]=>∃ zs:List Int,H st=some (.lst (zs.map V.int))∧(zs.length=1∨zs.length=3)∧0 < b∧b < 1073741824 ∧
   ∀ (d:Int) (zs':List Int) (H':Hp),0≤d→d < b→zs'.length=3→H' st=some (.lst (zs'.map V.int))→cj st H H'→Q (.int d) H'
 | _=>False
def m4 (J:It) (tt:TT) (te:TE) (Q:VK) (H0:Hp):Prop:=∃ W:Nat→List V→Nat→Hp→Prop,(∃ m,W 0 [] m H0)∧∀ i ys m H,W i ys m H →
 ys.length≤sizeLine∧((J.stop i H∧∀ l,H l=none→Q (.ref l) (upd H l (.lst ys))) ∨
  (J.go i H∧ys.length < sizeLine∧∀ y H',J.i9 i H y H'→tt [some y] H' fun c H2=>if c=true then te [some y] H2 fun z H3=>∃ m',m' < m∧W (i+1) (ys++[z]) m' H3 else ∃ m',m' < m∧W (i+1) ys m' H2))
theorem DC {wi:TI} {tt:TT} {te:TE} {σ:St} {H:Hp} {Q:VK}:tY wi tt te σ H Q=wi σ H fun J H1=>m4 J tt te Q H1:=rfl
theorem KZ {z:Str} {te:TE} {H:Hp} {Q:VK} (f:Nat→V) (hz:z.length≤sizeLine)
  (he:∀ c,c∈z.cps.toList→∀ H1,ai H H1→∀ R:VK,(∀ H2,ai H1 H2→R (f c) H2)→te [some (.str ⟨#[c]⟩)] H1 R)
  (q:∀ H1,ai H H1→∀ l,H1 l=none→Q (.ref l) (upd H1 l (.lst (z.cps.toList.map f)))):m4 (tu z) g7 te Q H:=by
 have hl:z.cps.toList.length=z.length:=by simp [Str.length]
 refine ⟨fun i ys m H1=>ai H H1∧ys=(z.cps.toList.take i).map f∧i≤z.length∧m=z.length - i,⟨_,ai.refl H,rfl,Nat.zero_le _,rfl⟩,?_⟩;rintro i ys m H1 ⟨s1,rfl,hi,rfl⟩;have hlen:((z.cps.toList.take i).map f).length=i:=by rw [List.length_map,List.length_take,hl]; omega
 refine ⟨by rw [hlen]; omega,?_⟩;by_cases h:i < z.length
 ·refine .inr ⟨h,by rw [hlen]; omega,?_⟩;rintro y H' ⟨rfl,c,hc,rfl⟩;have AV:z.cps.toList[i]?=some c:=by simpa using hc
  simp only [g7,if_true];refine he c (List.mem_of_getElem? AV) H' s1 _ fun H2 s2=>⟨_,?_,s1.trans s2,?_,h,rfl⟩
  ·omega
  ·rw [List.take_add_one,AV,List.map_append]; rfl
 ·have Iw:i=z.length:=by omega
  refine .inl ⟨Nat.le_of_eq Iw.symm,fun l hl'=>?_⟩;have:=q H1 s1 l hl';rw [List.take_of_length_le (by rw [hl]; omega)];exact this
theorem vN {K:PySem.W.Frag} {a:Addr} {xs:List V} {tt:TT} {te:TE} {H:Hp} {Q:VK} (p:V→Bool) (f:V→V) (BB:aK K H a xs) (hz:xs.length≤sizeLine)
  (ht:∀ x,x∈xs→∀ H1,ai H H1→∀ R:Bool→Hp→Prop,(∀ H2,ai H1 H2→R (p x) H2)→tt [some x] H1 R)
  (he:∀ x,x∈xs→p x=true→∀ H1,ai H H1→∀ R:VK,(∀ H2,ai H1 H2→R (f x) H2)→te [some x] H1 R)
  (q:∀ H1,ai H H1→∀ l,H1 l=none→Q (.ref l) (upd H1 l (.lst ((xs.filter p).map f)))):m4 (ij K a) tt te Q H:=by
 refine ⟨fun i ys m H1=>ai H H1∧ys=((xs.take i).filter p).map f∧i≤xs.length∧m=xs.length - i,⟨_,ai.refl H,rfl,Nat.zero_le _,rfl⟩,?_⟩;rintro i ys m H1 ⟨s1,rfl,hi,rfl⟩;have hlen:(((xs.take i).filter p).map f).length≤i:=by
  rw [List.length_map];refine Nat.le_trans (List.length_filter_le _ _) ?_;rw [List.length_take]; omega
 refine ⟨by omega,?_⟩;by_cases h:i < xs.length
 ·have hx:xs[i]?=some xs[i]:=List.getElem?_eq_getElem h;refine .inr ⟨⟨xs,xs[i],s1.seq BB,hx⟩,by omega,?_⟩;rintro y H' ⟨rfl,hy⟩;have kQ:xs[i]?=some y:=hy xs (s1.seq BB);have hm:y∈xs:=List.mem_of_getElem? kQ;have e1:(xs.take (i+1)).filter p=(xs.take i).filter p++(if p y=true then [y] else []):=by
   rw [List.take_add_one,kQ,List.filter_append];by_cases hp:p y=true
   ·simp [hp]
   ·simp [hp]
  refine ht y hm H' s1 _ fun H2 s2=>?_;by_cases hp:p y=true
  ·rw [if_pos hp];refine he y hm hp H2 (s1.trans s2) _ fun H3 s3=>⟨_,?_,(s1.trans s2).trans s3,?_,h,rfl⟩
   ·omega
   ·rw [e1,if_pos hp,List.map_append]; rfl
  ·rw [if_neg hp];refine ⟨_,?_,s1.trans s2,?_,h,rfl⟩
   ·omega
   ·rw [e1,if_neg hp,List.append_nil]
 ·have Iw:i=xs.length:=by omega
  refine .inl ⟨⟨xs,s1.seq BB,by omega⟩,fun l hl'=>?_⟩;have:=q H1 s1 l hl';rw [List.take_of_length_le (by omega)];exact this
end L2
namespace L2
open PySem PySem.Spec PyProof.Rows
structure QE (X:Cx) (e:Expr) (t:TE):Prop where
 h:PE X e t
structure QA (X:Cx) (e:List Expr) (t:TA):Prop where
 h:PA X e t
structure QT (X:Cx) (e:Expr) (t:TT):Prop where
 h:PT X e t
structure QW (X:Cx) (e:Expr) (t:TT):Prop where
 h:PW X e t
structure QS (X:Cx) (e:Stmt) (t:TS):Prop where
 h:PS X e t
structure QB (X:Cx) (e:List Stmt) (t:TS):Prop where
 h:cP X e t
structure QI (X:Cx) (tg it:Expr) (t:TI):Prop where
 h:PI X tg it t
structure QG (X:Cx) (e:Expr) (t:TG):Prop where
 h:PG X e t
structure ub (X:Cx) (e:List Expr) (t:hJ):Prop where
 h:qt X e t
structure oC (X:Cx) (e:List Expr) (t:TT):Prop where
 h:mW X e t
structure QO (X:Cx) (e:Option Expr) (t:TO):Prop where
 h:PO X e t
structure QP (X:Cx) (pos:Pos) (ks:List (Option Expr)) (vs:List Expr) (t:List (TE×TE)):Prop where
 h:SJ X pos ks vs t
namespace Dv
section
variable {X:Cx} {a b c:Expr} {ta tb tc:TE} {pos:Pos} {rest:List Expr} {tA tB':TT}
theorem v (i:Nat) {x:Str} {pos:Pos} (hN:X.N[i]?=some x:=by rfl) (hv:qb X.env.scope x:=by first | exact Or.inl rfl | exact Or.inr (Or.inl rfl) | exact Or.inr (Or.inr rfl)) (hd:(x == ("__debug__" : Str))=false:=by decide)
  (cE:(x == ("__classdict__" : Str))=false:=by decide):QE X (.Name x pos) (kZ i):=⟨qv i hN hv hd cE⟩
theorem int {i j pos}:QE X (.Constant (.int i) j pos) (tC (.int i)):=⟨Qn⟩
theorem bl {b j pos}:QE X (.Constant (.bool b) j pos) (tC (.bl b)):=⟨SM⟩
theorem ax {j pos}:QE X (.Constant .none j pos) (tC .ax):=⟨UI⟩
theorem str {x j pos}:QE X (.Constant (.str x) j pos) (tC (.str x)):=⟨P0⟩
theorem glob {x:Str} (v:V) {u:Value} {pos:Pos} (hm:X.mg x=some u) (r:RelV v u) (hg:Gl X x:=by rfl) (hd:(x == ("__debug__" : Str))=false:=by decide):QE X (.Name x pos) (tC v):=⟨O7 hg hm r hd⟩
theorem jm {x:Str} (v:V) {u:Value} {pos:Pos} (hm:X.mg x=none) (hv:bootBuiltins x=some u) (r:RelV v u) (hg:Gl X x:=by rfl) (hn:x ≠ "__name__" := by decide) (hd:(x == ("__debug__" : Str))=false:=by decide):QE X (.Name x pos) (tC v):=⟨OL hg hm hv r hn hd⟩
theorem op {o:Operator} {r:R2} (ho:bc X (binaryOp o) r) (ha:QE X a ta) (hb:QE X b tb):QE X (.BinOp a o b pos) (gG r ta tb):=⟨NO ho ha.h hb.h⟩
theorem un {o:UnaryOp} {r:V→Hp→VK→Prop} (ho:qp X (unaryOp o) r) (ha:QE X a ta):QE X (.UnaryOp o a pos) (vP r ta):=⟨L8 ho ha.h⟩
theorem cmp {o:CmpOp} {r:R2} (ho:bc X (compareOp o) r) (ha:QE X a ta) (hb:QE X b tb) (hm:behindInMarks o b=false:=by first | exact uP _ (by decide) (by decide) | rfl):QE X (.Compare a [o] [b] pos) (gG r ta tb):=⟨Mx ho ha.h hb.h hm⟩
theorem z8 (ha:QE X a ta) (hb:QE X (.BoolOp .And (b::rest) pos) tb):QE X (.BoolOp .And (a::b::rest) pos) (yF ta tb):=⟨SD ha.h hb.h⟩
theorem Sx (ha:QE X a ta) (hb:QE X (.BoolOp .Or (b::rest) pos) tb):QE X (.BoolOp .Or (a::b::rest) pos) (xl ta tb):=⟨UH ha.h hb.h⟩
theorem one {o} {t:TE} (h:QE X a t):QE X (.BoolOp o [a] pos) t:=⟨UU h.h⟩
theorem Uu (ha:QE X a ta):QE X (.UnaryOp .Not a pos) (yQ ta):=⟨Mc ha.h⟩
theorem ag:QA X [] gn:=⟨U1⟩
theorem aa {e:Expr} {es:List Expr} {te:TE} {t:TA} (ha:QE X e te) (hr:QA X es t) (hs:noStar e=true:=by rfl):QA X (e::es) (gL te t):=⟨TK ha.h hr.h hs⟩
theorem call {CX:dh} {k:Nat} {f:Addr} {fd:FuncData} {ps:List Str} {sp:Sp} {bp:List V} {ds:List Value} {E:XK} {x:Str} {p pos:Pos} {e:Expr} {es:List Expr} {t:TA}
  (F:aA X.prog X.w X.K X.mg X.base CX k f fd ps sp) (hr:bz k X.A) (hm:X.mg x=some (.ref f)) (hk:PySem.W.keepIn X.K (.ref f)=true) (hb:Binds X.K fd ps ds) (hd:Vals bp ds) (hx:Passes CX X E)
  (ha:QA X (e::es) t) (hg:Gl X x:=by rfl) (hs:(e::es).all noStar=true:=by rfl) (bF:(x == ("__debug__" : Str))=false:=by decide):QE X (.Call (.Name x p) (e::es) [] pos) (tq sp bp E t):=⟨Rt F hr hg hm hk hb hd hx ha.h hs bF⟩
theorem cD {x:Str} {p pos:Pos} {e:Expr} {es:List Expr} {t:TA} {id:String} {r:List V→Hp→VK→Prop} (hc:cC X (.builtin id) r) (hm:X.mg x=none) (hv:bootBuiltins x=some (.builtin id)) (ha:QA X (e::es) t)
  (hg:Gl X x:=by rfl) (hs:(e::es).all noStar=true:=by rfl) (hn:x ≠ "__name__" := by decide) (bF:(x == ("__debug__" : Str))=false:=by decide):QE X (.Call (.Name x p) (e::es) [] pos) (lJ r t):=⟨T8 hc hg hm hv ha.h hs hn bF⟩
theorem oE {x:Str} {p pos:Pos} {e:Expr} {es:List Expr} {t:TA} {T:String} {r:List V→Hp→VK→Prop} (hc:cC X (.type T) r) (hm:X.mg x=none) (hv:bootBuiltins x=some (.type T)) (ha:QA X (e::es) t)
  (hg:Gl X x:=by rfl) (hs:(e::es).all noStar=true:=by rfl) (hn:x ≠ "__name__" := by decide) (bF:(x == ("__debug__" : Str))=false:=by decide):QE X (.Call (.Name x p) (e::es) [] pos) (lJ r t):=⟨U4 hc hg hm hv ha.h hs hn bF⟩
section
variable {name:Str} {id:String} {r:V→List V→Hp→VK→Prop} {o e:Expr} {es:List Expr} {to:TE} {t:TA} {apos bt:Pos}
theorem l8 (slot:Slot "str" name id) (b8:typeOf (.builtin id)=pure (.type "method_descriptor")) (hm:cO X id r) (ho:QE X o to) (ha:QA X (e::es) t)
  (hs:(e::es).all noStar=true:=by rfl) (aV:decide ((e::es).length+([]:List Keyword).length+(if ([]:List Keyword).isEmpty then 0 else 1) < 30)=true:=by rfl)
  (gT:attributeBase o name X.env (eval o X.env)=eval o X.env:=by rfl) (gS:(apos.endLine == bt.line)=true:=by rfl):QE X (.Call (.Attribute o name apos) (e::es) [] bt) (xT r to t):=⟨Rl slot b8 hm ho.h ha.h hs aV gT gS⟩
theorem iA (slot:Slot "list" name id) (b8:typeOf (.builtin id)=pure (.type "method_descriptor")) (hm:cO X id r) (ho:QE X o to) (ha:QA X (e::es) t)
  (hs:(e::es).all noStar=true:=by rfl) (aV:decide ((e::es).length+([]:List Keyword).length+(if ([]:List Keyword).isEmpty then 0 else 1) < 30)=true:=by rfl)
  (gT:attributeBase o name X.env (eval o X.env)=eval o X.env:=by rfl) (gS:(apos.endLine == bt.line)=true:=by rfl):QE X (.Call (.Attribute o name apos) (e::es) [] bt) (xq r to t):=⟨Ov slot b8 hm ho.h ha.h hs aV gT gS⟩
end
theorem tE:QO X none y9:=⟨Si⟩
theorem nG (h:QE X a ta):QO X (some a) (xb ta):=⟨Uw h.h⟩
theorem slice {r:V→Option Int→Option Int→Hp→VK→Prop} {lo hi:Option Expr} {tl th:TO} {p2:Pos} (hr:f7 X r) (he:QE X a ta) (hl:QO X lo tl) (hu:QO X hi th):QE X (.Subscript a (.Slice lo hi none p2) pos) (zU r ta tl th):=⟨Q1 hr he.h hl.h hu.h⟩
theorem ix {r:R2} (hr:eC X r) (ha:QE X a ta) (hb:QE X b tb) (hs:Gg b:=by intro _ _; rfl):QE X (.Subscript a b pos) (gG r ta tb):=⟨M8 hr ha.h hb.h hs⟩
theorem lst {es:List Expr} {t:TA} (h:QA X es t):QE X (.List es pos) (uX t):=⟨Lu h.h⟩
theorem tup {es:List Expr} {x1} {t:TA} (h:QA X es t):QE X (.Tuple es x1 pos) (pU t):=⟨NF h.h⟩
theorem lz:QE X (.Dict [] [] pos) y2:=⟨NR⟩
theorem aY {o:CmpOp} {r:R2} (ho:bc X (compareOp o) r) (ha:QE X a ta) (hb:QE X b tb) (hm:behindInMarks o b=false:=by first | exact uP _ (by decide) (by decide) | rfl):QT X (.Compare a [o] [b] pos) (j3 (gG r ta tb)):=⟨Mm ho ha.h hb.h hm⟩
theorem yT {o o':CmpOp} {f g:Int→Int→Bool} (ho:bc X (compareOp o) (ia f)) (ho':bc X (compareOp o') (ia g)) (ha:QE X a ta) (hb:QE X b tb) (hc:QE X c tc)
  (hm:lastMarks [o,o'] [b,c]=false:=by with_unfolding_all rfl):QT X (.Compare a [o,o'] [b,c] pos) (z9 f g ta tb tc):=⟨Nz ho ho' ha.h hb.h hc.h hm⟩
theorem cg {t:TE} (h:QE X a t) (he:∀ whole,isTrue a X.env whole=(do let v ← whole; standAt a.pos; holding [v] (truthy v)):=by intro _; rfl):QT X a (j3 t):=⟨R3 h.h he⟩
theorem cw (ha:QT X a tA):QT X (.UnaryOp .Not a pos) (yZ tA):=⟨NQ ha.h⟩
theorem dv (h:QW X a tA):QT X a tA:=⟨h.h.pt⟩
theorem iz (ha:QT X a tA):QW X (.BoolOp .And [a] pos) tA:=⟨R0 ha.h⟩
theorem hZ (ha:QT X a tA):QW X (.BoolOp .Or [a] pos) tA:=⟨R5 ha.h⟩
theorem w_and (ha:QT X a tA) (hb:QW X (.BoolOp .And (b::rest) pos) tB'):QW X (.BoolOp .And (a::b::rest) pos) (zC tA tB'):=⟨Ku ha.h hb.h⟩
theorem w_or (ha:QT X a tA) (hb:QW X (.BoolOp .Or (b::rest) pos) tB'):QW X (.BoolOp .Or (a::b::rest) pos) (xK tA tB'):=⟨RU ha.h hb.h⟩
variable {st:Stmt} {HW:List Stmt} {t u:TS} {tg:Expr} {g:TG}
theorem dA (i:Nat) {x:Str} (hN:X.N.Nodup) (hi:X.N[i]?=some x:=by rfl) (hx:Loc X.env.scope x:=by first | exact Or.inl rfl | exact Or.inr rfl) (hf:X.fn x=true∨X.env.scope.names.lookup x=some .local:=by first | exact .inl rfl | exact .inr rfl):QG X (.Name x pos) (eO i):=⟨Kw hN hi hx hf⟩
theorem Gi {o i:Expr} {to ti:TE} {s:qm} (ho:QE X o to) (hi:QE X i ti) (hs:sP X s) (ha:∀ v,assign (.Subscript o i pos) X.env v=(do
   let ov ← holding [v] (eval o X.env)
   let iv ← holding [v,ov] (eval i X.env)
   standAt pos
   holding [v,ov,iv] (setItem ov iv v)
   release [v,ov,iv] []):=by intro _; rfl):QG X (.Subscript o i pos) (yr to ti s):=⟨Qq ho.h hi.h hs ha⟩
theorem uS:ub X [] zH:=⟨T3⟩
theorem ka {e:Expr} {es:List Expr} {t:TG} {u:hJ} (h1:QG X e t) (h2:ub X es u) (hs:(assignEach (e::es) X.env).map (·.2)=assign e X.env::(assignEach es X.env).map (·.2):=by rfl):ub X (e::es) (Ag t u):=⟨Nf h1.h h2.h hs⟩
theorem tG {K:PySem.W.Frag} {es:List Expr} {k:Nat} {t:hJ} {n:Nat} (hK:X.K=K) (hc:X.calm=true) (h:ub X es t) (hn:(assignEach es X.env).length=n:=by rfl) (aQ:(assignEach es X.env).findIdx? (·.1)=none:=by rfl):QG X (.Tuple es k pos) (Af K n t):=hK ▸ ⟨S6 hc h.h hn aQ⟩
theorem aS (i:Nat) {x:Str} {e:Expr} {te:TE} {pos':Pos} (hN:X.N.Nodup) (he:QE X e te) (hi:X.N[i]?=some x:=by rfl) (hx:Loc X.env.scope x:=by first | exact Or.inl rfl | exact Or.inr rfl) (hs:swapsWith e (some (.Name x pos')) pos.line X.env=pure false:=by rfl)
  (hf:X.fn x=true∨X.env.scope.names.lookup x=some .local:=by first | exact .inl rfl | exact .inr rfl):QS X (.Assign [.Name x pos'] e pos) (j5 te (eO i)):=⟨SI hN hi hx he.h hs hf⟩
theorem pV {e:Expr} {te:TE} (he:QE X e te) (hg:QG X tg g) (hs:swapsWithSole [tg] e pos.line X.env=pure false:=by rfl) (hw:swappedStores [tg] e X.env=pure none:=by rfl) (h1:(assignEach [tg] X.env).map (·.2)=[assign tg X.env]:=by rfl) :
  QS X (.Assign [tg] e pos) (j5 te g):=⟨Uy he.h hg.h hs hw h1⟩
theorem aP (he:QE X a ta):QS X (.Return (some a) pos) (yl ta):=⟨Vj he.h⟩
theorem Dg:QS X (.Return none pos) vV:=⟨Rg⟩
theorem aX (he:QE X a ta) (hs:swapsWith a none pos.line X.env=pure false:=by rfl):QS X (.Expr a pos) (xU ta):=⟨Md he.h hs⟩
theorem aW {A B:List Stmt} (hc:QT X a tA) (ha:QB X A t) (hb:QB X B u):QS X (.If a A B pos) (wy tA t u):=⟨UN hc.h ha.h hb.h⟩
theorem nN {iter:Expr} {body:List Stmt} {wi:TI} {tb:TS} (hp:PassesOwn (model X.prog X.w) X.A X.env X.xe) (hc:X.calm=true) (hi:QI X tg iter wi) (hg:QG X tg g) (hb:QB X body tb) (hs:∀ x,foldedSetIterable iter X.env x=pure x:=by intro _; rfl) :
  QS X (.For tg iter body [] pos) (sS wi g tb):=⟨Oq hp hc hi.h hg.h hb.h hs⟩
theorem nil:QB X [] w8:=⟨Sa⟩
theorem aj (h1:QS X st t):QB X [st] t:=⟨Vt h1.h⟩
theorem cut (h1:QS X st t) (h2:QB X HW u):QB X (st::HW) (qh t u):=⟨RY h1.h h2.h⟩
theorem gX {K:PySem.W.Frag} {l:Expr} {tl:TE} (h:X.K=K) (hl:QE X l tl):QI X tg l (sQ K tl):=h ▸ ⟨KO hl.h⟩
theorem TU {l:Expr} {tl:TE} (hl:QE X l tl):QI X tg l (xQ tl):=⟨VL hl.h⟩
theorem Pk {ta:TA} {p:Pos} (hm:X.mg "range" = none) (ha:QA X [a] ta) (hg:Gl X "range" := by rfl) (hs:noStar a=true:=by rfl):QI X tg (.Call (.Name "range" p) [a] [] pos) (wX ta):=⟨L7 hg hm ha.h (eD hs)⟩
theorem tL:oC X [] g7:=⟨LW⟩
theorem EV (h:QT X c tA):oC X [c] tA:=⟨Pa h.h⟩
end
end Dv
end L2
namespace Tx
open PySem PySem.Builtin PySem.StrLaws
end Tx
namespace Tx
open PySem PySem.Builtin PySem.StrLaws
theorem yh {c a:Nat} (h:a=c) (r:List Nat):cut c (a::r)=[]::cut c r:=if_pos h
theorem DW {c a:Nat} {r:List Nat} {x:List Nat} {y:List (List Nat)} (h:¬ a=c) (e:cut c r=x::y):cut c (a::r)=(a::x)::y:=by
 show (if a=c then _ else _)=_;rw [if_neg h,e]
theorem G3 (c:Nat):∀ (t r:List Nat),cut c (t++c::r)=cut c t++cut c r
 | [],r=>yh rfl r
 | a::t,r=>by
  have ih:=G3 c t r;show cut c (a::(t++c::r))=_;by_cases h:a=c
  ·rw [yh h,yh h,ih]; rfl
  ·cases e:cut c t with
   | nil=>exact absurd e (Nl c t)
   | cons x y =>
    rw [e] at ih;rw [DW h ih,DW h e]; rfl
def words (c:Nat) (t:List Nat):List (List Nat):=(cut c t).filter fun w=>decide (w≠[])
theorem yY (c:Nat) (t r:List Nat):words c (t++c::r)=words c t++words c r:=by
 unfold words;rw [G3,List.filter_append]
theorem y6 (c:Nat) (r:List Nat):words c (c::r)=words c r:=yY c [] r
theorem EO (c:Nat) (r:List Nat):∀ n:Nat,words c (List.replicate n c++r)=words c r
 | 0=>rfl
 | n+1=>by
  show words c (c::(List.replicate n c++r))=_;rw [y6,EO c r n]
theorem CQ (c:Nat):∀ w:List Nat,c ∉ w→cut c w=[w]
 | [],_=>rfl
 | a::r,h=>by
  unfold cut;rw [if_neg (fun e=>h (by rw [e]; exact List.mem_cons_self)),CQ c r (fun m=>h (List.mem_cons_of_mem _ m))]
theorem DL (c:Nat) (w:List Nat) (h:c ∉ w) (hn:w≠[]):words c w=[w]:=by
 unfold words;rw [CQ c w h];simp [hn]
theorem uN (c:Nat):∀ t:List Nat,(cut c t).length≤t.length+1
 | []=>Nat.le_refl _
 | a::r=>by
  have ih:=uN c r;unfold cut;split
  ·simp only [List.length_cons]; omega
  ·split
   ·simp
   ·rename_i h t' e;rw [e] at ih;simp only [List.length_cons] at ih ⊢;omega
theorem D0 (t:List Nat) (c:Nat):((cut c t).map S).filter (fun z=>decide (z≠S []))=(words c t).map S:=by
 unfold words;rw [List.filter_map]
 congr 1
 refine List.filter_congr fun w _=>?_;show decide (S w≠S [])=decide (w≠[]);by_cases h:w=[]
 ·simp [h]
 ·have:S w≠S []:=fun e=>h (rg e);simp [h,this]
theorem Uh (x:List Nat) (c:Nat):Txt.startswith (S x) (S [c])=decide (x.head?=some c):=by
 unfold Txt.startswith;rw [bX,bX];cases x with
 | nil=>simp
 | cons a r =>
  rw [subAt_one (a::r) c 0 (by simp)];simp
theorem MI (x:List Nat) (c:Nat):Txt.endswith (S x) (S [c])=decide (x.getLast?=some c):=by
 unfold Txt.endswith;rw [bX,bX];cases hx:x with
 | nil=>simp
 | cons a r =>
  have hl:(a::r).length - [c].length < (a::r).length:=by simp
  rw [subAt_one (a::r) c _ hl];have e:(a::r)[(a::r).length - [c].length]?=(a::r).getLast?:=by
   rw [List.getLast?_eq_getElem?]; rfl
  rw [e];have:decide (0+[c].length≤(a::r).length)=true:=decide_eq_true (by simp);rw [this,Bool.true_and]
end Tx
namespace L2
open PySem PySem.Spec PyProof.Rows
theorem GS {A:Around} {s:Shared} {l1 l2:List (Str×Tok)} (j:Nat) (h1:j < (strValues l1).toArray.size) (h2:j < (strValues l2).toArray.size) :
  SeqAt.EqAt A s (strValues l1).toArray[j] (strValues l2).toArray[j] (decide ((l1.map (·.1))[j]?=(l2.map (·.1))[j]?)):=by
 have g1:j < l1.length:=by simpa [strValues] using h1
 have g2:j < l2.length:=by simpa [strValues] using h2
 have e1:(strValues l1).toArray[j]=Value.str l1[j].1 l1[j].2:=by simp [strValues]
 have e2:(strValues l2).toArray[j]=Value.str l2[j].1 l2[j].2:=by simp [strValues]
 rw [e1,e2];have e:decide ((l1.map (·.1))[j]?=(l2.map (·.1))[j]?)=(l1[j].1 == l2[j].1):=by
  rw [List.getElem?_map,List.getElem?_map,List.getElem?_eq_getElem g1,List.getElem?_eq_getElem g2];by_cases q:l1[j].1=l2[j].1
  ·simp [q]
  ·simp [q]
 rw [e];exact SeqAt.EqAt.str_str _ _ _ _
theorem all_eq {α:Type} [DecidableEq α] {xs ys:List α} (h:xs.length=ys.length):(List.range xs.length).all (fun j=>decide (xs[j]?=ys[j]?))=decide (xs=ys):=by
 rw [Bool.eq_iff_iff,List.all_eq_true,decide_eq_true_eq];constructor
 ·intro q;apply List.ext_getElem?;intro i;by_cases hi:i < xs.length
  ·exact of_decide_eq_true (q i (List.mem_range.mpr hi))
  ·rw [List.getElem?_eq_none (by omega),List.getElem?_eq_none (by omega)]
 ·rintro rfl j _;simp
section
variable {X:Cx}
theorem CJ {pins:List (Addr×Obj)} {σ:St} {H:Hp} {s:Shared} {A:Around} {a b:Addr} {ts us:List Str} (I:Inv X pins σ H s) (ha:H a=some (.lst (ts.map V.str))) (hb:H b=some (.lst (us.map V.str))) (hu:A.units < cLine) :
  SeqAt.RcAt A s (.ref a) (.ref b) (decide (ts=us))∧SeqAt.RcNeAt A s (.ref a) (.ref b) (!decide (ts=us)):=by
 obtain ⟨i1,r1,p1,_⟩:=I.list (aK.of ha);obtain ⟨i2,r2,p2,_⟩:=I.list (aK.of hb);obtain ⟨l1,rfl,e1⟩:=ud r1;obtain ⟨l2,rfl,e2⟩:=ud r2;have n1:(strValues l1).toArray.size=ts.length:=by rw [← e1]; simp [strValues]
 have n2:(strValues l2).toArray.size=us.length:=by rw [← e2]; simp [strValues]
 by_cases h:ts.length=us.length
 ·have hsz:(strValues l1).toArray.size=(strValues l2).toArray.size:=by rw [n1,n2,h]
  have k1:=SeqAt.RcAt.lists (A:=A) p1.isList p2.isList hsz hu (fun j g1 g2=>GS j g1 g2);have k2:=SeqAt.RcNeAt.lists (A:=A) p1.isList p2.isList hsz hu (fun j g1 g2=>GS j g1 g2);rw [n1,e1,e2,all_eq h] at k1 k2;exact ⟨k1,k2⟩
 ·have hsz:((strValues l1).toArray.size != (strValues l2).toArray.size)=true:=by rw [n1,n2]; simpa using h
  have e:decide (ts=us)=false:=decide_eq_false fun z=>h (by rw [z]);rw [e];exact ⟨SeqAt.RcAt.lists_lengths p1.isList p2.isList hsz hu,SeqAt.RcNeAt.lists_lengths p1.isList p2.isList hsz hu⟩
def nh (neg:Bool):R2:=fun x y H Q=>match x,y with
 | .ref a,.ref b=>∃ ts us:List Str,H a=some (.lst (ts.map V.str))∧H b=some (.lst (us.map V.str))∧Q (.bl (neg ^^ decide (ts=us))) H
 | _,_=>False
theorem Og (hu:X.A.units < cLine):bc X (compareOp .Eq) (nh false):=by
 intro pins s σ H x y v u Q I rx ry h;unfold nh at h;split at h
 ·obtain ⟨ts,us,ha,hb,q⟩:=h;cases rx; cases ry;simp only [Bool.false_bne] at q;exact (CJ I ha hb hu).1 _ _ _ _ ⟨.bl _,H,I,rfl,q⟩
 ·exact h.elim
theorem Pm (hu:X.A.units < cLine):bc X (compareOp .NotEq) (nh true):=by
 intro pins s σ H x y v u Q I rx ry h;unfold nh at h;split at h
 ·obtain ⟨ts,us,ha,hb,q⟩:=h;cases rx; cases ry;simp only [Bool.true_bne] at q;exact (CJ I ha hb hu).2 _ _ _ _ ⟨.bl _,H,I,rfl,q⟩
 ·exact h.elim
theorem Dv.cK {st:Stmt}:QS X st wM:=⟨Rh⟩
end
end L2
namespace Tx
open PySem PySem.Builtin PySem.StrLaws
end Tx
namespace L2
open PySem PySem.Spec PyProof.Rows
end L2
namespace Tx
open PySem PySem.Builtin PySem.StrLaws
end Tx
namespace L2
open PySem PySem.Spec PyProof.Rows
def wK:V→Hp→VK→Prop:=fun x H Q=>match x with
 | .int i=>Q (.int (-i)) H
 | _=>False
theorem ie {X:Cx}:qp X (unaryOp .USub) wK:=fun pins s σ H x v Q I rx h=>Sh pins s σ H x v Q I rx (by
 unfold wK at h;split at h
 ·exact ⟨_,rfl,h⟩
 ·exact h.elim)
theorem NG (r:List V) (x:V):gA (r++[x]) Option.none (some (-1))=r:=by
 unfold gA;have e1:HT.bj (r++[x]).length (r++[x]).length (some (-1))=r.length:=by
  unfold HT.bj;simp;omega
 rw [HT.Ti,e1];simp
end L2
namespace L2
open PySem PySem.Spec PyProof.Rows
section
variable {X:Cx} {K:PySem.W.Frag}
def yR (K:PySem.W.Frag):List V→Hp→VK→Prop:=fun xs H Q=>match xs with
 | [.ref p]=>∃ ys,aK K H p ys∧Q (.int ys.length) H
 | _=>False
theorem NC (h:X.K=K):cC X (.builtin "len") (yR K):=h ▸ Gw.imp fun xs H Q h=>by
 unfold yR at h;split at h
 ·obtain ⟨ys,h1,h2⟩:=h;exact ⟨_,_,rfl,.inl ⟨ys,h1,rfl⟩,h2⟩
 ·exact h.elim
def Ac (K:PySem.W.Frag):R2:=fun x y H Q=>match x,y with
 | .ref p,.int i=>∃ xs v,aK K H p xs∧cq xs i=some v∧Q v H
 | _,_=>False
theorem La (h:X.K=K):eC X (Ac K):=h ▸ EC.imp fun x y H Q h=>by
 unfold Ac at h;split at h
 ·obtain ⟨xs,v,h1,h2,h3⟩:=h;exact ⟨_,xs,_,v,rfl,rfl,h1,h2,h3⟩
 ·exact h.elim
end
end L2
namespace Tx
end Tx
namespace L2
open PySem
open Sem (wp)
def cL (e:Addr) (c:Value) (od:Option Addr) (h:Heap):Prop:=∃ o,h.get? e=some o∧o.cls=c∧o.dict=od∧∃ vs,o.data=.fields vs
structure Kp (e:Addr) (c:Value) (od:Option Addr) {α:Type} (t:Sem α):Prop where
 out:∀ (M:Model) (Γ:Ctx) (P:α→Pos→Shared→Prop) (Ee:Value→Pos→Shared→Prop) (p:Pos) (s:Shared),cL e c od s.heap→wp M Γ t P Ee p s→wp M Γ t (fun a p' s'=>P a p' s'∧cL e c od s'.heap) Ee p s
section
variable {e:Addr} {c:Value} {od:Option Addr} {α β:Type}
theorem Kp.pure (a:α):Kp e c od (Pure.pure a:Sem α):=⟨fun _ _ _ _ _ _ hd h=>⟨h,hd⟩⟩
theorem Kp.unsupported (w:String):Kp e c od (PySem.unsupported w:Sem α):=⟨fun _ _ _ _ _ _ _ h=>h⟩
theorem Kp.bind {m:Sem α} {f:α→Sem β} (hm:Kp e c od m) (hf:∀ a,Kp e c od (f a)):Kp e c od (m >>= f):=⟨fun M Γ P Ee p s hd h=>by
 rw [Sem.wp_bind'] at h ⊢;exact Sem.wp_mono M Γ m (fun a p' s' h'=>(hf a).out M Γ P Ee p' s' h'.2 h'.1) (fun _ _ _ x=>x) p s (hm.out M Γ _ Ee p s hd h)⟩
theorem Kp.ite {q:Prop} [Decidable q] {t u:Sem α} (ht:Kp e c od t) (hu:Kp e c od u):Kp e c od (if q then t else u):=by split <;> assumption
theorem Kp.load (a:Addr):Kp e c od (PySem.load a):=⟨fun _ _ _ _ _ _ hd h=>let ⟨o,ho,z⟩:=h; ⟨o,ho,z,hd⟩⟩
theorem Kp.stack:Kp e c od PySem.stack:=⟨fun M Γ P Ee p s hd h=>by
 unfold PySem.stack at h ⊢;rw [Sem.wp_stack] at h ⊢;exact ⟨h,hd⟩⟩
theorem cL.push {h:Heap} (x:cL e c od h) (o:Obj):cL e c od (h.push o):=let ⟨u,hu,r⟩:=x; ⟨u,Heap.get?_push_of_some _ hu,r⟩
theorem cL.update {h:Heap} (x:cL e c od h) (a:Addr) (f:Obj→Obj) (hf:∀ o,(f o).cls=o.cls∧(f o).dict=o.dict∧∀ vs,o.data=.fields vs→∃ ws,(f o).data=.fields ws):cL e c od (h.update a f):=by
 obtain ⟨u,hu,h1,h2,vs,h3⟩:=x;by_cases q:a=e
 ·subst q;obtain ⟨ws,h4⟩:=(hf u).2.2 vs h3;exact ⟨f u,Heap.get?_update_self f hu (Obj.isFreed_of_fields h4),(hf u).1.trans h1,(hf u).2.1.trans h2,ws,h4⟩
 ·exact ⟨u,(Heap.get?_update_other _ _ q).trans hu,h1,h2,vs,h3⟩
theorem Kp.update (a:Addr) (f:Obj→Obj) (hf:∀ o,(f o).cls=o.cls∧(f o).dict=o.dict∧∀ vs,o.data=.fields vs→∃ ws,(f o).data=.fields ws):Kp e c od (PySem.update a f) :=
 ⟨fun _ _ _ _ _ _ hd h=>⟨h.1,h.2,hd.update a f hf⟩⟩
theorem Oa (g:Array Value→Array Value) (o:Obj):(Obj.mapFields g o).cls=o.cls∧(Obj.mapFields g o).dict=o.dict∧∀ vs,o.data=.fields vs→∃ ws,(Obj.mapFields g o).data=.fields ws:=by
 obtain ⟨c1,d1,dt,sl⟩:=o;refine ⟨Obj.cls_mapFields _ _,?_,fun vs h=>⟨_,Obj.data_mapFields h g⟩⟩;cases dt <;> rfl
theorem Kp.alloc (o:Obj):Kp e c od (PySem.alloc o):=⟨fun _ _ _ _ _ _ hd h=>⟨h,hd.push o⟩⟩
theorem Kp.field (v:Value) (i:Nat):Kp e c od (PySem.field v i):=⟨fun _ Γ _ _ _ _ hd h=>by
 rw [wp_field_iff] at h ⊢;obtain ⟨a,o,vs,x,h1,h2,h3,h4,h5⟩:=h;exact ⟨a,o,vs,x,h1,h2,h3,h4,h5,hd⟩⟩
theorem Kp.setField (v:Value) (i:Nat) (x:Value):Kp e c od (PySem.setField v i x):=⟨fun _ Γ _ _ _ _ hd h=>by
 rw [wp_setField_iff] at h ⊢;obtain ⟨a,o,vs,h1,h2,h3,h4,h5⟩:=h;exact ⟨a,o,vs,h1,h2,h3,h4,h5,hd.update a _ (Oa _)⟩⟩
local macro_rules | `(tactic| walk_at "kps")=>`(tactic| repeat' with_reducible first | assumption | exact Kp.pure _ | exact Kp.unsupported _ | exact Kp.field _ _ | exact Kp.setField _ _ _ | exact Kp.load _ | exact Kp.stack | exact Kp.alloc _ | apply Kp.ite | apply Kp.bind | intro _ | split)
theorem Kp.newFields (ty:String) (vs:List Value):Kp e c od (PySem.newFields ty vs):=by
 unfold PySem.newFields newObj newObjAsIs;walk_at "kps"
theorem Kp.frameEnvs:Kp e c od PySem.frameEnvs:=by
 unfold PySem.frameEnvs;walk_at "kps"
theorem Kp.isImport (env:Env) (outer:List Env):Kp e c od (behindIsImport env outer):=by
 unfold behindIsImport;walk_at "kps"
theorem Kp.caller:Kp e c od underTheClaimsCaller:=by
 unfold underTheClaimsCaller;walk_at "kps"
theorem Kp.keptBack (env:Env) (i:Bool) (l:List Env):Kp e c od (PySem.keptBack env i l):=by
 have:=Kp.caller (e:=e) (c:=c) (od:=od);cases l <;> unfold PySem.keptBack <;> walk_at "kps"
theorem Kp.ready:∀ l:List Env,Kp e c od (readyFrames l)
 | []=>Kp.pure _
 | env::outer=>by
  have ih:=Kp.ready outer;have h1:=Kp.isImport (e:=e) (c:=c) (od:=od) env outer;have h2:=fun i=>Kp.keptBack (e:=e) (c:=c) (od:=od) env i outer;unfold readyFrames;walk_at "kps"
  all_goals first | exact h2 _ | exact Kp.update _ _ (fun o=>⟨rfl,rfl,fun vs h=>⟨vs,h⟩⟩) | skip
theorem Kp.frameObject (l:List Env):Kp e c od (PySem.frameObject l):=by
 cases l with
 | nil=>exact Kp.pure _
 | cons env outer =>
  have:=Kp.ready (e:=e) (c:=c) (od:=od) (env::outer);unfold PySem.frameObject;walk_at "kps"
theorem Kp.frameOf (env:Env):Kp e c od (PySem.frameOf env):=by
 have h1:=Kp.frameEnvs (e:=e) (c:=c) (od:=od);have h2:=Kp.frameObject (e:=e) (c:=c) (od:=od);unfold PySem.frameOf;walk_at "kps"
 all_goals first | exact h2 _ | skip
theorem Kp.place (f:Addr) (b:Bool):Kp e c od (entryPlaceOf f b):=by
 unfold entryPlaceOf;walk_at "kps"
theorem Kp.setFlight (v:Value) (fr:Option Addr):Kp e c od (PySem.setFlight v fr):=by
 unfold PySem.setFlight;walk_at "kps"
theorem Kp.noteFrame (v:Value) (env:Env):Kp e c od (PySem.noteFrame v env):=by
 have h1:=Kp.frameOf (e:=e) (c:=c) (od:=od) env;have h2:=fun f b=>Kp.place (e:=e) (c:=c) (od:=od) f b;unfold PySem.noteFrame EntryCells.newEntry;walk_at "kps"
 all_goals first | exact h2 _ _ | exact Kp.newFields _ _ | skip
theorem Kp.leaving (env:Env) (v:Value):Kp e c od (PySem.leaving env v):=by
 have h1:=Kp.noteFrame (e:=e) (c:=c) (od:=od) v env;have h2:=Kp.setFlight (e:=e) (c:=c) (od:=od) v none;unfold PySem.leaving;walk_at "kps"
theorem Kp.any {t:Sem α} (k:Kp e c od t) {M:Model} {A:Around} {Q:α→Shared→Prop} {E:Value→Shared→Prop} {s:Shared} (hd:cL e c od s.heap) (h:wpAny M A t Q E s):wpAny M A t (fun a s'=>Q a s'∧cL e c od s'.heap) E s :=
 fun Γ p hΓ=>k.out M Γ _ _ p s hd (h Γ p hΓ)
end
end L2
namespace Tx
open PySem PySem.Builtin PySem.StrLaws
end Tx
namespace Tx
end Tx
namespace L2
end L2
namespace L2
open PySem PySem.Spec PyProof.Rows
theorem bP.there {P:Program} {w:World} {H:Hp} {h:Heap} {a:Addr} {o:HO} (x:bP P w H h a o):∃ u,h.get? a=some u:=by
 cases o with
 | lst xs=>obtain ⟨_,_,_,_,e⟩:=x; exact ⟨_,e⟩
 | tup xs=>obtain ⟨_,_,_,u,e,_⟩:=x; exact ⟨_,e⟩
 | dK kvs=>obtain ⟨_,_,_,_,o,_,_,e,_⟩:=x; exact ⟨_,e⟩
 | dT kvs=>obtain ⟨_,_,_,_,o,_,_,e,_⟩:=x; exact ⟨_,e⟩
 | set S n=>obtain ⟨o,_,_,_,e,_⟩:=x; exact ⟨_,e⟩
 | ins C dx fs=>obtain ⟨_,_,_,e,_⟩:=x; exact ⟨_,e⟩
 | own y=>exact x
 | xd fs=>obtain ⟨_,⟨_,_,_,e,_⟩,_⟩:=x; exact ⟨_,e⟩
 | tM lo hi=>obtain ⟨_,_,_,e⟩:=x; exact ⟨_,e⟩
 | dJ ob u=>obtain ⟨e,_⟩:=x; exact ⟨_,e⟩
 | jU ps=>exact ⟨_,(show h.get? a=some _ from x)⟩
 | met f y=>exact ⟨_,(show h.get? a=some _ from x)⟩
 | ext φ=>obtain ⟨_,e,_⟩:=x; exact e
def qI (B:Heap) (fs:List Addr) (h:Heap) (H':Hp) (h':Heap):Prop :=
 ∀ b o,h'.get? b=some o→b ∉ fs→((∃ u,h.get? b=some u)∨∃ u,H' b=some u)→B.get? b=some o
theorem Gj {P:Program} {w:World} {fs:List Addr} {H H':Hp} {h h1 h2 B:Heap} (u:Un fs [] H H' h h1) (aC:bR P w H' h1) (hf:∀ b∈fs,H b=none∧∃ o,h.get? b=some o∧∀ vs,o.data≠.fields vs) (fG:qI B fs h H' h1)
  (st:B.StaysIn h2) (up:h1.UpToSlots h2):Un fs [] H H' h h2∧bR P w H' h2:=by
 have kB:∀ b o,h1.get? b=some o→b ∉ fs→((∃ u,h.get? b=some u)∨∃ u,H' b=some u)→h2.get? b=some o:=fun b o e hb z=>st b o (fG b o e hb z);have fr:∀ b∈fs,∀ o,h.get? b=some o→∃ sl,h2.get? b=some { o with slots:=sl }:=fun b hb o e=>by
  obtain ⟨n,o',e',nf⟩:=hf b hb;rw [e] at e'; cases e';obtain ⟨sl,e1⟩:=u.slot b o e n hb (by simp);obtain ⟨sl',e2⟩:=up b _ e1 nf;exact ⟨sl',e2⟩
 refine ⟨⟨fun b o q n hb hx=>kB b o (u.keep b o q n hb hx) hb (.inl ⟨o,q⟩),fun b o q n hb hx=>fr b hb o q,u.free,fun b o q hx=>?_,u.fw,u.eS,u.fm⟩,fun a v e=>?_⟩
 ·by_cases hb:b∈fs
  ·obtain ⟨sl,e⟩:=fr b hb o q;exact ⟨_,e⟩
  ·obtain ⟨o',e1⟩:=u.there b o q hx;exact ⟨o',kB b o' e1 hb (.inl ⟨o,q⟩)⟩
 ·have tr:∀ b,(∃ u,H' b=some u)→b ∉ fs:=fun b ⟨v',e'⟩ hb=>by
   obtain ⟨n,o,ho,_⟩:=hf b hb;have:=u.free b o ho n (by simp);rw [e'] at this; cases this
  refine (aC a v e).dZ (fun b x hb q=>?_) (fun _ q=>q) fun _ _ q=>q;have hs:∃ u,H' b=some u:=by
   rcases hb with rfl | hb
   ·exact ⟨v,e⟩
   ·exact ⟨_,hb⟩
  exact kB b x q (tr b hs) (.inr hs)
structure lY (P:Program) (w:World) (outer:List Env) (H:Hp) (s:Shared) (ea C:Addr) (od:Option Addr) (H':Hp) (s':Shared):Prop where
 os:s'.os=s.os
 bare:AllBare s'.gens
 un:Un (bH outer) [] H H' s.heap s'.heap
 aC:bR P w H' s'.heap
 free:H' ea=none
 new:s.heap.get? ea=none
 hd:cL ea (.ref C) od s'.heap
 Hg:∃ B a0,Heap.FlyingW B outer ea (.ref C) a0 s'.heap∧qI B (bH outer) s.heap H' s'.heap
def cB (P:Program) (w:World):dh:=fun outer H s E e s'=>∃ ea C od H',e=.ref ea∧lY P w outer H s ea C od H' s'∧E (.ref C) od H'
section
variable {X:Cx} {pins:List (Addr×Obj)} {σ:St} {H H':Hp} {s s':Shared} {ea C:Addr} {od:Option Addr}
theorem Inv.DR (I:Inv X pins σ H s):∀ b∈bH X.stack,H b=none∧∃ o,s.heap.get? b=some o∧∀ vs,o.data≠.fields vs:=fun b hb=>⟨I.tD b hb,(I.stack.mem hb).2⟩
structure Own (X:Cx):Prop where
 cH:X.stack=X.env::X.outer
 frame:X.env.frame=some X.env.locals
 ex:X.ex=[]
theorem Inv.zr {h1 B:Heap} {a0:Value} (I:Inv X pins σ H s) (O:Own X) (os:s'.os=s.os) (bare:AllBare s'.gens) (un:Un (bH X.stack) [] H H' s.heap h1) (aC:bR X.prog X.w H' h1) (free:H' ea=none) (new:s.heap.get? ea=none)
  (fG:qI B (bH X.stack) s.heap H' h1) (fl:Heap.FlyingW B X.outer ea (.ref C) a0 s'.heap) (up:h1.UpToSlots s'.heap) (hd:cL ea (.ref C) od s'.heap):lY X.prog X.w X.outer X.H₀ X.s₀ ea C od H' s':=by
 obtain ⟨u2,hok2⟩:=Gj un aC I.DR fG fl.1 up;have A0:bH X.stack=X.env.locals::X.fs:=by
  rw [O.cH];unfold bH;rw [List.filterMap_cons,O.frame];rfl
 have sC:∀ b o,X.s₀.heap.get? b=some o→b≠X.env.locals:=fun b o e=>Nat.ne_of_lt (Nat.lt_of_lt_of_le (Heap.lt_size e) I.ok.above);have nx:∀ b:Addr,b ∉ X.ex:=fun b=>by rw [O.ex]; simp
 have eF:∀ b o,X.s₀.heap.get? b=some o→b ∉ X.fs→b ∉ bH X.stack:=fun b o e hb z=>by
  rw [A0] at z;rcases List.mem_cons.mp z with q | q
  ·exact sC b o e q
  ·exact hb q
 have Lfree:H' X.env.locals=none:=by
  obtain ⟨m,⟨o,_,_,ho,_⟩,_⟩:=I.loc;exact un.free _ o ho I.free (by simp)
 refine ⟨os.trans I.os,bare,⟨fun b o q n hb _=>?_,fun b o q n hb _=>?_,fun b o q n _=>?_,fun b o q _=>?_,fun b xs q=>?_,fun b o v q=>?_,fun b ps q=>?_⟩,hok2,free,?_,hd,B,a0,fl,fun b o e hb z=>?_⟩
 ·exact u2.keep b o (I.base.keep b o q n hb (nx b)) (I.base.free b o q n (nx b)) (eF b o q hb) (by simp)
 ·obtain ⟨sl,e1⟩:=I.base.slot b o q n hb (nx b);obtain ⟨sl',e2⟩:=u2.slot b _ e1 (I.base.free b o q n (nx b)) (by rw [A0]; exact List.mem_cons_of_mem _ hb) (by simp);exact ⟨sl',e2⟩
 ·obtain ⟨o',e1⟩:=I.base.there b o q (nx b);exact u2.free b o' e1 (I.base.free b o q n (nx b)) (by simp)
 ·obtain ⟨o',e1⟩:=I.base.there b o q (nx b);exact u2.there b o' e1 (by simp)
 ·exact u2.fw b xs (I.base.fw b xs q)
 ·exact u2.eS b o v (I.base.eS b o v q)
 ·obtain ⟨m1,e1⟩:=I.base.fm b ps q;obtain ⟨m2,e2⟩:=u2.fm b _ e1;exact ⟨m1++m2,by rw [e2,Array.append_assoc]⟩
 ·cases q:X.s₀.heap.get? ea with
  | none=>rfl
  | some u =>
   obtain ⟨u',e'⟩:=I.base.there ea u q (nx ea);rw [new] at e'; cases e'
 ·have hn:b ∉ bH X.stack:=fun z'=>by
   rw [A0] at z';rcases List.mem_cons.mp z' with q | q
   ·rcases z with ⟨o',e'⟩ | ⟨v,e'⟩
    ·exact sC b o' e' q
    ·rw [q,Lfree] at e'; cases e'
   ·exact hb q
  have hs:∃ o',h1.get? b=some o'∧((∃ u,s.heap.get? b=some u)∨∃ u,H' b=some u):=by
   rcases z with ⟨o',e'⟩ | ⟨v,e'⟩
   ·obtain ⟨o2,e2⟩:=I.base.there b o' e' (nx b);obtain ⟨o3,e3⟩:=un.there b o2 e2 (by simp);exact ⟨o3,e3,.inl ⟨o2,e2⟩⟩
   ·obtain ⟨o3,e3⟩:=(aC b v e').there;exact ⟨o3,e3,.inr ⟨v,e'⟩⟩
  obtain ⟨o3,e3,z3⟩:=hs;have e4:=fG b o3 e3 hn z3;have e5:=fl.1 b o3 e4;rw [e] at e5; cases e5;exact e4
theorem Inv.O0 {M:Model} {A:Around} {E:Value→Shared→Prop} (I:Inv X pins σ H s) (O:Own X) (hA:A.frames=some X.stack) (F:lY X.prog X.w X.stack H s ea C od H' s') :
  wpAny M A (leaving X.env (.ref ea)) (fun _ s''=>lY X.prog X.w X.outer X.H₀ X.s₀ ea C od H' s'') E s':=by
 obtain ⟨B,a0,fl,fG⟩:=F.Hg;have fl':=fl;rw [O.cH] at fl' hA;refine aD ((Kp.leaving X.env (.ref ea)).any F.hd (wpAny_leaves_onW (Q:=fun _ s''=>∃ h',s''={ s' with heap:=h' }∧Heap.FlyingW B X.outer ea (.ref C) a0 h'∧s'.heap.UpToSlots h') hA O.frame fl' fun h' x1 x2=>⟨h',rfl,x1,x2⟩)) fun _ s'' ⟨⟨h',e,x1,x2⟩,hd⟩=>?_;subst e;exact I.zr (s':={ s' with heap:=h' }) O F.os F.bare F.un F.aC F.free F.new fG x1 x2 hd
theorem GV {h h':Heap} {e:Addr} {cls:Value} {args:List Value} (hx:Heap.MadeExcOf h h' e cls args):cL e cls none h':=by
 obtain ⟨t,he,_⟩:=hx.there;exact ⟨_,he,rfl,rfl,_,rfl⟩
theorem Inv.RL {M:Model} {A:Around} {E:Value→Shared→Prop} {h':Heap} {vs:List Value} (I:Inv X pins σ H s) (O:Own X) (hA:A.frames=some X.stack) (hx:Heap.MadeExcOf s.heap h' ea (.ref C) vs) :
  wpAny M A (leaving X.env (.ref ea)) (fun _ s''=>lY X.prog X.w X.outer X.H₀ X.s₀ ea C none H s'') E { s with heap:=h' }:=by
 have aQ:(PySem.W.hideAll s.heap (bH X.stack)).StaysIn s.heap:=fun b o q=>PySem.W.of_hideAll _ q;have jL:s.heap.FunFrames (PySem.W.hideAll s.heap (bH X.stack)) X.stack:=PySem.W.funFrames_hide I.stack fun env he a ha=>List.mem_filterMap.mpr ⟨env,he,ha⟩;have kM:H ea=none:=by
  cases q:H ea with
  | none=>rfl
  | some u =>
   obtain ⟨o,e⟩:=(I.aC ea u q).there;have:=hx.new;rw [e] at this; cases this
 have fG:qI (PySem.W.hideAll s.heap (bH X.stack)) (bH X.stack) s.heap H h':=fun b o e hb z=>by
  have hs:∃ u,s.heap.get? b=some u:=by
   rcases z with z | ⟨v,z⟩
   ·exact z
   ·exact (I.aC b v z).there
  obtain ⟨u,eu⟩:=hs;have:=hx.keeps b u eu;rw [e] at this; cases this;exact PySem.W.hideAll_get _ eu hb
 generalize PySem.W.hideAll s.heap (bH X.stack)=B at aQ jL fG;have hfr':=jL;rw [O.cH] at hfr' hA;refine aD ((Kp.leaving X.env (.ref ea)).any (s:={ s with heap:=h' }) (GV hx) (wpAny_leaves_madeW (s:={ s with heap:=h' }) (Q:=fun _ s''=>∃ h2 t,s''={ s with heap:=h2 }∧Heap.FlyingW B X.outer ea (.ref C) (.ref t) h2∧h'.UpToSlots h2) hA O.frame aQ hfr' hx
  fun h2 t x1 _ _ x4=>⟨h2,t,rfl,x1,x4⟩)) fun _ s'' ⟨⟨h2,t,e,x1,x4⟩,hd⟩=>?_
 subst e;exact I.zr (s':={ s with heap:=h2 }) O rfl I.bare (Un.kept hx.keeps) (I.aC.kept hx.keeps) kM hx.new fG x1 x4 hd
structure j8 (X:Cx) (R:St→XK):Prop where
 pass:∀ (pins:List (Addr×Obj)) (σ:St) (H:Hp) (s:Shared) (e:Value) (s':Shared),Inv X pins σ H s→cB X.prog X.w X.stack H s (R σ) e s'→X.xe e s'
structure Raises (X:Cx) (R:St→XK):Prop where
 made:∀ (pins:List (Addr×Obj)) (σ:St) (H:Hp) (s:Shared) (h':Heap) (ea C:Addr) (vs:List Value),Inv X pins σ H s→Heap.MadeExcOf s.heap h' ea (.ref C) vs→R σ (.ref C) none H→X.xe (.ref ea) { s with heap:=h' }
theorem du {P:Program} {w:World} {K:PySem.W.Frag} {mg:Str→Option Value} {base:Heap} {N:List Str} {qual:Str} {scope:Scope} {f:Addr} {cd:Value} {A:Around} {outer:List Env} {s₀:Shared} {H₀:Hp} {E:XK} :
  j8 (fP (cB P w) P w K mg base N qual scope f cd A outer s₀ H₀ E) (fun _=>E) where
 pass:=fun pins σ H s e s' I hc=>by
  obtain ⟨ea,C,od,H',rfl,F,hE⟩:=hc;exact aD (I.O0 ⟨rfl,rfl,rfl⟩ I.ok.frames F) fun _ s'' z=>⟨ea,C,od,H',rfl,z,hE⟩
theorem wU {P:Program} {w:World} {K:PySem.W.Frag} {mg:Str→Option Value} {base:Heap} {N:List Str} {qual:Str} {scope:Scope} {f:Addr} {cd:Value} {A:Around} {outer:List Env} {s₀:Shared} {H₀:Hp} {E:XK} :
  Raises (fP (cB P w) P w K mg base N qual scope f cd A outer s₀ H₀ E) (fun _=>E) where
 made:=fun pins σ H s h' ea C vs I hx hE=>aD (I.RL ⟨rfl,rfl,rfl⟩ I.ok.frames hx) fun _ s'' z=>⟨ea,C,none,H,rfl,z,hE⟩
def wb (sp:Sp) (bp:List V) (R:St→XK) (t:TA):TE:=fun σ H Q=>t σ H fun vs H1=>sp (vs++bp) H1 Q (R σ)
section
variable {k:Nat} {f:Addr} {fd:FuncData} {ps:List Str} {sp:Sp} {bp:List V} {ds:List Value} {R:St→XK} {x:Str} {p pos:Pos} {e:Expr} {es:List Expr} {t:TA}
theorem Ci {Q:VK} {us:List Value} {vs:List V} (F:aA X.prog X.w X.K X.mg X.base (cB X.prog X.w) k f fd ps sp) (hr:bz k X.A) (hb:Binds X.K fd ps ds) (hd:Vals bp ds) (hx:j8 X R)
  (I:Inv X pins σ H s) (r:Vals vs us) (h:sp (vs++bp) H Q (R σ)):wpAny (model X.prog X.w) X.A (call (.ref f) us) (EP X pins σ Q) X.xe s:=by
 have r2:Vals (vs++bp) (us++ds):=r.append hd;have hl:(us++ds).length=ps.length:=by rw [← r2.length]; exact F.len _ _ _ _ h
 refine wpAny_call (codeAny_mono (F.run X.A X.stack s H ⟨us,[]⟩ (us++ds) (vs++bp) Q (R σ) hr I.p6 (hb s us I.bQ hl) r2 h) fun r s' hq=>?_);cases r with
 | error e=>exact hx.pass pins σ H s e s' I hq
 | ok fl =>
  cases fl with
  | ret u=>exact I.after hq
  | next=>exact False.elim hq
  | brk=>exact False.elim hq
  | cont=>exact False.elim hq
theorem QY (F:aA X.prog X.w X.K X.mg X.base (cB X.prog X.w) k f fd ps sp) (hr:bz k X.A) (hg:Gl X x) (hm:X.mg x=some (.ref f)) (hk:PySem.W.keepIn X.K (.ref f)=true) (hb:Binds X.K fd ps ds) (hd:Vals bp ds) (hx:j8 X R)
  (ha:PA X (e::es) t) (hs:(e::es).all noStar=true:=by rfl) (bF:(x == ("__debug__" : Str))=false:=by decide):PE X (.Call (.Name x p) (e::es) [] pos) (wb sp bp R t):=by
 have hs':=hs;rw [List.all_cons,Bool.and_eq_true] at hs';intro pins s σ H Q I h;refine wpAny_Call_Name_kw (ju I hg hm ?_ bF);refine PySem.W.callWith_K (h₀:=X.base) I.ok.mod.gC hk (aD (ha pos pins s σ H _ I h) fun us s1 ⟨vs,H1,I1,r,q⟩=>⟨I1.bQ,?_⟩) (eD hs'.1) (gk hs'.2);exact Ci F hr hb hd hx I1 r q
end
end
abbrev qE:List Value:=[.type "ValueError",.type "Exception",.type "BaseException",.type "object"]
theorem Qk {K:PySem.W.Frag} {h:Heap} {C:Addr} {Ij:List Value} {newId:String} (X:K.In h) (q:PySem.W.excIn K C Ij newId=true) :
  ∃ bm N nm q bs hdct sn sub ab col dd k0 k1 k2 k3 k5 mN,h.get? C=some (excClassObj nm q C N bs bm hdct sn sub ab col dd k0 k1 k2 k3 k5 newId)∧h.Ns N mN∧mN "__init__" = none∧OwnTail h Ij bm:=by
 unfold PySem.W.excIn at q;split at q
 ·rename_i dd cd sl ho;split at q
  ·rename_i C' bm k0 k1 k2 k3 n k5 hm hs;simp only [Bool.and_eq_true,beq_iff_eq,Bool.not_eq_true'] at q;obtain ⟨⟨⟨⟨⟨q1,q2⟩,q3⟩,q4⟩,q5⟩,q6⟩:=q;subst q1 q2;obtain ⟨nm,bs,mro,ns,qn,hd,sn,sub,ab,col,del⟩:=cd;dsimp only at hm q3 q5 q6;subst hm q3;have e1:sl=#[k0,k1,k2,k3,some (.builtin n),k5]:=by
    obtain ⟨l⟩:=sl;simp only at hs;rw [hs]
   subst e1;exact ⟨bm,ns,nm,qn,bs,hd,sn,sub,ab,col,dd,k0,k1,k2,k3,k5,_,X _ _ ho,.of_isNs (PySem.W.isNs_of_in X q5),PySem.W.nsMap_none_of_in X q5 q6,PySem.W.tail_of_in X q4⟩
  ·cases q
 ·cases q
def v7 (C:Addr) (R:St→XK) (t:TA):TS:=fun _ σ H=>t σ H fun vs H1=>vs.length≤sizeLine∧R σ (.ref C) none H1
theorem Um {X:Cx} {R:St→XK} {x:Str} {C:Addr} {e:Expr} {es:List Expr} {t:TA} {np bt pos:Pos} (hx:Raises X R) (hc:X.calm=true) (hm:X.mg x=some (.ref C)) (q:PySem.W.excIn X.K C qE "ValueError.__new__" = true) (ha:PA X (e::es) t)
  (hg:Gl X x:=by rfl) (hs:(e::es).all noStar=true:=by rfl) (bF:(x == ("__debug__" : Str))=false:=by decide):PS X (.Raise (some (.Call (.Name x np) (e::es) [] bt)) none pos) (v7 C R t):=by
 have hs':=hs;rw [List.all_cons,Bool.and_eq_true] at hs';intro pins s σ H D I h;obtain ⟨bm,N,nm,qn,bs,hdct,sn,sub,ab,col,dd,k0,k1,k2,k3,k5,mN,hC,hN,hni,T⟩:=Qk I.ok.mod.gC q;refine wpAny_Raise_call_subT (C:=C) (nm:=nm) (q:=qn) (N:=N) (bs:=bs) (bm:=bm) (hdct:=hdct) (sn:=sn) (sub:=sub) (ab:=ab) (col:=col) (dd:=dd) (k0:=k0) (k1:=k1) (k2:=k2) (k3:=k3) (k5:=k5)
  PySem.F.excBase_ValueError (mN:=mN) (T.hasType PySem.F.excBase_ValueError.hasBase) (I.ok.hd hc) (by rw [eD hs'.1]; exact gk hs'.2) hni (ju I hg hm ⟨rfl,?_⟩ bF)
 have ha':=ha bt pins s σ H _ I h;rw [eD hs'.1] at ha' ⊢;refine Calls.evalArgs_plain (aD ha' fun us s2 ⟨vs,H2,I2,r,z,hR⟩=>?_);exact ⟨rfl,by rw [← r.length]; exact z,I2.bk _ _ hC,hN.keeps I2.bk,T.keeps I2.bk,fun h' ea hm'=>hx.made pins σ H2 s2 h' ea C us I2 hm' hR⟩
end L2
namespace L2
open PySem PySem.Spec PyProof.Rows
def CY (ea C:Addr) (od:Option Addr):HO:=.ext (cL ea (.ref C) od)
abbrev Cx.lx (X:Cx) (v:Value):Cx:={ X with A:=X.A.mark (some v),calm:=false,xe:=fun _ _=>False }
abbrev Cx.kX (X:Cx) (pins:List (Addr×Obj)) (R:St→XK):Cx:={ X with pn:=X.pn++pins,xe:=fun e s'=>∃ (σ':St) (H H':Hp) (s:Shared) (ea C:Addr) (od:Option Addr),Inv X pins σ' H s∧e=.ref ea∧lY X.prog X.w X.stack H s ea C od H' s'∧R σ' (.ref C) od H' }
section
variable {X:Cx} {pins pins':List (Addr×Obj)} {σ:St} {H H':Hp} {s s':Shared} {R:St→XK} {v:Value}
theorem Inv.lx (I:Inv X pins σ H s) (v:Value):Inv (X.lx v) pins σ H s :=
 ⟨⟨I.ok.mod,I.ok.kind,I.ok.glob,I.ok.blt,I.ok.above,I.ok.inj,I.ok.has,I.ok.jQ,(fun z=>Bool.noConfusion z),I.ok.frames,I.ok.cH,I.ok.qd,I.ok.bs,I.ok.gb,I.ok.kc,I.ok.kF,I.ok.eY,I.ok.hU⟩,
  I.os,I.bare,I.base,I.loc,I.cell,I.free,I.eU,I.pin,I.aC,I.len⟩
theorem Inv.uq (I:Inv (X.lx v) pins σ H s) (ok:X.Ok):Inv X pins σ H s:=⟨ok,I.os,I.bare,I.base,I.loc,I.cell,I.free,I.eU,I.pin,I.aC,I.len⟩
theorem Inv.kX (I:Inv X pins σ H s) (R:St→XK):Inv (X.kX pins R) [] σ H s :=
 ⟨⟨I.ok.mod,I.ok.kind,I.ok.glob,I.ok.blt,I.ok.above,I.ok.inj,I.ok.has,I.ok.jQ,I.ok.hd,I.ok.frames,I.ok.cH,I.ok.qd,I.ok.bs,I.ok.gb,I.ok.kc,I.ok.kF,I.ok.eY,I.ok.hU⟩,
  I.os,I.bare,I.base,I.loc,I.cell,I.free,I.eU,fun p hp=>I.pin p (by simpa using hp),I.aC,I.len⟩
theorem Inv.ql (I:Inv (X.kX pins R) pins' σ H s):Inv X pins σ H s :=
 ⟨⟨I.ok.mod,I.ok.kind,I.ok.glob,I.ok.blt,I.ok.above,I.ok.inj,I.ok.has,I.ok.jQ,I.ok.hd,I.ok.frames,I.ok.cH,I.ok.qd,I.ok.bs,I.ok.gb,I.ok.kc,I.ok.kF,I.ok.eY,I.ok.hU⟩,
  I.os,I.bare,I.base,I.loc,I.cell,I.free,I.eU,fun p hp=>I.pin p (List.mem_append_left _ hp),I.aC,I.len⟩
theorem Oh:j8 (X.kX pins R) R:=⟨fun pins' σ H s e s' I hc=>by
 obtain ⟨ea,C,od,H',rfl,F,hE⟩:=hc;exact ⟨σ,H,H',s,ea,C,od,I.ql,rfl,F,hE⟩⟩
theorem Inv.Ea {a:Addr} {o:HO} (I:Inv X pins σ H s) (hn:H a=none) (n0:X.s₀.heap.get? a=none) (nL:a≠X.env.locals) (nC:∀ x c,X.env.cells.lookup x=some c→c≠a) (nP:∀ p∈X.pn++pins,p.1≠a)
  (new:bP X.prog X.w (upd H a o) s.heap a o):Inv X pins σ (upd H a o) s:=by
 have ne:∀ b u,H b=some u→b≠a:=fun b u e=>eR e hn;have n0':∀ b u,X.s₀.heap.get? b=some u→b≠a:=fun b u e z=>by rw [z,n0] at e; cases e
 refine ⟨I.ok,I.os,I.bare,⟨I.base.keep,I.base.slot,fun b u e n hx=>by rw [ah (n0' b u e)]; exact I.base.free b u e n hx,I.base.there,fun b xs e=>by have:=I.base.fw b xs e; rw [ah (ne b _ this)]; exact this,
  fun b u v e=>by have:=I.base.eS b u v e; rw [ah (ne b _ this)]; exact this,fun b ps e=>?_⟩,I.loc,I.cell,by rw [ah (Ne.symm nL)]; exact I.free,fun x c e=>by rw [ah (nC x c e)]; exact I.eU x c e,fun p hp=>?_,fun b u e=>?_,I.len⟩
 ·obtain ⟨m,e1⟩:=I.base.fm b ps e;exact ⟨m,by rw [ah (ne b _ e1)]; exact e1⟩
 ·obtain ⟨e1,e2,r⟩:=I.pin p hp;exact ⟨e1,by rw [ah (nP p hp)]; exact e2,r⟩
 ·by_cases hb:b=a
  ·subst hb;rw [ay] at e; cases e;exact new
  ·rw [ah hb] at e;exact (I.aC b u e).dZ (fun _ _ _ q=>q) (fun c q=>by rw [ah (ne c _ q)]; exact q) fun c xs q=>by rw [ah (ne c _ q)]; exact q
end
end L2
namespace L2
open PySem PySem.Spec PyProof.Rows
structure qu (K:PySem.W.Frag) (C:Addr):Prop where
 ha:PySem.W.findIn K (.ref C) "__class__" = some (some (.builtin "object.__class__"))
 hn:PySem.W.specialIn K (.builtin "object.__class__") "__get__" = some (some (.builtin "getset_descriptor.__get__"))
 dm:PySem.W.takesIn K (.builtin "object.__class__")=some true
 hm:PySem.W.mroIn K C (.type "object")=some true
 qR:PySem.W.findIn K (.ref C) "__getattribute__" = some (some (.builtin "BaseException.__getattribute__"))
 PM:PySem.W.findIn K (.ref C) "__getattr__" = some none
 hb:PySem.W.mroIn K C (.type "BaseException")=some true
theorem nR {M:Model} {h:Heap} {x C:Addr} {od:Option Addr} (I:cL x (.ref C) od h):PySem.W.Looks M h (typeOf (.ref x)) (.ref C):=by
 obtain ⟨o,e,c,_⟩:=I;exact c ▸ (PySem.W.Looks.ld e).andThen .now
theorem z0 {K:PySem.W.Frag} {C:Addr} {b:Value} {r:Bool} (h:PySem.W.mroIn K C b=some r):∃ c d cd sl,K.lookup C=some ⟨c,d,.cls cd,sl⟩:=by
 obtain ⟨cd,cE,_⟩:=Option.bind_eq_some_iff.mp h;unfold PySem.W.clsIn at cE;split at cE
 ·rename_i c' d' cd' sl' ho;exact ⟨_,_,_,_,ho⟩
 ·cases cE
section
variable {prog:Program} {w:World} {A:Around} {E:Value→Shared→Prop} {s:Shared} {K:PySem.W.Frag} {x C:Addr} {od:Option Addr}
theorem Me {M:Model} {h:Heap} {name:Str} {a g:Value} (X:K.In h) (ha:PySem.W.findIn K (.ref C) name=some (some a)) (hn:PySem.W.specialIn K a "__get__" = some (some g)) (dm:PySem.W.takesIn K a=some true) :
  PySem.W.Looks M h (Builtin.ObjectAttr.find (.ref x) (.ref C) name) (.bind g a):=by
 have L1:=PySem.W.looks_findIn (M:=M) X ha;have L2:PySem.W.Looks M h (Builtin.ObjectAttr.getOf (some a)) (some g):=PySem.W.looks_specialIn X hn;have L3:=PySem.W.looks_takesIn (M:=M) X dm;unfold Builtin.ObjectAttr.find;refine L1.andThen (L2.andThen ?_);have L4:PySem.W.Looks M h (Builtin.ObjectAttr.dataDescriptor? (some a) (some g)) (some (g,a)):=by
  unfold Builtin.ObjectAttr.dataDescriptor?;exact L3.andThen .now
 exact L4.andThen (PySem.W.Looks.tag .now)
open PySem.W in
open Builtin Builtin.ObjectAttr Builtin.Getset_descriptor in
theorem M6 {R:Result→Shared→Prop} {tp:Value} (Z:qu K C) (X:K.In s.heap) (I:cL x (.ref C) od s.heap) (h:R (.ok (.ret (.ref C))) s) :
  codeAny (model prog w) A (.call (.builtin "getset_descriptor.__get__") ⟨[.builtin "object.__class__",.ref x,tp],[]⟩) R s:=by
 obtain ⟨hh,g,dr,t,os⟩:=s;have L0:=nR (M:=model prog w) I;have L1:=looks_mroIn (M:=model prog w) X Z.hm;refine codeAny_call_builtin KF.slot_gs.plain KF.entry_gs (KF.slot_gs.check _ _ _ _ _ _ _ _ KF.type_class (KF.args_gs _ _ _) ?_);unfold Builtin.«getset_descriptor.__get__» descrGet;rw [dga_obj];refine wpAny_bind (wpAny_pure ?_);unfold descrGetter descrCheckInstance descrNameAndClass isInstance;simp only [KF.owner_class]
 repeat lk
 refine ⟨Code.quiet_builtin _ (by decide +kernel),codeAny_builtin KF.entry_class ?_⟩;unfold Builtin.«object.__class__» shownTypeOf
 repeat lk
 exact h
theorem Kj {M:Model} {HU:Value} {Q:Unit→Shared→Prop} (Z:qu K C) (X:K.In s.heap) (I:cL x (.ref C) od s.heap) (h:Q () s):wpAny M A (checkBuiltinCall "BaseException.__getattribute__" ⟨[.ref x,HU],[]⟩) Q E s:=by
 have k1:builtinKind "BaseException.__getattribute__" = some .slot:=by decide +kernel
 have k2:splitId "BaseException.__getattribute__" = some ("BaseException", "__getattribute__"):=by decide +kernel
 have k3:=PySem.F.args_bexc_ga (.ref x) HU;have L0:=nR (M:=M) I;have L1:=PySem.W.looks_mroIn (M:=M) X Z.hb;obtain ⟨hh,g,d,t,os⟩:=s;have L2:PySem.W.Looks M hh (isInstance (.ref x) (.type "BaseException")) true:=L0.andThen L1;simp only [checkBuiltinCall,k1,k2];refine wpAny_bind (L2.at ?_)
 repeat (any_goals (first | assumption | wp_step))
theorem Kq {Q:Option Value→Shared→Prop} (Z:qu K C) (X:K.In s.heap) (I:cL x (.ref C) od s.heap) (h:Q (some (.ref C)) { s with toks:=s.toks+1 }):wpAny (model prog w) A (getAttr? (.ref x) "__class__") Q E s:=by
 obtain ⟨hh,g,d,t,os⟩:=s;have L0:=nR (M:=model prog w) I;have L1:=PySem.W.looks_findIn (M:=model prog w) X Z.qR;have L2:=PySem.W.looks_findIn (M:=model prog w) X Z.PM;have L3:=Me (M:=model prog w) (x:=x) X Z.ha Z.hn Z.dm;unfold getAttr? getAttrBy? getAttrBy;refine wpAny_bind (wpAny_mkText (wpAny_bind (wpAny_attempt (wpAny_holding (wpAny_bind (L0.at (wpAny_bind (L1.at ?_))))))));show wpAny _ _ (getAttrByItsOwn (.ref x) (.str "__class__" t) (.ref C) (.builtin "BaseException.__getattribute__") false false) _ _ _;unfold getAttrByItsOwn;refine wpAny_bind (L2.at ?_);refine wpAny_bind (wpAny_attempt (wpAny_holding ?_));show wpAny _ _ (boundAndCalled (.builtin "BaseException.__getattribute__") (.ref x) (.str "__class__" t)) _ _ _;unfold boundAndCalled;refine wpAny_bind (wpAny_of_eq (PySem.F.attr_ValueError.ga.bind (.ref x)) ?_);refine wpAny_call (codeAny_call_builtin PySem.F.attr_ValueError.ga.plain PySem.F.entry_bexc_ga (Kj Z X I ?_));show wpAny _ _ (Builtin.«object.__getattribute__» ⟨[.ref x,.str "__class__" t],[]⟩) _ _ _;unfold Builtin.«object.__getattribute__»;refine wpAny_bind (wpAny_pure ?_);refine wpAny_bind (wpAny_pure ?_);refine wpAny_bind (L0.at (wpAny_bind (L3.at ?_)));show wpAny _ _ (Builtin.ObjectAttr.bindTo (.builtin "getset_descriptor.__get__") (.builtin "object.__class__") (.ref x) (.ref C)) _ _ _;show wpAny _ _ (holding [.builtin "object.__class__"] (call (.builtin "getset_descriptor.__get__") [.builtin "object.__class__",.ref x,.ref C]) >>= fun v=>ret v) _ _ _;refine wpAny_bind (wpAny_holding (wpAny_call (M6 Z X I (wpAny_pure ?_))));exact wpAny_pure (wpAny_pure h)
theorem ym (Z:qu K C):PySem.W.KitX K (.ref x) (.ref C) (cL x (.ref C) od) where
 ty:=fun _ _ _ I=>nR I
 it:=fun _ _ X _=>by
  obtain ⟨c',d',cd',sl',ho⟩:=z0 Z.hm;intro A' Q' E' s' k q;unfold isType loadHead;exact wpAny_bind (wpAny_loadPart (k _ _ (X _ _ ho)) (wpAny_pure q))
 ne:=fun h tp dd aq n sl X htp=>by
  obtain ⟨c',d',cd',sl',ho⟩:=z0 Z.hm;refine Bool.eq_false_iff.mpr fun q=>?_;have e:C=tp:=Value.ref.inj (beq_iff_eq.mp q);subst e;have z:=(X _ _ ho).symm.trans htp;cases z
 ca:=fun X I k=>Kq Z X I k
end
inductive tF (K:PySem.W.Frag) (H:Hp):V→Value→Bool→Prop where
 | of {x:V} {t:Value} (h:er K H x t):tF K H x t false
 | exc {ea C:Addr} {od:Option Addr} (e:H ea=some (CY ea C od)) (Z:qu K C):tF K H (.ref ea) (.ref C) true
inductive pK (K:PySem.W.Frag) (H:Hp) (t:Value):Bool→V→Bool→Prop where
 | ty {f:Bool} {n:String} {b:Bool} (e:PySem.W.kitOne K t (.type n)=some b):pK K H t f (.ty n) b
 | cls {f:Bool} {a:Addr} {b:Bool} (e:PySem.W.kitOne K t (.ref a)=some b):pK K H t f (.ref a) b
 | tup {p:Addr} {cs:List V} {us:List Value} {b:Bool} (h:H p=some (.tup cs)) (hu:∀ ws,Vals cs ws→ws=us) (e:PySem.W.kitAny K t us=some b):pK K H t true (.ref p) b
section
variable {X:Cx} {K:PySem.W.Frag}
def zh (K:PySem.W.Frag):List V→Hp→VK→Prop:=fun xs H Q=>match xs with
 | [x,c]=>∃ (t:Value) (f b:Bool),tF K H x t f∧pK K H t f c b∧Q (.bl b) H
 | _=>False
theorem K7 {x c:V} {u v t:Value} {pins:List (Addr×Obj)} {σ:St} {H:Hp} {s:Shared} {A:Around} {E:Value→Shared→Prop} {Q:Value→Shared→Prop} {f b:Bool} (I:Inv X pins σ H s) (rx:RelV x u) (rc:RelV c v) (ty:tF X.K H x t f) (a:pK X.K H t f c b)
  (h:∀ tk,Q (.bool b) { s with toks:=tk }):wpAny (model X.prog X.w) A (call (.builtin "isinstance") [u,v]) Q E s:=by
 cases ty with
 | of ty =>
  cases a with
  | ty e=>cases (show v=Value.type _ from rc); exact zf I rx ty e h
  | cls e=>cases (show v=Value.ref _ from rc); exact zf I rx ty e h
 | @exc ea C od e Z =>
  cases (show u=Value.ref ea from rx);obtain ⟨p,_,_⟩:=(show bP X.prog X.w H s.heap ea (CY ea C od) from I.aC ea _ e);cases a with
  | ty e'=>cases (show v=Value.type _ from rc); exact PySem.W.kia_one (ym Z) I.bQ p e' (fun z=>nomatch z) h
  | cls e'=>cases (show v=Value.ref _ from rc); exact PySem.W.kia_one (ym Z) I.bQ p e' (fun z=>nomatch z) h
  | @tup tp cs us b hp hu e' =>
   cases (show v=Value.ref tp from rc);obtain ⟨_,aq,rv,o,ho,hc,n,hd⟩:=(show bP X.prog X.w H s.heap tp (.tup cs) from I.aC tp _ hp);obtain rfl:=hu aq rv;obtain ⟨oc,odd,IA,cZ⟩:=o;dsimp only at hc hd;subst hc hd;exact PySem.W.kia_tup (ym Z) I.bQ p ho e' (fun z=>nomatch z) h
theorem rC (h:X.K=K):cC X (.builtin "isinstance") (zh K):=h ▸ fun pins s σ H xs us Q I r q=>by
 unfold zh at q;split at q
 ·rename_i x c;obtain ⟨t,f,b,ty,a,q⟩:=q;obtain ⟨u,v,rfl,ru,rv⟩:=vals2 r;exact K7 I ru rv ty a fun tk=>⟨.bl b,H,I.tok tk,rfl,q⟩
 ·exact q.elim
end
namespace Dv
section
variable {X:Cx} {st:Stmt} {t:TS}
theorem ee {k:Nat} {f:Addr} {fd:FuncData} {ps:List Str} {sp:Sp} {bp:List V} {ds:List Value} {R:St→XK} {x:Str} {p pos:Pos} {e:Expr} {es:List Expr} {t:TA}
  (F:aA X.prog X.w X.K X.mg X.base (cB X.prog X.w) k f fd ps sp) (hr:bz k X.A) (hm:X.mg x=some (.ref f)) (hk:PySem.W.keepIn X.K (.ref f)=true) (hb:Binds X.K fd ps ds) (hd:Vals bp ds) (hx:j8 X R)
  (ha:QA X (e::es) t) (hg:Gl X x:=by rfl) (hs:(e::es).all noStar=true:=by rfl) (bF:(x == ("__debug__" : Str))=false:=by decide):QE X (.Call (.Name x p) (e::es) [] pos) (wb sp bp R t):=⟨QY F hr hg hm hk hb hd hx ha.h hs bF⟩
theorem xy {R:St→XK} {x:Str} {C:Addr} {e:Expr} {es:List Expr} {t:TA} {np bt pos:Pos} (hx:Raises X R) (hc:X.calm=true) (hm:X.mg x=some (.ref C)) (q:PySem.W.excIn X.K C qE "ValueError.__new__" = true) (ha:QA X (e::es) t)
  (hg:Gl X x:=by rfl) (hs:(e::es).all noStar=true:=by rfl) (bF:(x == ("__debug__" : Str))=false:=by decide):QS X (.Raise (some (.Call (.Name x np) (e::es) [] bt)) none pos) (v7 C R t):=⟨Um hx hc hm q ha.h hg hs bF⟩
end
end Dv
end L2
namespace L2
end L2
namespace L2
open PySem PySem.Spec PyProof.Rows
theorem ig.dF {P:Program} {w:World} {K:PySem.W.Frag} {mg:Str→Option Value} {base:Heap} {CX:dh} {x qual:Str} {st:Stmt} {f:Addr} {fd:FuncData} {N ps:List Str} {k:Nat} {sp:Sp} (F:ig K x qual st f fd) (S:aH N ps (aB st)) (len:∀ vs H Q E,sp vs H Q E→vs.length=ps.length)
  (hb:∀ (az:Value) (A:Around) (outer:List Env) (s:Shared) (H:Hp) (vs:List V) (Q:VK) (E:XK),bz k (A.deeper (envOfC qual (aB st) s.heap.objs.size f az))→sp vs H Q E →
   ∃ t,cP (fP CX P w K mg base N qual (aB st) f az A outer s H E) (aU st) t∧t { nx:=fun _ H'=>Q .ax H',rt:=Q } (start N vs) H):aA P w K mg base CX (k+1) f fd ps sp:=by
 obtain ⟨oc,od,kV,doc,pm,an,az,ct,cZ,rfl,lk,cE⟩:=F.ex;exact yj lk cE S len fun A outer s H vs Q E hr fE=>hb az A outer s H vs Q E hr fE
end L2
namespace L2
open PySem PySem.Spec PyProof.Rows
def qZ:List Value→Bool
 | []=>false
 | v::r=>(v::r) == qE || match v with
  | .ref _=>qZ r
  | _=>false
theorem ET (self:Value):∀ {l:List Value},qZ l=true→refuseLoop self "__setattr__" l=pure ()
 | [],e=>nomatch e
 | v::r,e=>by
  unfold qZ at e;rcases Bool.or_eq_true_iff.mp e with q | q
  ·rw [beq_iff_eq.mp q]; exact PySem.F.store_ValueError.passes self
  ·split at q
   ·rw [refuseLoop_ref];exact ET self q
   ·cases q
def uG (K:PySem.W.Frag) (C:Addr):Bool:=match K.lookup C with
 | some ⟨.type "type",_,.cls cd,sl⟩=>(match cd.mro,sl.toList with
  | .ref C'::bm,[_,_,_,_,some (.builtin n),_]=>C' == C && n == "ValueError.__new__" && !cd.hasDel && PySem.W.tailIn K qE bm && qZ cd.mro && cd.hasDict
  | _,_=>false)
 | _=>false
structure iq (K:PySem.W.Frag) (C f:Addr) (fld:Str):Prop where
 q:uG K C=true
 hi:PySem.W.findIn K (.ref C) "__init__" = some (some (.ref f))
 hf:PySem.W.typeIn K (.ref f)=some (.type "function")
 sa:PySem.W.findIn K (.ref C) "__setattr__" = some (some (.builtin "object.__setattr__"))
 na:PySem.W.findIn K (.ref C) fld=some none
 ob:PySem.W.mroIn K C (.type "object")=some true
 be:PySem.W.mroIn K C (.type "BaseException")=some true
 self:PySem.W.mroIn K C (.ref C)=some true
 kp:PySem.W.keepIn K (.ref C)=true
theorem wZ {K:PySem.W.Frag} {h:Heap} {C:Addr} (X:K.In h) (q:uG K C=true) :
  ∃ bm N nm q bs sn sub ab col dd k0 k1 k2 k3 k5,h.get? C=some (excClassObj nm q C N bs bm true sn sub ab col dd k0 k1 k2 k3 k5 "ValueError.__new__")∧OwnTail h qE bm∧qZ (.ref C::bm)=true:=by
 unfold uG at q;split at q
 ·rename_i dd cd sl ho;split at q
  ·rename_i C' bm k0 k1 k2 k3 n k5 hm hs;simp only [Bool.and_eq_true,beq_iff_eq,Bool.not_eq_true'] at q;obtain ⟨⟨⟨⟨⟨q1,q2⟩,q3⟩,q4⟩,q5⟩,q6⟩:=q;subst q1 q2;obtain ⟨nm,bs,mro,ns,qn,hd,sn,sub,ab,col,del⟩:=cd;dsimp only at hm q3 q5 q6;subst hm q3 q6;have e1:sl=#[k0,k1,k2,k3,some (.builtin "ValueError.__new__"),k5]:=by
    obtain ⟨l⟩:=sl;simp only at hs;rw [hs]
   subst e1;exact ⟨bm,ns,nm,qn,bs,sn,sub,ab,col,dd,k0,k1,k2,k3,k5,X _ _ ho,PySem.W.tail_of_in X q4,q5⟩
  ·cases q
 ·cases q
section
variable {prog:Program} {w:World} {A:Around} {E:Value→Shared→Prop} {s:Shared} {K:PySem.W.Frag} {x C f:Addr} {fld:Str} {v:Value}
open Builtin Builtin.ObjectAttr in
theorem K3 {Q:Unit→Shared→Prop} (Z:iq K C f fld) (X:K.In s.heap) (I:cL x (.ref C) none s.heap)
  (h:∀ h' d tk,s.heap.objs.size≤d→d≠x→(∃ o,s.heap.get? x=some o∧h'.get? x=some { o with dict:=some d })→h'.Ns1 d (fun y=>if y=fld then some v else none)→(∀ b o,b≠x→s.heap.get? b=some o→h'.get? b=some o)→Q () { s with heap:=h',toks:=tk }) :
  wpAny (model prog w) A (setAttr (.ref x) fld v) Q E s:=by
 obtain ⟨hh,g,dr,t,os⟩:=s;have L0:=nR (M:=model prog w) I;have L1:=PySem.W.looks_findIn (M:=model prog w) X Z.sa;have L2:=PySem.W.looks_findIn (M:=model prog w) X Z.na;obtain ⟨bm,N,nm,qn,bs,sn,sub,ab,col,dd,k0,k1,k2,k3,k5,hC,T,hve⟩:=wZ X Z.q;have Lo:=PySem.W.looks_mroIn (M:=model prog w) X Z.ob;have Li:PySem.W.Looks (model prog w) hh (isInstance (.ref x) (.type "object")) true:=L0.andThen Lo;have SF:=PySem.F.store_object;refine wpAny_bind (wpAny_mkText (wpAny_bind (wpAny_bind (wpAny_bind (L0.at (L1.at (wpAny_holding ?_)))))));rw [SF.slot.bind];refine wpAny_bind (wpAny_pure (wpAny_bind (wpAny_call ?_)));refine codeAny_call_builtin SF.slot.plain SF.entry ?_;refine @PySem.W.check_slot (model prog w) _ _ ⟨hh,g,dr,t+1,os⟩ "object.__setattr__" "object" "__setattr__" (.ref x) [.str fld t,v] [] _ SF.kind SF.split Li (SF.args (.ref x) (.str fld t) v) ?_;show wpAny _ _ (Builtin.«object.__setattr__» ⟨[.ref x,.str fld t,v],[]⟩) _ _ _;rw [PySem.W.osa_eq,refuse_eq];refine wpAny_bind (wpAny_bind (L0.at (wpAny_bind (wpAny_mroOf_exc hC ?_))));rw [ET _ hve];refine wpAny_pure (wpAny_bind (L0.at (wpAny_bind (L2.at (wpAny_bind (wpAny_pure ?_))))));obtain ⟨o,hx,hc,pE,vs,gq⟩:=I;show wpAny _ _ (storeInOwnDict (.ref x) (.ref C) (.str fld t) fld v false) _ _ _;have Lc:PySem.W.Looks (model prog w) hh (classData C) _:=(PySem.W.Looks.ld (part:=none) hC).andThen .now;obtain ⟨oc,od,IA,cZ⟩:=o;dsimp only at hc pE gq;subst hc pE gq;have bu:(hh.push { cls:=.type "dict",data:=.dict #[] }).get? x=some ⟨.ref C,none,.fields vs,cZ⟩:=Heap.get?_push_of_some _ hx;have AQ:x≠hh.objs.size:=Nat.ne_of_lt (Heap.lt_size hx);unfold storeInOwnDict ownDictForStores instanceDict;refine wpAny_bind (wpAny_pure ?_);refine wpAny_bind (wpAny_bind (wpAny_loadPart hx (wpAny_bind (Lc.at ?_))));refine wpAny_bind (wpAny_alloc' ?_);refine wpAny_bind (wpAny_update' bu (wpAny_pure ?_));show wpAny _ _ (storeInDict hh.objs.size (.str fld t) fld v) _ _ _;have hself:((hh.push { cls:=.type "dict",data:=.dict #[] }).update x fun o=>{ o with dict:=some hh.objs.size }).get? x=some ⟨.ref C,some hh.objs.size,.fields vs,cZ⟩:=Heap.get?_update_self _ bu rfl;have hdict:((hh.push { cls:=.type "dict",data:=.dict #[] }).update x fun o=>{ o with dict:=some hh.objs.size }).get? hh.objs.size=some { cls:=.type "dict",data:=.dict #[] } :=
  (Heap.get?_update_ne _ _ _ _ AQ.symm).trans (Heap.get?_push_at rfl rfl)
 have hoth:∀ b o,b≠x→hh.get? b=some o→((hh.push { cls:=.type "dict",data:=.dict #[] }).update x fun o=>{ o with dict:=some hh.objs.size }).get? b=some o:=fun b o hb e =>
  (Heap.get?_update_ne _ _ _ _ hb).trans (Heap.get?_push_of_some _ e)
 have fH:((hh.push { cls:=.type "dict",data:=.dict #[] }).update x fun o=>{ o with dict:=some hh.objs.size }).Ns hh.objs.size (fun _=>none):=⟨_,#[],_,hdict,rfl,fun e he=>absurd he (by simp),fun _=>rfl⟩;unfold storeInDict newKeyGuard;refine wpAny_bind (wpAny_pure (wpAny_bind (wpAny_nsSet1 (Heap.Ns1.of_empty fH) fun h' hn' hs=>?_)));obtain ⟨oD,esD,epD,AL,A8,AX⟩:=hn'.count (Within.cons fld v Within.nil);refine wpAny_bind (wpAny_lookBehind AL (by rw [A8]; exact pastItsLine_dict (Nat.le_trans AX (by rw [List.length_cons,List.length_nil,sizeLine_eq]; omega))) ?_);refine wpAny_pure (wpAny_pure (wpAny_pure ?_));exact h h' hh.objs.size _ (Nat.le_refl _) (Ne.symm AQ) ⟨_,hx,(hs.2 x AQ).trans hself⟩ hn' fun b o hb e=>(hs.2 b (Nat.ne_of_lt (Heap.lt_size e))).trans (hoth b o hb e)
end
end L2
namespace L2
open PySem PySem.Spec PyProof.Rows
def kg (e:Addr) (c:Value) (od:Option Addr) (h:Heap):Prop:=∃ o,h.get? e=some o∧o.cls=c∧o.dict=od∧∃ vs a0,o.data=.fields vs∧vs[1]?=some .none∧vs[0]?=some a0
theorem kg.hd {e:Addr} {c:Value} {od:Option Addr} {h:Heap} (x:kg e c od h):cL e c od h:=let ⟨o,a,b,c,vs,_,d,_⟩:=x; ⟨o,a,b,c,vs,d⟩
def cG (ea C:Addr) (od:Option Addr):HO:=.ext (kg ea (.ref C) od)
theorem F9 {P:Program} {w:World} {H:Hp} {h:Heap} {ea C:Addr} {od:Option Addr} (x:kg ea (.ref C) od h):bP P w H h ea (cG ea C od) :=
 ⟨x,let ⟨o,e,_⟩:=x; ⟨o,e⟩,fun _ _ ⟨o,e,r⟩ k=>⟨o,k o e,r⟩⟩
theorem Mt {h h':Heap} {e:Addr} {cls:Value} {args:List Value} (hx:Heap.MadeExcOf h h' e cls args):kg e cls none h':=by
 obtain ⟨t,he,_⟩:=hx.there;exact ⟨_,he,rfl,rfl,_,_,rfl,rfl,rfl⟩
def wg (C:Addr) (fld:Str) (ta tv:TE):TS:=fun D σ H=>tv σ H fun y H1=>ta σ H1 fun x H2=>∃ ea,x=.ref ea∧H2 ea=some (cG ea C none)∧∀ d,H2 d=none→D.nx σ (upd (upd H2 ea (cG ea C (some d))) d (.xd [(fld,y)]))
theorem Qc {fld g:Str} {y:V} {u:Value} (r:RelV y u):dC (([(fld,y)]:List (Str×V)).lookup g) (if g=fld then some u else none):=by
 by_cases h:g=fld
 ·have hb:(g == fld)=true:=beq_iff_eq.mpr h;simp only [List.lookup,hb,if_pos h];exact r
 ·have hb:(g == fld)=false:=beq_eq_false_iff_ne.mpr h;simp only [List.lookup,hb,if_neg h];exact True.intro
section
variable {X:Cx} {C f:Addr} {fld:Str} {o value:Expr} {ta tv:TE} {pos pos':Pos}
theorem UB (Z:iq X.K C f fld) (ha:PE X o ta) (hv:PE X value tv) (hs:swapsWith value (some (.Attribute o fld pos')) pos.line X.env=pure false):PS X (.Assign [.Attribute o fld pos'] value pos) (wg C fld ta tv):=by
 intro pins s σ H D I h;refine plainObj_wpAny_Assign_Attribute (aD (hv pins s σ H _ I h) fun u s1 ⟨y,H1,I1,ry,q⟩=>aD (ha pins s1 σ H1 _ I1 q) fun ov s2 ⟨x,H2,I2,rx,ea,ex,he,q2⟩=>?_) hs;subst ex;obtain rfl:ov=Value.ref ea:=rx;obtain ⟨p,_,_⟩:=(show bP X.prog X.w H2 s2.heap ea (cG ea C none) from I2.aC ea _ he);refine K3 Z I2.bQ p.hd fun h' d tk hsz jv r9 fH hkeep=>?_;obtain ⟨o0,e0,e1⟩:=r9;obtain ⟨o0',e0',c0,d0,vs,a0,v0⟩:=p;rw [e0] at e0'; cases e0';have hd':kg ea (.ref C) (some d) h':=⟨_,e1,c0,rfl,vs,a0,v0⟩;have br:H2 d=none:=I2.aC.fresh hsz;have J:Inv X pins σ (upd H2 ea (cG ea C (some d))) { s2 with heap:=h',toks:=tk } :=
  I2.write (x:=ea) (e:=ea) (o:=cG ea C (some d)) (t':=tk) (by rw [he]; exact True.intro) (.inl rfl) hkeep ⟨_,e1⟩ (F9 hd')
 have big:∀ b,(∃ u,s2.heap.get? b=some u)→b≠d:=fun b ⟨u,e⟩ z=>absurd (Heap.lt_size e) (by rw [z]; exact Nat.not_lt.mpr hsz);refine ⟨σ,_,J.Ea (a:=d) (o:=.xd [(fld,y)]) (by rw [ah jv]; exact br) (Heap.get?_none_of_le (Nat.le_trans I2.sz hsz)) ?_ ?_ ?_ ⟨_,fH,fun g=>Qc ry⟩,q2 d br⟩
 ·obtain ⟨m,⟨o,_,_,ho,_⟩,_⟩:=I2.loc;exact Ne.symm (big _ ⟨o,ho⟩)
 ·intro z c e;obtain ⟨w',o,ho,_⟩:=I2.cell z c e;exact big _ ⟨o,ho⟩
 ·intro p hp;exact big _ ⟨_,(I2.pin p hp).1⟩
end
def j4 (C:Addr) (fld:Str):Sp:=fun vs H Q _=>match vs with
 | [.ref ea,y]=>H ea=some (cG ea C none)∧∀ d,H d=none→Q .ax (upd (upd H ea (cG ea C (some d))) d (.xd [(fld,y)]))
 | _=>False
section
variable {prog:Program} {w:World} {A:Around} {E:Value→Shared→Prop} {h:Heap} {g:Array GenState} {d:Drawn} {t:Nat} {os:OsState} {K:PySem.W.Frag} {C f:Addr} {fld:Str}
theorem Nm {rest:List Value} {Q:Fin→Shared→Prop} (Z:iq K C f fld) (X:K.In h) (cY:rest.length≤sizeLine)
  (hq:∀ h' e,Heap.MadeExcOf h h' e (.ref C) rest→wpAny (model prog w) A (call (.ref f) (.ref e::rest)) (fun r s'=>r=.none∧Q (.done (.ret (.ref e))) s') E ⟨h',g,d,t,os⟩) :
  wpAny (model prog w) A (Builtin.«type.__call__» ⟨.ref C::rest,[]⟩) Q E ⟨h,g,d,t,os⟩:=by
 have F:=PySem.F.excBase_ValueError;obtain ⟨bm,N,nm,qn,bs,sn,sub,ab,col,dd,k0,k1,k2,k3,k5,hC,T,_⟩:=wZ X Z.q
 repeat (first | with_reducible refine wpAny_loadPart_at hC ?_ | with_reducible refine wpAny_madeBy_exc hC ?_ | wp_step)
 refine codeAny_call_builtin_code (Code.quiet_builtin _ F.quiet) (wpAny_check_new_subT F T hC (codeAny_exc_new_subT F T hC ?_ cY));show wpAny _ _ _ _ _ _;have kk:∀ b o,h.get? b=some o→((h.push { cls:=.type "tuple",data:=.seq rest.toArray }).push { cls:=.ref C,data:=.fields #[.ref h.objs.size,.none,.none,.none,.bool false,.none] }).get? b=some o:=fun b o e=>Heap.get?_push_of_some _ (Heap.get?_push_of_some _ e);have J8:((h.push { cls:=.type "tuple",data:=.seq rest.toArray }).push { cls:=.ref C,data:=.fields #[.ref h.objs.size,.none,.none,.none,.bool false,.none] }).get? (h.objs.size+1)=some { cls:=.ref C,data:=.fields #[.ref h.objs.size,.none,.none,.none,.bool false,.none] }:=by heap_get
 have HX:((h.push { cls:=.type "tuple",data:=.seq rest.toArray }).push { cls:=.ref C,data:=.fields #[.ref h.objs.size,.none,.none,.none,.bool false,.none] }).get? h.objs.size=some { cls:=.type "tuple",data:=.seq rest.toArray }:=Heap.get?_push_of_some _ (Heap.get?_push_at rfl rfl);generalize JO:(h.push { cls:=.type "tuple",data:=.seq rest.toArray }).push { cls:=.ref C,data:=.fields #[.ref h.objs.size,.none,.none,.none,.bool false,.none] }=h2 at kk J8 HX ⊢;have made:Heap.MadeExcOf h h2 (h.objs.size+1) (.ref C) rest:=⟨kk,Heap.get?_none_of_le (Nat.le_succ _),h.objs.size,J8,Heap.get?_none_of_le (Nat.le_refl _),HX⟩;have X2:K.In h2:=fun b o e=>kk b o (X b o e);have L0:=nR (M:=model prog w) (GV made);have L1:=PySem.W.looks_findIn (M:=model prog w) X2 Z.hi;have Lb:=PySem.W.bind_fn (M:=model prog w) X2 (.ref (h.objs.size+1)) Z.hf;have Ls:PySem.W.Looks (model prog w) h2 (isSubtype (.ref C) (.ref C)) true:=PySem.W.looks_mroIn X2 Z.self;have Li:PySem.W.Looks (model prog w) h2 (isInstance (.ref (h.objs.size+1)) (.ref C)) true:=L0.andThen Ls;refine wpAny_bind (Li.at ?_);simp only [Bool.not_true,Bool.false_eq_true,if_false];refine wpAny_bind (wpAny_holding ?_);unfold callSpecial? specialOf;refine wpAny_bind (wpAny_bind (L0.at (L1.at ?_)));refine wpAny_holding (wpAny_bind (Lb.at (wpAny_bind (wpAny_mono (hq h2 _ made) (fun r s' z=>?_) fun _ _ z=>z))));obtain ⟨rfl,z⟩:=z;exact wpAny_pure (wpAny_pure z)
theorem T4 {rest:List Value} {Q:Value→Shared→Prop} (Z:iq K C f fld) (X:K.In h) (cY:rest.length≤sizeLine)
  (hq:∀ h' e,Heap.MadeExcOf h h' e (.ref C) rest→wpAny (model prog w) (A.under (.builtin "type.__call__" ⟨.ref C::rest,[]⟩)) (call (.ref f) (.ref e::rest)) (fun r s'=>r=.none∧Q (.ref e) s') E ⟨h',g,d,t,os⟩) :
  wpAny (model prog w) A (call (.ref C) rest) Q E ⟨h,g,d,t,os⟩:=by
 obtain ⟨bm,N,nm,qn,bs,sn,sub,ab,col,dd,k0,k1,k2,k3,k5,hC,T,_⟩:=wZ X Z.q;have f1:=tc_lookup;have f2:=tc_bind (.ref C);have hT:(⟨h,g,d,t,os⟩:Shared).TypeIs (.ref C) "type" := ⟨_,hC,rfl⟩;refine wpAny_call (codeAny_of_tree ?_);show wpAny _ _ (callAny (.ref C) _) _ _ _
 repeat (any_goals (first | assumption | with_reducible refine wpAny_loadPart_at hC ?_ | wp_step))
 exact ⟨rfl,codeAny_call_builtin_at (Code.quiet_builtin _ (by decide +kernel)) entry_typeCall (wpAny_check_type_call_sub hC (Nm Z X cY fun h' e hm=>hq h' e hm))⟩
end
theorem Qm {M:Model} {A:Around} {E:Value→Shared→Prop} {s:Shared} {env:Env} {K:PySem.W.Frag} {C:Addr} {x:Sem Value} {Q:Flow→Shared→Prop} (hb:PySem.W.mroIn K C (.type "BaseException")=some true) (b8:PySem.W.typeIn K (.ref C)=some (.type "type")) (hh:A.handled=none)
  (h:wpAny M A x (fun v s₁=>∃ e o vs,v=.ref e∧s₁.heap.get? e=some o∧o.cls=.ref C∧o.data=.fields vs∧vs[1]?=some .none∧K.In s₁.heap∧E (.ref e) s₁) E s) :
  wpAny M A (raiseStmt env (some x) none) Q E s:=by
 unfold raiseStmt;refine wpAny_bind (wpAny_mono h (fun v s₁ h₁=>?_) fun _ _ x=>x);obtain ⟨e,o,vs,rfl,he,hc,hd,h1,X,hE⟩:=h₁;obtain ⟨hp,g,d,tk,os⟩:=s₁;have L0:PySem.W.Looks M hp (typeOf (.ref e)) (.ref C):=hc ▸ (PySem.W.Looks.ld he).andThen .now;have L1:=PySem.W.looks_mroIn (M:=M) X hb;have L2:PySem.W.Looks M hp (isType (.ref e)) false:=by
  obtain ⟨oc,od,IA,cZ⟩:=o;dsimp only at hd;subst hd;intro A' Q' E' s' k q;unfold isType loadHead;exact wpAny_bind (wpAny_loadPart (k _ _ he) (wpAny_pure q))
 have L3:PySem.W.Looks M hp (isExcClass (.ref e)) false:=L2.andThen .now;have L4:PySem.W.Looks M hp (isInstance (.ref e) (.type "BaseException")) true:=L0.andThen L1;have L5:=PySem.W.looks_typeIn (M:=M) X b8;refine wpAny_bind (wpAny_pure (wpAny_bind (wpAny_holding ?_)));unfold excFromValue;refine wpAny_bind (L3.at ?_);simp only [Bool.false_eq_true,if_false];refine wpAny_bind (L4.at ?_);simp only [if_true];refine wpAny_pure ?_;refine wpAny_bind (L2.at ?_);simp only [Bool.false_eq_true,if_false];unfold raisedInstance;refine wpAny_bind (wpAny_bind (L0.at (wpAny_bind (L5.at ?_))));refine wpAny_pure ?_;unfold setFlight;refine wpAny_bind (wpAny_bind (wpAny_field he hd h1 ?_));refine wpAny_pure ?_;exact wpAny_raiseNew_none hh hE
end L2
namespace L2
open PySem PySem.Spec PyProof.Rows
theorem Cu {fs:List Addr} {H H':Hp} {h h1 base:Heap} (u:Un fs [] H H' h h1):∀ l:List Env,(∀ b∈bH l,b∈fs∧H b=none)→h.FunFrames base l→h1.FunFrames base l
 | [],_,_=>trivial
 | env::r,hs,⟨hk,⟨L,o,hf,hn,ho,hd⟩,hr⟩=>by
  have e:bH (env::r)=L::bH r:=by
   unfold bH;rw [List.filterMap_cons,hf]
  obtain ⟨h1',h2'⟩:=hs L (by rw [e]; exact List.mem_cons_self);obtain ⟨sl,e1⟩:=u.slot L o ho h2' h1' (by simp);exact ⟨hk,⟨L,_,hf,hn,e1,hd⟩,Cu u r (fun b hb=>hs b (by rw [e]; exact List.mem_cons_of_mem _ hb)) hr⟩
section
variable {X:Cx} {pins:List (Addr×Obj)} {σ:St} {H H':Hp} {s s1:Shared} {ea C:Addr} {od:Option Addr}
theorem Inv.Lw {M:Model} {A:Around} {E:Value→Shared→Prop} (I:Inv X pins σ H s) (O:Own X) (hA:A.frames=some X.stack) (os:s1.os=s.os) (bare:AllBare s1.gens) (un:Un (bH X.stack) [] H H' s.heap s1.heap) (aC:bR X.prog X.w H' s1.heap)
  (free:H' ea=none) (new:s.heap.get? ea=none) (hn:kg ea (.ref C) od s1.heap):wpAny M A (leaving X.env (.ref ea)) (fun _ s''=>lY X.prog X.w X.outer X.H₀ X.s₀ ea C od H' s'') E s1:=by
 have aQ:(PySem.W.hideAll s1.heap (ea::bH X.stack)).StaysIn s1.heap:=fun b o q=>PySem.W.of_hideAll _ q;have jL:s1.heap.FunFrames (PySem.W.hideAll s1.heap (ea::bH X.stack)) X.stack:=PySem.W.funFrames_hide (Cu un X.stack (fun b hb=>⟨hb,I.tD b hb⟩) I.stack) fun env he a ha=>List.mem_cons_of_mem _ (List.mem_filterMap.mpr ⟨env,he,ha⟩);have Ba:(PySem.W.hideAll s1.heap (ea::bH X.stack)).get? ea=none:=PySem.W.hideAll_none _ List.mem_cons_self;have fG:qI (PySem.W.hideAll s1.heap (ea::bH X.stack)) (bH X.stack) s.heap H' s1.heap:=fun b o e hb z=>by
  refine PySem.W.hideAll_get _ e fun hm=>?_;rcases List.mem_cons.mp hm with q | q
  ·rcases z with ⟨u,z⟩ | ⟨u,z⟩
   ·rw [q,new] at z; cases z
   ·rw [q,free] at z; cases z
  ·exact hb q
 generalize PySem.W.hideAll s1.heap (ea::bH X.stack)=B at aQ jL Ba fG;rw [O.cH] at jL hA;obtain ⟨oe,he,hc,vg,vs,a0,hd,h1,h0⟩:=id hn;refine aD ((Kp.leaving X.env (.ref ea)).any hn.hd (wpAny_leaving_firstW (Q:=fun _ s''=>∃ h2,s''={ s1 with heap:=h2 }∧Heap.LeftW B (X.env::X.outer) ea oe.cls a0 s1.heap h2) hA jL O.frame he aQ Ba hd h1 h0 fun h2 x=>⟨h2,rfl,x⟩)) fun _ s'' ⟨⟨h2,e,k1,⟨_,_,k2⟩,k3,k4⟩,hd2⟩=>?_;subst e;rw [hc] at k3;exact I.zr (s':={ s1 with heap:=h2 }) O os bare un aC free new fG ⟨k1,Ba,k2,k3⟩ k4 hd2
structure zm (X:Cx) (R:St→XK):Prop where
 made:∀ (pins:List (Addr×Obj)) (σ:St) (H H':Hp) (s s1:Shared) (ea C:Addr) (od:Option Addr),Inv X pins σ H s→s1.os=s.os→AllBare s1.gens→Un (bH X.stack) [] H H' s.heap s1.heap→bR X.prog X.w H' s1.heap→H' ea=none→s.heap.get? ea=none →
  kg ea (.ref C) od s1.heap→R σ (.ref C) od H'→X.xe (.ref ea) s1
end
theorem pM {P:Program} {w:World} {K:PySem.W.Frag} {mg:Str→Option Value} {base:Heap} {N:List Str} {qual:Str} {scope:Scope} {f:Addr} {cd:Value} {A:Around} {outer:List Env} {s₀:Shared} {H₀:Hp} {E:XK} :
  zm (fP (cB P w) P w K mg base N qual scope f cd A outer s₀ H₀ E) (fun _=>E) where
 made:=fun pins σ H H' s s1 ea C od I os bare un aC free new hn hE=>aD (I.Lw ⟨rfl,rfl,rfl⟩ I.ok.frames os bare un aC free new hn) fun _ s'' z=>⟨ea,C,od,H',rfl,z,hE⟩
def yE (C:Addr) (fld:Str) (R:St→XK) (t:TA):TS:=fun _ σ H=>t σ H fun vs H1=>∃ v,vs=[v]∧∀ d,H1 d=none→R σ (.ref C) (some d) (upd H1 d (.xd [(fld,v)]))
theorem T9 {X:Cx} {R:St→XK} {x fld:Str} {C f:Addr} {fd:FuncData} {k:Nat} {ps:List Str} {e:Expr} {es:List Expr} {t:TA} {np bt pos:Pos} (hx:zm X R) (hex:X.ex=[]) (hc:X.calm=true) (hm:X.mg x=some (.ref C)) (Z:iq X.K C f fld) (b8:PySem.W.typeIn X.K (.ref C)=some (.type "type"))
  (F:aA X.prog X.w X.K X.mg X.base aM k f fd ps (j4 C fld)) (hr:bz (k+1) X.A) (hb:Binds X.K fd ps []) (ha:PA X (e::es) t)
  (hg:Gl X x:=by rfl) (hs:(e::es).all noStar=true:=by rfl) (bF:(x == ("__debug__" : Str))=false:=by decide):PS X (.Raise (some (.Call (.Name x np) (e::es) [] bt)) none pos) (yE C fld R t):=by
 have hs':=hs;rw [List.all_cons,Bool.and_eq_true] at hs';intro pins s σ H D I h;rw [arm_exec_Raise];refine wpAny_bind (wpAny_standAt ?_);show wpAny _ _ (raiseStmt X.env (some (do let v ← eval (.Call (.Name x np) (e::es) [] bt) X.env; standAt pos; pure v)) none) _ _ s;refine Qm Z.be b8 (I.ok.hd hc) (wpAny_bind (wpAny_mono (wpAny_Call_Name_kw (ju I hg hm ?_ bF)) (fun v s3 h3=>wpAny_bind (wpAny_standAt (wpAny_pure h3))) fun _ _ z=>z));refine PySem.W.callWith_K (h₀:=X.base) I.ok.mod.gC Z.kp (aD (ha bt pins s σ H _ I h) fun us s2 ⟨vs,H2,I2,r,v,ev,hR⟩=>⟨I2.bQ,?_⟩) (eD hs'.1) (gk hs'.2);subst ev;obtain ⟨u,rfl,ru⟩:=vals1 r;obtain ⟨h2,g2,d2,t2,vz⟩:=s2;refine T4 Z I2.bQ (by show 1≤sizeLine; decide) fun h3 ex kK=>?_;have eF:∀ b,(∃ o,h2.get? b=some o)→b≠ex:=fun b ⟨o,e'⟩ z=>by
  have:=kK.new;rw [z,this] at e'; cases e'
 have kM:H2 ex=none:=by
  cases q:H2 ex with
  | none=>rfl
  | some o=>exact absurd rfl (eF ex (I2.aC ex o q).there)
 have I3:Inv X pins σ H2 ⟨h3,g2,d2,t2,vz⟩:=I2.kept (t':=t2) kK.keeps;have I4:Inv X pins σ (upd H2 ex (cG ex C none)) ⟨h3,g2,d2,t2,vz⟩:=by
  refine I3.Ea kM ?_ ?_ ?_ ?_ (F9 (Mt kK))
  ·cases q:X.s₀.heap.get? ex with
   | none=>rfl
   | some o =>
    exact absurd rfl (eF ex (I2.base.there ex o q (by rw [hex]; simp)))
  ·obtain ⟨m,⟨o,_,_,ho,_⟩,_⟩:=I2.loc;exact Ne.symm (eF _ ⟨o,ho⟩)
  ·intro y c e';obtain ⟨w',o,ho,_⟩:=I2.cell y c e';exact eF _ ⟨o,ho⟩
  ·intro p hp;exact eF _ ⟨_,(I2.pin p hp).1⟩
 have hl:([Value.ref ex,u]++([]:List Value)).length=ps.length:=by
  have:=F.len [.ref ex,v] (upd H2 ex (cG ex C none)) (fun _ _=>True) E0 ⟨ay,fun _ _=>True.intro⟩;exact this
 refine wpAny_call (codeAny_mono (F.run (X.A.under (.builtin "type.__call__" ⟨[.ref C,u],[]⟩)) X.stack ⟨h3,g2,d2,t2,vz⟩ (upd H2 ex (cG ex C none)) ⟨[.ref ex,u],[]⟩ [.ref ex,u] [.ref ex,v]
  (fun r H5=>r=.ax∧∃ d,upd H2 ex (cG ex C none) d=none∧H5=upd (upd (upd H2 ex (cG ex C none)) ex (cG ex C (some d))) d (.xd [(fld,v)])) E0 (hr.make C [u] []) (I4.p6.make C [u] []) (hb _ [.ref ex,u] I4.bQ hl) (.cons rfl (.cons ru .nil))
  ⟨ay,fun d hd=>⟨rfl,d,hd,rfl⟩⟩) fun r s5 hq=>?_)
 cases r with
 | error e'=>exact False.elim hq
 | ok fl =>
  cases fl with
  | next=>exact False.elim hq
  | brk=>exact False.elim hq
  | cont=>exact False.elim hq
  | ret u5 =>
   obtain ⟨v5,H5,os5,bare5,kR,Bk,rv5,rfl,d,vb,rfl⟩:=hq;have jv:d≠ex:=fun z=>by rw [z,ay] at vb; cases vb
   have hd2:H2 d=none:=by rw [ah jv] at vb; exact vb
   have e5:upd (upd (upd H2 ex (cG ex C none)) ex (cG ex C (some d))) d (.xd [(fld,v)]) ex=some (cG ex C (some d)):=by rw [ah (Ne.symm jv),ay]
   have e6:∀ b,b≠ex→upd (upd (upd H2 ex (cG ex C none)) ex (cG ex C (some d))) d (.xd [(fld,v)]) b=upd H2 d (.xd [(fld,v)]) b:=fun b hb=>by
    by_cases q:b=d
    ·rw [q,ay,ay]
    ·rw [ah q,ah hb,ah hb,ah q]
   have e7:upd H2 d (.xd [(fld,v)]) ex=none:=by rw [ah (Ne.symm jv)]; exact kM
   have e4:∀ b,b≠ex→upd H2 ex (cG ex C none) b=H2 b:=fun b hb=>ah hb;generalize upd (upd (upd H2 ex (cG ex C none)) ex (cG ex C (some d))) d (.xd [(fld,v)])=H5 at kR Bk e5 e6;obtain ⟨hN,_,_⟩:=(show bP X.prog X.w H5 s5.heap ex (cG ex C (some d)) from Bk ex _ e5);have oZ:∀ b o,H2 b=some o→b≠ex:=fun b o q=>eR q kM;have HV:Un (bH X.stack) [] H2 (upd H2 d (.xd [(fld,v)])) h2 s5.heap:=by
    refine ⟨fun b o q n hb hx=>?_,fun b o q n hb hx=>?_,fun b o q n hx=>?_,fun b o q hx=>?_,fun b xs q=>?_,fun b o v' q=>?_,fun b ps' q=>?_⟩
    ·exact kR.keep b o (kK.keeps b o q) (by rw [e4 b (eF b ⟨o,q⟩)]; exact n) hb hx
    ·exact kR.slot b o (kK.keeps b o q) (by rw [e4 b (eF b ⟨o,q⟩)]; exact n) hb hx
    ·rw [← e6 b (eF b ⟨o,q⟩)];exact kR.free b o (kK.keeps b o q) (by rw [e4 b (eF b ⟨o,q⟩)]; exact n) hx
    ·exact kR.there b o (kK.keeps b o q) hx
    ·rw [← e6 b (oZ b _ q)];exact kR.fw b xs (by rw [e4 b (oZ b _ q)]; exact q)
    ·rw [← e6 b (oZ b _ q)];exact kR.eS b o v' (by rw [e4 b (oZ b _ q)]; exact q)
    ·rw [← e6 b (oZ b _ q)];exact kR.fm b ps' (by rw [e4 b (oZ b _ q)]; exact q)
   have hokF:bR X.prog X.w (upd H2 d (.xd [(fld,v)])) s5.heap:=fun b o q=>by
    have hb:b≠ex:=fun z=>by rw [z,e7] at q; cases q
    have q5:H5 b=some o:=by rw [e6 b hb]; exact q
    have ne5:∀ c o',H5 c=some o'→o'≠cG ex C (some d)→c≠ex:=fun c o' z1 z2 z=>by rw [z,e5] at z1; exact z2 (Option.some.inj z1).symm
    refine (Bk b o q5).dZ (fun _ _ _ z=>z) (fun c z=>?_) fun c xs z=>?_
    ·rw [← e6 c (ne5 c _ z (fun z'=>by cases z'))]; exact z
    ·rw [← e6 c (ne5 c _ z (fun z'=>by cases z'))]; exact z
   obtain ⟨oe,he,vM,vg,vs',a0,o7,h1,h0⟩:=id hN;refine ⟨rv5,ex,oe,vs',rfl,he,vM,o7,h1,?_,hx.made pins σ H2 _ ⟨h2,g2,d2,t2,vz⟩ s5 ex C (some d) I2 os5 bare5 HV hokF e7 kK.new hN (hR d hd2)⟩;exact I2.ok.mod.gC.keeps fun b o z=>HV.keep b o (I2.bs b o z).1 (I2.bs b o z).2 (fun hb=>by have:=(I2.stack.mem hb).1; rw [z] at this; cases this) (by simp)
end L2
namespace L2
open PySem PySem.Spec PyProof.Rows
section
variable {prog:Program} {w:World} {A:Around} {E:Value→Shared→Prop} {s:Shared} {K:PySem.W.Frag} {x C f d:Addr} {fld:Str}
end
end L2
namespace L2
open PySem PySem.Spec PyProof.Rows
def zq (C:Addr) (f:Str) (ta:TE):TE:=fun σ H Q=>ta σ H fun x H1=>∃ a dx fs v,x=.ref a∧H1 a=some (.ins C dx fs)∧fs.lookup f=some v∧Q v H1
def vY (C:Addr) (f:Str) (ta tv:TE):TS:=fun D σ H=>tv σ H fun y H1=>ta σ H1 fun x H2=>∃ a dx fs,x=.ref a∧H2 a=some (.ins C dx fs)∧fs.length < 1000∧D.nx σ (upd H2 a (.ins C dx (ae f y fs)))
def zP (C:Addr) (f:Str) (ta tv:TE) (rd:R2):TS:=fun D σ H=>ta σ H fun x H1=>∃ a dx fs v,x=.ref a∧H1 a=some (.ins C dx fs)∧fs.lookup f=some v∧tv σ H1 fun y H2=>rd v y H2 fun z H3=>∃ dx' fs',H3 a=some (.ins C dx' fs')∧fs'.length < 1000∧D.nx σ (upd H3 a (.ins C dx' (ae f z fs')))
def wG (C:Addr) (m:Str) (sp:Sp) (bp:List V) (R:St→XK) (ta:TE) (t:TA):TE:=fun σ H Q=>ta σ H fun x H1=>∃ a dx fs,x=.ref a∧H1 a=some (.ins C dx fs)∧fs.lookup m=none∧t σ H1 fun vs H2=>sp (x::(vs++bp)) H2 Q (R σ)
section
variable {X:Cx} {k:Nat} {f C:Addr} {fd:FuncData} {ps:List Str} {sp:Sp} {bp:List V} {ds:List Value} {R:St→XK} {x m:Str} {p pos apos:Pos} {e o:Expr} {es:List Expr} {ta:TE} {t:TA}
theorem Qe {pl:Sem Bool} (he:PE X o ta) (c:cz X.K C) (hm:Meth X.K C m f) (F:aA X.prog X.w X.K X.mg X.base (cB X.prog X.w) k f fd ps sp) (hr:bz k X.A) (hb:Binds X.K fd ps ds) (hd:Vals bp ds) (hx:j8 X R) (ha:PA X (e::es) t) (hs:(e::es).all noStar=true:=by rfl)
  (ht:eval (.Call (.Attribute o m apos) (e::es) [] pos) X.env=(do
   let ov ← eval o X.env
   standAt apos.atName
   let (f,first) ← holding [ov] (getMethod ov m pl)
   callWith pos f first (backTo pos (starEach (e::es) X.env)) (backToKw pos (keywordEach [] X.env))):=by rfl):PE X (.Call (.Attribute o m apos) (e::es) [] pos) (wG C m sp bp R ta t):=by
 have hs':=hs;rw [List.all_cons,Bool.and_eq_true] at hs';intro pins s σ H Q I h;refine PySem.W.methodCall_KW (pl:=pl) (aD (he pins s σ H _ I h) fun u s1 ⟨x,H1,I1,rx,a,dx,fs,ex,ea,l,q⟩=>?_) ht;subst ex;obtain rfl:u=Value.ref a:=rx;refine wx I1 ea c hm l (PySem.W.callWith_K (first:=[.ref a]) (h₀:=X.base) I.ok.mod.gC hm.kp (aD (ha pos pins s1 σ H1 _ I1 q) fun us s2 ⟨vs,H2,I2,r,q2⟩=>⟨I2.bQ,?_⟩) (eD hs'.1) (gk hs'.2));exact Ci (us:=.ref a::us) (vs:=.ref a::vs) F hr hb hd hx I2 (.cons rfl r) q2
end
section
variable {X:Cx} {C:Addr} {f:Str} {e o value:Expr} {ta tv:TE} {pos pos' tpos:Pos}
theorem UK (c:cz X.K C) (n:bx X.K C f) (he:PE X e ta) (hb:attributeBase e f X.env (eval e X.env)=eval e X.env):PE X (.Attribute e f pos) (zq C f ta):=by
 intro pins s σ H Q I h;refine UL hb (aD (he pins s σ H _ I h) fun u s1 ⟨x,H1,I1,rx,a,dx,fs,v,ex,ea,l,q⟩=>?_);subst ex;obtain rfl:u=Value.ref a:=rx;exact FX I1 ea c n l fun u' s2 I2 ru=>⟨v,H1,I2,ru,q⟩
theorem Qr (c:cz X.K C) (n:bx X.K C f) (ha:PE X o ta) (hv:PE X value tv) (hs:swapsWith value (some (.Attribute o f pos')) pos.line X.env=pure false):PS X (.Assign [.Attribute o f pos'] value pos) (vY C f ta tv):=by
 intro pins s σ H D I h;refine plainObj_wpAny_Assign_Attribute (aD (hv pins s σ H _ I h) fun u s1 ⟨y,H1,I1,ry,q⟩=>aD (ha pins s1 σ H1 _ I1 q) fun ov s2 ⟨x,H2,I2,rx,a,dx,fs,ex,ea,l,q2⟩=>?_) hs;subst ex;obtain rfl:ov=Value.ref a:=rx;exact Gv I2 ea c n l ry fun s3 I3=>⟨σ,_,I3,q2⟩
theorem KJ {op:Operator} {rd:R2} (c:cz X.K C) (n:bx X.K C f) (ha:PE X o ta) (hv:PE X value tv) (AK:yo X op rd):PS X (.AugAssign (.Attribute o f tpos) op value pos) (zP C f ta tv rd):=by
 intro pins s σ H D I h;refine wpAny_AugAssign_AttributeAny (aD (ha pins s σ H _ I h) fun ov s1 ⟨x,H1,I1,rx,a,dx,fs,v,ex,ea,l,q⟩=>?_);subst ex;obtain rfl:ov=Value.ref a:=rx;refine FX I1 ea c n l fun u s2 I2 ru=>aD (hv pins s2 σ H1 _ I2 q) fun w3 s3 ⟨y,H2,I3,ry,q3⟩=>aD (AK pins s3 σ H2 v y u w3 _ I3 ru ry q3) fun w4 s4 ⟨z,H3,I4,rz,dx',fs',ea',l',q4⟩=>?_;exact Gv I4 ea' c n l' rz fun s5 I5=>⟨σ,_,I5,q4⟩
end
theorem Fi {X:Cx} {op:CmpOp} {a b:Expr} {t:TE} {pos:Pos} (h:PC X op a b t) (hm:behindInMarks op b=false:=by first | exact uP _ (by decide) (by decide) | rfl):PT X (.Compare a [op] [b] pos) (j3 t):=by
 intro pins s σ H Q I hw;refine wpAny_isTrue_Compare1 (aD (h pins s σ H _ I hw) fun v s1 h1=>aD h1 fun u s2 h2=>aD h2 fun c s3 ⟨x,H1,I1,r1,q1⟩=>?_) hm;obtain ⟨k,rfl,q⟩:=wt q1;cases r1;exact wpAny_truthy_bool ⟨H1,I1,q⟩
namespace Dv
section
variable {X:Cx} {a b o e i value:Expr} {ta tb td ty tv:TE} {es:List Expr} {t:TA} {pos pos' apos bt p tpos:Pos} {f C:Addr} {fn m x:Str} {k:Nat} {fd:FuncData} {ps:List Str} {sp:Sp} {bp:List V} {ds:List Value} {R:St→XK} {CX:dh} {E:XK} {tA:TT} {body:List Stmt} {tB:TS}
theorem fld (c:cz X.K C) (n:bx X.K C fn) (he:QE X e ta) (hb:attributeBase e fn X.env (eval e X.env)=eval e X.env:=by rfl):QE X (.Attribute e fn pos) (zq C fn ta):=⟨UK c n he.h hb⟩
theorem bw (c:cz X.K C) (n:bx X.K C fn) (ha:QE X o ta) (hv:QE X value tv) (hs:swapsWith value (some (.Attribute o fn pos')) pos.line X.env=pure false:=by rfl):QS X (.Assign [.Attribute o fn pos'] value pos) (vY C fn ta tv):=⟨Qr c n ha.h hv.h hs⟩
theorem jP {op:Operator} {rd:R2} (c:cz X.K C) (n:bx X.K C fn) (AK:yo X op rd) (ha:QE X o ta) (hv:QE X value tv):QS X (.AugAssign (.Attribute o fn tpos) op value pos) (zP C fn ta tv rd):=⟨KJ c n ha.h hv.h AK⟩
theorem C6 (Z:iq X.K C f fn) (ha:QE X o ta) (hv:QE X value tv) (hs:swapsWith value (some (.Attribute o fn pos')) pos.line X.env=pure false:=by rfl):QS X (.Assign [.Attribute o fn pos'] value pos) (wg C fn ta tv):=⟨UB Z ha.h hv.h hs⟩
theorem bh {pl:Sem Bool} (c:cz X.K C) (hm:Meth X.K C m f) (F:aA X.prog X.w X.K X.mg X.base CX k f fd ps sp) (hr:bz k X.A) (hb:Binds X.K fd ps ds) (hd:Vals bp ds) (hx:Passes CX X E) (ho:QE X o ta) (ha:QA X (e::es) t) (hs:(e::es).all noStar=true:=by rfl)
  (ht:eval (.Call (.Attribute o m apos) (e::es) [] pos) X.env=(do
   let ov ← eval o X.env
   standAt apos.atName
   let (f,first) ← holding [ov] (getMethod ov m pl)
   callWith pos f first (backTo pos (starEach (e::es) X.env)) (backToKw pos (keywordEach [] X.env))):=by rfl):QE X (.Call (.Attribute o m apos) (e::es) [] pos) (qB C m sp bp E ta t):=by
 have hs':=hs;rw [List.all_cons,Bool.and_eq_true] at hs';exact ⟨Mz ho.h c hm F hr hb hd hx ha.h (eD hs'.1) (gk hs'.2) ht⟩
theorem nB {pl:Sem Bool} (c:cz X.K C) (hm:Meth X.K C m f) (F:aA X.prog X.w X.K X.mg X.base CX k f fd ps sp) (hr:bz k X.A) (hb:Binds X.K fd ps ds) (hd:Vals bp ds) (hx:Passes CX X E) (ho:QE X o ta)
  (ht:eval (.Call (.Attribute o m apos) [] [] pos) X.env=(do
   let ov ← eval o X.env
   standAt apos.atName
   let (f,first) ← holding [ov] (getMethod ov m pl)
   callWith pos f first (backTo pos (starEach [] X.env)) (backToKw pos (keywordEach [] X.env))):=by rfl):QE X (.Call (.Attribute o m apos) [] [] pos) (qB C m sp bp E ta gn):=⟨NS ho.h c hm F hr hb hd hx ht⟩
theorem dE {pl:Sem Bool} (c:cz X.K C) (hm:Meth X.K C m f) (F:aA X.prog X.w X.K X.mg X.base (cB X.prog X.w) k f fd ps sp) (hr:bz k X.A) (hb:Binds X.K fd ps ds) (hd:Vals bp ds) (hx:j8 X R) (ho:QE X o ta) (ha:QA X (e::es) t) (hs:(e::es).all noStar=true:=by rfl)
  (ht:eval (.Call (.Attribute o m apos) (e::es) [] pos) X.env=(do
   let ov ← eval o X.env
   standAt apos.atName
   let (f,first) ← holding [ov] (getMethod ov m pl)
   callWith pos f first (backTo pos (starEach (e::es) X.env)) (backToKw pos (keywordEach [] X.env))):=by rfl):QE X (.Call (.Attribute o m apos) (e::es) [] pos) (wG C m sp bp R ta t):=⟨Qe ho.h c hm F hr hb hd hx ha.h hs ht⟩
theorem make (M:Mk X.K C f) (F:aA X.prog X.w X.K X.mg X.base CX k f fd ps sp) (hr:bz (k+1) X.A) (hm:X.mg x=some (.ref C)) (hb:Binds X.K fd ps ds) (hd:Vals bp ds) (hx:Passes CX X E) (ha:QA X (e::es) t) (hg:Gl X x:=by rfl) (hs:(e::es).all noStar=true:=by rfl) (bF:(x == ("__debug__" : Str))=false:=by decide) :
  QE X (.Call (.Name x p) (e::es) [] pos) (pH C sp bp E t):=by
 have hs':=hs;rw [List.all_cons,Bool.and_eq_true] at hs';exact ⟨OC M F hr hg hm hb hd hx ha.h bF (eD hs'.1) (gk hs'.2)⟩
theorem Ln (M:Mk X.K C f) (F:aA X.prog X.w X.K X.mg X.base CX k f fd ps sp) (hr:bz (k+1) X.A) (hm:X.mg x=some (.ref C)) (hb:Binds X.K fd ps ds) (hd:Vals bp ds) (hx:Passes CX X E) (hg:Gl X x:=by rfl) (bF:(x == ("__debug__" : Str))=false:=by decide) :
  QE X (.Call (.Name x p) [] [] pos) (pH C sp bp E gn):=⟨LG M F hr hg hm hb hd hx bF⟩
theorem rJ (hx:zm X R) (hex:X.ex=[]) (hc:X.calm=true) (hm:X.mg x=some (.ref C)) (Z:iq X.K C f fn) (b8:PySem.W.typeIn X.K (.ref C)=some (.type "type")) (F:aA X.prog X.w X.K X.mg X.base aM k f fd ps (j4 C fn)) (hr:bz (k+1) X.A) (hb:Binds X.K fd ps []) (ha:QA X (e::es) t)
  (hg:Gl X x:=by rfl) (hs:(e::es).all noStar=true:=by rfl) (bF:(x == ("__debug__" : Str))=false:=by decide):QS X (.Raise (some (.Call (.Name x p) (e::es) [] bt)) none pos) (yE C fn R t):=⟨T9 hx hex hc hm Z b8 F hr hb ha.h hg hs bF⟩
theorem rh (hu:X.A.units+1 < cLine) (ho:QE X o td) (hi:QE X i ty) (hs:zF i:=by intro _ _; rfl):QE X (.Subscript o i pos) (z7 td ty):=⟨OA hu ho.h hi.h hs⟩
theorem xZ (hu:X.A.units+1 < cLine) (hi:QE X i ty) (ho:QE X o td) (hm:behindInMarks .In o=false:=by rfl):QT X (.Compare i [.In] [o] pos) (j3 (wC ty td)):=⟨Fi (NV hu hi.h ho.h) hm⟩
theorem DM (hu:X.A.units+1 < cLine) (hi:QE X i ty) (ho:QE X o td) (hm:behindInMarks .NotIn o=false:=by rfl):QT X (.Compare i [.NotIn] [o] pos) (j3 (xA ty td)):=⟨Fi (NX hu hi.h ho.h) hm⟩
theorem rm (hu:X.A.units+1 < cLine) (ho:QE X o td) (hi:QE X i ty) (hv:QE X value tv) (hs:swapsWith value (some (.Subscript o i pos')) pos.line X.env=pure false:=by rfl):QS X (.Assign [.Subscript o i pos'] value pos) (xg td ty tv):=⟨VQ hu ho.h hi.h hv.h hs⟩
theorem NL:QE X (.Dict [] [] pos) w9:=⟨MV⟩
theorem EG (hu:X.A.units+1 < cLine) (ho:QE X o td) (he:QE X e ty) (m1:M1 X o "get" apos e bt:=by exact ⟨rfl,rfl,rfl,rfl⟩):QE X (.Call (.Attribute o "get" apos) [e] [] bt) (y8 td ty):=⟨UJ hu ho.h he.h m1⟩
theorem iY (hp:PassesOwn (model X.prog X.w) X.A X.env X.xe) (hc:QT X a tA) (hb:QB X body tB):QS X (.While a body [] pos) (CB tA tB):=⟨Tr hp hc.h hb.h⟩
theorem Fu (hc:QT X o tA) (ha:QE X a ta) (hb:QE X b tb):QE X (.IfExp o a b pos) (wq tA ta tb):=⟨NB hc.h ha.h hb.h⟩
end
end Dv
end L2
namespace L2
open PySem PySem.Spec PyProof.Rows
theorem Ob {K:PySem.W.Frag} {M:Model} {A:Around} {E:Value→Shared→Prop} {s:Shared} {e C Cc:Addr} {od:Option Addr} {Q:Bool→Shared→Prop} {b:Bool} (X:K.In s.heap) (hd:cL e (.ref C) od s.heap) (h1:PySem.W.instIn K (.ref Cc) (.type "tuple")=some false)
  (h2:PySem.W.mroIn K Cc (.type "BaseException")=some true) (h3:PySem.W.subIn K (.ref C) (.ref Cc)=some b) (hq:Q b s):wpAny M A (excMatches (.ref e) (.ref Cc)) Q E s:=by
 obtain ⟨o,he,hc,_⟩:=hd;have L1:=PySem.W.looks_instIn (M:=M) X h1;have L2:=PySem.W.looks_mroIn (M:=M) X h2;have L3:=PySem.W.looks_subIn (M:=M) X h3;have L4:PySem.W.Looks M s.heap (isType (.ref Cc)) true:=by
  obtain ⟨c',d',cd',sl',ho⟩:=z0 h2;intro A' Q' E' s' k q;unfold isType loadHead;exact wpAny_bind (wpAny_loadPart (k _ _ (X _ _ ho)) (wpAny_pure q))
 have L5:PySem.W.Looks M s.heap (typeOf (.ref e)) (.ref C):=hc ▸ (PySem.W.Looks.ld he).andThen .now;have L6:PySem.W.Looks M s.heap (isExcClass (.ref Cc)) true:=L4.andThen L2;obtain ⟨hh,g,d,t,os⟩:=s;unfold excMatches;refine wpAny_bind (L1.at ?_);simp only [Bool.false_eq_true,if_false,pure_bind];simp only [List.forIn_cons,List.forIn_nil,bind_assoc,pure_bind];refine wpAny_bind (L6.at ?_);simp only [Bool.not_true,Bool.false_eq_true,if_false,bind_assoc,pure_bind];refine wpAny_bind (L5.at (wpAny_bind (L3.at ?_)));cases b with
 | true =>
  simp only [if_true,pure_bind];exact wpAny_pure hq
 | false =>
  simp only [Bool.false_eq_true,if_false,pure_bind];exact wpAny_pure hq
structure zg (X:Cx) (pins:List (Addr×Obj)) (σ:St) (H:Hp) (ea C:Addr) (od:Option Addr) (s:Shared):Prop where
 fl:∃ B a0,Heap.FlyingW B (X.env::X.outer) ea (.ref C) a0 s.heap∧∀ h4:Heap,B.StaysIn h4→s.heap.UpToSlots h4→Inv X pins σ H { s with heap:=h4 }
 hd:cL ea (.ref C) od s.heap
 free:H ea=none
 n0:X.s₀.heap.get? ea=none
 nL:ea≠X.env.locals
 nC:∀ x c,X.env.cells.lookup x=some c→c≠ea
 nP:∀ p∈X.pn++pins,p.1≠ea
theorem zg.inv {X:Cx} {pins:List (Addr×Obj)} {σ:St} {H:Hp} {ea C:Addr} {od:Option Addr} {s:Shared} (L:zg X pins σ H ea C od s):Inv X pins σ H s:=by
 obtain ⟨B,a0,fl,k⟩:=L.fl;exact k s.heap fl.1 (Heap.UpToSlots.refl _)
abbrev g8:=Ends→St→Addr→Option Addr→Hp→Prop
def PH (X:Cx) (hs:List ExceptHandler) (t:g8):Prop:=∀ (pins:List (Addr×Obj)) (s:Shared) (σ:St) (H:Hp) (D:Ends) (ea C:Addr) (od:Option Addr),zg X pins σ H ea C od s→t D σ C od H→wpAny (model X.prog X.w) X.A (handleBy (.ref ea) X.env hs) (SP X pins D) X.xe s
def DN (K:PySem.W.Frag) (Cc:Addr) (th:TS) (tr:g8):g8:=fun D σ C od H=>∃ b,PySem.W.subIn K (.ref C) (.ref Cc)=some b∧if b=true then th D σ H else tr D σ C od H
def G4:g8:=fun _ _ _ _ _=>False
theorem KG {X:Cx}:PH X [] G4:=fun _ _ _ _ _ _ _ _ _ h=>h.elim
section
variable {X:Cx} {K:PySem.W.Frag} {Cc:Addr} {n x:Str} {rS:List Stmt} {b₀:Stmt} {np hpos pos:Pos} {th:TS} {tr:g8} {rest:List ExceptHandler}
theorem S0 (hK:X.K=K) (hm:X.mg x=some (.ref Cc)) (c1:PySem.W.instIn X.K (.ref Cc) (.type "tuple")=some false) (c2:PySem.W.mroIn X.K Cc (.type "BaseException")=some true) (hs:∀ v,cP (X.lx v) (b₀::rS) th) (hr:PH X rest tr)
  (hg:Gl X x:=by rfl) (bF:(x == ("__debug__" : Str))=false:=by decide):PH X (.ExceptHandler (some (.Name x np)) none (b₀::rS) hpos::rest) (DN K Cc th tr):=by
 subst hK;intro pins s σ H D ea C od L h;obtain ⟨b,hsub,h⟩:=h;have I:=L.inv;refine wpAny_handleBy_cons (codeAny_handlers_test (ju (I.lx (.ref ea)) hg hm (Ob I.bQ L.hd c1 c2 hsub ?_) bF)) (by intro q; cases q);cases b with
 | false=>exact hr pins s σ H D ea C od L h
 | true =>
  have aO:=h;rw [if_pos rfl] at aO;obtain ⟨B,a0,fl,step⟩:=L.fl;refine codeAny_handlers_suite (aD (lands_againW (Q:=fun _ s4=>∃ h4,s4={ s with heap:=h4 }∧Heap.FlyingW B (X.env::X.outer) ea (.ref C) a0 h4∧s.heap.UpToSlots h4) fl fun h4 x1 x2=>⟨h4,rfl,x1,x2⟩) fun _ s4 ⟨h4,e4,fl4,up4⟩=>?_);subst e4;refine wpAny_mono (hs (.ref ea) pins _ _ _ D ((step h4 fl4.1 up4).lx (.ref ea)) aO) (fun f s7 z=>?_) fun _ _ z=>False.elim z;cases f with
  | next=>obtain ⟨σ7,H7,I7,q⟩:=z; exact ⟨_,H7,I7.uq I.ok,q⟩
  | ret u=>obtain ⟨v,σ7,H7,I7,r,q⟩:=z; exact ⟨v,_,H7,I7.uq I.ok,r,q⟩
  | brk=>obtain ⟨σ7,H7,I7,q⟩:=z; exact ⟨_,H7,I7.uq I.ok,q⟩
  | cont=>obtain ⟨σ7,H7,I7,q⟩:=z; exact ⟨_,H7,I7.uq I.ok,q⟩
def E3 (tb:(St→XK)→TS) (t:g8):TS:=fun D σ H=>∃ R:St→XK,tb R D σ H∧∀ σ' C od H',R σ' (.ref C) od H'→t D σ' C od H'
theorem Sb {body:List Stmt} {h₀:ExceptHandler} {tb:(St→XK)→TS} {t:g8} (O:Own X) (hb:∀ pins R,cP (X.kX pins R) body (tb R)) (hh:PH X (h₀::rest) t):PS X (.Try body (h₀::rest) [] [] pos) (E3 tb t):=by
 intro pins s σ H D I h;obtain ⟨R,hb',hR⟩:=h;refine wpAny_Try_except (wpAny_mono (hb pins R [] s σ H D (I.kX R) hb') (fun f s1 z=>?_) fun e s1 z=>?_)
 ·cases f with
  | next=>obtain ⟨σ',H',I',q⟩:=z; exact wpAny_execs_nil ⟨σ',H',I'.ql,q⟩
  | ret u=>obtain ⟨v,σ',H',I',r,q⟩:=z; exact ⟨v,σ',H',I'.ql,r,q⟩
  | brk=>obtain ⟨σ',H',I',q⟩:=z; exact ⟨σ',H',I'.ql,q⟩
  | cont=>obtain ⟨σ',H',I',q⟩:=z; exact ⟨σ',H',I'.ql,q⟩
 ·obtain ⟨σ',H0,H',s0,ea,C,od,I0,rfl,F,AF⟩:=z;obtain ⟨B,a0,fl,fG⟩:=F.Hg;have hA:X.A.frames=some (X.env::X.outer):=by rw [← O.cH]; exact I.ok.frames
  rw [O.cH] at fl;refine aD ((Kp.noteFrame (.ref ea) X.env).any F.hd (wpAny_looks_onW (Q:=fun _ s2=>∃ h2,s2={ s1 with heap:=h2 }∧Heap.HeldW B (X.env::X.outer) ea (.ref C) a0 X.env.locals h2∧s1.heap.UpToSlots h2) hA O.frame fl fun h2 x1 x2=>⟨h2,rfl,x1,x2⟩)) fun _ s2 ⟨⟨h2,e2,held,up2⟩,hd2⟩=>?_;subst e2;refine aD ((Kp.setFlight (.ref ea) none).any (s:={ s1 with heap:=h2 }) hd2 (wpAny_landsW (s:={ s1 with heap:=h2 }) (Q:=fun _ s3=>∃ h3,s3={ s1 with heap:=h3 }∧Heap.FlyingW B (X.env::X.outer) ea (.ref C) a0 h3∧h2.UpToSlots h3) held fun h3 x1 x2=>⟨h3,rfl,x1,x2⟩)) fun _ s3 ⟨⟨h3,e3,fl3,up3⟩,mO⟩=>?_;subst e3;have eF:∀ b,(∃ o,s0.heap.get? b=some o)→b≠ea:=fun b ⟨o,e⟩ z=>by rw [z,F.new] at e; cases e
  refine hh pins { s1 with heap:=h3 } σ' H' D ea C od ⟨⟨B,a0,fl3,fun h4 st up=>?_⟩,mO,F.free,?_,?_,fun y c e=>?_,fun p hp=>?_⟩ (hR σ' C od H' AF)
  ·obtain ⟨u,aC⟩:=Gj F.un F.aC I0.DR fG st ((up2.trans up3).trans up);exact I0.D7 (s':={ s1 with heap:=h4 }) (ch:=[]) F.os u aC F.bare (fun b z=>absurd z (by simp))
  ·cases q:X.s₀.heap.get? ea with
   | none=>rfl
   | some u=>exact absurd rfl (eF ea (I0.base.there ea u q (by rw [O.ex]; simp)))
  ·obtain ⟨m,⟨o,_,_,ho,_⟩,_⟩:=I0.loc;exact Ne.symm (eF _ ⟨o,ho⟩)
  ·obtain ⟨w',o,ho,_⟩:=I0.cell y c e;exact eF _ ⟨o,ho⟩
  ·exact eF _ ⟨_,(I0.pin p hp).1⟩
end
structure QH (X:Cx) (hs:List ExceptHandler) (t:g8):Prop where
 h:PH X hs t
namespace Dv
section
variable {X:Cx} {K:PySem.W.Frag} {Cc:Addr} {n x:Str} {rS:List Stmt} {b₀:Stmt} {np hpos pos:Pos} {th:TS} {tr:g8} {rest:List ExceptHandler}
theorem Ld:QH X [] G4:=⟨KG⟩
theorem SE (hK:X.K=K) (hm:X.mg x=some (.ref Cc)) (c1:PySem.W.instIn X.K (.ref Cc) (.type "tuple")=some false) (c2:PySem.W.mroIn X.K Cc (.type "BaseException")=some true) (hs:∀ v,QB (X.lx v) (b₀::rS) th) (hr:QH X rest tr)
  (hg:Gl X x:=by rfl) (bF:(x == ("__debug__" : Str))=false:=by decide):QH X (.ExceptHandler (some (.Name x np)) none (b₀::rS) hpos::rest) (DN K Cc th tr):=⟨S0 hK hm c1 c2 (fun v=>(hs v).h) hr.h hg bF⟩
theorem OX {body:List Stmt} {h₀:ExceptHandler} {tb:(St→XK)→TS} {t:g8} (O:Own X) (hb:∀ pins R,QB (X.kX pins R) body (tb R)) (hh:QH X (h₀::rest) t):QS X (.Try body (h₀::rest) [] [] pos) (E3 tb t):=⟨Sb O (fun pins R=>(hb pins R).h) hh.h⟩
end
end Dv
end L2
namespace L2
open PySem PySem.Spec PyProof.Rows
def dD (a b:Str):Bool:=!ltCps b.cps.toList a.cps.toList
def fT (ts:List Str):List Str:=ts.mergeSort dD
theorem uQ {a b:Str}:dD a b=true ↔ ¬ b.cps.toList < a.cps.toList:=by
 unfold dD; rw [ltCps_eq]; simp
theorem Fv (a b c:Str) (h1:dD a b=true) (h2:dD b c=true):dD a c=true:=by
 rw [uQ] at *;exact List.not_lt.mpr (List.le_trans (List.not_lt.mp h1) (List.not_lt.mp h2))
theorem Pl (a b:Str):(dD a b || dD b a)=true:=by
 cases h:dD a b with
 | true=>rfl
 | false =>
  have:¬ dD a b=true:=by rw [h]; simp
  rw [uQ,Classical.not_not] at this;simp only [Bool.false_or,uQ];exact List.not_lt.mpr (List.le_of_lt this)
theorem SR {a b:Str} (h1:dD a b=true) (h2:dD b a=true):a=b:=by
 rw [uQ] at *;have:=List.le_antisymm (List.not_lt.mp h1) (List.not_lt.mp h2);obtain ⟨x⟩:=a; obtain ⟨y⟩:=b;exact congrArg Str.mk (Array.ext' this)
theorem Gk (ts:List Str):(fT ts).Perm ts:=List.mergeSort_perm ts dD
theorem KW (ts:List Str):(fT ts).Pairwise (fun a b=>dD a b=true):=List.pairwise_mergeSort Fv Pl ts
theorem B0 (ts:List Str):(fT ts).length=ts.length:=(Gk ts).length_eq
theorem EN:∀ (p:Str) (l:List Str),risingS p l=true→(p::l).Pairwise (fun a b=>dD a b=true)
 | p,[],_=>List.pairwise_singleton _ _
 | p,x::r,h=>by
  have h':dD p x=true∧risingS x r=true:=by simpa [risingS,dD] using h
  have ih:=EN x r h'.2;refine List.pairwise_cons.mpr ⟨fun y hy=>?_,ih⟩;rcases List.mem_cons.mp hy with e | hy
  ·exact e ▸ h'.1
  ·exact Fv p x y h'.1 (List.rel_of_pairwise_cons ih hy)
theorem EM:∀ (l:List Str),sortedS l=true→l.Pairwise (fun a b=>dD a b=true)
 | [],_=>.nil
 | x::r,h=>EN x r h
theorem zI {us ts:List Str} (hp:us.Perm ts) (hs:us.Pairwise (fun a b=>dD a b=true)):us=fT ts :=
 List.Perm.eq_of_pairwise (fun a b _ _ h1 h2=>SR h1 h2) hs (KW ts) (hp.trans (Gk ts).symm)
theorem PD (x:Str):fT [x]=[x]:=(zI (.refl _) (List.pairwise_singleton _ _)).symm
theorem Hw:∀ {ts:List Str} {us:List Value},Vals (ts.map V.str) us→StrsAre us ts
 | [],_,.nil=>.nil
 | x::r,_,.cons h t=>by obtain ⟨t',rfl⟩:=h; exact .cons x t' (Hw t)
theorem yy:∀ {us:List Value} {ts:List Str},StrsAre us ts→Vals (ts.map V.str) us
 | _,_,.nil=>.nil
 | _,_,.cons y t h=>.cons ⟨t,rfl⟩ (yy h)
section
variable {X:Cx}
def Fn (K:PySem.W.Frag):List V→Hp→VK→Prop:=fun xs H Q=>∃ p ts,xs=[.ref p]∧aK K H p (ts.map V.str)∧ts.length < 64∧∀ l,H l=none→Q (.ref l) (upd H l (.lst ((fT ts).map V.str)))
theorem Vr:cC X (.builtin "sorted") (Fn X.K):=by
 intro pins s σ H xs us Q I r h;obtain ⟨p,ts,rfl,hq,Ar,q⟩:=h;obtain ⟨u,rfl,rx⟩:=vals1 r;cases rx;obtain ⟨aq,r',pl,hz⟩:=I.list hq;have hlen:=r'.length;refine sorted_strs pl.isList (Hw r') (by rw [← hlen]; simpa using Ar) fun out ss' a1 a2 a3=>?_;obtain ⟨e,he⟩:=sortedAll_at s.heap aq out;have e1:ss'=fT ts:=zI a2 (EM _ a3);subst e1;refine ⟨.ref (s.heap.objs.size+1),_,I.laid (t':=s.toks) (fun _ _=>sortedAll_old) (Nat.le_succ _) (show bP X.prog X.w _ _ _ (.lst ((fT ts).map V.str)) from ⟨?_,out.toList,e,yy a1,?_⟩),rfl,q _ (I.aC.fresh (Nat.le_succ _))⟩
 ·rw [List.length_map,B0]; simpa using hz
 ·simpa [seqObj] using he
def Cy:List V→Hp→VK→Prop:=fun xs H Q=>∃ p kvs,∃ ts:List Str,xs=[.ref p]∧H p=some (.dK kvs)∧kvs.map (·.1)=ts.map Sum.inr∧ts.length < 64∧∀ l,H l=none→Q (.ref l) (upd H l (.lst ((fT ts).map V.str)))
theorem Lm {x:Str} {v:Value} (h:lA (.inr x) v=true):∃ t,v=Value.str x t:=Value.isStrOf_shape h
theorem RJ (hc:X.calm=true):cC X (.builtin "sorted") Cy:=by
 intro pins s σ H xs us Q I r h;obtain ⟨p,kvs,ts,rfl,hq,hk,Ar,q⟩:=h;obtain ⟨u,rfl,rx⟩:=vals1 r;cases rx;obtain ⟨hz,hS,vs,rv,m⟩:kvs.length≤sizeLine∧(p == sysModules)=false∧∃ vs,KV kvs vs∧s.heap.DictOf (dB X.prog X.w) p vs:=I.aC p _ hq;obtain ⟨ep,iG⟩:=m.dictAt;have kU:kvs.length=ts.length:=by simpa using congrArg List.length hk
 have IH:vs.length=ts.length:=by rw [← kU]; simpa using (congrArg List.length rv.keys).symm
 refine Calls.call_function_entry kind_sorted plain_sorted entry_sorted (args_sorted1 _) ?_;unfold Builtin.«sorted»;refine wpAny_bind (m:=checkCount "sorted" 1 1 _) (wpAny_pure ?_);refine wpAny_bind (PySem.W.kdu_collect (A:=X.A.in1) (PySem.W.kdl_dict (knd:=dB X.prog X.w) (kvs:=vs) (ep:=ep) hS) (I.ok.hd hc) iG (by rw [IH,← kU]; exact hz) fun h' tk acc hk' fI=>?_);have hl:acc.toList.length=ts.length:=by rw [Array.length_toList,← IH]; exact fI.1
 have hS':StrsAre acc.toList ts:=by
  have key:∀ (l:List Value) (us:List Str),l.length=us.length→(∀ (j:Nat) (v:Value) (x:Str),l[j]?=some v→us[j]?=some x→∃ t,v=Value.str x t)→StrsAre l us:=by
   intro l
   induction l with
   | nil=>intro us e _; cases us with | nil=>exact .nil | cons=>cases e
   | cons v l ih =>
    intro us e hh;cases us with
    | nil=>cases e
    | cons x us =>
     obtain ⟨t,rfl⟩:=hh 0 v x rfl rfl;exact .cons x t (ih us (by simpa using e) fun j v x h1 h2=>hh (j+1) v x h1 h2)
  refine key _ _ hl fun j v x h1 h2=>?_;obtain ⟨k,y,hx,hk1⟩:=fI.2 j v (by rw [← Array.getElem?_toList]; exact h1);have e1:(vs.map (·.1))[j]?=some k:=by rw [List.getElem?_map,hx]; rfl
  rw [← rv.keys,hk,List.getElem?_map,h2] at e1;cases e1;exact Lm hk1
 refine wpAny_bind (wpAny_newList ?_ (by rw [hl,← kU]; exact hz));have jK:(h'.push (seqObj "list" acc.toList.toArray 0)).get? h'.objs.size=some (seqObj "list" acc.toList.toArray 0):=Heap.get?_push_size _ rfl;refine wpAny_bind (wpAny_holding (wpAny_call_entry slot_list_sort ⟨_,jK,rfl⟩ entry_list_sort (list_sort_treeK strKind_oneLt jK hS'.keysOf (fun v₁ v₂ rest e=>keyKind_strs (by rw [← e]; exact hS')) (by rw [hl]; exact Ar) fun st' a1 a2=>⟨_,rfl,?_⟩) (args_list_sort _)));refine wpAny_pure ⟨_,rfl,?_⟩;obtain ⟨ss',b1,b2,b3⟩:=sorted_out_str hS' a1 a2;have e1:ss'=fT ts:=zI b2 (EM _ b3);subst e1;obtain ⟨e,he⟩:=sortedHeap_at (out:=(arrOf st').map (·.2)) jK;have I1:Inv X pins σ H { s with heap:=h',toks:=tk }:=I.kept (t':=tk) hk';refine ⟨.ref h'.objs.size,_,I1.laid (t':=tk) (fun b o z=>?_) (Nat.le_refl _) (show bP X.prog X.w _ _ _ (.lst ((fT ts).map V.str)) from ⟨?_,_,e,yy b1,?_⟩),rfl,q _ (I1.aC.fresh (Nat.le_refl _))⟩
 ·have hb:b < h'.objs.size:=Heap.lt_size z;rw [sortedHeap_old (Nat.ne_of_lt hb) (by have:=Heap.size_push h' (seqObj "list" acc.toList.toArray 0); rw [this]; exact Nat.lt_succ_of_lt hb)];exact Heap.get?_push_of_some _ z
 ·rw [List.length_map,B0,← kU]; exact hz
 ·rw [Array.toArray_toList]; exact he
end
end L2
namespace L2
open PySem PySem.Spec PyProof.Rows
def Dw (c:Addr) (q:Str):HO:=.ext fun h=>h.CodeRec (.ref c) q
structure Wc (N:List Str) (scope:Scope) (cl:List (Str×Addr)):Prop where
 kind:scope.kind=.function
 co:scope.isCoroutine=false
 gen:scope.isGenerator=false
 Wm:∀ x∈scope.names,x.2≠.cell
 free:∀ x∈N,scope.names.lookup x=some .free
 has:∀ x,scope.names.lookup x=some .free→∃ c,cl.lookup x=some c
 inj:∀ x y c,cl.lookup x=some c→cl.lookup y=some c→x=y
end L2
namespace L2
open PySem PySem.Spec PyProof.Rows
abbrev RH:=List Env→Shared→Sp
structure V3 (P:Program) (w:World) (K:PySem.W.Frag) (mg:Str→Option Value) (base:Heap) (CX:dh) (k:Nat) (f:Addr) (fd:FuncData) (ps:List Str) (sp:RH):Prop where
 len:∀ outer s vs H Q E,sp outer s vs H Q E→vs.length=ps.length
 run:∀ (A:Around) (outer:List Env) (s:Shared) (H:Hp) (args:Args) (us:List Value) (vs:List V) (Q:VK) (E:XK),bz k A→kz P w K mg base A outer s H→BindsTo s fd args (ps.zip us)→Vals vs us→sp outer s vs H Q E →
  codeAny (model P w) A (.call (.ref f) args) (CR CX outer P w H s Q E) s
end L2
namespace L2
open PySem PySem.Spec PyProof.Rows
abbrev Ent:=Int×Int×Addr
def FN:List Ent→List Value
 | []=>[]
 | e::r=>rawInt e.1::rawInt e.2.1::.ref e.2.2::FN r
def Fs (P:Addr) (es:List Ent):HO:=.ext fun h=>h.get? P=some (PySem.W.tabObj (FN es).toArray)
structure P8 (H:Hp) (P:Addr) (q:Str) (es:List Ent):Prop where
 tab:H P=some (Fs P es)
 code:∀ e∈es,H e.2.2=some (Dw e.2.2 q)
structure Wg (X:Cx) (P:Addr) (params:Arguments) (scope:Scope) (rT:List (Str×Addr)) (q:Str):Prop where
 dflt:defaultsOf params X.env=([],[])
 lG:closureFor scope X.env=pure rT
 code:∃ c,X.env.code=.ref c∧PySem.W.CodeHd X.base c P
 blt:X.base.BuiltinsAt X.mg P
 qual:X.env.qual ++ "<lambda>" = q
structure Wq (P:Addr) (q:Str) (c:Addr) (H H1:Hp):Prop where
 rest:∀ b,b≠P→b≠c→H1 b=H b
 code:H1 c=some (Dw c q)
 old:H c=none∨H1=H
 tab:∃ es,P8 H1 P q es
end L2
namespace L2
open PySem PySem.Spec PyProof.Rows
abbrev V5:=Hp→VK→XK→Prop
def za (ix:List Nat) (σ:St) (vs:List V):Prop:=vs.length=ix.length∧∀ (i j:Nat) (v:V),ix[i]?=some j→vs[i]?=some v→σ[j]?=some (some v)
structure V6 (X:Cx) (N':List Str) (ix:List Nat) (rT:List (Str×Addr)):Prop where
 len:ix.length=N'.length
 at':∀ (i j:Nat),ix[i]?=some j→∃ x,N'[i]?=some x∧X.N[j]?=some x∧X.env.scope.names.lookup x=some .cell
 lG:∀ x c,rT.lookup x=some c→X.env.cells.lookup x=some c
 V7:∀ x∈N',rT.lookup x=X.env.cells.lookup x
 own:∀ x c,rT.lookup x=some c→X.fn x=true
end L2
namespace L2
open PySem PySem.Spec PyProof.Rows
abbrev PJ:=List (Addr×Addr)
structure Wh (tabs:PJ) (H:Hp):Prop where
 all:∀ b,H b=none∨(∃ o xs,H b=some (.dJ o (.lst xs)))∨∃ q∈tabs,b=q.2
 tab:∀ q∈tabs,H q.2=some (Fs q.2 [])
end L2
namespace L2
open PySem PySem.Spec PyProof.Rows
section
variable {prog:Program} {w:World} {A:Around} {R:Result→Shared→Prop} {I:Addr} {fp wr:List Addr} {P:Nat→Value→Prop} {St:Nat→Heap→Prop}
theorem VM (a d:Value):argsOk "min" ⟨[a],[("default",d)]⟩:=by unfold argsOk; kernel_rfl
theorem Qi (W:Walks prog w A.in1 I fp wr 0 P St) {S:Addr} {s:Shared} {c:Nat} {d:Value} (aQ:St 0 s.heap)
  (hS:s.heap.get? S=some { cls:=.type "list",dict:=none,data:=.seq #[] c,slots:=#[] })
  (hR:∀ h' tk,(∀ b o,b ∉ wr→s.heap.get? b=some o→h'.get? b=some o)→R (.ok (.ret d)) { s with heap:=h',toks:=tk }) :
  codeAny (model prog w) A (.builtin "min.loop" ⟨[.ref I,.none,.ref S],[("default",d)]⟩) R s:=by
 refine codeAny_builtin F.entry_min_loop ?_;rw [Around.under_plainId F.plain_min_loop _];show wpAny _ A.in1 (seqItems? (.ref S) >>= _) _ _ s;refine wpAny_bind (wpAny_seqItems hS rfl ?_);show wpAny _ A.in1 (tryCatch (pyNext (.ref I)) _ >>= _) _ _ s;refine wpAny_bind (wpAny_tryCatch (W.done s _ _ aQ fun h' tk hk'=>?_));exact wpAny_bind (wpAny_rule (wpAny_pure (hR h' tk hk')))
theorem VX (W:Walks prog w A.in1 I fp wr 1 P St) {S:Addr} {s:Shared} {c:Nat} {d:Value} (pq:S ∉ fp) (aQ:St 0 s.heap)
  (hS:s.heap.get? S=some { cls:=.type "list",dict:=none,data:=.seq #[] c,slots:=#[] })
  (hR:∀ v h' tk,P 0 v→(∀ b o,b ∉ wr→b≠S→s.heap.get? b=some o→h'.get? b=some o)→R (.ok (.ret v)) { s with heap:=h',toks:=tk }) :
  codeAny (model prog w) A (.builtin "min.loop" ⟨[.ref I,.none,.ref S],[("default",d)]⟩) R s:=by
 have Jn:S ∉ wr:=fun h=>pq (W.sub _ h);have BK:(toString "min" ++ toString ".loop" : String) = "min.loop" := by decide
 refine codeAny_builtin F.entry_min_loop ?_;rw [Around.under_plainId F.plain_min_loop _];show wpAny _ A.in1 (seqItems? (.ref S) >>= _) _ _ s;refine wpAny_bind (wpAny_seqItems hS rfl ?_);show wpAny _ A.in1 (tryCatch (pyNext (.ref I)) _ >>= _) _ _ s;refine wpAny_bind (wpAny_tryCatch (W.item 0 s _ _ (by decide) aQ fun v h' tk hP hst' hk'=>?_));have hS':=hk' S _ Jn hS;show wpAny _ A.in1 (updateSeq S (fun _=>#[v,v]) >>= _) _ _ _;refine wpAny_bind ?_;refine wpAny_updateSeq hS' rfl ?_;rw [BK];refine wpAny_pure ⟨plainId_quiet F.plain_min_loop _,?_⟩;have key:∀ (s2:Shared) (c2:Nat),St 1 s2.heap→s2.heap.get? S=some { cls:=.type "list",dict:=none,data:=.seq #[v,v] c2,slots:=#[] }→(∀ h'' tk'',(∀ b o,b ∉ wr→b≠S→s2.heap.get? b=some o→h''.get? b=some o)→R (.ok (.ret v)) { s2 with heap:=h'',toks:=tk'' }) →
   codeAny (model prog w) A (.builtin "min.loop" ⟨[.ref I,.none,.ref S],[("default",d)]⟩) R s2:=fun s2 c2 eI hS2 hR2=>by
  refine codeAny_builtin F.entry_min_loop ?_;rw [Around.under_plainId F.plain_min_loop _];show wpAny _ A.in1 (seqItems? (.ref S) >>= _) _ _ s2;refine wpAny_bind (wpAny_seqItems hS2 rfl ?_);show wpAny _ A.in1 (tryCatch (pyNext (.ref I)) _ >>= _) _ _ s2;refine wpAny_bind (wpAny_tryCatch (W.done s2 _ _ eI fun h3 tk3 Ir=>?_));have hS3:=Ir S _ Jn hS2;show wpAny _ A.in1 (updateSeq S (fun _=>#[]) >>= _) _ _ _;refine wpAny_bind ?_;refine wpAny_updateSeq hS3 rfl (wpAny_bind (wpAny_letGo (wpAny_pure ?_)));exact hR2 _ tk3 fun b o hbw hbS e=>(Heap.get?_update_other _ _ (Ne.symm hbS)).trans (Ir b o hbw e)
 refine key _ _ (W.frame _ _ _ hst' fun b mK o e=>(Heap.get?_update_other _ _ (fun h:S=b=>pq (by rw [h]; exact mK))).trans e) (Heap.get?_update_self _ hS' rfl) fun h'' tk'' hk''=>?_;exact hR v h'' tk'' hP fun b o hbw hbS e=>hk'' b o hbw hbS ((Heap.get?_update_other _ _ (Ne.symm hbS)).trans (hk' b o hbw e))
theorem KC {E:Value→Shared→Prop} {s:Shared} {x d:Value} {Q:Value→Shared→Prop}
  (h:wpAny (model prog w) A.in1 (pyIter x) (fun it s₂=>∃ I fp wr n P St,it=.ref I∧Walks prog w A.in1 I fp wr n P St∧St 0 s₂.heap∧(∀ b∈fp,b < s₂.heap.objs.size)∧n≤1 ∧
   ∀ v h' tk,(n=0∧v=d∨n=1∧P 0 v)→(∀ b o,b ∉ wr→s₂.heap.get? b=some o→h'.get? b=some o)→Q v { s₂ with heap:=h',toks:=tk }) E s) :
  wpAny (model prog w) A (call (.builtin "min") [x] [("default",d)]) Q E s:=by
 have BK:(toString "min" ++ toString ".loop" : String) = "min.loop" := by decide
 refine wpAny_call (codeAny_call_builtin F.plain_min F.entry_min ?_);have Jc:wpAny (model prog w) A.in1 (Builtin.«min» ⟨[x],[("default",d)]⟩) (fun fin s'=>match fin with
   | .done f=>(match (Except.ok f:Result) with | .ok (.ret v)=>Q v s' | .ok _=>False | .error e=>E e s')
   | .again c'=>c'.quiet=true∧codeAny (model prog w) A c' (fun r s'=>match r with | .ok (.ret v)=>Q v s' | .ok _=>False | .error e=>E e s') s') E s:=by
  show wpAny _ A.in1 (Builtin.Builtins.bindParams "min" ["key", "default"] 0 ⟨[],[("default",d)]⟩ >>= _) _ _ s;refine wpAny_bind (wpAny_of_eq (show Builtin.Builtins.bindParams "min" ["key", "default"] 0 ⟨[],[("default",d)]⟩=pure [none,some d] from rfl) ?_);refine wpAny_bind (wpAny_pure ?_);refine wpAny_bind (wpAny_mono h (fun it s₂ h₂=>?_) fun _ _ e=>e);obtain ⟨I,fp,wr,n,P,St,rfl,W,aQ,BD,hn,hQ⟩:=h₂;refine wpAny_bind (wpAny_newObj_type ?_);have pq:s₂.heap.objs.size ∉ fp:=fun hm=>Nat.lt_irrefl _ (BD _ hm);rw [BK];refine wpAny_pure ⟨plainId_quiet F.plain_min_loop _,?_⟩;have eI:=W.frame _ _ _ aQ (fun b _ o e=>Heap.get?_push_of_some { cls:=.type "list",data:=.seq ([]:List Value).toArray } e)
  match n,hn,W,hQ with
  | 0,_,W,hQ =>
   refine Qi W eI (Heap.get?_push_size _ rfl) fun h' tk hk=>?_;exact hQ d h' tk (.inl ⟨rfl,rfl⟩) fun b o hbw e=>hk b o hbw (Heap.get?_push_of_some _ e)
  | 1,_,W,hQ =>
   refine VX W pq eI (Heap.get?_push_size _ rfl) fun v h' tk hP hk=>?_;exact hQ v h' tk (.inr ⟨rfl,hP⟩) fun b o hbw e=>hk b o hbw (Nat.ne_of_lt (Heap.lt_size e)) (Heap.get?_push_of_some _ e)
 have ha:=VM x d;simp only [checkBuiltinCall,F.kind_min];cases hsig:Manifest.signature? "min" with
 | none=>exact wpAny_pure Jc
 | some sig =>
  have ha':Bind.checkArgs "min" sig ⟨[x],[("default",d)]⟩=pure ():=by simpa only [argsOk,hsig] using ha
  simp only [ha'];exact wpAny_pure Jc
end
end L2
namespace L2
open PySem PySem.Spec PyProof.Rows
def gY (h:Heap) (d:Addr) (es:Array DictEntry) (ep:Nat):Prop:=∃ o,h.get? d=some o∧o.ExactDict∧o.data=.dict es ep
theorem gY.at' {h h':Heap} {d:Addr} {es:Array DictEntry} {ep:Nat} (x:gY h d es ep) (k:∀ o,h.get? d=some o→h'.get? d=some o):gY h' d es ep:=let ⟨o,e,r⟩:=x; ⟨o,k o e,r⟩
section
variable {prog:Program} {w:World} {A:Around} {E:Value→Shared→Prop} {s:Shared} {es:Array DictEntry}
theorem gY.typeIs {d:Addr} {ep:Nat} (x:gY s.heap d es ep):s.TypeIs (.ref d) "dict" := let ⟨o,e,c,_⟩:=x; ⟨o,e,c.1⟩
theorem DV {d:Addr} {ep:Nat} {Q:Value→Shared→Prop} (hd:(d == sysModules)=false) (hm:gY s.heap d es ep)
  (hQ:Q (.ref s.heap.objs.size) { s with heap:=s.heap.push { cls:=.type "dict_keyiterator",data:=.fields #[.ref d,.int 0 0,.int es.size 0,.int ep 0] } }) :
  wpAny (model prog w) A (pyIter (.ref d)) Q E s:=by
 obtain ⟨o,ho,hc,gq⟩:=id hm;have hT:=hm.typeIs;refine wpAny_pyIter_slot hT F.slot_dict_iter (wpAny_call_entry F.slot_dict_iter hT F.entry_dict_iter ?_ (F.args_dict_iter_1 _));unfold Builtin.«dict.__iter__» Builtin.Dict.dictSlotNone;refine wpAny_bind (wpAny_bind (wpAny_notOrdered_dict hT ?_));show wpAny _ _ (pure (Value.ref d)) _ _ s;refine wpAny_pure ?_;show wpAny _ _ (Builtin.Dict.showsAll d >>= _) _ _ s;unfold Builtin.Dict.showsAll;rw [if_neg (by rw [hd]; exact Bool.false_ne_true)];refine wpAny_bind (wpAny_pure (wpAny_bind (wpAny_dictEntries ho gq (wpAny_bind (wpAny_dictEpoch ho gq ?_)))));refine wpAny_bind (wpAny_newObj_type (wpAny_pure ⟨_,rfl, "dict_keyiterator",_,⟨_,Heap.get?_push_size _ rfl,rfl⟩,F.slot_dict_keyiterator_next.lookup,?_⟩))
 simpa [rawInt] using hQ
theorem Hr {it d:Addr} {i ep:Nat} {Q:Option Value→Shared→Prop} (hit:s.heap.IsKeyIter it d i es.size ep) (hm:gY s.heap d es ep)
  (h1:∀ bU:i < es.size,∀ h',h'.IsKeyIter it d (i+1) es.size ep→Heap.SameBut it s.heap h'→Q (some es[i].key) { s with heap:=h' })
  (h2:es.size≤i→A.handled=none∧∀ h',Heap.ExtBut it s.heap h'→Q none { s with heap:=h' }) :
  wpAny (model prog w) A (pyNext (.ref it)) Q E s:=by
 obtain ⟨o,ho,hc,hd⟩:=id hit;obtain ⟨od,HS,cE,vg⟩:=id hm;unfold pyNext;refine wpAny_bind (wpAny_attempt (wpAny_callSpecial?_slot (name:=Str.ofString "__next__") hit.typeIs F.slot_dict_keyiterator_next
  (wpAny_call_entry F.slot_dict_keyiterator_next hit.typeIs F.entry_dict_keyiterator_next ?_ (F.args_dict_keyiterator_next_1 _))))
 refine wpAny_bind (wpAny_pure (wpAny_bind (wpAny_bind ?_)));refine wpAny_bind (wpAny_typeNameOfWhole_keyiter hit.typeIs (wpAny_pure ?_));refine wpAny_bind (wpAny_fieldsOf ho hd ?_);simp only [show Builtin.Dict_items.ownsTuple "dict_keyiterator" = false by decide,Bool.false_eq_true,if_false];show wpAny _ _ (if (Value.ref d == Value.none)=true then _ else _) _ _ s;rw [if_neg (show ¬ ((Value.ref d == Value.none)=true) from Bool.false_ne_true)];refine wpAny_bind (wpAny_pure (wpAny_bind (wpAny_dictEntries HS vg ?_)));rw [if_neg (by simp)];refine wpAny_bind (wpAny_pure (wpAny_bind (wpAny_dictEpoch HS vg ?_)));rw [if_neg (by simp)];refine wpAny_pure ?_;rcases Nat.lt_or_ge i es.size with bU | vd
 ·simp only [show ¬ ((i:Int) < 0) from by omega,if_false,Int.toNat_natCast,Array.getElem?_eq_getElem bU];refine wpAny_bind (wpAny_bind (wpAny_typeNameOfWhole_keyiter hit.typeIs (wpAny_pure ?_)));refine wpAny_bind (wpAny_isOneOf_keyiter hit.typeIs ?_);show wpAny _ _ (setField (.ref it) 1 (rawInt ((i:Int)+1)) >>= _) _ _ s;refine wpAny_bind (wpAny_setField ho hd (by simp) ?_);have hit':(s.heap.update it (Obj.mapFields (·.setIfInBounds 1 (rawInt ((i:Int)+1))))).IsKeyIter it d (i+1) es.size ep :=
   ⟨_,Heap.get?_update_self _ ho (Obj.isFreed_of_fields (Obj.data_mapFields hd _)),(Obj.cls_mapFields ..).trans hc,by rw [Obj.data_mapFields hd]; simp [rawInt]⟩
  refine wpAny_bind (wpAny_holding (wpAny_bind (wpAny_isOneOf_keyiter (s:={ s with heap:=s.heap.update it (Obj.mapFields (·.setIfInBounds 1 (rawInt ((i:Int)+1)))) }) hit'.typeIs ?_)));show wpAny _ _ (pure es[i].key) _ _ _;exact wpAny_pure (wpAny_pure ⟨_,rfl,wpAny_pure (h1 bU _ hit' (Heap.SameBut.update ..))⟩)
 ·obtain ⟨hh,hQ⟩:=h2 vd;simp only [show ¬ ((i:Int) < 0) from by omega,if_false,Int.toNat_natCast,Array.getElem?_eq_none vd];refine wpAny_bind (wpAny_bind (wpAny_typeNameOfWhole_keyiter hit.typeIs (wpAny_pure ?_)));show wpAny _ _ (setField (.ref it) 0 .none >>= _) _ _ s;refine wpAny_bind (wpAny_setField ho hd (by simp) ?_);show wpAny _ _ (newExc (.type "StopIteration") [] >>= _) _ _ _;refine wpAny_bind ?_;simp only [newExc,newTuple];refine wpAny_bind (wpAny_newObj_type ?_ (by size_fits));refine wpAny_bind (m:=firstArgMember _ _) (wpAny_of_eq (a:=Value.none) (by first | rfl | (simp only [firstArgMember]; rfl)) ?_);refine wpAny_newObj_type ?_ (by size_fits);simp only [raiseNew];refine wpAny_bind (wpAny_handled ?_);rw [show A.in1.handled=none from hh];refine wpAny_bind (wpAny_pure (wpAny_throw ?_));refine wpAny_bind (wpAny_isInstance (T := "StopIteration") (b:=true) ⟨_,Heap.get?_push_size _ rfl,rfl⟩ isSubtype_stop ?_);exact wpAny_pure (hQ _ (((Heap.SameBut.update ..).extBut.push _).push _))
theorem Hn (hh:A.handled=none) (I d:Addr) (fh:d≠I) (es:Array DictEntry) (ep:Nat) :
  Walks prog w A I [I,d] [I] es.size (fun i v=>∃ e,es[i]?=some e∧v=e.key) (fun i h=>h.IsKeyIter I d i es.size ep∧gY h d es ep) where
 sub:=fun b hb=>by simp at hb; simp [hb]
 frame:=fun _ _ _ st hk=>⟨st.1.at fun o e=>hk I (by simp) o e,st.2.at' fun o e=>hk d (by simp) o e⟩
 item:=fun i s Q E hi st hQ=>Hr st.1 st.2 (fun bU h' hit' hs'=>hQ _ h' s.toks ⟨es[i],by simp [bU],rfl⟩ ⟨hit',st.2.at' fun o e=>hs'.extBut d o fh e⟩ fun b o hb e=>hs'.extBut b o (fun h=>hb (by simp [h])) e) fun vd=>absurd hi (Nat.not_lt.mpr vd)
 done:=fun s Q E st hQ=>Hr st.1 st.2 (fun bU=>absurd bU (Nat.lt_irrefl _)) fun _=>⟨hh,fun h' he'=>hQ h' s.toks fun b o hb e=>he' b o (fun h=>hb (by simp [h])) e⟩
 self:=fun _ _ _ _ st hQ=>wpAny_pyIter_keyiter st.1 hQ
end
end L2
namespace L2
open PySem PySem.Spec PyProof.Rows
section
variable {X:Cx}
def zu (te:TE):TE:=fun σ H Q=>te σ H fun x H1=>∃ a kvs,x=.ref a∧H1 a=some (.dT kvs)∧((kvs=[]∧Q .ax H1)∨∃ k v,kvs=[(k,v)]∧∀ p,H1 p=some (.tup (k.map kV))→Q (.ref p) H1)
theorem R4 {e:Expr} {te:TE} {p p2 p3 pos:Pos} {j:Nat} (hc:X.calm=true) (hg:Gl X "min") (hm:X.mg "min" = none) (he:PE X e te) (hs:starEach [e] X.env=[(false,eval e X.env)]:=by rfl) :
  PE X (.Call (.Name "min" p) [e] [⟨some "default",.Constant .none j p2,p3⟩] pos) (zu te):=by
 intro pins s σ H Q I h;refine wpAny_Call_Name_kw (lZ (u:=.builtin "min") I hg hm (by kernel_rfl) ?_);refine callWith_kw ?_ (by rw [hs]; rfl) (by rw [hs]; rfl);rw [hs];show wpAny _ _ (spliced ((false,eval e X.env)::backTo pos [])) _ _ s;refine Calls.spliced_cons (aD (he pins s σ H _ I h) fun u s1 ⟨x,H1,I1,rx,a,kvs,ex,hd,q⟩=>Calls.spliced_nil ?_);subst ex;cases (show u=Value.ref a from rx);refine kws_cons (Constant_none (kws_nil ?_));show wpAny _ _ (call (.builtin "min") [.ref a] [("default",.none)]) _ _ s1;obtain ⟨hz,hS,xs,hp,o,es,ep,ho,hex,gq,mQ,IP⟩:=id (I1.aC a _ hd);refine KC (DV hS ⟨o,ho,hex,gq⟩ ?_);have bU:a < s1.heap.objs.size:=Heap.lt_size ho;have hW:=Hn (prog:=X.prog) (w:=X.w) (A:=X.A.in1) (I1.ok.hd hc) s1.heap.objs.size a (Nat.ne_of_lt bU) es ep;have vx:(s1.heap.push { cls:=.type "dict_keyiterator",data:=.fields #[.ref a,.int 0 0,.int es.size 0,.int ep 0] }).IsKeyIter s1.heap.objs.size a 0 es.size ep∧gY (s1.heap.push { cls:=.type "dict_keyiterator",data:=.fields #[.ref a,.int 0 0,.int es.size 0,.int ep 0] }) a es ep :=
  ⟨⟨_,Heap.get?_push_size _ rfl,rfl,rfl⟩,⟨o,Heap.get?_push_of_some _ ho,hex,gq⟩⟩
 have BD:∀ b∈[s1.heap.objs.size,a],b < (s1.heap.push { cls:=.type "dict_keyiterator",data:=.fields #[.ref a,.int 0 0,.int es.size 0,.int ep 0] }).objs.size:=fun b hb=>by
  rw [Heap.size_push];rcases List.mem_cons.mp hb with e | hb
  ·rw [e]; exact Nat.lt_succ_self _
  ·rw [List.mem_singleton.mp hb]; exact Nat.lt_succ_of_lt bU
 have kp:∀ h':Heap,(∀ b o,b ∉ [s1.heap.objs.size]→(s1.heap.push { cls:=.type "dict_keyiterator",data:=.fields #[.ref a,.int 0 0,.int es.size 0,.int ep 0] }).get? b=some o→h'.get? b=some o)→∀ b o,s1.heap.get? b=some o→h'.get? b=some o:=fun h' k b o e =>
  k b o (fun z=>by have z':=List.mem_singleton.mp z; have:=Heap.lt_size e; rw [z'] at this; exact Nat.lt_irrefl _ this) (Heap.get?_push_of_some _ e)
 have hsz:es.size=xs.length:=by rw [← Array.length_toList,mQ,List.length_map]
 refine ⟨_,_,_,_,_,_,rfl,hW,vx,BD,?_,fun v h' tk hv hk=>?_⟩
 ·rcases q with ⟨rfl,_⟩ | ⟨k,v,rfl,_⟩
  ·cases hp; rw [hsz]; exact Nat.zero_le _
  ·cases hp with | cons _ t=>cases t; rw [hsz]; exact Nat.le_refl _
 ·have I2:Inv X pins σ H1 { s1 with heap:=h',toks:=tk }:=I1.kept (t':=tk) (kp h' hk);rcases q with ⟨rfl,q⟩ | ⟨k,v',rfl,q⟩
  ·cases hp;rcases hv with ⟨_,rfl⟩ | ⟨h1,_⟩
   ·exact ⟨.ax,H1,I2,rfl,q⟩
   ·rw [hsz] at h1; cases h1
  ·cases hp with
   | @cons _ y _ _ hh t =>
    cases t;rcases hv with ⟨h1,_⟩ | ⟨_,e,he,rfl⟩
    ·rw [hsz] at h1; cases h1
    ·rw [← Array.getElem?_toList,mQ] at he;cases he;exact ⟨.ref y.2.1,H1,I2,rfl,q _ hh.2.1⟩
end
end L2
namespace L2
open PySem PySem.Spec PyProof.Rows
theorem bO {f:Str} {v:V} {fs:List (Str×V)} {m:Nat} (h:fs.length≤m):(ae f v fs).length≤m+1:=Nat.le_trans (xG f v fs) (Nat.succ_le_succ h)
def cA (fs gs:List (Str×V)):Prop:=∀ f,fs.lookup f=gs.lookup f
theorem cA.refl (fs:List (Str×V)):cA fs fs:=fun _=>rfl
theorem cA.put {fs gs:List (Str×V)} (h:cA fs gs) (f:Str) (v:V):cA (ae f v fs) (ae f v gs):=fun g=>by rw [dk,dk,h g]
section
variable {X:Cx}
theorem VJ {pins:List (Addr×Obj)} {σ:St} {H:Hp} {s:Shared} {Q:VK} {p:Addr} (hc:X.calm=true) (I:Inv X pins σ H s) (hd:H p=some (.dT [])) (q:∀ l,H l=none→Q (.ref l) (upd H l (.lst []))) :
  wpAny (model X.prog X.w) X.A (call (.builtin "sorted") [.ref p]) (EP X pins σ Q) X.xe s:=by
 obtain ⟨hz,hS,xs,hp,o,es,ep,ho,hex,gq,mQ,IP⟩:=id (I.aC p _ hd);cases hp;have he:es=#[]:=by
  have:es.toList=[]:=mQ;exact Array.toList_eq_nil_iff.mp this
 subst he;have iG:s.heap.DictAt (dB X.prog X.w) p [] ep:=⟨o,#[],ho,hex,gq,fun e z=>absurd z (by simp),.nil,.nil⟩;refine Calls.call_function_entry kind_sorted plain_sorted entry_sorted (args_sorted1 _) ?_;unfold Builtin.«sorted»;refine wpAny_bind (m:=checkCount "sorted" 1 1 _) (wpAny_pure ?_);refine wpAny_bind (PySem.W.kdu_collect (A:=X.A.in1) (PySem.W.kdl_dict (knd:=dB X.prog X.w) (kvs:=[]) (ep:=ep) hS) (I.ok.hd hc) iG (Nat.zero_le _) fun h' tk acc hk' fI=>?_);have ha:acc=#[]:=Array.eq_empty_of_size_eq_zero fI.1;subst ha;refine wpAny_bind (wpAny_newList ?_ (Nat.zero_le _));have jK:(h'.push (seqObj "list" ([]:List Value).toArray 0)).get? h'.objs.size=some (seqObj "list" ([]:List Value).toArray 0):=Heap.get?_push_size _ rfl;refine wpAny_bind (wpAny_holding (wpAny_call_entry slot_list_sort ⟨_,jK,rfl⟩ entry_list_sort (list_sort_treeK strKind_oneLt (vs:=[]) jK (StrsAre.nil).keysOf (fun v₁ v₂ rest e=>nomatch e) (by decide) fun st' a1 a2=>⟨_,rfl,?_⟩) (args_list_sort _)));refine wpAny_pure ⟨_,rfl,?_⟩;obtain ⟨e,he⟩:=sortedHeap_at (out:=(arrOf st').map (·.2)) jK;have aQ:arrOf st'=#[]:=Array.eq_empty_of_size_eq_zero (a1.size_eq.trans (pairsOf_size []));rw [aQ,Array.map_empty] at he;have I1:Inv X pins σ H { s with heap:=h',toks:=tk }:=I.kept (t':=tk) hk';rw [aQ,Array.map_empty];refine ⟨.ref h'.objs.size,_,I1.laid (t':=tk) (fun b o z=>?_) (Nat.le_refl _) (show bP X.prog X.w _ _ _ (.lst []) from ⟨Nat.zero_le _,[],e,.nil,he⟩),rfl,q _ (I1.aC.fresh (Nat.le_refl _))⟩;have hb:b < h'.objs.size:=Heap.lt_size z;rw [sortedHeap_old (Nat.ne_of_lt hb) (by have:=Heap.size_push h' (seqObj "list" ([]:List Value).toArray 0); rw [this]; exact Nat.lt_succ_of_lt hb)];exact Heap.get?_push_of_some _ z
def QL (K:PySem.W.Frag):List V→Hp→VK→Prop:=fun xs H Q=>Fn K xs H Q∨Cy xs H Q∨∃ p,xs=[.ref p]∧H p=some (.dT [])∧∀ l,H l=none→Q (.ref l) (upd H l (.lst []))
theorem Pu {K:PySem.W.Frag} (h:X.K=K) (hc:X.calm=true):cC X (.builtin "sorted") (QL K):=by
 subst h;intro pins s σ H xs us Q I r h;rcases h with h | h | ⟨p,rfl,hd,q⟩
 ·exact Vr pins s σ H xs us Q I r h
 ·exact RJ hc pins s σ H xs us Q I r h
 ·obtain ⟨u,rfl,rx⟩:=vals1 r;cases rx;exact VJ hc I hd q
theorem Mj:bootBuiltins "sorted" = some (.builtin "sorted"):=by kernel_rfl
theorem Dv.minD {e:Expr} {te:TE} {p p2 p3 pos:Pos} {j:Nat} (hc:X.calm=true) (hm:X.mg "min" = none) (he:QE X e te) (hg:Gl X "min" := by rfl) (hs:starEach [e] X.env=[(false,eval e X.env)]:=by rfl) :
  QE X (.Call (.Name "min" p) [e] [⟨some "default",.Constant .none j p2,p3⟩] pos) (zu te):=⟨R4 hc hg hm he.h hs⟩
end
end L2
namespace L2
open PySem PySem.Spec PyProof.Rows
structure gZ (K:PySem.W.Frag) (x qual:Str) (st:Stmt) (f:Addr) (fd:FuncData) (ds:List Value):Prop where
 ex:∃ (oc:Value) (od:Option Addr) (dt:Addr) (kV doc pm:Value) (an:Option Addr) (az ct:Value) (cZ:Array (Option Value)) (o:Obj) (n:Nat),
  fd=PySem.W.fnOf x qual (dM st) (aU st) (aB st) (.ref dt) kV doc pm an az ct∧K.lookup f=some ⟨oc,od,.func fd,cZ⟩∧PySem.W.codeIn K az qual=true∧K.lookup dt=some o∧o.data=.seq ds.toArray n
 kp:PySem.W.keepIn K (.ref f)=true
section
variable {P:Program} {w:World} {K:PySem.W.Frag} {mg:Str→Option Value} {base:Heap} {CX:dh} {x qual:Str} {st:Stmt} {f:Addr} {fd:FuncData} {N ps:List Str} {k:Nat} {ds:List Value}
theorem gZ.dF {sp:Sp} (F:gZ K x qual st f fd ds) (S:aH N ps (aB st)) (len:∀ vs H Q E,sp vs H Q E→vs.length=ps.length)
  (hb:∀ (az:Value) (A:Around) (outer:List Env) (s:Shared) (H:Hp) (vs:List V) (Q:VK) (E:XK),bz k (A.deeper (envOfC qual (aB st) s.heap.objs.size f az))→sp vs H Q E →
   ∃ t,cP (fP CX P w K mg base N qual (aB st) f az A outer s H E) (aU st) t∧t { nx:=fun _ H'=>Q .ax H',rt:=Q } (start N vs) H):aA P w K mg base CX (k+1) f fd ps sp:=by
 obtain ⟨oc,od,dt,kV,doc,pm,an,az,ct,cZ,o,n,rfl,lk,cE,_⟩:=F.ex;exact yj lk cE S len fun A outer s H vs Q E hr fE=>hb az A outer s H vs Q E hr fE
theorem gZ.ok {sp:Sp} (F:gZ K x qual st f fd ds) (S:aH N ps (aB st)) (len:∀ vs H Q E,sp vs H Q E→vs.length=ps.length)
  (hb:∀ (az:Value) (A:Around) (outer:List Env) (s:Shared) (H:Hp) (vs:List V) (Q:VK) (E:XK),bz k (A.deeper (envOfC qual (aB st) s.heap.objs.size f az))→sp vs H Q E →
   ∃ t,cP (fP aM P w K mg base N qual (aB st) f az A outer s H E).nt (aU st) t∧t { nx:=fun _ H'=>Q .ax H',rt:=Q } (start N vs) H):aA P w K mg base aM (k+1) f fd ps sp :=
 F.dF S len fun az A outer s H vs Q E hr fE=>by
  obtain ⟨t,h,q⟩:=hb az A outer s H vs Q E hr fE;exact ⟨t,h.nt,q⟩
theorem LI {oc:Value} {od an:Option Addr} {cZ:Array (Option Value)} {kV doc pm az ct:Value} {dt:Addr} {o:Obj} {n:Nat} (l:K.lookup f=some ⟨oc,od,.func (PySem.W.fnOf x qual (dM st) (aU st) (aB st) (.ref dt) kV doc pm an az ct),cZ⟩)
  (c:PySem.W.codeIn K az qual=true) (k:PySem.W.keepIn K (.ref f)=true) (ld:K.lookup dt=some o) (hd:o.data=.seq ds.toArray n):gZ K x qual st f (PySem.W.fnOf x qual (dM st) (aU st) (aB st) (.ref dt) kV doc pm an az ct) ds :=
 ⟨⟨oc,od,dt,kV,doc,pm,an,az,ct,cZ,o,n,rfl,l,c,ld,hd⟩,k⟩
end
section
variable {X:Cx}
end
end L2
namespace L2
open PySem PySem.Spec PyProof.Rows
theorem eV {X:Cx}:j8 X (fun _=>E0) where
 pass:=fun pins σ H s e s' I hc=>by
  obtain ⟨ea,C,od,H',rfl,F,hE⟩:=hc;exact hE.elim
section
variable {X:Cx}
end
end L2
namespace L2
open PySem PySem.Spec PyProof.Rows
def gJ {α:Type} (p:α→Prop):List α→Prop
 | []=>True
 | a::r=>p a∧gJ p r
theorem gJ.mem {α:Type} {p:α→Prop}:∀ {l:List α},gJ p l→∀ a∈l,p a
 | _::_,h,a,ha=>by
  rcases List.mem_cons.mp ha with rfl | ha
  ·exact h.1
  ·exact gJ.mem h.2 a ha
end L2
namespace L2
open PySem PySem.Spec PyProof.Rows
section
variable {X:Cx}
theorem Et {pins:List (Addr×Obj)} {σ:St} {H:Hp} {s:Shared} {A:Around} {a b:Addr} {xs ys:List V} (I:Inv X pins σ H s) (ha:aK X.K H a xs) (hb:aK X.K H b ys) (h0:xs=[]∨ys=[]) (hu:A.units < cLine) :
  SeqAt.RcAt A s (.ref a) (.ref b) (decide (xs=ys))∧SeqAt.RcNeAt A s (.ref a) (.ref b) (!decide (xs=ys)):=by
 obtain ⟨i1,r1,p1,_⟩:=I.list ha;obtain ⟨i2,r2,p2,_⟩:=I.list hb;have n1:i1.toArray.size=xs.length:=by rw [List.size_toArray,← r1.length]
 have n2:i2.toArray.size=ys.length:=by rw [List.size_toArray,← r2.length]
 by_cases h:xs.length=ys.length
 ·have e1:xs=[]:=by
   rcases h0 with e | e
   ·exact e
   ·rw [e] at h; exact List.length_eq_zero_iff.mp h
  have e2:ys=[]:=by rw [e1] at h; exact List.length_eq_zero_iff.mp h.symm
  subst e1 e2;have hsz:i1.toArray.size=i2.toArray.size:=by rw [n1,n2]
  have hz:i1.toArray.size=0:=n1;have k1:=SeqAt.RcAt.lists (A:=A) (s:=s) (e:=fun _=>true) p1.isList p2.isList hsz hu (fun j g1 g2=>absurd g1 (by rw [hz]; exact Nat.not_lt_zero _));have k2:=SeqAt.RcNeAt.lists (A:=A) (s:=s) (e:=fun _=>true) p1.isList p2.isList hsz hu (fun j g1 g2=>absurd g1 (by rw [hz]; exact Nat.not_lt_zero _));rw [hz] at k1 k2;exact ⟨k1,k2⟩
 ·have hsz:(i1.toArray.size != i2.toArray.size)=true:=by rw [n1,n2]; simpa using h
  have e:decide (xs=ys)=false:=decide_eq_false fun z=>h (by rw [z]);rw [e];exact ⟨SeqAt.RcAt.lists_lengths p1.isList p2.isList hsz hu,SeqAt.RcNeAt.lists_lengths p1.isList p2.isList hsz hu⟩
def ug (K:PySem.W.Frag) (neg:Bool):R2:=fun x y H Q=>match x,y with
 | .ref a,.ref b=>∃ xs ys:List V,aK K H a xs∧aK K H b ys∧((ys=[]∧Q (.bl (neg ^^ xs.isEmpty)) H)∨(xs=[]∧Q (.bl (neg ^^ ys.isEmpty)) H))
 | _,_=>False
theorem N0 {xs ys:List V} (h:ys=[]):decide (xs=ys)=xs.isEmpty:=by subst h; cases xs <;> simp
theorem P9 {xs ys:List V} (h:xs=[]):decide (xs=ys)=ys.isEmpty:=by subst h; cases ys <;> simp
theorem Vn {K:PySem.W.Frag} (hK:X.K=K) (hu:X.A.units < cLine):bc X (compareOp .NotEq) (ug K true):=by
 subst hK;intro pins s σ H x y v u Q I rx ry h;unfold ug at h;split at h
 ·obtain ⟨xs,ys,ha,hb,q⟩:=h;cases rx; cases ry;simp only [Bool.true_bne] at q;rcases q with ⟨e,q⟩ | ⟨e,q⟩
  ·exact (Et I ha hb (.inr e) hu).2 _ _ _ _ ⟨.bl _,H,I,rfl,by rw [N0 e]; exact q⟩
  ·exact (Et I ha hb (.inl e) hu).2 _ _ _ _ ⟨.bl _,H,I,rfl,by rw [P9 e]; exact q⟩
 ·exact h.elim
def xk:V→List V→Hp→VK→Prop:=fun x vs H Q=>match x,vs with
 | .ref l,[]=>∃ xs y,H l=some (.lst (xs++[y]))∧Q y (upd H l (.lst xs))
 | _,_=>False
theorem Nd:cO X "list.pop" xk:=cO.imp (r:=Dn) Ma fun x vs H Q h=>by
 unfold xk at h;split at h
 ·obtain ⟨xs,y,hl,q⟩:=h;refine ⟨_,xs++[y],y,rfl,rfl,hl,?_,?_⟩
  ·simp
  ·rw [List.dropLast_concat]; exact q
 ·exact h.elim
def TJ:List V→Hp→VK→Prop:=fun xs H Q=>∃ p kvs,xs=[.ref p]∧H p=some (.dT kvs)∧∀ l (ks:List Addr),ks.length=kvs.length→(∀ (i:Nat) (a:Addr) (k:List Key) (v:V),ks[i]?=some a→kvs[i]?=some (k,v)→H a=some (.tup (k.map kV)))→H l=none →
 Q (.ref l) (upd H l (.lst (ks.map V.ref)))
end
end L2
namespace L2
open PySem PySem.Spec PyProof.Rows
theorem TL {prog:Program} {w:World} {d:Addr} {es:Array DictEntry} {ep:Nat} (lo:(d == sysModules)=false):PySem.W.KdlSrc prog w "dict" d d es.size (fun i v=>∃ e,es[i]?=some e∧v=e.key) (fun h=>gY h d es ep) where
 type:=fun _ hm=>hm.typeIs
 there:=fun _ hm=>let ⟨_,e,_⟩:=hm; ⟨Heap.lt_size e,Heap.lt_size e⟩
 keep:=fun _ _ hm hk=>hm.at' fun o e=>hk d (.inl rfl) o e
 notList:=by decide
 notTuple:=by decide
 hint:=fun _ _ _ _ hm hq=>PySem.W.kdl_hint_dict hm.typeIs hq
 iter:=fun _ _ hh hm=>⟨_,_,(fun _ _ hq=>DV lo hm hq),Hn hh _ d (let ⟨_,e,_⟩:=hm; Nat.ne_of_lt (Heap.lt_size e)) es ep,⟨⟨_,Heap.get?_push_size _ rfl,rfl,rfl⟩,hm.at' fun o e=>Heap.get?_push_of_some _ e⟩⟩
theorem DX {α β:Type} {F:α→β→Prop}:∀ {l₁:List α} {l₂:List β},Paired F l₁ l₂→∀ {i:Nat} {a:α} {b:β},l₁[i]?=some a→l₂[i]?=some b→F a b
 | _,_,.cons h _,0,_,_,e1,e2=>by cases e1; cases e2; exact h
 | _,_,.cons _ t,i+1,_,_,e1,e2=>DX t e1 e2
section
variable {X:Cx}
theorem yv:∀ {vs:List V} {us:List Value},vs.length=us.length→(∀ (i:Nat) (v:V) (u:Value),vs[i]?=some v→us[i]?=some u→RelV v u)→Vals vs us
 | [],[],_,_=>.nil
 | v::vs,u::us,e,h=>.cons (h 0 v u rfl rfl) (yv (by simpa using e) fun i v u h1 h2=>h (i+1) v u h1 h2)
theorem Qj (hc:X.calm=true):cC X (.type "list") TJ:=by
 intro pins s σ H xs us Q I r h;obtain ⟨p,kvs,rfl,hd,q⟩:=h;obtain ⟨u,rfl,rx⟩:=vals1 r;cases rx;obtain ⟨hz,hS,ys,hp,o,es,ep,ho,hex,gq,mQ,IP⟩:=id (I.aC p _ hd);have hsz:es.size=ys.length:=by rw [← Array.length_toList,mQ,List.length_map]
 have jN:kvs.length=ys.length:=hp.length;refine PySem.W.kdl_call (TL (prog:=X.prog) (w:=X.w) (ep:=ep) (es:=es) hS) (I.ok.hd hc) ⟨o,ho,hex,gq⟩ (by rw [hsz,← jN]; exact hz) fun h' tk acc c hk hD fI=>?_;have hal:acc.toList.length=ys.length:=by rw [Array.length_toList,fI.1,hsz]
 have hv:Vals ((ys.map (·.2.1)).map V.ref) acc.toList:=by
  refine yv (by simp [hal]) fun i v u h1 h2=>?_;obtain ⟨e,he,rfl⟩:=fI.2 i u (by rw [← Array.getElem?_toList]; exact h2);rw [← Array.getElem?_toList,mQ,List.getElem?_map] at he;rw [List.map_map,List.getElem?_map] at h1;cases hy:ys[i]? with
  | none=>rw [hy] at h1; cases h1
  | some y =>
   rw [hy] at h1 he;cases h1; cases he;exact rfl
 refine ⟨.ref s.heap.objs.size,_,I.laid (t':=tk) hk (Nat.le_refl _) (show bP X.prog X.w _ _ _ (.lst ((ys.map (·.2.1)).map V.ref)) from ⟨?_,_,c,hv,?_⟩),rfl,q _ (ys.map (·.2.1)) ?_ (fun i a k v h1 h2=>?_) (I.aC.fresh (Nat.le_refl _))⟩
 ·simp only [List.length_map]; rw [← jN]; exact hz
 ·rw [Array.toArray_toList]; exact hD
 ·rw [List.length_map,jN]
 ·rw [List.getElem?_map] at h1;cases hy:ys[i]? with
  | none=>rw [hy] at h1; cases h1
  | some y =>
   rw [hy] at h1;cases h1;have z:=DX hp h2 hy;exact z.2.1
end
end L2
namespace L2
open PySem PySem.Spec PyProof.Rows
theorem Sr:typeLookup (.type "list_reverseiterator") "__len__" = pure none:=by rw [typeLookup_type,builtinLookup_eq_fast]; kernel_rfl
theorem Uv:typeLookup (.type "list_reverseiterator") "__length_hint__" = pure (some (.builtin "list_reverseiterator.__length_hint__")):=by rw [typeLookup_type,builtinLookup_eq_fast]; kernel_rfl
section
variable {prog:Program} {w:World} {A:Around} {E:Value→Shared→Prop} {s:Shared} {I:Addr}
theorem RO {Q:Bool→Shared→Prop} (hT:s.TypeIs (.ref I) "list_reverseiterator") (h:Q false s):wpAny (model prog w) A (Builtin.List.listLengthHint (.ref I)) Q E s:=by
 unfold Builtin.List.listLengthHint;refine wpAny_bind (wpAny_specialOf hT Sr ?_);show wpAny _ A (specialOf (Value.ref I) (Str.ofString "__length_hint__") >>= _) _ _ _;refine wpAny_bind (wpAny_specialOf hT Uv ?_);generalize hid:("list_reverseiterator.__length_hint__" : String)=id0
 wp_delta
 rw [show splitId id0=some ("list_reverseiterator", "__length_hint__") from by subst hid; decide +kernel];subst hid;refine wpAny_bind (wpAny_isInstance (T := "list_reverseiterator") (b:=true) hT (by rw [isSubtype_type]; kernel_rfl) ?_);refine wpAny_ite_split (fun eK=>absurd eK (by decide)) (fun _=>?_);refine wpAny_ite_split (fun _=>?_) (fun eK=>absurd (by decide +kernel) eK);refine wpAny_ite_split (fun eK=>absurd eK (by decide +kernel)) (fun _=>?_);exact wpAny_pure h
theorem OK {R:Result→Shared→Prop} {l S:Addr} {items:Array Value} {res:Value} {c₀:Nat} (hh:A.handled=none) (hit:s.heap.IsRevIter I l ((items.size:Int) - 1)) (hl:s.heap.IsList l items) (fh:l≠I) (Jm:S≠I) (hSl:S≠l) (hn:items.size≤sizeLine)
  (hS:s.heap.get? S=some { cls:=.type "list",data:=.seq #[] c₀ })
  (hR:∀ h' tk acc' c',(∀ b o,b≠S→b≠I→s.heap.get? b=some o→h'.get? b=some o)→h'.get? S=some { cls:=.type "list",dict:=none,data:=.seq acc' c',slots:=#[] }→ItemsOf (fun i v=>items[items.size - 1 - i]?=some v) acc' items.size→R (.ok (.ret res)) { s with heap:=h',toks:=tk }) :
  wpAny (model prog w) A.in1 (Builtin.List.listExtendWith (.ref S) (.ref I) res)
   (fun fin s'=>match fin with | .done f=>R (.ok f) s' | .again c'=>c'.quiet=true∧codeAny (model prog w) A c' R s') (fun e s'=>R (.error e) s') s:=by
 have W:=Walks.listRev (prog:=prog) (w:=w) (A:=A.in1) hh I l fh items;have pq:S ∉ [I,l]:=by simp only [List.mem_cons,List.not_mem_nil,or_false,not_or]; exact ⟨Jm,hSl⟩
 have vx:0≤items.size∧s.heap.IsRevIter I l ((items.size:Int) - 1 - ((0:Nat):Int))∧s.heap.IsList l items:=⟨Nat.zero_le _,by simpa using hit,hl⟩;unfold Builtin.List.listExtendWith;refine wpAny_bind (wpAny_typeOf hit.typeIs ?_);have h1:Builtin.List.listSameRef (.ref S) (.ref I)=false:=by simp [Builtin.List.listSameRef,Jm]
 simp only [h1,show (Value.type "list_reverseiterator" == Value.type "list")=false by decide,show (Value.type "list_reverseiterator" == Value.type "tuple")=false by decide,Bool.or_false,Bool.false_eq_true,if_false];refine wpAny_bind (W.self 0 _ _ _ vx ?_);refine wpAny_bind (wpAny_holding (RO hit.typeIs ?_));refine wpAny_ite_split (fun h=>absurd h (by decide)) (fun _=>wpAny_pure ⟨plainId_quiet PySem.F.plain_extend_loop _,?_⟩);refine codeAny_extend_loopS W.toS hn S pq res items.size 0 _ #[] c₀ rfl (Nat.zero_le _) vx hS (ItemsOf.nil _) fun s' acc' c' hm hS' fI=>?_;rw [Moved.eq_with hm];refine hR s'.heap s'.toks acc' c' (fun b o hb hb' e=>hm.heap b o (fun hmem=>?_) e) hS' fI;rcases List.mem_cons.mp hmem with e' | hmem
 ·exact hb e'
 ·exact hb' (List.mem_singleton.mp hmem)
theorem RD {Q:Value→Shared→Prop} {l:Addr} {items:Array Value} (hh:A.handled=none) (hit:s.heap.IsRevIter I l ((items.size:Int) - 1)) (hl:s.heap.IsList l items) (fh:l≠I) (hn:items.size≤sizeLine)
  (hQ:∀ h' tk acc' c',(∀ b o,b≠I→s.heap.get? b=some o→h'.get? b=some o)→h'.get? s.heap.objs.size=some { cls:=.type "list",dict:=none,data:=.seq acc' c',slots:=#[] }→ItemsOf (fun i v=>items[items.size - 1 - i]?=some v) acc' items.size →
   Q (.ref s.heap.objs.size) { s with heap:=h',toks:=tk }):wpAny (model prog w) A (call (.type "list") [.ref I]) Q E s:=by
 have hIlt:I < s.heap.objs.size:=let ⟨_,e,_⟩:=hit; Heap.lt_size e
 have hllt:l < s.heap.objs.size:=let ⟨_,e,_⟩:=hl; Heap.lt_size e
 refine callType_codes (Q₁:=fun obj s₁=>obj=.ref s.heap.objs.size∧s₁={ s with heap:=s.heap.push { cls:=.type "list",data:=.seq #[] } }) PySem.F.called_list (PySem.F.typeCall_list_1 _) PySem.F.entry_list_init
  (code_list_new _ ⟨rfl,rfl⟩) fun obj s₁ h₁=>?_
 obtain ⟨rfl,rfl⟩:=h₁;have hS:(s.heap.push { cls:=.type "list",data:=.seq #[] }).get? s.heap.objs.size=some { cls:=.type "list",data:=.seq #[] }:=Heap.get?_push_size _ rfl;refine ⟨⟨_,hS,rfl⟩,PySem.F.args_list_init_2 _ _,?_⟩;show wpAny _ _ (do let old ← Builtin.List.listItems (.ref s.heap.objs.size); Builtin.List.listUpdate (.ref s.heap.objs.size) (fun _=>#[]); letGo old.toList.reverse; Builtin.List.listExtendWith (.ref s.heap.objs.size) (.ref I) .none) _ _ _;refine wpAny_bind ?_;unfold Builtin.List.listItems;refine wpAny_bind (wpAny_seqItems hS rfl (wpAny_pure ?_));show wpAny _ _ (updateSeq s.heap.objs.size (fun _=>#[]) >>= fun _=>letGo (#[]:Array Value).toList.reverse >>= fun _=>Builtin.List.listExtendWith (.ref s.heap.objs.size) (.ref I) .none) _ _ _;refine wpAny_bind (wpAny_updateSeq hS rfl ?_);have hS₂:=Heap.get?_update_self (Obj.mapSeq (fun _=>(#[]:Array Value))) hS rfl;have A7:∀ b o,s.heap.get? b=some o→((s.heap.push { cls:=.type "list",data:=.seq #[] }).update s.heap.objs.size (Obj.mapSeq (fun _=>(#[]:Array Value)))).get? b=some o :=
  fun b o e=>(Heap.get?_update_other _ _ (Nat.ne_of_gt (Heap.lt_size e))).trans (Heap.get?_push_of_some _ e)
 refine wpAny_bind (wpAny_letGo ?_);refine OK (A:=A.in1) hh (hit.at fun o e=>A7 _ o e) (hl.at fun o e=>A7 _ o e) fh (Nat.ne_of_gt hIlt) (Nat.ne_of_gt hllt) hn hS₂ fun h' tk acc' c' hk hS' fI=>?_;exact ⟨rfl,hQ h' tk acc' c' (fun b o hb e=>hk b o (Nat.ne_of_lt (Heap.lt_size e)) hb (A7 b o e)) hS' fI⟩
end
end L2
namespace L2
open PySem PySem.Spec PyProof.Rows
section
variable {X:Cx}
def Cz (K:PySem.W.Frag) (te:TE):TE:=fun σ H Q=>te σ H fun x H1=>∃ p ys,x=.ref p∧aK K H1 p ys∧∀ l,H1 l=none→Q (.ref l) (upd H1 l (.lst ys.reverse))
theorem K4 {e:Expr} {te:TE} {p q pos qos:Pos} (hc:X.calm=true) (hg:Gl X "list") (hm:X.mg "list" = none) (BN:Gl X "reversed") (Ap:X.mg "reversed" = none) (he:PE X e te) (hs:starEach [e] X.env=[(false,eval e X.env)]:=by rfl) :
  PE X (.Call (.Name "list" p) [.Call (.Name "reversed" q) [e] [] qos] [] pos) (Cz X.K te):=by
 intro pins s σ H Q I h;refine wpAny_Call_Name_kw (lZ (u:=.type "list") I hg hm (by kernel_rfl) ?_);refine PyProof.Rows.callWith_type1 ?_;show wpAny _ _ (spliced ((false,eval (.Call (.Name "reversed" q) [e] [] qos) X.env)::backTo pos (starEach [] X.env))) _ _ s;refine Calls.spliced_cons ?_;refine wpAny_Call_Name_kw (lZ (u:=.type "reversed") I BN Ap (by kernel_rfl) ?_);refine PyProof.Rows.callWith_type1 ?_ (by rw [hs]; rfl) (by rfl);rw [hs];show wpAny _ _ (spliced ((false,eval e X.env)::backTo qos [])) _ _ s;refine Calls.spliced_cons (aD (he pins s σ H _ I h) fun u s1 ⟨x,H1,I1,rx,a,ys,ex,hl,q⟩=>Calls.spliced_nil ?_);subst ex;cases (show u=Value.ref a from rx);obtain ⟨aq,r',pl,hz⟩:=I1.list hl;have hlen:=r'.length;obtain ⟨oa,hoa,_⟩:=pl.isList;have halt:a < s1.heap.objs.size:=Heap.lt_size hoa;refine call_reversed_list pl.isList ?_;refine Calls.spliced_nil ?_;refine RD (I1.ok.hd hc) (l:=a) (items:=aq.toArray) ⟨_,Heap.get?_push_size _ rfl,rfl,rfl⟩ (pl.isList.at fun o e=>Heap.get?_push_of_some _ e) (Nat.ne_of_lt halt) (by rw [List.size_toArray,← hlen]; exact hz) fun h' tk acc c hk hD fI=>?_;have kp:∀ b o,s1.heap.get? b=some o→h'.get? b=some o:=fun b o e=>hk b o (Nat.ne_of_lt (Heap.lt_size e)) (Heap.get?_push_of_some _ e);have hsz:s1.heap.objs.size≤(s1.heap.push (revObj a ((aq.toArray.size:Int) - 1))).objs.size:=by rw [Heap.size_push]; exact Nat.le_succ _
 have hv:Vals ys.reverse acc.toList:=by
  have ha:acc.size=aq.length:=by rw [fI.1,List.size_toArray]
  refine yv (by rw [List.length_reverse,hlen,← ha]; exact Array.length_toList.symm) fun i v u h1 h2=>?_;have hu:=fI.2 i u (by rw [← Array.getElem?_toList]; exact h2);have hi:i < ys.length:=by have:=(List.getElem?_eq_some_iff.mp h1).1; rwa [List.length_reverse] at this
  rw [List.getElem?_reverse hi] at h1;obtain ⟨w,hw,rw'⟩:=r'.get h1;rw [List.getElem?_toArray,List.size_toArray,← hlen,hw] at hu;cases hu;exact rw'
 refine ⟨.ref _,_,I1.laid (t':=tk) kp hsz (show bP X.prog X.w _ _ _ (.lst ys.reverse) from ⟨by rw [List.length_reverse]; exact hz,_,c,hv,by rw [Array.toArray_toList]; exact hD⟩),rfl,q _ (I1.aC.fresh hsz)⟩
theorem Dv.listRev {e:Expr} {te:TE} {p q pos qos:Pos} {K:PySem.W.Frag} (hK:X.K=K) (hc:X.calm=true) (hm:X.mg "list" = none) (Ap:X.mg "reversed" = none) (he:QE X e te) (hg:Gl X "list" := by rfl) (BN:Gl X "reversed" := by rfl) (hs:starEach [e] X.env=[(false,eval e X.env)]:=by rfl) :
  QE X (.Call (.Name "list" p) [.Call (.Name "reversed" q) [e] [] qos] [] pos) (Cz K te):=hK ▸ ⟨K4 hc hg hm BN Ap he.h hs⟩
end
end L2
namespace L2
open PySem PySem.Spec PyProof.Rows
theorem Wf {K:PySem.W.Frag} {x:Str} {f c P:Addr} {oc occ:Value} {od odc:Option Addr} {fd:FuncData} {sl slc:Array (Option Value)} {vs:Array Value} (n:PySem.W.nsIn K mainGlobals x=some (some (.ref f))) (l:K.lookup f=some ⟨oc,od,.func fd,sl⟩) (hc:fd.code=.ref c)
  (lc:K.lookup c=some ⟨occ,odc,.fields vs,slc⟩) (hv:vs[11]?=some (.ref P)):PySem.W.tabIn K x=some (c,P):=by
 unfold PySem.W.tabIn;simp only [n,l,hc,lc,hv]
end L2
namespace L2
open PySem PySem.Spec PyProof.Rows
end L2
namespace L2
open PySem PySem.Spec PyProof.Rows
def bY (X:Cx) (scope:Scope) (cl:List (Str×Addr)) (N:List Str) (s:Shared) (H:Hp) (ex:List Addr) (C:Addr):Cx :=
 { X with N:=N,s₀:=s,H₀:=H,env:=compEnvC scope cl C X.env,outer:=X.stack,stack:=X.stack,ex:=ex,fn:=fun _=>false,pn:=[],xe:=fun _ _=>False }
structure iC (X:Cx) (scope:Scope) (cl:List (Str×Addr)) (caps:List Str) (ix:List Nat):Prop where
 lG:closureFor scope X.env=pure cl
 sub:∀ x c,cl.lookup x=some c→X.env.cells.lookup x=some c
 has:∀ y,((relabel scope X.env).names.lookup y=some .cell∨(relabel scope X.env).names.lookup y=some .free)→∃ c,cl.lookup y=some c
 len:ix.length=caps.length
 at':∀ (i j:Nat),ix[i]?=some j→∃ x,caps[i]?=some x∧X.N[j]?=some x∧X.env.scope.names.lookup x=some .cell∧(relabel scope X.env).names.lookup x=some .cell∧cl.lookup x=X.env.cells.lookup x
theorem iC.of {X:Cx} {scope:Scope} {cl:List (Str×Addr)} {caps:List Str} {ix:List Nat} (lG:closureFor scope X.env=pure cl) (sub:gJ (fun e:Str×Addr=>X.env.cells.lookup e.1=some e.2) cl)
  (has:gJ (fun e:Str×NameKind=>(e.2=.cell∨e.2=.free)→∃ c,cl.lookup e.1=some c) (relabel scope X.env).names) (len:ix.length=caps.length)
  (at':gJ (fun e:Nat×Str=>X.N[e.1]?=some e.2∧X.env.scope.names.lookup e.2=some .cell∧(relabel scope X.env).names.lookup e.2=some .cell∧cl.lookup e.2=X.env.cells.lookup e.2) (ix.zip caps)):iC X scope cl caps ix where
 lG:=lG
 sub:=fun x c h=>gJ.mem sub _ (PySem.mem_of_lookup h)
 has:=fun y hy=>by
  rcases hy with h | h
  ·exact gJ.mem has _ (PySem.mem_of_lookup h) (.inl rfl)
  ·exact gJ.mem has _ (PySem.mem_of_lookup h) (.inr rfl)
 len:=len
 at':=fun i j h=>by
  have hi:=(List.getElem?_eq_some_iff.mp h).1;have hi':i < caps.length:=len ▸ hi;have hm:(j,caps[i])∈ix.zip caps:=by
   refine List.mem_iff_getElem?.mpr ⟨i,?_⟩;rw [List.getElem?_zip_eq_some];exact ⟨h,List.getElem?_eq_getElem hi'⟩
  have z:=gJ.mem at' _ hm;exact ⟨caps[i],List.getElem?_eq_getElem hi',z⟩
def ku (n:Nat) (ix:List Nat) (wi:TI) (g:TG) (tt:TT) (te:TE):TE:=fun σ H Q=>∃ vs,za ix σ vs∧wi σ H fun J H1=>∃ W:Nat→List V→Nat→Hp→Prop,(∃ m,W 0 [] m H1)∧∀ i ys m H,W i ys m H →
 ys.length≤sizeLine∧((J.stop i H∧∀ l,H l=none→Q (.ref l) (upd H l (.lst ys))) ∨
  (J.go i H∧ys.length < sizeLine∧∀ y H',J.i9 i H y H'→∀ σ0:St,σ0.length=n→g y (σ0++vs.map some) H' fun σ1 H1=>(∃ σ2:St,σ1=σ2++vs.map some∧σ2.length=n) ∧
   tt σ1 H1 fun c H2=>if c=true then te σ1 H2 fun z H3=>∃ m',m' < m∧W (i+1) (ys++[z]) m' H3 else ∃ m',m' < m∧W (i+1) ys m' H2))
section
variable {X:Cx}
theorem Mb {pins:List (Addr×Obj)} {σ:St} {H:Hp} {s s4:Shared} {scope:Scope} {cl:List (Str×Addr)} {TN caps:List Str} {ix:List Nat} {vs:List V} {fp:List Addr} {C:Addr} {m:Str→Option Value} (I:Inv X pins σ H s) (CC:iC X scope cl caps ix) (hv:za ix σ vs) (hf:∀ b∈fp,iX X pins H b) (bU:∀ b∈fp,b < s.heap.objs.size)
  (hk:scope.kind=.function) (hC:s.heap.objs.size≤C)
  (mR:s4.os=s.os) (hgen:s4.gens=s.gens) (old:∀ b o,s.heap.get? b=some o→s4.heap.get? b=some o) (fH:s4.heap.Ns C m):Inv (bY X scope cl (TN++caps) s H fp C) [] ((TN.map fun _=>none)++vs.map some) H s4:=by
 refine ⟨⟨I.ok.mod,hk,I.ok.glob,I.ok.blt,hC,fun x y c e1 e2=>I.ok.inj x y c (CC.sub x c e1) (CC.sub y c e2),fun y hy=>CC.has y hy,fun _ _ e=>(by cases e),I.ok.hd,I.ok.frames,.inl rfl,fun b hb=>⟨Nat.ne_of_lt (Nat.lt_of_lt_of_le (bU b hb) hC),fun x c e=>(hf b hb).2.2.2.2.1 x c (CC.sub x c e)⟩,
  fun b o e=>I.bs b o e,Nat.le_trans I.ok.gb I.sz,fun b o e hb=>?_,fun b hb hm=>?_,I.stack,I.tD⟩,
  mR,by rw [hgen]; exact I.bare,Un.kept old,⟨m,fH,fun i y v e1 e2 _=>?_⟩,fun x c e=>?_,I.aC.fresh hC,fun x c e=>I.eU x c (CC.sub x c e),fun p hp=>absurd (show p∈([]:List (Addr×Obj)) from hp) (by simp),I.aC.kept old,?_⟩
 ·rcases (hf b hb).2.2.2.1 with z | z
  ·exact I.ok.kc b o e z
  ·exact absurd (Nat.lt_of_lt_of_le (Nat.lt_of_lt_of_le (Heap.lt_size e) I.ok.gb) z) (Nat.lt_irrefl _)
 ·rcases List.mem_cons.mp (I.uF b hm) with z | z
  ·exact (hf b hb).2.1 z
  ·exact (hf b hb).2.2.1 z
 ·have e1':(TN++caps)[i]?=some y:=e1;have e2':((TN.map fun _=>(none:Option V))++vs.map some)[i]?=some (some v):=e2;by_cases hi:i < TN.length
  ·rw [List.getElem?_append_left (by simpa using hi),List.getElem?_map] at e2';cases h:TN[i]? <;> rw [h] at e2' <;> simp at e2'
  ·rw [List.getElem?_append_right (by omega)] at e1';rw [List.getElem?_append_right (by simpa using Nat.not_lt.mp hi),List.length_map,List.getElem?_map] at e2';have ev:vs[i - TN.length]?=some v:=by
    cases h:vs[i - TN.length]? with
    | none=>rw [h] at e2'; cases e2'
    | some a=>rw [h] at e2'; cases e2'; rfl
   have hlt':i - TN.length < ix.length:=by
    rw [← hv.1]; exact (List.getElem?_eq_some_iff.mp ev).1
   obtain ⟨x,c1,c2,c3,c4,c5⟩:=CC.at' _ _ (List.getElem?_eq_getElem hlt');rw [e1'] at c1; cases c1;have hσ:=hv.2 _ _ v (List.getElem?_eq_getElem hlt') ev;obtain ⟨m0,_,hl⟩:=I.loc;obtain ⟨u,ru,lk⟩:=hl _ y v c2 hσ (.inr (.inl c3));rcases lk with ⟨k1,_⟩ | ⟨_,c,k2,o,k3,k4⟩
   ·have:X.env.scope.names.lookup y=some .local:=k1;rw [c3] at this; cases this
   ·exact ⟨u,ru,.inr ⟨.inl c4,c,by show cl.lookup y=some c; rw [c5]; exact k2,o,old _ _ k3,k4⟩⟩
 ·obtain ⟨v,o,e1,e2⟩:=I.cell x c (CC.sub x c e);exact ⟨v,o,old _ _ e1,e2⟩
 ·show ((TN.map fun _=>(none:Option V))++vs.map some).length=(TN++caps).length;rw [List.length_append,List.length_append,List.length_map,List.length_map,hv.1,CC.len]
theorem EJ {elt iter:Expr} {ifs:List Expr} {tg:Expr} {g:TG} {TN caps:List Str} {ix:List Nat} {cl:List (Str×Addr)} {pos:Pos} {scope:Scope} {wi:TI} {tt:TT} {te:TE} (hc:X.calm=true) (hi:PI X tg iter wi)
  (ht:∀ s H ex C,mW (bY X scope cl (TN++caps) s H ex C) ifs tt) (fX:∀ s H ex C,PG (bY X scope cl (TN++caps) s H ex C) tg g) (he:∀ s H ex C,PE (bY X scope cl (TN++caps) s H ex C) elt te) (CC:iC X scope cl caps ix)
  (hk:scope.kind=.function) (fY:∀ y∈scope.names,y.2≠.cell)
  {pins:List (Addr×Obj)} {s:Shared} {σ:St} {H:Hp} {Q:VK} {RR:Value→Addr→Result→Shared→Prop} (I:Inv X pins σ H s) (h:ku TN.length ix wi g tt te σ H Q)
  (AF:∀ (a C:Addr) (s6:Shared) (H6:Hp),Inv X pins σ H6 s6→(∃ m,s6.heap.Ns C m)→xw X pins H6 C→Q (.ref a) H6→RR (.ref a) C (.ok .next) s6) :
  wpAny (model X.prog X.w) X.A (eval iter X.env) (fun v s1=>wpAny (model X.prog X.w) X.A (pyIter v) (fun it s2=>wpAny (model X.prog X.w) X.A (newList []) (fun acc s3 =>
   wpAny (model X.prog X.w) X.A (newFunctionEnv scope X.env.globals cl [] X.env.qual none .none (some X.env)) (fun JD s4 =>
    codeAny (model X.prog X.w) X.A (.compStart (.ListComp elt [⟨tg,iter,ifs,0⟩] scope pos) 0 it acc { JD with scope:=relabel scope X.env }) (RR acc JD.locals) s4) X.xe s3) X.xe s2) X.xe s1) X.xe s:=by
 obtain ⟨vs,hvs,h⟩:=h;refine aD (hi pins s σ H _ I h) fun v s1 h1=>aD h1 fun AG s2 h2=>?_;obtain ⟨it,fp,tn,J,H2,rfl,I2,T,eI,f2,W,⟨m0,w0⟩,turn⟩:=h2;have bU:∀ b∈fp,b < s2.heap.objs.size:=fun b hb=>let ⟨o,e,_⟩:=T.obj _ _ eI b hb; Heap.lt_size e
 refine wpAny_newObj_type (wpAny_newFunctionEnv fY (by intro y hy; simp at hy) (fun h1 hns1 hsb1=>?_) hk);dsimp only at hns1 hsb1 ⊢;generalize AM:s2.heap.push { cls:=.type "list",dict:=none,data:=.seq ([]:List Value).toArray }=G at hns1 hsb1 ⊢;have hG:G.objs.size=s2.heap.objs.size+1:=by rw [← AM,Heap.size_push]
 have vi:s2.heap.objs.size≠G.objs.size:=by rw [hG]; exact Nat.ne_of_lt (Nat.lt_succ_self _)
 have my:s2.heap.objs.size≤G.objs.size:=by rw [hG]; exact Nat.le_succ _
 have old:∀ b o,s2.heap.get? b=some o→h1.get? b=some o:=fun b o e=>by
  exact hsb1.extBut b o (Nat.ne_of_lt (Nat.lt_of_lt_of_le (Heap.lt_size e) my)) (Heap.get?_push_of_some _ (AM ▸ Heap.get?_push_of_some _ e))
 have accO:h1.get? s2.heap.objs.size=some { cls:=.type "list",dict:=none,data:=.seq ([]:List Value).toArray } :=
  hsb1.extBut _ _ vi (Heap.get?_push_of_some _ (AM ▸ Heap.get?_push_size _ rfl))
 -- f6 state at f6 block's entry
 have main:∀ s4:Shared,s4={ s2 with heap:=h1,toks:=s2.toks+([]:List (Str×Value)).length } →
   codeAny (model X.prog X.w) X.A (.compLoop (.ListComp elt [⟨tg,iter,ifs,0⟩] scope pos) 0 (.ref it) (.ref s2.heap.objs.size) (compEnvC scope cl G.objs.size X.env))
    (RR (.ref s2.heap.objs.size) G.objs.size) s4:=by
  rintro s4 rfl;have I4:Inv (bY X scope cl (TN++caps) s2 H2 fp G.objs.size) [] ((TN.map fun _=>none)++vs.map some) H2 { s2 with heap:=h1,toks:=s2.toks+([]:List (Str×Value)).length } :=
   Mb I2 CC hvs f2 bU hk my rfl rfl old hns1
  have AN:∀ {H':Hp} {pl:List (Addr×Obj)},(∀ b∈fp,H' b=none)→(∀ p∈pl,p.1 ∉ fp)→∀ b∈fp,iX (bY X scope cl (TN++caps) s2 H2 fp G.objs.size) pl H' b:=fun hn hp b hb =>
   ⟨hn b hb,Nat.ne_of_lt (Nat.lt_of_lt_of_le (bU b hb) my),I4.ok.kF b hb,.inl hb,fun x c e=>(f2 b hb).2.2.2.2.1 x c (CC.sub x c e),fun p hp' e=>hp p (by simpa [bY] using hp') (e ▸ hb)⟩
  have Ib:s2.heap.objs.size ∉ fp:=fun z=>Nat.lt_irrefl _ (bU _ z);refine Vw (fun n s'=>∃ (i:Nat) (ys:List V) (aq:List Value) (k:Nat) (σ':St) (H':Hp),(∃ σ0:St,σ'=σ0++vs.map some∧σ0.length=TN.length)∧Inv (bY X scope cl (TN++caps) s2 H2 fp G.objs.size) [] σ' H' s'∧tn i s'.heap∧(∀ b∈fp,H' b=none)∧H' s2.heap.objs.size=none∧Vals ys aq ∧
   s'.heap.get? s2.heap.objs.size=some { cls:=.type "list",dict:=none,data:=.seq aq.toArray k }∧W i ys n H') (fun _ _ _=>trivial) ?_ m0
   ⟨0,[],[],0,_,H2,⟨_,rfl,by simp⟩,I4,T.keep _ _ _ eI (fun b _ o e=>old b o e),fun b hb=>(f2 b hb).1,I2.aC.fresh (Nat.le_refl _),.nil,accO,w0⟩
  rintro n s5 ⟨i,ys,aq,k,σ5,H5,⟨σ0,hq5,hσ⟩,I5,o6,vo,vJ,rv,ea,w5⟩;subst hq5;have Ip:Inv (bY X scope cl (TN++caps) s2 H2 fp G.objs.size) [(s2.heap.objs.size,{ cls:=.type "list",dict:=none,data:=.seq aq.toArray k })] (σ0++vs.map some) H5 s5:=I5.rE fun p hp=>by
   have e:p=(s2.heap.objs.size,{ cls:=.type "list",dict:=none,data:=.seq aq.toArray k }):=by simpa using hp
   subst e;refine ⟨ea,vJ,vi,fun z=>?_,fun v z=>by cases z⟩;exact I2.Cj (Nat.le_refl _) (by
    have hz:s2.heap.objs.size∈bH X.stack:=z;rcases List.mem_cons.mp (I2.uF _ hz) with q | q
    ·exact absurd I2.lt (by rw [← q]; exact Nat.lt_irrefl _)
    ·exact q)
  have BI:∀ p∈[((s2.heap.objs.size,{ cls:=.type "list",dict:=none,data:=.seq aq.toArray k }):Addr×Obj)],p.1 ∉ fp:=fun p hp=>by
   have e:p=(s2.heap.objs.size,{ cls:=.type "list",dict:=none,data:=.seq aq.toArray k }):=by simpa using hp
   subst e; exact Ib
  obtain ⟨hyl,alt⟩:=turn i ys n H5 w5;rcases alt with ⟨stop,qn⟩ | ⟨go,hys,step⟩
  ·refine aD (T.done (bY X scope cl (TN++caps) s2 H2 fp G.objs.size) rfl rfl rfl hc i _ s5 (σ0++vs.map some) H5 (fun _ _=>False) Ip (AN vo BI) o6 stop) fun r s6 ⟨hr,I6⟩=>?_;subst hr;have ea6:=(I6.pin (s2.heap.objs.size,{ cls:=.type "list",dict:=none,data:=.seq aq.toArray k }) (List.mem_append_right _ (List.mem_singleton.mpr rfl))).1;obtain ⟨m,Jw,_⟩:=I6.loc;have hC6:H5 G.objs.size=none:=I6.free;have lt2:∀ b o,s2.heap.get? b=some o→b≠s2.heap.objs.size:=fun b o e=>Nat.ne_of_lt (Heap.lt_size e);have Iout:Inv X pins σ (upd H5 s2.heap.objs.size (.lst ys)) s6:=by
    refine I2.D7 (s':=s6) (ch:=fp) I6.os ⟨fun b o e n hb hx=>?_,fun b o e n hb hx=>?_,fun b o e n hx=>?_,fun b o e hx=>?_,fun b xs e=>?_,fun b o u e=>?_,fun b ps e=>?_⟩ ?_ I6.bare fun b hb=>?_
    ·exact I6.base.keep b o e n hb hx
    ·exact I6.base.slot b o e n hb hx
    ·rw [ah (lt2 b o e)]; exact I6.base.free b o e n hx
    ·exact I6.base.there b o e hx
    ·rw [ah (eR e (I2.aC.fresh (Nat.le_refl _)))]; exact I6.base.fw b xs e
    ·rw [ah (eR e (I2.aC.fresh (Nat.le_refl _)))]; exact I6.base.eS b o u e
    ·obtain ⟨more,e1⟩:=I6.base.fm b ps e;exact ⟨more,by rw [ah (eR e (I2.aC.fresh (Nat.le_refl _)))]; exact e1⟩
    ·intro b u e;by_cases hb:b=s2.heap.objs.size
     ·subst hb;rw [ay] at e;cases e;exact ⟨hyl,aq,k,rv,ea6⟩
     ·rw [ah hb] at e;exact (I6.aC b u e).dZ (fun c v _ q=>q) (fun c q=>by rw [ah (eR q vJ)]; exact q) fun c xs q=>by rw [ah (eR q vJ)]; exact q
    ·obtain ⟨g1,g2,g3,g4,g5,g6⟩:=f2 b hb;exact ⟨g4,g2,g5,g6⟩
   refine AF _ _ s6 _ Iout ⟨m,Jw⟩ ⟨by rw [ah (Ne.symm vi)]; exact hC6,?_,?_,fun y c e z=>?_,fun p hp z=>?_⟩ (qn _ vJ)
   ·exact Nat.ne_of_gt (Nat.lt_of_lt_of_le I2.lt my)
   ·exact Nat.le_trans I2.sz my
   ·obtain ⟨v',q⟩:=I2.cell y c e;exact absurd (Nat.lt_of_lt_of_le q.lt my) (by rw [z]; exact Nat.lt_irrefl _)
   ·exact absurd (Nat.lt_of_lt_of_le (Heap.lt_size (I2.pin p hp).1) my) (by rw [z]; exact Nat.lt_irrefl _)
  ·refine aD (T.item (bY X scope cl (TN++caps) s2 H2 fp G.objs.size) rfl rfl rfl hc i _ s5 (σ0++vs.map some) H5 (fun _ _=>False) Ip (AN vo BI) o6 go) fun r s6 ⟨u,hr,h6⟩=>?_;subst hr;refine aD h6 fun _ s7 ⟨y,H7,I7,ry,y7,Aw,fr7⟩=>?_;have I7':=I7.pinned (AN fr7 BI) (T.obj _ _ Aw);refine aD (fX _ _ _ _ _ s7 (σ0++vs.map some) H7 y u _ I7' ry (step y H7 y7 σ0 hσ)) fun _ s8 ⟨σ8,H8,I8,Jd,q8⟩=>?_;refine aD (ht _ _ _ _ _ s8 σ8 H8 _ I8 q8) fun ok s9 ⟨H9,I9,q9⟩=>?_
   -- what is pinned stays
   have Jo:∀ {s':Shared} {H':Hp},Inv (bY X scope cl (TN++caps) s2 H2 fp G.objs.size) ([(s2.heap.objs.size,{ cls:=.type "list",dict:=none,data:=.seq aq.toArray k })]++pP fp s7.heap) σ8 H' s' →
     tn (i+1) s'.heap∧(∀ b∈fp,H' b=none)∧H' s2.heap.objs.size=none∧s'.heap.get? s2.heap.objs.size=some { cls:=.type "list",dict:=none,data:=.seq aq.toArray k }:=fun {s' H'} J'=>by
    refine ⟨T.keep _ _ _ Aw fun b hb o e=>(J'.pin (b,o) (List.mem_append_right _ (List.mem_append_right _ (tK hb e)))).1,fun b hb=>?_,(J'.pin (s2.heap.objs.size,{ cls:=.type "list",dict:=none,data:=.seq aq.toArray k }) (List.mem_append_right _ (List.mem_append_left _ (List.mem_singleton.mpr rfl)))).2.1,(J'.pin (s2.heap.objs.size,{ cls:=.type "list",dict:=none,data:=.seq aq.toArray k }) (List.mem_append_right _ (List.mem_append_left _ (List.mem_singleton.mpr rfl)))).1⟩;obtain ⟨o,e,_⟩:=T.obj _ _ Aw b hb;exact (J'.pin (b,o) (List.mem_append_right _ (List.mem_append_right _ (tK hb e)))).2.1
   cases ok with
   | false =>
    obtain ⟨m',hm,w'⟩:=q9;obtain ⟨k1,k2,k3,k4⟩:=Jo I9;exact ⟨m',hm,i+1,ys,aq,k,σ8,H9,Jd,I9.rE (pins':=[]) (fun _ hp=>nomatch hp),k1,k2,k3,rv,k4,w'⟩
   | true =>
    refine aD (he _ _ _ _ _ s9 σ8 H9 _ I9 q9) fun zv s10 ⟨z,eG,HR,rz,jV⟩=>?_;obtain ⟨m',hm,w'⟩:=jV;obtain ⟨k1,k2,k3,k4⟩:=Jo HR;have hl:=rv.length;refine call_meets F.slot_list_append ⟨_,k4,rfl⟩ F.entry_list_append (F.args_list_append_2 _ _) (PySem.list_append s2.heap.objs.size aq.toArray k zv (by rw [List.size_toArray]; omega)) ⟨k4,?_⟩;have q:=PySem.IsL.update k4 (·.push zv);have ip:aq.toArray.push zv=(aq++[zv]).toArray:=by simp
    rw [ip] at q;have I11:Inv (bY X scope cl (TN++caps) s2 H2 fp G.objs.size) [] σ8 eG s10:=HR.rE (pins':=[]) (fun _ hp=>nomatch hp);refine ⟨m',hm,i+1,ys++[z],aq++[zv],_,σ8,eG,Jd,I11.turned (t':=s10.toks) (it:=s2.heap.objs.size) (fun b o hb e=>(Heap.get?_update_other s10.heap _ (Ne.symm hb)).trans e) k3 vi (.inr (Nat.le_refl _)) (fun x c e z=>by obtain ⟨v',q⟩:=I2.cell x c (CC.sub x c e); exact absurd q.lt (by rw [z]; exact Nat.lt_irrefl _)) (fun p hp=>absurd (show p∈([]:List (Addr×Obj)) from hp) (by simp)),
     T.keep _ _ _ k1 fun b hb o e=>(Heap.get?_update_other s10.heap _ (fun z=>Ib (by rw [z]; exact hb))).trans e,k2,k3,rv.append (.cons rz .nil),q,w'⟩
 exact codeAny_compStart_list (main _ rfl) (T.self _ 0 _ _ _ (T.keep _ _ _ eI fun b _ o e=>old b o e) (main _ rfl))
theorem NW {elt iter:Expr} {ifs:List Expr} {tg:Expr} {g:TG} {TN caps:List Str} {ix:List Nat} {cl:List (Str×Addr)} {pos:Pos} {scope:Scope} {wi:TI} {tt:TT} {te:TE} (hc:X.calm=true) (hi:PI X tg iter wi)
  (ht:∀ s H ex C,mW (bY X scope cl (TN++caps) s H ex C) ifs tt) (fX:∀ s H ex C,PG (bY X scope cl (TN++caps) s H ex C) tg g) (he:∀ s H ex C,PE (bY X scope cl (TN++caps) s H ex C) elt te) (CC:iC X scope cl caps ix)
  (hk:scope.kind=.function:=by rfl) (bJ:∀ y∈scope.names,y.2=.local→scope.names.lookup y.1=some .local:=by decide +kernel) (fY:∀ y∈scope.names,y.2≠.cell:=by decide +kernel)
  (hs:∀ x,foldedSetIterable iter X.env x=pure x:=by intro _; rfl):PE X (.ListComp elt [⟨tg,iter,ifs,0⟩] scope pos) (ku TN.length ix wi g tt te):=by
 intro pins s σ H Q I h;rw [eval_ListComp];refine wpAny_comprehension_free (use:=none) (cl:=cl) rfl hs CC.lG hk bJ ?_;refine EJ (RR:=fun acc C=>compPost (model X.prog X.w) X.A X.xe none (EP X pins σ Q) acc C) hc hi ht fX he CC hk fY I h ?_;intro a C s6 H6 I6 hm o q;obtain ⟨m,hn⟩:=hm;exact ⟨m,hn,fun h' sF=>⟨.ref a,H6,o.go I6 sF,rfl,q⟩⟩
theorem OZ {elt iter:Expr} {ifs:List Expr} {tg:Expr} {g:TG} {TN caps:List Str} {ix:List Nat} {cl:List (Str×Addr)} {y:Str} {i:Nat} {py pos spos:Pos} {scope:Scope} {wi:TI} {tt:TT} {te:TE} (hc:X.calm=true) (hN:X.N.Nodup) (rO:X.N[i]?=some y) (pf:X.env.scope.names.lookup y=some .local) (hi:PI X tg iter wi)
  (ht:∀ s H ex C,mW (bY X scope cl (TN++caps) s H ex C) ifs tt) (fX:∀ s H ex C,PG (bY X scope cl (TN++caps) s H ex C) tg g) (he:∀ s H ex C,PE (bY X scope cl (TN++caps) s H ex C) elt te) (CC:iC X scope cl caps ix)
  (sv:swapsWith (.ListComp elt [⟨tg,iter,ifs,0⟩] scope pos) (some (.Name y py)) spos.line X.env=pure true:=by rfl)
  (hk:scope.kind=.function:=by rfl) (bJ:∀ y∈scope.names,y.2=.local→scope.names.lookup y.1=some .local:=by decide +kernel) (fY:∀ y∈scope.names,y.2≠.cell:=by decide +kernel)
  (hs:∀ x,foldedSetIterable iter X.env x=pure x:=by intro _; rfl):PS X (.Assign [.Name y py] (.ListComp elt [⟨tg,iter,ifs,0⟩] scope pos) spos) (j5 (ku TN.length ix wi g tt te) (eO i)):=by
 intro pins s σ H D I h;rw [exec_Assign_Name_used _ _ _ _ sv];refine wpAny_bind (wpAny_standAt (wpAny_bind ?_));refine wpAny_bind (wpAny_mono (wpAny_comprehension_free (e:=.ListComp elt [⟨tg,iter,ifs,0⟩] scope pos) (use:=some (assign (.Name y py) X.env)) (cl:=cl) (Q:=fun _ s'=>SP X pins D .next s') rfl hs CC.lG hk bJ
  (EJ (RR:=fun acc C=>compPost (model X.prog X.w) X.A X.xe (some (assign (.Name y py) X.env)) (fun _ s'=>SP X pins D .next s') acc C) hc hi ht fX he CC hk fY I h ?_)) (fun _ s' hq=>wpAny_pure (wpAny_pure hq)) fun _ _ e=>e)
 intro a C s6 H6 I6 hm o q;obtain ⟨m,hn⟩:=hm;refine (show wpAny (model X.prog X.w) X.A (assign (.Name y py) X.env (.ref a)) _ X.xe s6 from ?_);refine wpAny_assign_Name (DO I6 hN rO (.inl pf) (v:=.ref a) rfl (fun s' I' sF=>?_) (.inr pf));obtain ⟨b,sF,hb⟩:=sF;have nb:C≠b:=by
  rcases hb with z | z
  ·rw [z]; exact o.nl
  ·exact fun e=>o.nc y b z e.symm
 exact ⟨m,hn.sameBut sF nb,fun h' hs'=>⟨_,H6,o.go I' hs',q⟩⟩
end
namespace Dv
section
variable {X:Cx}
theorem D5 {elt iter tg:Expr} {g:TG} {ifs:List Expr} {TN caps:List Str} {ix:List Nat} {cl:List (Str×Addr)} {pos:Pos} {scope:Scope} {wi:TI} {tt:TT} {te:TE} (hc:X.calm=true) (hi:QI X tg iter wi)
  (ht:∀ s H ex C,oC (bY X scope cl (TN++caps) s H ex C) ifs tt) (fX:∀ s H ex C,QG (bY X scope cl (TN++caps) s H ex C) tg g) (he:∀ s H ex C,QE (bY X scope cl (TN++caps) s H ex C) elt te) (CC:iC X scope cl caps ix)
  (hk:scope.kind=.function:=by rfl) (bJ:∀ y∈scope.names,y.2=.local→scope.names.lookup y.1=some .local:=by decide +kernel) (fY:∀ y∈scope.names,y.2≠.cell:=by decide +kernel)
  (hs:∀ x,foldedSetIterable iter X.env x=pure x:=by intro _; rfl):QE X (.ListComp elt [⟨tg,iter,ifs,0⟩] scope pos) (ku TN.length ix wi g tt te):=⟨NW hc hi.h (fun s H ex C=>(ht s H ex C).h) (fun s H ex C=>(fX s H ex C).h) (fun s H ex C=>(he s H ex C).h) CC hk bJ fY hs⟩
theorem Ng (i:Nat) {elt iter tg:Expr} {g:TG} {ifs:List Expr} {TN caps:List Str} {ix:List Nat} {cl:List (Str×Addr)} {y:Str} {py pos spos:Pos} {scope:Scope} {wi:TI} {tt:TT} {te:TE} (hc:X.calm=true) (hN:X.N.Nodup) (hi:QI X tg iter wi)
  (ht:∀ s H ex C,oC (bY X scope cl (TN++caps) s H ex C) ifs tt) (fX:∀ s H ex C,QG (bY X scope cl (TN++caps) s H ex C) tg g) (he:∀ s H ex C,QE (bY X scope cl (TN++caps) s H ex C) elt te) (CC:iC X scope cl caps ix) (rO:X.N[i]?=some y:=by rfl) (pf:X.env.scope.names.lookup y=some .local:=by rfl)
  (sv:swapsWith (.ListComp elt [⟨tg,iter,ifs,0⟩] scope pos) (some (.Name y py)) spos.line X.env=pure true:=by rfl)
  (hk:scope.kind=.function:=by rfl) (bJ:∀ y∈scope.names,y.2=.local→scope.names.lookup y.1=some .local:=by decide +kernel) (fY:∀ y∈scope.names,y.2≠.cell:=by decide +kernel)
  (hs:∀ x,foldedSetIterable iter X.env x=pure x:=by intro _; rfl):QS X (.Assign [.Name y py] (.ListComp elt [⟨tg,iter,ifs,0⟩] scope pos) spos) (j5 (ku TN.length ix wi g tt te) (eO i)):=⟨OZ hc hN rO pf hi.h (fun s H ex C=>(ht s H ex C).h) (fun s H ex C=>(fX s H ex C).h) (fun s H ex C=>(he s H ex C).h) CC sv hk bJ fY hs⟩
end
end Dv
section
variable {X:Cx}
end
end L2
namespace L2
open PySem PySem.Spec PyProof.Rows
theorem CV {σ:St} (h:σ.length=1):∃ a,σ=[a]:=by
 match σ,h with
 | [a],_=>exact ⟨a,rfl⟩
theorem dN {f:Str} {v u:V}:∀ {fs:List (Str×V)},fs.lookup f=some u→(ae f v fs).length=fs.length
 | (g,x)::r,h=>by
  rw [show ae f v ((g,x)::r)=(if g=f then (g,v)::r else (g,x)::ae f v r) from rfl];by_cases e:g=f
  ·rw [if_pos e]; rfl
  ·rw [if_neg e];have hb:(f == g)=false:=beq_eq_false_iff_ne.mpr (Ne.symm e);have h':r.lookup f=some u:=by simpa [List.lookup,hb] using h
   rw [List.length_cons,dN h']; rfl
def vW (r:V→List V→Hp→VK→Prop) (to:TE):TE:=fun σ H Q=>to σ H fun x H1=>match x with
 | .ref l=>(match H1 l with
  | some (.lst _)=>r (.ref l) [] H1 Q
  | _=>False)
 | _=>False
section
variable {X:Cx} {name:Str} {id:String} {r:V→List V→Hp→VK→Prop} {o:Expr} {to:TE} {apos bt:Pos}
theorem TM (slot:Slot "list" name id) (b8:typeOf (.builtin id)=pure (.type "method_descriptor")) (hm:cO X id r) (ho:PE X o to)
  (gT:attributeBase o name X.env (eval o X.env)=eval o X.env:=by rfl) (gS:(apos.endLine == bt.line)=true:=by rfl):PE X (.Call (.Attribute o name apos) [] [] bt) (vW r to):=by
 intro pins s σ H Q I h;refine wpAny_Call_method0_late gT gS (aD (ho pins s σ H _ I h) fun v s1 ⟨x,H1,I1,r1,q1⟩=>?_);dsimp only at q1;split at q1
 ·rename_i l;split at q1
  ·rename_i zs el;obtain ⟨h1,h2⟩:=yk (T := "list") I1 r1 (.inl ⟨rfl,zs,aK.of el⟩);exact ⟨"list",id,PySem.F.plainAttrs_list,slot,b8,h1,h2,Calls.callWith_builtin rfl (PySem.evalArgs_none (hm pins s1 σ H1 (.ref l) [] v [] Q I1 r1 .nil q1))⟩
  ·exact q1.elim
 ·exact q1.elim
theorem Dv.UA (slot:Slot "list" name id) (b8:typeOf (.builtin id)=pure (.type "method_descriptor")) (hm:cO X id r) (ho:QE X o to)
  (gT:attributeBase o name X.env (eval o X.env)=eval o X.env:=by rfl) (gS:(apos.endLine == bt.line)=true:=by rfl):QE X (.Call (.Attribute o name apos) [] [] bt) (vW r to):=⟨TM slot b8 hm ho.h gT gS⟩
end
theorem ai.eA {H H1:Hp} {l:Addr} {o:HO} (s:ai H H1) (hl:H l=none):ai H (L2.upd H1 l o):=fun b u e=>by
 rw [ah (fun z=>by rw [z,hl] at e; cases e)]; exact s b u e
end L2
namespace L2
open PySem PySem.Spec PyProof.Rows
section
variable {X:Cx}
def x9:List V→Hp→VK→Prop:=fun xs H Q=>match xs with
 | [.bl b]=>Q (.int (if b then 1 else 0)) H
 | _=>False
theorem sT:cC X (.type "int") x9:=by
 intro pins s σ H xs us Q I r h;unfold x9 at h;split at h
 ·rename_i b;obtain ⟨u,rfl,rx⟩:=vals1 r;cases rx;exact call_int_bool ⟨.int (if b then 1 else 0),H,I.tok _,⟨_,rfl⟩,h⟩
 ·exact h.elim
end
def Ab (K:PySem.W.Frag):R2:=fun x y H Q=>match y with
 | .ref p=>∃ xs,(aK K H p xs∨bV K H p xs)∧cm x=true∧xs.all cm=true∧Q (.bl (!fQ x xs)) H
 | _=>False
theorem ur {X:Cx} {K:PySem.W.Frag} (h:X.K=K):bc X (compareOp .NotIn) (Ab K):=h ▸ Sn.imp fun x y H Q z=>by
 unfold Ab at z;split at z
 ·obtain ⟨xs,z1,z2,z3,z4⟩:=z;exact ⟨_,xs,rfl,z1,z2,z3,z4⟩
 ·exact z.elim
end L2
namespace L2
open PySem PySem.Spec PyProof.Rows
structure FT (K:PySem.W.Frag) (mg:Str→Option Value) (x y:Str) (st:Stmt) (ps:List Str) where
 f:Addr
 d:FuncData
 F:ig K x y st f d
 m:mg x=some (.ref f)
 b:Binds K d ps []
structure MT (K:PySem.W.Frag) (C:Addr) (x y:Str) (st:Stmt) (ps:List Str) where
 f:Addr
 d:FuncData
 F:ig K x y st f d
 h:Meth K C x f
 b:Binds K d ps []
def FA (K:PySem.W.Frag) (x y:Str) (st:Stmt):Prop:=∃ (f:Addr) (oc:Value) (od:Option Addr) (kV dc pm:Value) (an:Option Addr) (cd ct:Value) (sl:Array (Option Value)),
 PySem.W.nsIn K mainGlobals x=some (some (.ref f))∧K.lookup f=some ⟨oc,od,.func (PySem.W.fnOf x y (dM st) (aU st) (aB st) .none kV dc pm an cd ct),sl⟩∧PySem.W.codeIn K cd y=true∧PySem.W.keepIn K (.ref f)=true
def MA (K:PySem.W.Frag) (C:Addr) (x y:Str) (st:Stmt):Prop:=∃ (f:Addr) (oc:Value) (od:Option Addr) (kV dc pm:Value) (an:Option Addr) (cd ct:Value) (sl:Array (Option Value)),
 PySem.W.findIn K (.ref C) x=some (some (.ref f))∧K.lookup f=some ⟨oc,od,.func (PySem.W.fnOf x y (dM st) (aU st) (aB st) .none kV dc pm an cd ct),sl⟩∧PySem.W.codeIn K cd y=true∧PySem.W.keepIn K (.ref f)=true∧PySem.W.isFn K (.ref f)=true
section
variable {K:PySem.W.Frag} {mg:Str→Option Value} {h:Heap} {C:Addr} {x y:Str} {st:Stmt} {ps:List Str}
theorem FA.ft (X:K.In h) (G:h.Ns mainGlobals mg) (ps:List Str) (hb:∀ (kV dc pm:Value) (an:Option Addr) (cd ct:Value) (us:List Value),us.length=ps.length→bindArgs (PySem.W.fnOf x y (dM st) (aU st) (aB st) .none kV dc pm an cd ct) ⟨us,[]⟩=pure (ps.zip us)) (a:FA K x y st):Nonempty (FT K mg x y st ps):=by
 obtain ⟨f,oc,od,kV,dc,pm,an,cd,ct,sl,n,l,c,k⟩:=a;have F:=x8 (st:=st) l c k;exact ⟨⟨f,_,F,PySem.W.mg_of X G n,F.binds hb⟩⟩
theorem MA.ft (ps:List Str) (hb:∀ (kV dc pm:Value) (an:Option Addr) (cd ct:Value) (us:List Value),us.length=ps.length→bindArgs (PySem.W.fnOf x y (dM st) (aU st) (aB st) .none kV dc pm an cd ct) ⟨us,[]⟩=pure (ps.zip us)) (a:MA K C x y st):Nonempty (MT K C x y st ps):=by
 obtain ⟨f,oc,od,kV,dc,pm,an,cd,ct,sl,n,l,c,k,t⟩:=a;have F:=x8 (st:=st) l c k;exact ⟨⟨f,_,F,⟨n,t,k⟩,F.binds hb⟩⟩
end
end L2
namespace L2
open PySem PySem.Spec PyProof.Rows
section
variable {K:PySem.W.Frag} {mg:Str→Option Value} {h:Heap} {C:Addr} {x y:Str} {st:Stmt} {ps:List Str}
theorem FA.mk {f:Addr} {oc:Value} {od:Option Addr} {kV dc pm:Value} {an:Option Addr} {cd ct:Value} {sl:Array (Option Value)} (n:PySem.W.nsIn K mainGlobals x=some (some (.ref f))) (l:K.lookup f=some ⟨oc,od,.func (PySem.W.fnOf x y (dM st) (aU st) (aB st) .none kV dc pm an cd ct),sl⟩) (c:PySem.W.codeIn K cd y=true) (k:PySem.W.keepIn K (.ref f)=true):FA K x y st:=⟨_,_,_,_,_,_,_,_,_,_,n,l,c,k⟩
theorem MA.mk {f:Addr} {oc:Value} {od:Option Addr} {kV dc pm:Value} {an:Option Addr} {cd ct:Value} {sl:Array (Option Value)} (n:PySem.W.findIn K (.ref C) x=some (some (.ref f))) (l:K.lookup f=some ⟨oc,od,.func (PySem.W.fnOf x y (dM st) (aU st) (aB st) .none kV dc pm an cd ct),sl⟩) (c:PySem.W.codeIn K cd y=true) (k:PySem.W.keepIn K (.ref f)=true) (t:PySem.W.isFn K (.ref f)=true):MA K C x y st:=⟨_,_,_,_,_,_,_,_,_,_,n,l,c,k,t⟩
theorem FA.gt (X:K.In h) (G:h.Ns mainGlobals mg) (hb:∀ (kV dc pm:Value) (an:Option Addr) (cd ct:Value) (us:List Value),us.length=ps.length→bindArgs (PySem.W.fnOf x y (dM st) (aU st) (aB st) .none kV dc pm an cd ct) ⟨us,[]⟩=pure (ps.zip us)) (a:FA K x y st):Nonempty (FT K mg x y st ps):=FA.ft X G ps hb a
theorem MA.gt (hb:∀ (kV dc pm:Value) (an:Option Addr) (cd ct:Value) (us:List Value),us.length=ps.length→bindArgs (PySem.W.fnOf x y (dM st) (aU st) (aB st) .none kV dc pm an cd ct) ⟨us,[]⟩=pure (ps.zip us)) (a:MA K C x y st):Nonempty (MT K C x y st ps):=MA.ft ps hb a
theorem Oz {M:MT K C "__init__" y st ps} (a:PySem.W.makesIn K C=true) (b:PySem.W.keepIn K (.ref C)=true):Mk K C M.f:=⟨a,M.h.at_,M.h.fn,b⟩
theorem ic {dt:Addr} {kV doc pm az ct:Value} {an:Option Addr} {o:Obj} {n:Nat} {ds:List Value} (j:Nat) (ld:K.lookup dt=some o) (hd:o.data=.seq ds.toArray n)
  (h:∀ (dt:Addr) (kV doc pm:Value) (an:Option Addr) (az ct:Value) (us:List Value),(us++ds.drop j).length=ps.length →
   ∃ k,bindArgs (PySem.W.fnOf x y (dM st) (aU st) (aB st) (.ref dt) kV doc pm an az ct) ⟨us,[]⟩=seqItems? (.ref dt) >>= k∧k (some ds.toArray)=pure (ps.zip (us++ds.drop j))) :
  Binds K (PySem.W.fnOf x y (dM st) (aU st) (aB st) (.ref dt) kV doc pm an az ct) ps (ds.drop j):=by
 intro s us X hl;obtain ⟨k,h1,h2⟩:=h dt kV doc pm an az ct us hl;exact BindsTo.of_defaults rfl (X _ _ ld) hd h1 h2
end
end L2
namespace L2
open PySem PySem.Spec PyProof.Rows
section
variable {X:Cx} {tg:Expr}
end
end L2
namespace L2
open PySem PySem.Spec PyProof.Rows
section
variable {X:Cx}
def yB:List V→Hp→VK→Prop:=fun xs H Q=>match xs with
 | [.int a]=>a.natAbs.log2 < 1920∧Q (.str (Str.ofString (toString a))) H
 | _=>False
theorem KD:cC X (.type "str") yB:=by
 intro pins s σ H xs us Q I r h;unfold yB at h;split at h
 ·rename_i a;obtain ⟨hl,h⟩:=h;obtain ⟨u,rfl,rx⟩:=vals1 r;obtain ⟨t,rfl⟩:=rx;exact PySem.P.str_of_int hl ⟨.str (Str.ofString (toString a)),H,I.tok _,⟨_,rfl⟩,h⟩
 ·exact h.elim
end
end L2
namespace L2
open PySem PySem.Spec PyProof.Rows
section
variable {X:Cx}
def zJ:V→List V→Hp→VK→Prop:=fun x vs H Q=>match x,vs with
 | .ref l,[.int 0]=>∃ y xs,H l=some (.lst (y::xs))∧Q y (upd H l (.lst xs))
 | _,_=>False
theorem Om:cO X "list.pop" zJ:=cO.imp (r:=GK) Pq fun x vs H Q h=>by
 unfold zJ at h;split at h
 ·obtain ⟨y,xs,hl,q⟩:=h;exact ⟨_,y::xs,0,0,y,rfl,rfl,hl,by decide,by decide,by simp [seqIndex?],rfl,q⟩
 ·exact h.elim
end
end L2
namespace L2
open PySem PySem.Spec PyProof.Rows
section
variable {X:Cx}
theorem uI {A:Around} {s:Shared} {xs ys:List V} {i1 i2:List Value} (r1:Vals xs i1) (r2:Vals ys i2) (f1:xs.all cm=true) (f2:ys.all cm=true) (he:∀ i (h1:i < xs.length) (h2:i < ys.length),eN xs[i] ys[i]=true) (j:Nat) (g1:j < i1.toArray.size) (g2:j < i2.toArray.size):SeqAt.EqAt A s i1.toArray[j] i2.toArray[j] true:=by
 have j1:j < xs.length:=by rw [r1.length]; simpa using g1
 have j2:j < ys.length:=by rw [r2.length]; simpa using g2
 obtain ⟨u1,e1,ru1⟩:=r1.get (List.getElem?_eq_getElem j1);obtain ⟨u2,e2,ru2⟩:=r2.get (List.getElem?_eq_getElem j2);have w1:i1.toArray[j]=u1:=by
  have:=(List.getElem?_eq_some_iff.mp e1).2
  simpa using this
 have w2:i2.toArray[j]=u2:=by
  have:=(List.getElem?_eq_some_iff.mp e2).2
  simpa using this
 rw [w1,w2];have:=BW (A:=A) (s:=s) ru1 ru2 (List.all_eq_true.mp f1 _ (List.getElem_mem j1)) (List.all_eq_true.mp f2 _ (List.getElem_mem j2));rw [he j j1 j2] at this;exact this
theorem all_true (n:Nat):(List.range n).all (fun _=>true)=true:=by rw [List.all_eq_true]; exact fun _ _=>rfl
def fR (K:PySem.W.Frag) (neg:Bool):R2:=fun x y H Q=>match x,y with
 | .ref a,.ref b=>∃ xs ys:List V,(aK K H a xs∧aK K H b ys∨bV K H a xs∧bV K H b ys)∧xs.length=ys.length∧xs.all cm=true∧ys.all cm=true∧(∀ i (h1:i < xs.length) (h2:i < ys.length),eN xs[i] ys[i]=true)∧Q (.bl (!neg)) H
 | _,_=>False
theorem yg {K:PySem.W.Frag} (hK:X.K=K) (hu:X.A.units < cLine):bc X (compareOp .Eq) (fR K false):=by
 subst hK;intro pins s σ H x y v u Q I rx ry h;unfold fR at h;split at h
 ·obtain ⟨xs,ys,eK,hl,f1,f2,he,q⟩:=h;cases rx; cases ry;rcases eK with ⟨ha,hb⟩ | ⟨ha,hb⟩
  ·obtain ⟨i1,r1,p1,_⟩:=I.list ha;obtain ⟨i2,r2,p2,_⟩:=I.list hb;have hsz:i1.toArray.size=i2.toArray.size:=by rw [List.size_toArray,List.size_toArray,← r1.length,← r2.length,hl]
   have k:=SeqAt.RcAt.lists (A:=X.A) (s:=s) (e:=fun _=>true) p1.isList p2.isList hsz hu (fun j g1 g2=>uI r1 r2 f1 f2 he j g1 g2);rw [all_true] at k;exact k _ _ _ _ ⟨.bl _,H,I,rfl,q⟩
  ·obtain ⟨i1,r1,p1,_⟩:=I.tuple ha;obtain ⟨i2,r2,p2,_⟩:=I.tuple hb;have hsz:i1.toArray.size=i2.toArray.size:=by rw [List.size_toArray,List.size_toArray,← r1.length,← r2.length,hl]
   have k:=SeqAt.RcAt.tuples (A:=X.A) (s:=s) (e:=fun _=>true) p1 p2 hu (fun j g1 g2=>uI r1 r2 f1 f2 he j g1 g2);rw [all_true,hsz,beq_self_eq_true,Bool.and_self] at k;exact k _ _ _ _ ⟨.bl _,H,I,rfl,q⟩
 ·exact h.elim
theorem Du {K:PySem.W.Frag} (hK:X.K=K) (hu:X.A.units < cLine):bc X (compareOp .NotEq) (fR K true):=by
 subst hK;intro pins s σ H x y v u Q I rx ry h;unfold fR at h;split at h
 ·obtain ⟨xs,ys,eK,hl,f1,f2,he,q⟩:=h;cases rx; cases ry;rcases eK with ⟨ha,hb⟩ | ⟨ha,hb⟩
  ·obtain ⟨i1,r1,p1,_⟩:=I.list ha;obtain ⟨i2,r2,p2,_⟩:=I.list hb;have hsz:i1.toArray.size=i2.toArray.size:=by rw [List.size_toArray,List.size_toArray,← r1.length,← r2.length,hl]
   have k:=SeqAt.RcNeAt.lists (A:=X.A) (s:=s) (e:=fun _=>true) p1.isList p2.isList hsz hu (fun j g1 g2=>uI r1 r2 f1 f2 he j g1 g2);rw [all_true] at k;exact k _ _ _ _ ⟨.bl _,H,I,rfl,q⟩
  ·obtain ⟨i1,r1,p1,_⟩:=I.tuple ha;obtain ⟨i2,r2,p2,_⟩:=I.tuple hb;have hsz:i1.toArray.size=i2.toArray.size:=by rw [List.size_toArray,List.size_toArray,← r1.length,← r2.length,hl]
   have k:=SeqAt.RcNeAt.tuples (A:=X.A) (s:=s) (e:=fun _=>true) p1 p2 hu (fun j g1 g2=>uI r1 r2 f1 f2 he j g1 g2);rw [all_true,hsz,beq_self_eq_true,Bool.and_self] at k;exact k _ _ _ _ ⟨.bl _,H,I,rfl,q⟩
 ·exact h.elim
theorem TV {v:V} (h:cm v=true):eN v v=true:=by
 cases v <;> first | rfl | (cases h; done) | simp [eN]
theorem fR.same {K:PySem.W.Frag} {neg:Bool} {a b:Addr} {xs:List V} {H:Hp} {Q:VK} (h:aK K H a xs∧aK K H b xs∨bV K H a xs∧bV K H b xs) (f:xs.all cm=true) (q:Q (.bl (!neg)) H):fR K neg (.ref a) (.ref b) H Q :=
 ⟨xs,xs,h,rfl,f,f,fun i h1 _=>TV (List.all_eq_true.mp f _ (List.getElem_mem h1)),q⟩
end
end L2
namespace L2
open PySem PySem.Spec PyProof.Rows
def lQ {α:Type} (us ws:List α):List α:=if ws.length=1 then us++ws else []
section
variable {K:PySem.W.Frag} {x qual nm:Str} {st:Stmt} {f:Addr} {fd:FuncData} {ps:List Str} {ds:List Value}
theorem Pf {α:Type} {a b c d:α}:lQ [a,b,c] [d]=[a,b,c,d]:=rfl
theorem Ui {vs:List V} {us:List Value} {zs:List V} {ws:List Value} (r:Vals vs us) (q:Vals zs ws):Vals (lQ vs zs) (lQ us ws):=by
 unfold lQ;rw [q.length];split
 ·exact r.append q
 ·exact .nil
theorem Lh (F:gZ K x qual st f fd ds) (hp:ps.length=4) (h:∀ (dt:Addr) (kV doc pm:Value) (an:Option Addr) (az ct a b c d:Value),
   ∃ k,bindArgs (PySem.W.fnOf x qual (dM st) (aU st) (aB st) (.ref dt) kV doc pm an az ct) ⟨[a,b,c],[(nm,d)]⟩=seqItems? (.ref dt) >>= k∧k (some ds.toArray)=pure (ps.zip [a,b,c,d])):uE K fd ps [nm] lQ lQ where
 to:=by
  obtain ⟨oc,od,dt,kV,doc,pm,an,az,ct,cZ,o,n,rfl,lk,cE,ldt,o7⟩:=F.ex;intro s us ws X hl;unfold lQ at hl ⊢;split at hl
  ·rename_i h1;rw [if_pos h1];rw [List.length_append,h1,hp] at hl;obtain ⟨d,rfl⟩:=List.length_eq_one_iff.mp h1;have h3:us.length=3:=by omega
   obtain ⟨a,b,c,rfl⟩:∃ a b c,us=[a,b,c]:=by
    match us,h3 with
    | [a,b,c],_=>exact ⟨a,b,c,rfl⟩
   obtain ⟨k,h1,h2⟩:=h dt kV doc pm an az ct a b c d;exact BindsTo.of_defaults rfl (X _ _ ldt) o7 h1 h2
  ·rw [hp] at hl; cases hl
 rel:=Ui
end
section
variable {X:Cx}
theorem Dv.Np {CX:dh} {k:Nat} {f:Addr} {fd:FuncData} {ps:List Str} {sp:Sp} {E:XK} {x nm:Str} {p pos vn:Pos} {e e2:Expr} {es:List Expr} {t:TA} {te:TE} {g:List Value→List Value→List Value} {gV:List V→List V→List V}
  (F:aA X.prog X.w X.K X.mg X.base CX k f fd ps sp) (hr:bz k X.A) (hm:X.mg x=some (.ref f)) (hk:PySem.W.keepIn X.K (.ref f)=true) (hb:uE X.K fd ps [nm] g gV) (hx:Passes CX X E)
  (ha:QA X (e::es) t) (BO:QE X e2 te) (hg:Gl X x:=by rfl) (bF:(x == ("__debug__" : Str))=false:=by decide) (he:starEach (e::es) X.env=(false,eval e X.env)::starEach es X.env:=by rfl)
  (bg:((backTo pos (starEach (e::es) X.env)).any (·.1) || (backToKw pos (keywordEach [⟨some nm,e2,vn⟩] X.env)).any (·.1.isNone))=false:=by rfl) :
  QE X (.Call (.Name x p) (e::es) [⟨some nm,e2,vn⟩] pos) (yG sp gV E t (gL te gn)) :=
 ⟨Ko F hr hg hm hk hb hx ha.h (UC BO.h Q0) rfl rfl bF he bg⟩
end
end L2
namespace L2
open PySem PySem.Spec PyProof.Rows
def sN (J:It) (n:Nat) (vs:List V) (g:TG) (tt:TT) (te:TE) (Q:VK) (H1:Hp):Prop:=∃ W:Nat→List V→Nat→Hp→Prop,(∃ m,W 0 [] m H1)∧∀ i ys m H,W i ys m H →
 ys.length≤sizeLine∧((J.stop i H∧∀ l,H l=none→Q (.ref l) (upd H l (.lst ys))) ∨
  (J.go i H∧ys.length < sizeLine∧∀ y H',J.i9 i H y H'→∀ σ0:St,σ0.length=n→g y (σ0++vs.map some) H' fun σ1 H1=>(∃ σ2:St,σ1=σ2++vs.map some∧σ2.length=n) ∧
   tt σ1 H1 fun c H2=>if c=true then te σ1 H2 fun z H3=>∃ m',m' < m∧W (i+1) (ys++[z]) m' H3 else ∃ m',m' < m∧W (i+1) ys m' H2))
theorem zo {n:Nat} {ix:List Nat} {wi:TI} {g:TG} {tt:TT} {te:TE} {σ:St} {H:Hp} {Q:VK}:ku n ix wi g tt te σ H Q=∃ vs,za ix σ vs∧wi σ H fun J H1=>sN J n vs g tt te Q H1:=rfl
theorem Rj {K:PySem.W.Frag} {l:Addr} {xs:List V} {te:TE} {H:Hp} {Q:VK} {vs:List V} (f:V→V) (hs:aK K H l xs) (hz:xs.length≤1000) (he:∀ x∈xs,∀ R:VK,R (f x) H→te (some x::vs.map some) H R)
  (q:∀ l',H l'=none→Q (.ref l') (upd H l' (.lst (xs.map f)))):sN (ij K l) 1 vs (eO 0) g7 te Q H:=by
 have hsz:xs.length≤sizeLine:=fits hz;refine ⟨fun i zs k H1=>H1=H∧zs=(xs.take i).map f∧i≤xs.length∧k=xs.length - i,⟨_,rfl,rfl,Nat.zero_le _,rfl⟩,?_⟩;rintro i zs k H1 ⟨rfl,rfl,hi,rfl⟩;have hlen:((xs.take i).map f).length=i:=by rw [List.length_map,List.length_take]; omega
 refine ⟨by omega,?_⟩;by_cases h:i < xs.length
 ·have hx:xs[i]?=some xs[i]:=List.getElem?_eq_getElem h;refine .inr ⟨⟨xs,xs[i],hs,hx⟩,by omega,?_⟩;rintro y H' ⟨rfl,hy⟩ σ0 hσ0;obtain ⟨a,rfl⟩:=CV hσ0;have kQ:=hy xs hs;refine ⟨⟨[some y],rfl,rfl⟩,?_⟩;show g7 _ _ _;unfold g7;dsimp only;rw [if_pos rfl];exact he y (List.mem_of_getElem? kQ) _ ⟨xs.length - (i+1),by omega,rfl,by rw [List.take_add_one,kQ,List.map_append]; rfl,h,rfl⟩
 ·have e:i=xs.length:=by omega
  subst e;refine .inl ⟨⟨xs,hs,Nat.le_refl _⟩,fun l' hl'=>?_⟩;have:=q l' hl';rw [List.take_of_length_le (Nat.le_refl _)];exact this
end L2
namespace L2
open PySem PySem.Spec PyProof.Rows
theorem Ec {X:Cx} {K:PySem.W.Frag} (h:X.K=K):f7 X (F6 K):=h ▸ Vh
end L2
namespace L2
open PySem PySem.Spec PyProof.Rows
theorem Pd {K:PySem.W.Frag} {C:Addr} {y:Str} {st:Stmt} {ps:List Str} {fld:Str} {M:MT K C "__init__" y st ps} (q:uG K C=true) (sa:PySem.W.findIn K (.ref C) "__setattr__" = some (some (.builtin "object.__setattr__"))) (na:PySem.W.findIn K (.ref C) fld=some none) (ob:PySem.W.mroIn K C (.type "object")=some true)
  (be:PySem.W.mroIn K C (.type "BaseException")=some true) (self:PySem.W.mroIn K C (.ref C)=some true) (kp:PySem.W.keepIn K (.ref C)=true):iq K C M.f fld:=⟨q,M.h.at_,eq_of_beq M.h.fn,sa,na,ob,be,self,kp⟩
end L2
open PySem PySem.Spec PyProof.Rows
namespace L2
section
variable {X:Cx}
def xr (n b:Bool):Bool:=match n with | false=>b | true=>!b
theorem xJ (n b:Bool):(n ^^ b)=xr n b:=by cases n <;> cases b <;> rfl
def nu (neg:Bool):R2:=fun x y H Q=>match x,y with
 | .int i,.int j=>Q (.bl (xr neg (decide (i=j)))) H
 | .str i,.str j=>Q (.bl (xr neg (decide (i=j)))) H
 | .bl i,.bl j=>Q (.bl (xr neg (decide (i=j)))) H
 | _,_=>tJ x y=true∧Q (.bl (xr neg (decide (x=y)))) H
theorem Dj (neg:Bool):om neg=nu neg:=by
 funext x y H Q; unfold om nu; simp only [xJ] <;> rfl
theorem cv:bc X (compareOp .Eq) (nu false):=Dj false ▸ QC
theorem kE:bc X (compareOp .NotEq) (nu true):=Dj true ▸ Ru
def pS (neg:Bool):R2:=fun x y H Q=>match x,y with
 | .ref a,.ref b=>∃ ts us:List Str,H a=some (.lst (ts.map V.str))∧H b=some (.lst (us.map V.str))∧Q (.bl (xr neg (decide (ts=us)))) H
 | _,_=>False
theorem Hd (neg:Bool):nh neg=pS neg:=by
 funext x y H Q; unfold nh pS; simp only [xJ] <;> rfl
theorem xI (hu:X.A.units < cLine):bc X (compareOp .Eq) (pS false):=Hd false ▸ Og hu
theorem sO (hu:X.A.units < cLine):bc X (compareOp .NotEq) (pS true):=Hd true ▸ Pm hu
def ua (K:PySem.W.Frag) (neg:Bool):R2:=fun x y H Q=>match x,y with
 | .ref a,.ref b=>∃ xs ys:List V,aK K H a xs∧aK K H b ys∧((ys=[]∧Q (.bl (xr neg xs.isEmpty)) H)∨(xs=[]∧Q (.bl (xr neg ys.isEmpty)) H))
 | _,_=>False
theorem Nu {K:PySem.W.Frag} (neg:Bool):ug K neg=ua K neg:=by
 funext x y H Q; unfold ug ua; simp only [xJ] <;> rfl
theorem QD {K:PySem.W.Frag} (hK:X.K=K) (hu:X.A.units < cLine):bc X (compareOp .NotEq) (ua K true):=Nu (K:=K) true ▸ Vn hK hu
end
end L2
namespace L2
open PySem PySem.Spec PyProof.Rows
theorem Kc {J:It} {tt:TT} {te:TE} {Q:VK} {H:Hp}:m4 J tt te Q H ↔ sN J 1 [] (eO 0) tt te Q H:=by
 constructor
 ·rintro ⟨W,w0,h⟩;refine ⟨W,w0,fun i ys m H hw=>⟨(h i ys m H hw).1,(h i ys m H hw).2.imp_right fun z=>⟨z.1,z.2.1,fun y H' hy σ0 hσ=>?_⟩⟩⟩;obtain ⟨a,rfl⟩:=CV hσ;exact ⟨⟨[some y],rfl,rfl⟩,z.2.2 y H' hy⟩
 ·rintro ⟨W,w0,h⟩;exact ⟨W,w0,fun i ys m H hw=>⟨(h i ys m H hw).1,(h i ys m H hw).2.imp_right fun z=>⟨z.1,z.2.1,fun y H' hy=>(z.2.2 y H' hy [none] rfl).2⟩⟩⟩
theorem Gu {wi:TI} {tt:TT} {te:TE} {σ:St} {H:Hp} {Q:VK} (h:tY wi tt te σ H Q):ku 1 [] wi (eO 0) tt te σ H Q:=by
 rw [DC] at h;rw [zo];have e:(fun (J:It) H1=>m4 J tt te Q H1)=fun J H1=>sN J 1 [] (eO 0) tt te Q H1:=by funext J H1; exact propext Kc
 rw [e] at h;exact ⟨[],⟨rfl,by simp⟩,h⟩
section
variable {X:Cx}
theorem Dv.Fo {elt iter tg:Expr} {ifs:List Expr} {x:Str} {cl:List (Str×Addr)} {pos:Pos} {scope:Scope} {wi:TI} {tt:TT} {te:TE} (hc:X.calm=true) (hi:QI X tg iter wi)
  (ht:∀ s H ex C,oC (bY X scope cl ([x]++[]) s H ex C) ifs tt) (fX:∀ s H ex C,QG (bY X scope cl ([x]++[]) s H ex C) tg (eO 0)) (he:∀ s H ex C,QE (bY X scope cl ([x]++[]) s H ex C) elt te) (CC:iC X scope cl [] [])
  (hk:scope.kind=.function:=by rfl) (bJ:∀ y∈scope.names,y.2=.local→scope.names.lookup y.1=some .local:=by decide +kernel) (fY:∀ y∈scope.names,y.2≠.cell:=by decide +kernel)
  (hs:∀ x,foldedSetIterable iter X.env x=pure x:=by intro _; rfl):QE X (.ListComp elt [⟨tg,iter,ifs,0⟩] scope pos) (tY wi tt te) :=
 ⟨fun pins s σ H Q I h=>(Dv.D5 hc hi ht fX he CC hk bJ fY hs).h pins s σ H Q I (Gu h)⟩
theorem Dv.zR (i:Nat) {elt iter tg:Expr} {ifs:List Expr} {x:Str} {cl:List (Str×Addr)} {y:Str} {py pos spos:Pos} {scope:Scope} {wi:TI} {tt:TT} {te:TE} (hc:X.calm=true) (hN:X.N.Nodup) (hi:QI X tg iter wi)
  (ht:∀ s H ex C,oC (bY X scope cl ([x]++[]) s H ex C) ifs tt) (fX:∀ s H ex C,QG (bY X scope cl ([x]++[]) s H ex C) tg (eO 0)) (he:∀ s H ex C,QE (bY X scope cl ([x]++[]) s H ex C) elt te) (CC:iC X scope cl [] []) (rO:X.N[i]?=some y:=by rfl) (pf:X.env.scope.names.lookup y=some .local:=by rfl)
  (sv:swapsWith (.ListComp elt [⟨tg,iter,ifs,0⟩] scope pos) (some (.Name y py)) spos.line X.env=pure true:=by rfl)
  (hk:scope.kind=.function:=by rfl) (bJ:∀ y∈scope.names,y.2=.local→scope.names.lookup y.1=some .local:=by decide +kernel) (fY:∀ y∈scope.names,y.2≠.cell:=by decide +kernel)
  (hs:∀ x,foldedSetIterable iter X.env x=pure x:=by intro _; rfl):QS X (.Assign [.Name y py] (.ListComp elt [⟨tg,iter,ifs,0⟩] scope pos) spos) (j5 (tY wi tt te) (eO i)) :=
 ⟨fun pins s σ H D I h=>(Dv.Ng i hc hN hi ht fX he CC rO pf sv hk bJ fY hs).h pins s σ H D I (Gu h)⟩
end
end L2
namespace L2
theorem Fj {α:Type} {C:List α→Prop} (h:C []):∀ us:List α,us.length=0→C us
 | [],_=>h
theorem lF {α:Type} {C:List α→Prop} {n:Nat} (h:∀ a us,us.length=n→C (a::us)):∀ us:List α,us.length=n+1→C us
 | a::us,e=>h a us (Nat.succ.inj e)
theorem E4 {α:Type} {C:List α→Prop} (h:∀ a,C [a]):∀ us:List α,us.length=1→C us:=lF fun a=>Fj (C:=fun us=>C (a::us)) (h a)
theorem D2 {α:Type} {C:List α→Prop} (h:∀ a b,C [a,b]):∀ us:List α,us.length=2→C us:=lF fun a=>E4 (C:=fun us=>C (a::us)) (h a)
theorem qa {α:Type} {C:List α→Prop} (h:∀ a b c,C [a,b,c]):∀ us:List α,us.length=3→C us:=lF fun a=>D2 (C:=fun us=>C (a::us)) (h a)
theorem oQ {α:Type} {C:List α→Prop} (h:∀ a b c d,C [a,b,c,d]):∀ us:List α,us.length=4→C us:=lF fun a=>qa (C:=fun us=>C (a::us)) (h a)
theorem ux {α:Type} {C:List α→Prop} (h:∀ a b c d e,C [a,b,c,d,e]):∀ us:List α,us.length=5→C us:=lF fun a=>oQ (C:=fun us=>C (a::us)) (h a)
theorem xF {α:Type} {C:List α→Prop} (h:∀ a b c d e f,C [a,b,c,d,e,f]):∀ us:List α,us.length=6→C us:=lF fun a=>ux (C:=fun us=>C (a::us)) (h a)
theorem S4 {α:Type} {C:List α→Prop} (h:∀ a b c d e f g,C [a,b,c,d,e,f,g]):∀ us:List α,us.length=7→C us:=lF fun a=>xF (C:=fun us=>C (a::us)) (h a)
end L2
set_option maxHeartbeats 0
namespace L2.bB
open PySem PySem.Spec PyProof.Rows
local macro_rules | `(tactic| walk_at "s")=>`(tactic| exact ⟨rfl,rfl,rfl,by decide +kernel,rfl,by decide +kernel,by decide +kernel⟩)
def top (i:Nat):Stmt:=PySem.Challenge.pw_leadnames_k31_walks_by_names_and_dots.main.body.getD i (.Pass ⟨0,0,0,0⟩)
abbrev Hh:Stmt:=top 2
abbrev Ft:Stmt:=top 3
abbrev De:Stmt:=top 4
abbrev zS:Stmt:=top 5
abbrev E5:Stmt:=top 25
abbrev Gr:Stmt:=top 26
abbrev FU:Stmt:=top 27
abbrev Er:Stmt:=top 28
abbrev Gb:Stmt:=top 29
abbrev Hj:Stmt:=top 30
abbrev Dz:Stmt:=top 31
abbrev Em:Stmt:=top 32
abbrev Ce:Stmt:=top 33
abbrev Hm:Stmt:=top 34
abbrev v8:Stmt:=top 47
abbrev vU:Stmt:=top 49
abbrev zK:Stmt:=top 50
abbrev rH:Stmt:=top 51
abbrev rA:Stmt:=top 52
abbrev wJ:Stmt:=top 58
abbrev yS:Stmt:=top 59
abbrev zB:Stmt:=top 60
abbrev yA:Stmt:=top 61
abbrev FY:Stmt:=top 62
abbrev yC:Stmt:=top 63
abbrev wD:Stmt:=top 64
abbrev xn:Stmt:=top 65
abbrev vT:Stmt:=top 66
abbrev ye:Stmt:=top 67
abbrev zE:Stmt:=top 68
abbrev zN:Stmt:=top 69
abbrev oq:Stmt:=top 70
abbrev nq:Stmt:=top 71
abbrev xC:Stmt:=top 72
abbrev vQ:Stmt:=top 74
abbrev HD:Stmt:=top 76
abbrev Ff:Stmt:=top 77
abbrev yu:Stmt:=top 78
abbrev zj:Stmt:=top 79
abbrev yO:Stmt:=top 80
abbrev y4:Stmt:=top 81
abbrev xc:Stmt:=top 82
abbrev zy:Stmt:=top 83
abbrev yW:Stmt:=top 84
abbrev zA:Stmt:=top 85
abbrev xo:Stmt:=top 86
abbrev wj:Stmt:=top 87
abbrev zL:Stmt:=top 88
abbrev xx:Stmt:=top 89
abbrev wQ:Stmt:=top 91
abbrev zD:Stmt:=top 92
abbrev xS:Stmt:=top 93
abbrev wm:Stmt:=top 94
abbrev w6:Stmt:=top 95
abbrev xD:Stmt:=top 96
theorem OH:aH ["house", "folder"] ["house", "folder"] (aB Hh):=by walk_at "s"
theorem wW:aH ["house", "folder", "base"] ["house", "folder"] (aB Ft):=by walk_at "s"
theorem Ep:aH ["house", "folder", "stack"] ["house", "folder"] (aB De):=by walk_at "s"
theorem lB:aH ["house", "asker", "folder", "root", "here", "stack", "place"] ["house", "asker", "folder"] (aB zS):=by walk_at "s"
theorem S8:aH ["number"] ["number"] (aB E5):=by walk_at "s"
theorem MY:aH ["text"] ["text"] (aB Gr):=by walk_at "s"
theorem Ss:aH ["text"] ["text"] (aB FU):=by walk_at "s"
theorem UD:aH ["text"] ["text"] (aB Er):=by walk_at "s"
theorem Tv:aH ["text"] ["text"] (aB Gb):=by walk_at "s"
theorem Gf:aH ["path", "parts"] ["path"] (aB Hj):=by walk_at "s"
theorem Qb:aH ["text"] ["text"] (aB Dz):=by walk_at "s"
theorem LH:aH ["text"] ["text"] (aB Em):=by walk_at "s"
theorem Nn:aH ["text"] ["text"] (aB Ce):=by walk_at "s"
theorem Ly:aH ["text"] ["text"] (aB Hm):=by walk_at "s"
theorem mY:aH ["house", "asker", "folder", "root", "names", "stack", "place"] ["house", "asker", "folder"] (aB v8):=by walk_at "s"
theorem B4:aH ["house", "asker", "from_root", "parts", "last", "ended"] ["house", "asker", "from_root", "parts", "last"] (aB vU):=by walk_at "s"
theorem Gs:aH ["house", "asker", "path", "last", "read"] ["house", "asker", "path", "last"] (aB zK):=by walk_at "s"
theorem Kb:aH ["house", "asker", "path", "last"] ["house", "asker", "path", "last"] (aB rH):=by walk_at "s"
theorem LF:aH ["house", "asker", "path", "last"] ["house", "asker", "path", "last"] (aB rA):=by walk_at "s"
theorem EK:aH ["path", "parts"] ["path"] (aB wJ):=by walk_at "s"
theorem xV:aH ["house", "asker", "path", "asked", "ended"] ["house", "asker", "path"] (aB yS):=by walk_at "s"
theorem LQ:aH ["house", "seat"] ["house", "seat"] (aB zB):=by walk_at "s"
theorem MZ:aH ["told"] ["told"] (aB yA):=by walk_at "s"
theorem Ra:aH ["house", "number"] ["house", "number"] (aB FY):=by walk_at "s"
theorem Pj:aH ["house", "asker", "path"] ["house", "asker", "path"] (aB yC):=by walk_at "s"
theorem DE:aH ["house", "asker", "path", "number"] ["house", "asker", "path"] (aB wD):=by walk_at "s"
theorem OD:aH ["house", "asker", "number", "right", "reason"] ["house", "asker", "number", "right", "reason"] (aB xn):=by walk_at "s"
theorem UE:aH ["house", "asker", "folder"] ["house", "asker", "folder"] (aB vT):=by walk_at "s"
theorem Ro:aH ["house", "seat"] ["house", "seat"] (aB ye):=by walk_at "s"
theorem Fd:aH ["house", "asker", "path", "seat"] ["house", "asker", "path"] (aB zE):=by walk_at "s"
theorem KQ:aH ["house", "seat", "number"] ["house", "seat", "number"] (aB zN):=by walk_at "s"
theorem C1:aH ["house", "asker", "path", "mine", "rest", "seat"] ["house", "asker", "path", "mine", "rest"] (aB oq):=by walk_at "s"
theorem E8:aH ["house", "asker", "path", "text", "mine", "rest", "seat"] ["house", "asker", "path", "text", "mine", "rest"] (aB nq):=by walk_at "s"
theorem GX:aH ["house", "asker", "path", "mine", "rest", "number"] ["house", "asker", "path", "mine", "rest"] (aB xC):=by walk_at "s"
theorem TR:aH ["house", "asker", "path"] ["house", "asker", "path"] (aB vQ):=by walk_at "s"
theorem PY:aH ["_law_script", "_law_k"] ["_law_script", "_law_k"] (aB HD):=by walk_at "s"
theorem uv:aH ["_law_state", "_law_base", "_law_found", "_law_number"] ["_law_state", "_law_base"] (aB Ff):=by walk_at "s"
theorem UR:aH ["_law_state"] ["_law_state"] (aB yu):=by walk_at "s"
theorem ni:aH ["_law_state", "_law_most", "_law_parts_here", "_law_k", "_law_name", "_law_text"] ["_law_state", "_law_most"] (aB zj):=by walk_at "s"
theorem VY:aH ["_law_state"] ["_law_state"] (aB yO):=by walk_at "s"
theorem Ll:aH ["_law_house_here", "_law_asker", "_law_kind", "_law_path_here", "_law_state"] ["_law_house_here", "_law_asker", "_law_kind", "_law_path_here", "_law_state"] (aB y4):=by walk_at "s"
theorem Qz:aH ["_law_house_here", "_law_asker", "_law_kind", "_law_path_here", "_law_state"] ["_law_house_here", "_law_asker", "_law_kind", "_law_path_here", "_law_state"] (aB xc):=by walk_at "s"
theorem Gh:aH ["_law_house_here", "_law_folder", "_law_tree"] ["_law_house_here", "_law_folder"] (aB zy):=by walk_at "s"
theorem um:aH ["_law_house_here", "_law_folder", "_law_found", "_law_turn", "_law_tree"] ["_law_house_here", "_law_folder"] (aB yW):=by walk_at "s"
theorem rl:aH ["_law_house_here", "_law_asker", "_law_folder", "_law_stack_here", "_law_place"] ["_law_house_here", "_law_asker", "_law_folder"] (aB zA):=by walk_at "s"
theorem qC:aH ["_law_house_here", "_law_asker", "_law_folder", "_law_name", "_law_names", "_law_one"] ["_law_house_here", "_law_asker", "_law_folder", "_law_name"] (aB xo):=by walk_at "s"
theorem Cw:aH ["_law_path_here", "_law_parts_here"] ["_law_path_here"] (aB wj):=by walk_at "s"
theorem RW:aH ["_law_house_here", "_law_asker", "_law_path_here", "_law_here"] ["_law_house_here", "_law_asker", "_law_path_here", "_law_here"] (aB zL):=by walk_at "s"
theorem C3:aH ["_law_house_here", "_law_asker", "_law_here", "_law_stack_here"] ["_law_house_here", "_law_asker", "_law_here"] (aB xx):=by walk_at "s"
theorem U8:aH ["_law_house_here", "_law_asker", "_law_here", "_law_part"] ["_law_house_here", "_law_asker", "_law_here", "_law_part"] (aB wQ):=by walk_at "s"
theorem eT:aH ["_law_house_here", "_law_asker", "_law_path_here", "_law_final", "_law_asked", "_law_here", "_law_tokens", "_law_name", "_law_thing", "_law_step", "_law_many", "_law_part", "_law_chain", "_law_number"] ["_law_house_here", "_law_asker", "_law_path_here", "_law_final"] (aB zD):=by walk_at "s"
theorem C2:aH ["_law_told", "_law_due", "_law_kinds"] ["_law_told", "_law_due"] (aB xS):=by walk_at "s"
theorem tX:aH ["_law_house_here", "_law_asker", "_law_path_here", "_law_final", "_law_due", "_law_asked", "_law_way_here"] ["_law_house_here", "_law_asker", "_law_path_here", "_law_final"] (aB wm):=by walk_at "s"
theorem DK:aH ["_law_cell", "_law_house_here"] ["_law_cell"] (aB w6):=by walk_at "s"
theorem kq:aH ["_law_script", "_law_house_here", "_law_kinds", "_law_cell", "_law_state", "_law_asker", "_law_path_here"] ["_law_script"] (aB xD):=by walk_at "s"
abbrev GY:Stmt:=inClass (top 15) 0
theorem O4:aH ["self", "told"] ["self", "told"] (aB GY):=by walk_at "s"
abbrev Dh:Stmt:=inClass (top 16) 0
theorem OP:aH ["self", "reason"] ["self", "reason"] (aB Dh):=by walk_at "s"
abbrev CI:Stmt:=inClass (top 38) 0
theorem P4:aH ["self", "number", "kind", "owner", "mine", "rest", "text"] ["self", "number", "kind", "owner", "mine", "rest", "text"] (aB CI):=by walk_at "s"
abbrev Dt:Stmt:=inClass (top 38) 1
theorem Td:aH ["self", "asker"] ["self", "asker"] (aB Dt):=by walk_at "s"
abbrev Dd:Stmt:=inClass (top 39) 0
theorem VC:aH ["self"] ["self"] (aB Dd):=by walk_at "s"
abbrev CL:Stmt:=inClass (top 39) 1
theorem GU:aH ["self", "kind", "owner", "mine", "rest", "text", "number"] ["self", "kind", "owner", "mine", "rest", "text"] (aB CL):=by walk_at "s"
abbrev BU:Stmt:=inClass (top 39) 2
theorem Tb:aH ["self", "owner", "mine", "rest"] ["self", "owner", "mine", "rest"] (aB BU):=by walk_at "s"
abbrev Eb:Stmt:=inClass (top 39) 3
theorem SV:aH ["self", "owner", "text", "mine", "rest"] ["self", "owner", "text", "mine", "rest"] (aB Eb):=by walk_at "s"
abbrev Gy:Stmt:=inClass (top 39) 6
theorem O8:aH ["self", "number"] ["self", "number"] (aB Gy):=by walk_at "s"
abbrev C4:Stmt:=inClass (top 39) 7
theorem Mv:aH ["self", "folder", "name"] ["self", "folder", "name"] (aB C4):=by walk_at "s"
abbrev GH:Stmt:=inClass (top 39) 10
theorem MW:aH ["self", "number"] ["self", "number"] (aB GH):=by walk_at "s"
abbrev HC:Stmt:=inClass (top 39) 11
theorem Ei:aH ["self", "number", "mine", "rest", "thing"] ["self", "number", "mine", "rest"] (aB HC):=by walk_at "s"
abbrev F8:Stmt:=inClass (top 39) 13
theorem tO:aH ["self", "folder", "name", "number", "thing", "former", "known"] ["self", "folder", "name", "number"] (aB F8):=by walk_at "s"
abbrev G9:Stmt:=inClass (top 39) 14
theorem E2:aH ["self", "folder", "name", "number"] ["self", "folder", "name"] (aB G9):=by walk_at "s"
abbrev FV:Stmt:=inClass (top 43) 0
theorem Ph:aH ["self", "number", "way"] ["self", "number", "way"] (aB FV):=by walk_at "s"
abbrev CK:Stmt:=inClass (top 44) 0
theorem KR:aH ["self", "step", "reason"] ["self", "step", "reason"] (aB CK):=by walk_at "s"
abbrev xE:Stmt:=inClass (top 46) 0
theorem VG:aH ["self", "house", "asker", "last"] ["self", "house", "asker", "last"] (aB xE):=by walk_at "s"
abbrev zc:Stmt:=inClass (top 46) 1
theorem Hi:aH ["self", "from_root", "parts", "start"] ["self", "from_root", "parts"] (aB zc):=by walk_at "s"
abbrev Ah:Stmt:=inClass (top 46) 2
theorem DT:aH ["self", "part"] ["self"] (aB Ah):=by walk_at "s"
abbrev wB:Stmt:=inClass (top 46) 3
theorem Mo:aH ["self", "reason"] ["self", "reason"] (aB wB):=by walk_at "s"
abbrev yD:Stmt:=inClass (top 46) 4
theorem Q9:aH ["self", "part"] ["self", "part"] (aB yD):=by walk_at "s"
abbrev wL:Stmt:=inClass (top 46) 5
theorem C7:aH ["self", "stack"] ["self"] (aB wL):=by walk_at "s"
abbrev wV:Stmt:=inClass (top 46) 6
theorem xm:aH ["self", "name", "number", "kind"] ["self", "name"] (aB wV):=by walk_at "s"
abbrev yt:Stmt:=inClass (top 46) 9
theorem pQ:aH ["self", "names", "folder"] ["self"] (aB yt):=by walk_at "s"
abbrev GI:Stmt:=inClass (top 55) 0
theorem QR:aH ["self", "owner"] ["self", "owner"] (aB GI):=by walk_at "s"
abbrev GB:Stmt:=inClass (top 55) 1
theorem O5:aH ["self", "name"] ["self", "name"] (aB GB):=by walk_at "s"
abbrev HF:Stmt:=inClass (top 55) 3
theorem Rr:aH ["self"] ["self"] (aB HF):=by walk_at "s"
abbrev G6:Stmt:=inClass (top 55) 4
theorem S2:aH ["self", "asker"] ["self", "asker"] (aB G6):=by walk_at "s"
abbrev Ey:Stmt:=inClass (top 55) 5
theorem Sq:aH ["self", "asker"] ["self", "asker"] (aB Ey):=by walk_at "s"
abbrev Hv:Stmt:=inClass (top 55) 6
theorem Sm:aH ["self", "number"] ["self", "number"] (aB Hv):=by walk_at "s"
abbrev Cd:Stmt:=inClass (top 55) 7
theorem P5:aH ["self", "number"] ["self", "number"] (aB Cd):=by walk_at "s"
abbrev Eo:Stmt:=inClass (top 55) 10
theorem Rc:aH ["self", "number", "name"] ["self", "number", "name"] (aB Eo):=by walk_at "s"
abbrev Ow:Stmt:=inClass (top 55) 12
abbrev Ho:Stmt:=inClass (top 55) 13
theorem P7:aH ["self", "number"] ["self", "number"] (aB Ho):=by walk_at "s"
abbrev Fp:Stmt:=inClass (top 55) 15
theorem VO:aH ["self", "tree"] ["self", "tree"] (aB Fp):=by walk_at "s"
abbrev FJ:Stmt:=inClass (top 55) 16
theorem UM:aH ["self", "tree"] ["self", "tree"] (aB FJ):=by walk_at "s"
abbrev Hx:Stmt:=inClass (top 55) 17
theorem NY:aH ["self", "asker", "number", "right"] ["self", "asker", "number", "right"] (aB Hx):=by walk_at "s"
abbrev FQ:Stmt:=inClass (top 55) 23
theorem KL:aH ["self", "asker"] ["self", "asker"] (aB FQ):=by walk_at "s"
abbrev HK:Stmt:=inClass (top 55) 24
theorem U6:aH ["self", "tree"] ["self", "tree"] (aB HK):=by walk_at "s"
abbrev EY:Stmt:=inClass (top 55) 25
theorem M5:aH ["self", "number"] ["self", "number"] (aB EY):=by walk_at "s"
abbrev ES:Stmt:=inClass (top 55) 26
theorem VP:aH ["self", "name"] ["self", "name"] (aB ES):=by walk_at "s"
abbrev Eh:Stmt:=inClass (top 55) 27
theorem TY:aH ["self", "asker", "folder"] ["self", "asker", "folder"] (aB Eh):=by walk_at "s"
abbrev BV:Stmt:=inClass (top 55) 28
theorem MX:aH ["self", "asker", "folder"] ["self", "asker", "folder"] (aB BV):=by walk_at "s"
abbrev DU:Stmt:=inClass (top 55) 29
theorem FP:aH ["self", "tree", "owner", "root"] ["self", "tree", "owner"] (aB DU):=by walk_at "s"
abbrev EZ:Stmt:=inClass (top 57) 0
theorem KA:aH ["self", "folder", "name"] ["self", "folder", "name"] (aB EZ):=by walk_at "s"
set_option genInjectivity false in
set_option genSizeOf false in
structure Tx (K:PySem.W.Frag) (mg:Str→Option Value) where
 gf:FT K mg "top_of" "top_of" Hh ["house", "folder"]
 nW:FT K mg "base_of" "base_of" Ft ["house", "folder"]
 di:FT K mg "stack_of" "stack_of" De ["house", "folder"]
 oO:FT K mg "is_seen" "is_seen" zS ["house", "asker", "folder"]
 ja:FT K mg "is_whole" "is_whole" E5 ["number"]
 gj:FT K mg "is_name" "is_name" Gr ["text"]
 n9:FT K mg "is_rights" "is_rights" FU ["text"]
 oK:FT K mg "is_text" "is_text" Er ["text"]
 oz:FT K mg "is_part" "is_part" Gb ["text"]
 da:FT K mg "parts_of" "parts_of" Hj ["path"]
 gd:FT K mg "check_name" "check_name" Dz ["text"]
 c8:FT K mg "check_rights" "check_rights" Em ["text"]
 oR:FT K mg "check_one_right" "check_one_right" Ce ["text"]
 ot:FT K mg "check_text" "check_text" Hm ["text"]
 oA:FT K mg "names_to" "names_to" v8 ["house", "asker", "folder"]
 iV:FT K mg "walk_parts" "walk_parts" vU ["house", "asker", "from_root", "parts", "last"]
 iT:FT K mg "walk_path" "walk_path" zK ["house", "asker", "path", "last"]
 {Az:Addr}
 {vk:FuncData}
 i8:gZ K "walk" "walk" rH Az vk [.bool true]
 qT:mg "walk" = some (.ref Az)
 yi:Binds K vk ["house", "asker", "path", "last"] []
 pW:Binds K vk ["house", "asker", "path", "last"] [.bool true]
 {AD:Addr}
 {u7:FuncData}
 rp:gZ K "asked_of" "asked_of" rA AD u7 [.bool true]
 E6:mg "asked_of" = some (.ref AD)
 uM:Binds K u7 ["house", "asker", "path", "last"] []
 ER:Binds K u7 ["house", "asker", "path", "last"] [.bool true]
 mS:FT K mg "check_seat" "check_seat" wJ ["path"]
 oi:FT K mg "seat_of" "seat_of" yS ["house", "asker", "path"]
 nO:FT K mg "thing_at" "thing_at" zB ["house", "seat"]
 i6:FT K mg "number_found" "number_found" yA ["told"]
 oP:FT K mg "is_folder" "is_folder" FY ["house", "number"]
 jo:FT K mg "find_any" "find_any" yC ["house", "asker", "path"]
 oN:FT K mg "find_folder" "find_folder" wD ["house", "asker", "path"]
 nM:FT K mg "check_may" "check_may" xn ["house", "asker", "number", "right", "reason"]
 nF:FT K mg "check_kept" "check_kept" vT ["house", "asker", "folder"]
 oM:FT K mg "check_free" "check_free" ye ["house", "seat"]
 iU:FT K mg "free_seat_of" "free_seat_of" zE ["house", "asker", "path"]
 jl:FT K mg "seat_thing" "seat_thing" zN ["house", "seat", "number"]
 {Bx:Addr}
 {si:FuncData}
 {JG:Tok}
 {Bv:Tok}
 tm:gZ K "make_folder" "make_folder" oq Bx si [.str "lgw" JG,.str "" Bv]
 Tp:mg "make_folder" = some (.ref Bx)
 yn:Binds K si ["house", "asker", "path", "mine", "rest"] []
 FW:Binds K si ["house", "asker", "path", "mine", "rest"] [.str "" Bv]
 B2:Binds K si ["house", "asker", "path", "mine", "rest"] [.str "lgw" JG,.str "" Bv]
 {BP:Addr}
 {r6:FuncData}
 {JR:Tok}
 {Bs:Tok}
 uV:gZ K "make_file" "make_file" nq BP r6 [.str "lgw" JR,.str "" Bs]
 O6:mg "make_file" = some (.ref BP)
 Aa:Binds K r6 ["house", "asker", "path", "text", "mine", "rest"] []
 FK:Binds K r6 ["house", "asker", "path", "text", "mine", "rest"] [.str "" Bs]
 Fq:Binds K r6 ["house", "asker", "path", "text", "mine", "rest"] [.str "lgw" JR,.str "" Bs]
 oH:FT K mg "set_rights" "set_rights" xC ["house", "asker", "path", "mine", "rest"]
 nH:FT K mg "stand" "stand" vQ ["house", "asker", "path"]
 m5:FT K mg "_law_cell_at" "_law_cell_at" HD ["_law_script", "_law_k"]
 bI:FT K mg "_law_digit" "_law_digit" Ff ["_law_state", "_law_base"]
 nZ:FT K mg "_law_word" "_law_word" yu ["_law_state"]
 i7:FT K mg "_law_path" "_law_path" zj ["_law_state", "_law_most"]
 eP:FT K mg "_law_rights" "_law_rights" yO ["_law_state"]
 oT:FT K mg "_law_deed" "_law_deed" y4 ["_law_house_here", "_law_asker", "_law_kind", "_law_path_here", "_law_state"]
 oJ:FT K mg "_law_done" "_law_done" xc ["_law_house_here", "_law_asker", "_law_kind", "_law_path_here", "_law_state"]
 c9:FT K mg "_law_top" "_law_top" zy ["_law_house_here", "_law_folder"]
 eQ:FT K mg "_law_stack" "_law_stack" yW ["_law_house_here", "_law_folder"]
 nA:FT K mg "_law_seen" "_law_seen" zA ["_law_house_here", "_law_asker", "_law_folder"]
 mT:FT K mg "_law_way" "_law_way" xo ["_law_house_here", "_law_asker", "_law_folder", "_law_name"]
 ny:FT K mg "_law_parts" "_law_parts" wj ["_law_path_here"]
 nU:FT K mg "_law_start" "_law_start" zL ["_law_house_here", "_law_asker", "_law_path_here", "_law_here"]
 m6:FT K mg "_law_up" "_law_up" xx ["_law_house_here", "_law_asker", "_law_here"]
 nE:FT K mg "_law_to" "_law_to" wQ ["_law_house_here", "_law_asker", "_law_here", "_law_part"]
 oB:FT K mg "_law_walked" "_law_walked" zD ["_law_house_here", "_law_asker", "_law_path_here", "_law_final"]
 ji:FT K mg "_law_alike" "_law_alike" xS ["_law_told", "_law_due"]
 nj:FT K mg "_law_question" "_law_question" wm ["_law_house_here", "_law_asker", "_law_path_here", "_law_final"]
 nX:FT K mg "_law_house" "_law_house" w6 ["_law_cell"]
 {rN:Addr}
 {vD:FuncData}
 sR:ig K "law" "law" xD rN vD
 Ms:mg "law" = some (.ref rN)
 Fg:Binds K vD ["_law_script"] []
 {BC:Addr}
 N7:mg "DOTS" = some (.ref BC)
 vX:∀ H:Hp,bV K H BC [.str ".",.str ".."]
 {t_FILE:Tok}
 yp:mg "FILE" = some (.str "file" t_FILE)
 {t_FIRST_TREE:Tok}
 LV:mg "FIRST_TREE" = some (.str "main" t_FIRST_TREE)
 {t_FOLDER:Tok}
 qw:mg "FOLDER" = some (.str "folder" t_FOLDER)
 {bD:Addr}
 Ca:mg "Failed" = some (.ref bD)
 {b7:Addr}
 zl:mg "Found" = some (.ref b7)
 {au:Addr}
 Sk:mg "House" = some (.ref au)
 {t_LETTERS:Tok}
 Po:mg "LETTERS" = some (.str "abcdefghijklmnopqrstuvwxyz" t_LETTERS)
 {rR:Addr}
 Lr:mg "LeadError" = some (.ref rR)
 {t_MOST_IN_NAME:Tok}
 VU:mg "MOST_IN_NAME" = some (.int 8 t_MOST_IN_NAME)
 {t_MOST_IN_PATH:Tok}
 OI:mg "MOST_IN_PATH" = some (.int 2000 t_MOST_IN_PATH)
 {t_MOST_IN_TEXT:Tok}
 Qg:mg "MOST_IN_TEXT" = some (.int 60 t_MOST_IN_TEXT)
 {pB:Addr}
 N1:mg "NoAsker" = some (.ref pB)
 {dU:Addr}
 tP:mg "NoDeed" = some (.ref dU)
 {rV:Addr}
 SU:mg "NoRights" = some (.ref rV)
 {pj:Addr}
 T2:mg "NoThing" = some (.ref pj)
 {dw:Addr}
 RN:mg "NoWay" = some (.ref dw)
 {AZ:Addr}
 Ki:mg "RIGHTS" = some (.ref AZ)
 xP:∀ H:Hp,bV K H AZ [.str "",.str "l",.str "g",.str "w",.str "lg",.str "lw",.str "gw",.str "lgw"]
 {vH:Addr}
 V0:mg "Ring" = some (.ref vH)
 {Bf:Addr}
 Q3:mg "SINGLE_RIGHTS" = some (.ref Bf)
 Ae:∀ H:Hp,bV K H Bf [.str "l",.str "g",.str "w"]
 {gy:Addr}
 Tw:mg "Seat" = some (.ref gy)
 {aG:Addr}
 SN:mg "Thing" = some (.ref aG)
 {aE:Addr}
 Q5:mg "Things" = some (.ref aE)
 {u9:Addr}
 M4:mg "Told" = some (.ref u9)
 {bf:Addr}
 NI:mg "Walk" = some (.ref bf)
 Hk:mg "all" = none
 g_bool:mg "bool" = none
 p8:mg "int" = none
 fv:mg "isinstance" = none
 iS:mg "len" = none
 wu:mg "list" = none
 Kn:mg "min" = none
 Px:mg "range" = none
 ED:mg "reversed" = none
 Vv:mg "sorted" = none
 jW:mg "str" = none
 pL:MT K dw "__init__" "NoWay.__init__" GY ["self", "told"]
 kx:MT K dU "__init__" "NoDeed.__init__" Dh ["self", "reason"]
 pZ:MT K aG "__init__" "Thing.__init__" CI ["self", "number", "kind", "owner", "mine", "rest", "text"]
 rB:MT K aG "rights_for" "Thing.rights_for" Dt ["self", "asker"]
 rF:MT K aE "__init__" "Things.__init__" Dd ["self"]
 lE:MT K aE "add_thing" "Things.add_thing" CL ["self", "kind", "owner", "mine", "rest", "text"]
 lL:MT K aE "add_folder" "Things.add_folder" BU ["self", "owner", "mine", "rest"]
 qJ:MT K aE "add_file" "Things.add_file" Eb ["self", "owner", "text", "mine", "rest"]
 df:MT K aE "at" "Things.at" Gy ["self", "number"]
 lW:MT K aE "child" "Things.child" C4 ["self", "folder", "name"]
 qA:MT K aE "place_of" "Things.place_of" GH ["self", "number"]
 qc:MT K aE "put_rights" "Things.put_rights" HC ["self", "number", "mine", "rest"]
 pX:MT K aE "put_name" "Things.put_name" F8 ["self", "folder", "name", "number"]
 qk:MT K aE "drop_name" "Things.drop_name" G9 ["self", "folder", "name"]
 qo:MT K b7 "__init__" "Found.__init__" FV ["self", "number", "way"]
 qP:MT K bD "__init__" "Failed.__init__" CK ["self", "step", "reason"]
 rq:MT K bf "__init__" "Walk.__init__" xE ["self", "house", "asker", "last"]
 ra:MT K bf "begin" "Walk.begin" zc ["self", "from_root", "parts"]
 qg:MT K bf "go_on" "Walk.go_on" Ah ["self"]
 gD:MT K bf "fail" "Walk.fail" wB ["self", "reason"]
 p9:MT K bf "take_step" "Walk.take_step" yD ["self", "part"]
 rG:MT K bf "go_up" "Walk.go_up" wL ["self"]
 qW:MT K bf "go_by" "Walk.go_by" wV ["self", "name"]
 qf:MT K bf "true_path" "Walk.true_path" yt ["self"]
 pN:MT K au "__init__" "House.__init__" GI ["self", "owner"]
 lq:MT K au "enroll" "House.enroll" GB ["self", "name"]
 jh:MT K au "trees" "House.trees" HF ["self"]
 ef:MT K au "root_of" "House.root_of" G6 ["self", "asker"]
 lD:MT K au "standing_of" "House.standing_of" Ey ["self", "asker"]
 eX:MT K au "kind_of" "House.kind_of" Hv ["self", "number"]
 qe:MT K au "owner_of" "House.owner_of" Cd ["self", "number"]
 iR:MT K au "child" "House.child" Eo ["self", "number", "name"]
 Wr:MT K au "text_of" "House.text_of" Ow ["self", "number"]
 fb:MT K au "place_of" "House.place_of" Ho ["self", "number"]
 lh:MT K au "tree_root" "House.tree_root" Fp ["self", "tree"]
 l6:MT K au "covered_by" "House.covered_by" FJ ["self", "tree"]
 jc:MT K au "may" "House.may" Hx ["self", "asker", "number", "right"]
 dY:MT K au "check_asker" "House.check_asker" FQ ["self", "asker"]
 rb:MT K au "check_tree" "House.check_tree" HK ["self", "tree"]
 qj:MT K au "check_thing" "House.check_thing" EY ["self", "number"]
 lS:MT K au "add_asker" "House.add_asker" ES ["self", "name"]
 qK:MT K au "put_root" "House.put_root" Eh ["self", "asker", "folder"]
 i0:MT K au "put_standing" "House.put_standing" BV ["self", "asker", "folder"]
 p7:MT K au "add_tree" "House.add_tree" DU ["self", "tree", "owner"]
 qY:MT K gy "__init__" "Seat.__init__" EZ ["self", "folder", "name"]
 jt:cz K bD
 Qt:Mk K bD qP.f
 iy:cz K b7
 Mu:Mk K b7 qo.f
 aL:cz K au
 Vc:Mk K au pN.f
 lC:cz K gy
 N5:Mk K gy qY.f
 cT:cz K aG
 QK:Mk K aG pZ.f
 b9:cz K aE
 S5:Mk K aE rF.f
 aR:cz K bf
 O1:Mk K bf rq.f
 He:bx K bD "reason"
 Df:bx K bD "step"
 xR:bx K b7 "number"
 B5:bx K b7 "way"
 uY:bx K au "changes"
 xO:bx K au "first_root"
 uO:bx K au "folder_under"
 Pe:bx K au "holds"
 MK:bx K au "holds_given"
 yL:bx K au "root_over"
 qF:bx K au "roots"
 wN:bx K au "standings"
 f9:bx K au "things"
 qq:bx K au "tree_roots"
 sV:bx K gy "folder"
 yN:bx K gy "name"
 xY:bx K aG "kind"
 zX:bx K aG "mine"
 zV:bx K aG "names"
 Rn:bx K aG "number"
 wA:bx K aG "owner"
 sX:bx K aG "places"
 vZ:bx K aG "rest"
 LZ:bx K aG "text"
 ui:bx K aE "changes"
 qQ:bx K aE "made"
 zi:bx K bf "asked"
 pJ:bx K bf "asker"
 eZ:bx K bf "here"
 fA:bx K bf "house"
 Fe:bx K bf "last"
 Ny:bx K bf "leads_read"
 qi:bx K bf "left"
 Di:bx K bf "looked_up"
 tw:bx K bf "place"
 RP:bx K bf "reading"
 tW:bx K bf "root"
 zk:bx K bf "step"
 lI:bx K bf "told"
 rM:iq K dU kx.f "reason"
 uC:PySem.W.typeIn K (.ref dU)=some (.type "type")
 D4:iq K dw pL.f "told"
 Pp:PySem.W.typeIn K (.ref dw)=some (.type "type")
 Py:PySem.W.excIn K pB [.type "ValueError",.type "Exception",.type "BaseException",.type "object"] "ValueError.__new__" = true
 ON:PySem.W.excIn K rV [.type "ValueError",.type "Exception",.type "BaseException",.type "object"] "ValueError.__new__" = true
 SQ:PySem.W.excIn K pj [.type "ValueError",.type "Exception",.type "BaseException",.type "object"] "ValueError.__new__" = true
 Kh:PySem.W.instIn K (.ref rR) (.type "tuple")=some false
 Va:PySem.W.mroIn K rR (.type "BaseException")=some true
 q1:PySem.W.findIn K (.ref b7) "__class__" = some (some (.builtin "object.__class__"))
 q2:PySem.W.specialIn K (.builtin "object.__class__") "__get__" = some (some (.builtin "getset_descriptor.__get__"))
 q3:PySem.W.takesIn K (.builtin "object.__class__")=some true
 q4:PySem.W.mroIn K b7 (.type "object")=some true
 q5:PySem.W.kitOne K (.ref b7) (.ref b7)=some true
 q6:PySem.W.findIn K (.ref bD) "__class__" = some (some (.builtin "object.__class__"))
 q7:PySem.W.mroIn K bD (.type "object")=some true
 q8:PySem.W.kitOne K (.ref bD) (.ref b7)=some false
 q9:PySem.W.kitOne K (.ref b7) (.ref bD)=some false
 jV:PySem.W.kitOne K (.ref b7) (.ref vH)=some false
 Oi:PySem.W.kitOne K (.ref b7) (.ref u9)=some true
 Pg:PySem.W.kitOne K (.ref bD) (.ref bD)=some true
 Kd:PySem.W.kitOne K (.ref bD) (.ref vH)=some false
 Ml:PySem.W.kitOne K (.ref bD) (.ref u9)=some true
 S9:PySem.W.subIn K (.ref dw) (.ref rR)=some true
 RM:PySem.W.subIn K (.ref dU) (.ref rR)=some true
def m7:List Nat:=List.range' 97 26
def isNm (l:List Nat):Bool:=decide (1≤l.length) && decide (l.length≤8) && l.all (m7.contains ·)
def dR:V→Bool
 | .str z=>isNm z.cps.toList
 | _=>false
def Ge:V→Prop
 | .str z=>z.length≤1000
 | _=>True
theorem stI {t:TS} {D:Ends} {H:Hp} {σ:L2.St} (τ:L2.St) (h:t D τ H) (e:σ=τ:=by rfl):t D σ H:=e ▸ h
def a1 (f:V→Hp→VK→XK→Prop):Sp:=fun vs H Q E=>match vs with
 | [x1]=>f x1 H Q E
 | _=>False
theorem a1.o {f:V→Hp→VK→XK→Prop} {vs:List V} {H:Hp} {Q:VK} {E:XK} (h:a1 f vs H Q E):∃ x1,vs=[x1]∧f x1 H Q E:=by
 unfold a1 at h;split at h
 ·exact ⟨_,rfl,h⟩
 ·exact h.elim
def a2 (f:V→V→Hp→VK→XK→Prop):Sp:=fun vs H Q E=>match vs with
 | [x1,x2]=>f x1 x2 H Q E
 | _=>False
theorem a2.o {f:V→V→Hp→VK→XK→Prop} {vs:List V} {H:Hp} {Q:VK} {E:XK} (h:a2 f vs H Q E):∃ x1 x2,vs=[x1,x2]∧f x1 x2 H Q E:=by
 unfold a2 at h;split at h
 ·exact ⟨_,_,rfl,h⟩
 ·exact h.elim
def a3 (f:V→V→V→Hp→VK→XK→Prop):Sp:=fun vs H Q E=>match vs with
 | [x1,x2,x3]=>f x1 x2 x3 H Q E
 | _=>False
theorem a3.o {f:V→V→V→Hp→VK→XK→Prop} {vs:List V} {H:Hp} {Q:VK} {E:XK} (h:a3 f vs H Q E):∃ x1 x2 x3,vs=[x1,x2,x3]∧f x1 x2 x3 H Q E:=by
 unfold a3 at h;split at h
 ·exact ⟨_,_,_,rfl,h⟩
 ·exact h.elim
def a4 (f:V→V→V→V→Hp→VK→XK→Prop):Sp:=fun vs H Q E=>match vs with
 | [x1,x2,x3,x4]=>f x1 x2 x3 x4 H Q E
 | _=>False
theorem a4.o {f:V→V→V→V→Hp→VK→XK→Prop} {vs:List V} {H:Hp} {Q:VK} {E:XK} (h:a4 f vs H Q E):∃ x1 x2 x3 x4,vs=[x1,x2,x3,x4]∧f x1 x2 x3 x4 H Q E:=by
 unfold a4 at h;split at h
 ·exact ⟨_,_,_,_,rfl,h⟩
 ·exact h.elim
def a5 (f:V→V→V→V→V→Hp→VK→XK→Prop):Sp:=fun vs H Q E=>match vs with
 | [x1,x2,x3,x4,x5]=>f x1 x2 x3 x4 x5 H Q E
 | _=>False
theorem a5.o {f:V→V→V→V→V→Hp→VK→XK→Prop} {vs:List V} {H:Hp} {Q:VK} {E:XK} (h:a5 f vs H Q E):∃ x1 x2 x3 x4 x5,vs=[x1,x2,x3,x4,x5]∧f x1 x2 x3 x4 x5 H Q E:=by
 unfold a5 at h;split at h
 ·exact ⟨_,_,_,_,_,rfl,h⟩
 ·exact h.elim
def a6 (f:V→V→V→V→V→V→Hp→VK→XK→Prop):Sp:=fun vs H Q E=>match vs with
 | [x1,x2,x3,x4,x5,x6]=>f x1 x2 x3 x4 x5 x6 H Q E
 | _=>False
theorem a6.o {f:V→V→V→V→V→V→Hp→VK→XK→Prop} {vs:List V} {H:Hp} {Q:VK} {E:XK} (h:a6 f vs H Q E):∃ x1 x2 x3 x4 x5 x6,vs=[x1,x2,x3,x4,x5,x6]∧f x1 x2 x3 x4 x5 x6 H Q E:=by
 unfold a6 at h;split at h
 ·exact ⟨_,_,_,_,_,_,rfl,h⟩
 ·exact h.elim
def a7 (f:V→V→V→V→V→V→V→Hp→VK→XK→Prop):Sp:=fun vs H Q E=>match vs with
 | [x1,x2,x3,x4,x5,x6,x7]=>f x1 x2 x3 x4 x5 x6 x7 H Q E
 | _=>False
theorem a7.o {f:V→V→V→V→V→V→V→Hp→VK→XK→Prop} {vs:List V} {H:Hp} {Q:VK} {E:XK} (h:a7 f vs H Q E):∃ x1 x2 x3 x4 x5 x6 x7,vs=[x1,x2,x3,x4,x5,x6,x7]∧f x1 x2 x3 x4 x5 x6 x7 H Q E:=by
 unfold a7 at h;split at h
 ·exact ⟨_,_,_,_,_,_,_,rfl,h⟩
 ·exact h.elim
def vR (v:V) (k:Addr→Prop):Prop:=match v with
 | .ref x=>k x
 | _=>False
theorem vR.o {v:V} {k:Addr→Prop} (h:vR v k):∃ x,v=.ref x∧k x:=by
 unfold vR at h;split at h
 ·exact ⟨_,rfl,h⟩
 ·exact h.elim
def vS (v:V) (k:Str→Prop):Prop:=match v with
 | .str x=>k x
 | _=>False
theorem vS.o {v:V} {k:Str→Prop} (h:vS v k):∃ x,v=.str x∧k x:=by
 unfold vS at h;split at h
 ·exact ⟨_,rfl,h⟩
 ·exact h.elim
def vI (v:V) (k:Int→Prop):Prop:=match v with
 | .int x=>k x
 | _=>False
theorem vI.o {v:V} {k:Int→Prop} (h:vI v k):∃ x,v=.int x∧k x:=by
 unfold vI at h;split at h
 ·exact ⟨_,rfl,h⟩
 ·exact h.elim
def vB (v:V) (k:Bool→Prop):Prop:=match v with
 | .bl x=>k x
 | _=>False
theorem vB.o {v:V} {k:Bool→Prop} (h:vB v k):∃ x,v=.bl x∧k x:=by
 unfold vB at h;split at h
 ·exact ⟨_,rfl,h⟩
 ·exact h.elim
def EH (f:Int→Hp→VK→XK→Prop):Sp:=a1 fun q1 H Q E=>vI q1 fun x1=>f x1 H Q E
@[elab_as_elim] theorem BX {f:Int→Hp→VK→XK→Prop} {vs:List V} {H:Hp} {Q:VK} {E:XK} {G:List V→Prop} (h:EH f vs H Q E) (k:∀ x1,f x1 H Q E→G [.int x1]):G vs:=by
 obtain ⟨_,rfl,h⟩:=a1.o h;obtain ⟨x1,rfl,h⟩:=vI.o h;exact k x1 h
def iw (f:Addr→Hp→VK→XK→Prop):Sp:=a1 fun q1 H Q E=>vR q1 fun x1=>f x1 H Q E
@[elab_as_elim] theorem dP {f:Addr→Hp→VK→XK→Prop} {vs:List V} {H:Hp} {Q:VK} {E:XK} {G:List V→Prop} (h:iw f vs H Q E) (k:∀ x1,f x1 H Q E→G [.ref x1]):G vs:=by
 obtain ⟨_,rfl,h⟩:=a1.o h;obtain ⟨x1,rfl,h⟩:=vR.o h;exact k x1 h
def Gx (f:Addr→Bool→Addr→Hp→VK→XK→Prop):Sp:=a3 fun q1 q2 q3 H Q E=>vR q1 fun x1=>vB q2 fun x2=>vR q3 fun x3=>f x1 x2 x3 H Q E
@[elab_as_elim] theorem Cs {f:Addr→Bool→Addr→Hp→VK→XK→Prop} {vs:List V} {H:Hp} {Q:VK} {E:XK} {G:List V→Prop} (h:Gx f vs H Q E) (k:∀ x1 x2 x3,f x1 x2 x3 H Q E→G [.ref x1,.bl x2,.ref x3]):G vs:=by
 obtain ⟨_,_,_,rfl,h⟩:=a3.o h;obtain ⟨x1,rfl,h⟩:=vR.o h;obtain ⟨x2,rfl,h⟩:=vB.o h;obtain ⟨x3,rfl,h⟩:=vR.o h;exact k x1 x2 x3 h
def je (f:Addr→Int→Hp→VK→XK→Prop):Sp:=a2 fun q1 q2 H Q E=>vR q1 fun x1=>vI q2 fun x2=>f x1 x2 H Q E
@[elab_as_elim] theorem cx {f:Addr→Int→Hp→VK→XK→Prop} {vs:List V} {H:Hp} {Q:VK} {E:XK} {G:List V→Prop} (h:je f vs H Q E) (k:∀ x1 x2,f x1 x2 H Q E→G [.ref x1,.int x2]):G vs:=by
 obtain ⟨_,_,rfl,h⟩:=a2.o h;obtain ⟨x1,rfl,h⟩:=vR.o h;obtain ⟨x2,rfl,h⟩:=vI.o h;exact k x1 x2 h
def uK (f:Addr→Int→Str→Hp→VK→XK→Prop):Sp:=a3 fun q1 q2 q3 H Q E=>vR q1 fun x1=>vI q2 fun x2=>vS q3 fun x3=>f x1 x2 x3 H Q E
@[elab_as_elim] theorem nz {f:Addr→Int→Str→Hp→VK→XK→Prop} {vs:List V} {H:Hp} {Q:VK} {E:XK} {G:List V→Prop} (h:uK f vs H Q E) (k:∀ x1 x2 x3,f x1 x2 x3 H Q E→G [.ref x1,.int x2,.str x3]):G vs:=by
 obtain ⟨_,_,_,rfl,h⟩:=a3.o h;obtain ⟨x1,rfl,h⟩:=vR.o h;obtain ⟨x2,rfl,h⟩:=vI.o h;obtain ⟨x3,rfl,h⟩:=vS.o h;exact k x1 x2 x3 h
def DS (f:Addr→Int→Str→Int→Hp→VK→XK→Prop):Sp:=a4 fun q1 q2 q3 q4 H Q E=>vR q1 fun x1=>vI q2 fun x2=>vS q3 fun x3=>vI q4 fun x4=>f x1 x2 x3 x4 H Q E
@[elab_as_elim] theorem D1 {f:Addr→Int→Str→Int→Hp→VK→XK→Prop} {vs:List V} {H:Hp} {Q:VK} {E:XK} {G:List V→Prop} (h:DS f vs H Q E) (k:∀ x1 x2 x3 x4,f x1 x2 x3 x4 H Q E→G [.ref x1,.int x2,.str x3,.int x4]):G vs:=by
 obtain ⟨_,_,_,_,rfl,h⟩:=a4.o h;obtain ⟨x1,rfl,h⟩:=vR.o h;obtain ⟨x2,rfl,h⟩:=vI.o h;obtain ⟨x3,rfl,h⟩:=vS.o h;obtain ⟨x4,rfl,h⟩:=vI.o h;exact k x1 x2 x3 x4 h
def EB (f:Addr→Int→Str→Str→Hp→VK→XK→Prop):Sp:=a4 fun q1 q2 q3 q4 H Q E=>vR q1 fun x1=>vI q2 fun x2=>vS q3 fun x3=>vS q4 fun x4=>f x1 x2 x3 x4 H Q E
@[elab_as_elim] theorem Fy {f:Addr→Int→Str→Str→Hp→VK→XK→Prop} {vs:List V} {H:Hp} {Q:VK} {E:XK} {G:List V→Prop} (h:EB f vs H Q E) (k:∀ x1 x2 x3 x4,f x1 x2 x3 x4 H Q E→G [.ref x1,.int x2,.str x3,.str x4]):G vs:=by
 obtain ⟨_,_,_,_,rfl,h⟩:=a4.o h;obtain ⟨x1,rfl,h⟩:=vR.o h;obtain ⟨x2,rfl,h⟩:=vI.o h;obtain ⟨x3,rfl,h⟩:=vS.o h;obtain ⟨x4,rfl,h⟩:=vS.o h;exact k x1 x2 x3 x4 h
def uB (f:Addr→Addr→Hp→VK→XK→Prop):Sp:=a2 fun q1 q2 H Q E=>vR q1 fun x1=>vR q2 fun x2=>f x1 x2 H Q E
@[elab_as_elim] theorem oW {f:Addr→Addr→Hp→VK→XK→Prop} {vs:List V} {H:Hp} {Q:VK} {E:XK} {G:List V→Prop} (h:uB f vs H Q E) (k:∀ x1 x2,f x1 x2 H Q E→G [.ref x1,.ref x2]):G vs:=by
 obtain ⟨_,_,rfl,h⟩:=a2.o h;obtain ⟨x1,rfl,h⟩:=vR.o h;obtain ⟨x2,rfl,h⟩:=vR.o h;exact k x1 x2 h
def C5 (f:Addr→Addr→Int→Hp→VK→XK→Prop):Sp:=a3 fun q1 q2 q3 H Q E=>vR q1 fun x1=>vR q2 fun x2=>vI q3 fun x3=>f x1 x2 x3 H Q E
@[elab_as_elim] theorem Fx {f:Addr→Addr→Int→Hp→VK→XK→Prop} {vs:List V} {H:Hp} {Q:VK} {E:XK} {G:List V→Prop} (h:C5 f vs H Q E) (k:∀ x1 x2 x3,f x1 x2 x3 H Q E→G [.ref x1,.ref x2,.int x3]):G vs:=by
 obtain ⟨_,_,_,rfl,h⟩:=a3.o h;obtain ⟨x1,rfl,h⟩:=vR.o h;obtain ⟨x2,rfl,h⟩:=vR.o h;obtain ⟨x3,rfl,h⟩:=vI.o h;exact k x1 x2 x3 h
def HJ (f:Addr→Addr→Str→Bool→Hp→VK→XK→Prop):Sp:=a4 fun q1 q2 q3 q4 H Q E=>vR q1 fun x1=>vR q2 fun x2=>vS q3 fun x3=>vB q4 fun x4=>f x1 x2 x3 x4 H Q E
@[elab_as_elim] theorem EL {f:Addr→Addr→Str→Bool→Hp→VK→XK→Prop} {vs:List V} {H:Hp} {Q:VK} {E:XK} {G:List V→Prop} (h:HJ f vs H Q E) (k:∀ x1 x2 x3 x4,f x1 x2 x3 x4 H Q E→G [.ref x1,.ref x2,.str x3,.bl x4]):G vs:=by
 obtain ⟨_,_,_,_,rfl,h⟩:=a4.o h;obtain ⟨x1,rfl,h⟩:=vR.o h;obtain ⟨x2,rfl,h⟩:=vR.o h;obtain ⟨x3,rfl,h⟩:=vS.o h;obtain ⟨x4,rfl,h⟩:=vB.o h;exact k x1 x2 x3 x4 h
def fN (f:Addr→Str→Hp→VK→XK→Prop):Sp:=a2 fun q1 q2 H Q E=>vR q1 fun x1=>vS q2 fun x2=>f x1 x2 H Q E
@[elab_as_elim] theorem cF {f:Addr→Str→Hp→VK→XK→Prop} {vs:List V} {H:Hp} {Q:VK} {E:XK} {G:List V→Prop} (h:fN f vs H Q E) (k:∀ x1 x2,f x1 x2 H Q E→G [.ref x1,.str x2]):G vs:=by
 obtain ⟨_,_,rfl,h⟩:=a2.o h;obtain ⟨x1,rfl,h⟩:=vR.o h;obtain ⟨x2,rfl,h⟩:=vS.o h;exact k x1 x2 h
def C8 (f:Addr→Str→Bool→Addr→Bool→Hp→VK→XK→Prop):Sp:=a5 fun q1 q2 q3 q4 q5 H Q E=>vR q1 fun x1=>vS q2 fun x2=>vB q3 fun x3=>vR q4 fun x4=>vB q5 fun x5=>f x1 x2 x3 x4 x5 H Q E
@[elab_as_elim] theorem CU {f:Addr→Str→Bool→Addr→Bool→Hp→VK→XK→Prop} {vs:List V} {H:Hp} {Q:VK} {E:XK} {G:List V→Prop} (h:C8 f vs H Q E) (k:∀ x1 x2 x3 x4 x5,f x1 x2 x3 x4 x5 H Q E→G [.ref x1,.str x2,.bl x3,.ref x4,.bl x5]):G vs:=by
 obtain ⟨_,_,_,_,_,rfl,h⟩:=a5.o h;obtain ⟨x1,rfl,h⟩:=vR.o h;obtain ⟨x2,rfl,h⟩:=vS.o h;obtain ⟨x3,rfl,h⟩:=vB.o h;obtain ⟨x4,rfl,h⟩:=vR.o h;obtain ⟨x5,rfl,h⟩:=vB.o h;exact k x1 x2 x3 x4 x5 h
def km (f:Addr→Str→Int→Hp→VK→XK→Prop):Sp:=a3 fun q1 q2 q3 H Q E=>vR q1 fun x1=>vS q2 fun x2=>vI q3 fun x3=>f x1 x2 x3 H Q E
@[elab_as_elim] theorem fc {f:Addr→Str→Int→Hp→VK→XK→Prop} {vs:List V} {H:Hp} {Q:VK} {E:XK} {G:List V→Prop} (h:km f vs H Q E) (k:∀ x1 x2 x3,f x1 x2 x3 H Q E→G [.ref x1,.str x2,.int x3]):G vs:=by
 obtain ⟨_,_,_,rfl,h⟩:=a3.o h;obtain ⟨x1,rfl,h⟩:=vR.o h;obtain ⟨x2,rfl,h⟩:=vS.o h;obtain ⟨x3,rfl,h⟩:=vI.o h;exact k x1 x2 x3 h
def Fh (f:Addr→Str→Int→Str→Hp→VK→XK→Prop):Sp:=a4 fun q1 q2 q3 q4 H Q E=>vR q1 fun x1=>vS q2 fun x2=>vI q3 fun x3=>vS q4 fun x4=>f x1 x2 x3 x4 H Q E
@[elab_as_elim] theorem GQ {f:Addr→Str→Int→Str→Hp→VK→XK→Prop} {vs:List V} {H:Hp} {Q:VK} {E:XK} {G:List V→Prop} (h:Fh f vs H Q E) (k:∀ x1 x2 x3 x4,f x1 x2 x3 x4 H Q E→G [.ref x1,.str x2,.int x3,.str x4]):G vs:=by
 obtain ⟨_,_,_,_,rfl,h⟩:=a4.o h;obtain ⟨x1,rfl,h⟩:=vR.o h;obtain ⟨x2,rfl,h⟩:=vS.o h;obtain ⟨x3,rfl,h⟩:=vI.o h;obtain ⟨x4,rfl,h⟩:=vS.o h;exact k x1 x2 x3 x4 h
def D6 (f:Addr→Str→Int→Str→Str→Hp→VK→XK→Prop):Sp:=a5 fun q1 q2 q3 q4 q5 H Q E=>vR q1 fun x1=>vS q2 fun x2=>vI q3 fun x3=>vS q4 fun x4=>vS q5 fun x5=>f x1 x2 x3 x4 x5 H Q E
@[elab_as_elim] theorem BY {f:Addr→Str→Int→Str→Str→Hp→VK→XK→Prop} {vs:List V} {H:Hp} {Q:VK} {E:XK} {G:List V→Prop} (h:D6 f vs H Q E) (k:∀ x1 x2 x3 x4 x5,f x1 x2 x3 x4 x5 H Q E→G [.ref x1,.str x2,.int x3,.str x4,.str x5]):G vs:=by
 obtain ⟨_,_,_,_,_,rfl,h⟩:=a5.o h;obtain ⟨x1,rfl,h⟩:=vR.o h;obtain ⟨x2,rfl,h⟩:=vS.o h;obtain ⟨x3,rfl,h⟩:=vI.o h;obtain ⟨x4,rfl,h⟩:=vS.o h;obtain ⟨x5,rfl,h⟩:=vS.o h;exact k x1 x2 x3 x4 x5 h
def EA (f:Addr→Str→Int→V→Hp→VK→XK→Prop):Sp:=a4 fun q1 q2 q3 x4 H Q E=>vR q1 fun x1=>vS q2 fun x2=>vI q3 fun x3=>f x1 x2 x3 x4 H Q E
@[elab_as_elim] theorem GR {f:Addr→Str→Int→V→Hp→VK→XK→Prop} {vs:List V} {H:Hp} {Q:VK} {E:XK} {G:List V→Prop} (h:EA f vs H Q E) (k:∀ x1 x2 x3 x4,f x1 x2 x3 x4 H Q E→G [.ref x1,.str x2,.int x3,x4]):G vs:=by
 obtain ⟨_,_,_,x4,rfl,h⟩:=a4.o h;obtain ⟨x1,rfl,h⟩:=vR.o h;obtain ⟨x2,rfl,h⟩:=vS.o h;obtain ⟨x3,rfl,h⟩:=vI.o h;exact k x1 x2 x3 x4 h
def lP (f:Addr→Str→Str→Hp→VK→XK→Prop):Sp:=a3 fun q1 q2 q3 H Q E=>vR q1 fun x1=>vS q2 fun x2=>vS q3 fun x3=>f x1 x2 x3 H Q E
@[elab_as_elim] theorem gg {f:Addr→Str→Str→Hp→VK→XK→Prop} {vs:List V} {H:Hp} {Q:VK} {E:XK} {G:List V→Prop} (h:lP f vs H Q E) (k:∀ x1 x2 x3,f x1 x2 x3 H Q E→G [.ref x1,.str x2,.str x3]):G vs:=by
 obtain ⟨_,_,_,rfl,h⟩:=a3.o h;obtain ⟨x1,rfl,h⟩:=vR.o h;obtain ⟨x2,rfl,h⟩:=vS.o h;obtain ⟨x3,rfl,h⟩:=vS.o h;exact k x1 x2 x3 h
def ox (f:Addr→Str→Str→Bool→Hp→VK→XK→Prop):Sp:=a4 fun q1 q2 q3 q4 H Q E=>vR q1 fun x1=>vS q2 fun x2=>vS q3 fun x3=>vB q4 fun x4=>f x1 x2 x3 x4 H Q E
@[elab_as_elim] theorem iD {f:Addr→Str→Str→Bool→Hp→VK→XK→Prop} {vs:List V} {H:Hp} {Q:VK} {E:XK} {G:List V→Prop} (h:ox f vs H Q E) (k:∀ x1 x2 x3 x4,f x1 x2 x3 x4 H Q E→G [.ref x1,.str x2,.str x3,.bl x4]):G vs:=by
 obtain ⟨_,_,_,_,rfl,h⟩:=a4.o h;obtain ⟨x1,rfl,h⟩:=vR.o h;obtain ⟨x2,rfl,h⟩:=vS.o h;obtain ⟨x3,rfl,h⟩:=vS.o h;obtain ⟨x4,rfl,h⟩:=vB.o h;exact k x1 x2 x3 x4 h
def G2 (f:Addr→Str→Str→Int→Hp→VK→XK→Prop):Sp:=a4 fun q1 q2 q3 q4 H Q E=>vR q1 fun x1=>vS q2 fun x2=>vS q3 fun x3=>vI q4 fun x4=>f x1 x2 x3 x4 H Q E
@[elab_as_elim] theorem Ds {f:Addr→Str→Str→Int→Hp→VK→XK→Prop} {vs:List V} {H:Hp} {Q:VK} {E:XK} {G:List V→Prop} (h:G2 f vs H Q E) (k:∀ x1 x2 x3 x4,f x1 x2 x3 x4 H Q E→G [.ref x1,.str x2,.str x3,.int x4]):G vs:=by
 obtain ⟨_,_,_,_,rfl,h⟩:=a4.o h;obtain ⟨x1,rfl,h⟩:=vR.o h;obtain ⟨x2,rfl,h⟩:=vS.o h;obtain ⟨x3,rfl,h⟩:=vS.o h;obtain ⟨x4,rfl,h⟩:=vI.o h;exact k x1 x2 x3 x4 h
def zO (f:Addr→Str→Str→Str→Addr→Hp→VK→XK→Prop):Sp:=a5 fun q1 q2 q3 q4 q5 H Q E=>vR q1 fun x1=>vS q2 fun x2=>vS q3 fun x3=>vS q4 fun x4=>vR q5 fun x5=>f x1 x2 x3 x4 x5 H Q E
@[elab_as_elim] theorem sW {f:Addr→Str→Str→Str→Addr→Hp→VK→XK→Prop} {vs:List V} {H:Hp} {Q:VK} {E:XK} {G:List V→Prop} (h:zO f vs H Q E) (k:∀ x1 x2 x3 x4 x5,f x1 x2 x3 x4 x5 H Q E→G [.ref x1,.str x2,.str x3,.str x4,.ref x5]):G vs:=by
 obtain ⟨_,_,_,_,_,rfl,h⟩:=a5.o h;obtain ⟨x1,rfl,h⟩:=vR.o h;obtain ⟨x2,rfl,h⟩:=vS.o h;obtain ⟨x3,rfl,h⟩:=vS.o h;obtain ⟨x4,rfl,h⟩:=vS.o h;obtain ⟨x5,rfl,h⟩:=vR.o h;exact k x1 x2 x3 x4 x5 h
def yq (f:Addr→Str→Str→Str→Str→Hp→VK→XK→Prop):Sp:=a5 fun q1 q2 q3 q4 q5 H Q E=>vR q1 fun x1=>vS q2 fun x2=>vS q3 fun x3=>vS q4 fun x4=>vS q5 fun x5=>f x1 x2 x3 x4 x5 H Q E
@[elab_as_elim] theorem tR {f:Addr→Str→Str→Str→Str→Hp→VK→XK→Prop} {vs:List V} {H:Hp} {Q:VK} {E:XK} {G:List V→Prop} (h:yq f vs H Q E) (k:∀ x1 x2 x3 x4 x5,f x1 x2 x3 x4 x5 H Q E→G [.ref x1,.str x2,.str x3,.str x4,.str x5]):G vs:=by
 obtain ⟨_,_,_,_,_,rfl,h⟩:=a5.o h;obtain ⟨x1,rfl,h⟩:=vR.o h;obtain ⟨x2,rfl,h⟩:=vS.o h;obtain ⟨x3,rfl,h⟩:=vS.o h;obtain ⟨x4,rfl,h⟩:=vS.o h;obtain ⟨x5,rfl,h⟩:=vS.o h;exact k x1 x2 x3 x4 x5 h
def HA (f:Addr→Str→Str→Str→Str→Str→Hp→VK→XK→Prop):Sp:=a6 fun q1 q2 q3 q4 q5 q6 H Q E=>vR q1 fun x1=>vS q2 fun x2=>vS q3 fun x3=>vS q4 fun x4=>vS q5 fun x5=>vS q6 fun x6=>f x1 x2 x3 x4 x5 x6 H Q E
@[elab_as_elim] theorem Dy {f:Addr→Str→Str→Str→Str→Str→Hp→VK→XK→Prop} {vs:List V} {H:Hp} {Q:VK} {E:XK} {G:List V→Prop} (h:HA f vs H Q E) (k:∀ x1 x2 x3 x4 x5 x6,f x1 x2 x3 x4 x5 x6 H Q E→G [.ref x1,.str x2,.str x3,.str x4,.str x5,.str x6]):G vs:=by
 obtain ⟨_,_,_,_,_,_,rfl,h⟩:=a6.o h;obtain ⟨x1,rfl,h⟩:=vR.o h;obtain ⟨x2,rfl,h⟩:=vS.o h;obtain ⟨x3,rfl,h⟩:=vS.o h;obtain ⟨x4,rfl,h⟩:=vS.o h;obtain ⟨x5,rfl,h⟩:=vS.o h;obtain ⟨x6,rfl,h⟩:=vS.o h;exact k x1 x2 x3 x4 x5 x6 h
def Aj (f:Addr→V→Hp→VK→XK→Prop):Sp:=a2 fun q1 x2 H Q E=>vR q1 fun x1=>f x1 x2 H Q E
@[elab_as_elim] theorem sM {f:Addr→V→Hp→VK→XK→Prop} {vs:List V} {H:Hp} {Q:VK} {E:XK} {G:List V→Prop} (h:Aj f vs H Q E) (k:∀ x1 x2,f x1 x2 H Q E→G [.ref x1,x2]):G vs:=by
 obtain ⟨_,x2,rfl,h⟩:=a2.o h;obtain ⟨x1,rfl,h⟩:=vR.o h;exact k x1 x2 h
def G1 (f:Addr→V→V→Hp→VK→XK→Prop):Sp:=a3 fun q1 x2 x3 H Q E=>vR q1 fun x1=>f x1 x2 x3 H Q E
@[elab_as_elim] theorem m9 {f:Addr→V→V→Hp→VK→XK→Prop} {vs:List V} {H:Hp} {Q:VK} {E:XK} {G:List V→Prop} (h:G1 f vs H Q E) (k:∀ x1 x2 x3,f x1 x2 x3 H Q E→G [.ref x1,x2,x3]):G vs:=by
 obtain ⟨_,x2,x3,rfl,h⟩:=a3.o h;obtain ⟨x1,rfl,h⟩:=vR.o h;exact k x1 x2 x3 h
def yf (f:Addr→V→V→V→Hp→VK→XK→Prop):Sp:=a4 fun q1 x2 x3 x4 H Q E=>vR q1 fun x1=>f x1 x2 x3 x4 H Q E
@[elab_as_elim] theorem tI {f:Addr→V→V→V→Hp→VK→XK→Prop} {vs:List V} {H:Hp} {Q:VK} {E:XK} {G:List V→Prop} (h:yf f vs H Q E) (k:∀ x1 x2 x3 x4,f x1 x2 x3 x4 H Q E→G [.ref x1,x2,x3,x4]):G vs:=by
 obtain ⟨_,x2,x3,x4,rfl,h⟩:=a4.o h;obtain ⟨x1,rfl,h⟩:=vR.o h;exact k x1 x2 x3 x4 h
def Ck (f:Addr→V→V→V→V→Hp→VK→XK→Prop):Sp:=a5 fun q1 x2 x3 x4 x5 H Q E=>vR q1 fun x1=>f x1 x2 x3 x4 x5 H Q E
@[elab_as_elim] theorem HH {f:Addr→V→V→V→V→Hp→VK→XK→Prop} {vs:List V} {H:Hp} {Q:VK} {E:XK} {G:List V→Prop} (h:Ck f vs H Q E) (k:∀ x1 x2 x3 x4 x5,f x1 x2 x3 x4 x5 H Q E→G [.ref x1,x2,x3,x4,x5]):G vs:=by
 obtain ⟨_,x2,x3,x4,x5,rfl,h⟩:=a5.o h;obtain ⟨x1,rfl,h⟩:=vR.o h;exact k x1 x2 x3 x4 x5 h
def GA (f:Addr→V→V→V→V→V→Hp→VK→XK→Prop):Sp:=a6 fun q1 x2 x3 x4 x5 x6 H Q E=>vR q1 fun x1=>f x1 x2 x3 x4 x5 x6 H Q E
@[elab_as_elim] theorem C9 {f:Addr→V→V→V→V→V→Hp→VK→XK→Prop} {vs:List V} {H:Hp} {Q:VK} {E:XK} {G:List V→Prop} (h:GA f vs H Q E) (k:∀ x1 x2 x3 x4 x5 x6,f x1 x2 x3 x4 x5 x6 H Q E→G [.ref x1,x2,x3,x4,x5,x6]):G vs:=by
 obtain ⟨_,x2,x3,x4,x5,x6,rfl,h⟩:=a6.o h;obtain ⟨x1,rfl,h⟩:=vR.o h;exact k x1 x2 x3 x4 x5 x6 h
def B9 (f:Addr→V→V→V→V→V→V→Hp→VK→XK→Prop):Sp:=a7 fun q1 x2 x3 x4 x5 x6 x7 H Q E=>vR q1 fun x1=>f x1 x2 x3 x4 x5 x6 x7 H Q E
@[elab_as_elim] theorem GP {f:Addr→V→V→V→V→V→V→Hp→VK→XK→Prop} {vs:List V} {H:Hp} {Q:VK} {E:XK} {G:List V→Prop} (h:B9 f vs H Q E) (k:∀ x1 x2 x3 x4 x5 x6 x7,f x1 x2 x3 x4 x5 x6 x7 H Q E→G [.ref x1,x2,x3,x4,x5,x6,x7]):G vs:=by
 obtain ⟨_,x2,x3,x4,x5,x6,x7,rfl,h⟩:=a7.o h;obtain ⟨x1,rfl,h⟩:=vR.o h;exact k x1 x2 x3 x4 x5 x6 x7 h
def jd (f:Str→Hp→VK→XK→Prop):Sp:=a1 fun q1 H Q E=>vS q1 fun x1=>f x1 H Q E
@[elab_as_elim] theorem eB {f:Str→Hp→VK→XK→Prop} {vs:List V} {H:Hp} {Q:VK} {E:XK} {G:List V→Prop} (h:jd f vs H Q E) (k:∀ x1,f x1 H Q E→G [.str x1]):G vs:=by
 obtain ⟨_,rfl,h⟩:=a1.o h;obtain ⟨x1,rfl,h⟩:=vS.o h;exact k x1 h
def qM (f:V→Hp→VK→XK→Prop):Sp:=a1 fun x1 H Q E=>f x1 H Q E
@[elab_as_elim] theorem j9 {f:V→Hp→VK→XK→Prop} {vs:List V} {H:Hp} {Q:VK} {E:XK} {G:List V→Prop} (h:qM f vs H Q E) (k:∀ x1,f x1 H Q E→G [x1]):G vs:=by
 obtain ⟨x1,rfl,h⟩:=a1.o h;exact k x1 h
def Ox (K:PySem.W.Frag):Sp:=qM fun x H Q _=>(∃ T,clsName H x=some T)∧Ge x∧∀ H',ai H H'→Q (.bl (dR x)) H'
theorem Dm {nm:List Nat} (h:isNm nm=true):1≤nm.length∧nm.length≤8∧nm.all (m7.contains ·)=true:=by
 unfold isNm at h;simp only [Bool.and_eq_true,decide_eq_true_eq] at h;exact ⟨h.1.1,h.1.2,h.2⟩
theorem VR:Str.ofString "abcdefghijklmnopqrstuvwxyz" = Tx.S m7:=by decide +kernel
def bZ (l:List Nat):Bool:=decide (l=[46]) || decide (l=[46,46]) || isNm l
theorem nJ {l:List Nat} (h:bZ l=true):47 ∉ l∧l≠[]∧l.length≤8:=by
 unfold bZ at h;simp only [Bool.or_eq_true,decide_eq_true_eq] at h;rcases h with (rfl | rfl) | h
 ·exact ⟨by decide,by decide,by decide⟩
 ·exact ⟨by decide,by decide,by decide⟩
 ·obtain ⟨h1,h2,h3⟩:=Dm h;refine ⟨fun m=>?_,fun e=>by rw [e] at h1; simp at h1,h2⟩;have:=List.all_eq_true.mp h3 47 m;exact absurd this (by decide +kernel)
abbrev PV (ps:List (List Nat)):List V:=(ps.map Tx.S).map V.str
def told (ps:List (List Nat)) (t:List Nat):List (List Nat):=if ps≠[]∧t.getLast?=some 47 then ps++[[46]] else ps
def dG (t:List Nat):Bool:=decide (t.head?=some 47)
theorem uJ {ps:List (List Nat)} {t:List Nat} (h:ps.all bZ=true):(told ps t).all bZ=true:=by
 unfold told;split
 ·rw [List.all_append,h]; rfl
 ·exact h
theorem Gm {ps:List (List Nat)} {t:List Nat}:(told ps t).length≤ps.length+1:=by
 unfold told;split
 ·rw [List.length_append]; exact Nat.le_refl _
 ·omega
def Lf (K:PySem.W.Frag):Sp:=jd fun z H Q _=>∃ w:List Nat,z=Tx.S w∧w.length≤1000∧∀ H',ai H H'→Q (.bl (bZ w)) H'
def PN (K:PySem.W.Frag):Sp:=jd fun z H Q _=>∃ t:List Nat,z=Tx.S t∧1≤t.length∧t.length≤2000∧(Tx.words 47 t).all bZ=true ∧
   ∀ (H':Hp) (l p:Addr),ai H H'→H l=none→H' l=some (.lst (PV (told (Tx.words 47 t) t)))→H' p=some (.tup [.bl (dG t),.ref l])→Q (.ref p) H'
structure Wl (ps:List (List Nat)) (t:List Nat):Prop where
 words:Tx.words 47 t=ps
 one:1≤t.length
 most:t.length≤150
def qy (n kd ow mi re tx nm pl:V):List (Str×V):=[("number",n),("kind",kd),("owner",ow),("mine",mi),("rest",re),("text",tx),("names",nm),("places",pl)]
def qr (ml:Addr) (c:Int):List (Str×V):=[("made",.ref ml),("changes",.int c)]
structure Th where
 kd:Str
 ow:Str
 mi:Str
 re:Str
 tx:Str
 aZ:List (Str×Nat)
 c7:List (Nat×Str)
structure Hs where
 ts:List Th
 ro:List (Str×Nat)
 st:List (Str×Nat)
 tr:List (Str×Nat)
 ov:List (Nat×Nat)
 un:List (Nat×Nat)
structure Ta where
 th:Addr
 cI:Addr
 nm:Addr
 pl:Addr
structure Ad where
 a:Addr
 dx:Addr
 t:Addr
 dt:Addr
 ml:Addr
 ro:Addr
 st:Addr
 tr:Addr
 ov:Addr
 un:Addr
 ho:Addr
def oU (c:Int) (A:Ad):List (Str×V):=[("things",.ref A.t),("changes",.int c),("roots",.ref A.ro),("standings",.ref A.st),("tree_roots",.ref A.tr),("root_over",.ref A.ov),("folder_under",.ref A.un),("holds",.ref A.ho),("holds_given",.int 0),("first_root",.int 0)]
theorem U7 {f:Str} {c c':Int} {A:Ad} (h:f ≠ "changes"):(oU c A).lookup f=(oU c' A).lookup f:=by
 unfold oU;simp only [List.lookup];have:(f == ("changes" : Str))=false:=beq_eq_false_iff_ne.mpr h;rw [this]
def sD (l:List (Str×Nat)):List (Key×V):=l.map fun e=>(.inr e.1,.int e.2)
def nD (l:List (Nat×Nat)):List (Key×V):=l.map fun e=>(.inl (e.1:Int),.int e.2)
def pD (l:List (Nat×Str)):List (List Key×V):=l.map fun e=>([.inl (e.1:Int),.inr e.2],.bl true)
structure lK (CT:Addr) (H:Hp) (a:Ta) (i:Nat) (t:Th):Prop where
 o:∃ fs,H a.th=some (.ins CT a.cI fs)∧fs.length≤40∧cA fs (qy (.int i) (.str t.kd) (.str t.ow) (.str t.mi) (.str t.re) (.str t.tx) (.ref a.nm) (.ref a.pl))
 nm:H a.nm=some (.dK (sD t.aZ))
 pl:H a.pl=some (.dT (pD t.c7))
def Ad.w (A:Ad):List Addr:=[A.a,A.t,A.ml,A.ro,A.st,A.tr,A.ov,A.un]
def Ta.l (a:Ta):List Addr:=[a.th,a.nm,a.pl]
structure aI (CH CS CT:Addr) (H:Hp) (A:Ad) (L:List Ta) (M:Hs):Prop where
 h:∃ fs c,H A.a=some (.ins CH A.dx fs)∧fs.length≤40∧cA fs (oU c A)
 t:∃ fs c,H A.t=some (.ins CS A.dt fs)∧fs.length≤40∧cA fs (qr A.ml c)
 ml:H A.ml=some (.lst (L.map fun a=>.ref a.th))
 len:L.length=M.ts.length
 th:∀ i t,M.ts[i]?=some t→∃ a,L[i]?=some a∧lK CT H a i t
 ro:H A.ro=some (.dK (sD M.ro))
 st:H A.st=some (.dK (sD M.st))
 tr:H A.tr=some (.dK (sD M.tr))
 ov:H A.ov=some (.dK (nD M.ov))
 un:H A.un=some (.dK (nD M.un))
 nd:(A.w++L.flatMap Ta.l).Nodup
def Kp (W:List Addr) (H H':Hp):Prop:=∀ b o,b ∉ W→H b=some o→H' b=some o
theorem Kp.trans {W:List Addr} {H H1 H2:Hp} (a:Kp W H H1) (b:Kp W H1 H2):Kp W H H2:=fun c o h e=>b c o h (a c o h e)
theorem Kp.of {W:List Addr} {H H':Hp} (s:ai H H'):Kp W H H':=fun b o _ e=>s b o e
theorem bL {H:Hp} {a b:Addr} {o u:HO} (h1:H a=some o) (h2:H b=some u) (h:o≠u):a≠b:=fun e=>h (by rw [e,h2] at h1; cases h1; rfl)
theorem aF {H:Hp} {a b:Addr} {o:HO} (h1:H a=some o) (h2:H b=none):a≠b:=fun e=>by rw [e,h2] at h1; cases h1
theorem jn {H:Hp} {x d:Addr} {o O oo:HO} (hn:H d=none) (hx:H x=some oo):upd (upd H d o) x O x=some O∧upd (upd H d o) x O d=some o∧(∀ b u,b≠x→H b=some u→upd (upd H d o) x O b=some u)∧d≠x:=by
 have n:=aF hx hn;refine ⟨ay,by rw [ah (Ne.symm n),ay],fun b u hb e=>?_,Ne.symm n⟩;rw [ah hb,ah (aF e hn)]; exact e
section
variable {CH CS CT:Addr} {H H':Hp} {A:Ad} {L:List Ta} {M:Hs}
theorem lK.keep {W:List Addr} {a:Ta} {i:Nat} {t:Th} (h:lK CT H a i t) (k:Kp W H H') (hw:∀ b∈a.l,b ∉ W):lK CT H' a i t where
 o:=let ⟨fs,e,r⟩:=h.o; ⟨fs,k _ _ (hw _ (by simp [Ta.l])) e,r⟩
 nm:=k _ _ (hw _ (by simp [Ta.l])) h.nm
 pl:=k _ _ (hw _ (by simp [Ta.l])) h.pl
theorem iB {i:Nat} {a:Ta} (h:L[i]?=some a) {b:Addr} (hb:b∈a.l):b∈L.flatMap Ta.l:=List.mem_flatMap.mpr ⟨a,List.mem_of_getElem? h,hb⟩
theorem aI.keep {W:List Addr} (i:aI CH CS CT H A L M) (k:Kp W H H') (hw:∀ b∈A.w++L.flatMap Ta.l,b ∉ W):aI CH CS CT H' A L M where
 h:=let ⟨fs,c,e,r⟩:=i.h; ⟨fs,c,k _ _ (hw _ (by simp [Ad.w])) e,r⟩
 t:=let ⟨fs,c,e,r⟩:=i.t; ⟨fs,c,k _ _ (hw _ (by simp [Ad.w])) e,r⟩
 ml:=k _ _ (hw _ (by simp [Ad.w])) i.ml
 len:=i.len
 th:=fun j t e=>let ⟨a,e1,h⟩:=i.th j t e; ⟨a,e1,h.keep k fun b hb=>hw b (List.mem_append_right _ (iB e1 hb))⟩
 ro:=k _ _ (hw _ (by simp [Ad.w])) i.ro
 st:=k _ _ (hw _ (by simp [Ad.w])) i.st
 tr:=k _ _ (hw _ (by simp [Ad.w])) i.tr
 ov:=k _ _ (hw _ (by simp [Ad.w])) i.ov
 un:=k _ _ (hw _ (by simp [Ad.w])) i.un
 nd:=i.nd
theorem aI.same (i:aI CH CS CT H A L M) (s:ai H H'):aI CH CS CT H' A L M:=i.keep (W:=[]) (.of s) fun _ _=>by simp
theorem uZ:∀ {L:List Ta} {i j:Nat} {a a':Ta} {b:Addr},(L.flatMap Ta.l).Nodup→L[i]?=some a→L[j]?=some a'→b∈a.l→b∈a'.l→i=j
 | [],_,_,_,_,_,_,h,_,_,_=>by simp at h
 | c::r,0,0,_,_,_,_,_,_,_,_=>rfl
 | c::r,0,j+1,a,a',b,nd,h1,h2,m1,m2=>by
  rw [List.flatMap_cons,List.nodup_append] at nd;simp only [List.getElem?_cons_zero,Option.some.injEq] at h1;simp only [List.getElem?_cons_succ] at h2;subst h1;exact absurd rfl (nd.2.2 b m1 b (iB h2 m2))
 | c::r,i+1,0,a,a',b,nd,h1,h2,m1,m2=>by
  rw [List.flatMap_cons,List.nodup_append] at nd;simp only [List.getElem?_cons_zero,Option.some.injEq] at h2;simp only [List.getElem?_cons_succ] at h1;subst h2;exact absurd rfl (nd.2.2 b m2 b (iB h1 m1))
 | c::r,i+1,j+1,a,a',b,nd,h1,h2,m1,m2=>by
  rw [List.flatMap_cons,List.nodup_append] at nd;simp only [List.getElem?_cons_succ] at h1 h2;rw [uZ nd.2.1 h1 h2 m1 m2]
theorem aI.write {k:Nat} {a:Ta} {t':Th} (i:aI CH CS CT H A L M) (hk:L[k]?=some a) (hh:∃ fs c,H' A.a=some (.ins CH A.dx fs)∧fs.length≤40∧cA fs (oU c A)) (ht:∃ fs c,H' A.t=some (.ins CS A.dt fs)∧fs.length≤40∧cA fs (qr A.ml c))
  (aO:lK CT H' a k t') (kp:Kp [A.a,A.t,a.th,a.nm,a.pl] H H'):aI CH CS CT H' A L { M with ts:=M.ts.set k t' }:=by
 have nd:=i.nd;rw [List.nodup_append] at nd;obtain ⟨n1,n2,n3⟩:=nd;have ma:∀ b∈a.l,b∈L.flatMap Ta.l:=fun b hb=>iB hk hb;have pC:∀ b∈[A.ml,A.ro,A.st,A.tr,A.ov,A.un],b ∉ [A.a,A.t,a.th,a.nm,a.pl]:=by
  intro b hb hm;have hw:b∈A.w:=by
   simp only [Ad.w,List.mem_cons,List.not_mem_nil,or_false] at hb ⊢;rcases hb with h | h | h | h | h | h <;> simp [h]
  simp only [List.mem_cons,List.not_mem_nil,or_false] at hm;rcases hm with rfl | rfl | rfl | rfl | rfl
  ·have:=(List.nodup_cons.mp n1).1;simp only [List.mem_cons,List.not_mem_nil,or_false,not_or] at hb this;rcases hb with h | h | h | h | h | h <;> simp [h] at this
  ·have:=(List.nodup_cons.mp (List.nodup_cons.mp n1).2).1;simp only [List.mem_cons,List.not_mem_nil,or_false,not_or] at hb this;rcases hb with h | h | h | h | h | h <;> simp [h] at this
  ·exact n3 _ hw _ (ma _ (by simp [Ta.l])) rfl
  ·exact n3 _ hw _ (ma _ (by simp [Ta.l])) rfl
  ·exact n3 _ hw _ (ma _ (by simp [Ta.l])) rfl
 refine ⟨hh,ht,kp _ _ (pC _ (by simp)) i.ml,by rw [i.len]; simp,fun j t e=>?_,kp _ _ (pC _ (by simp)) i.ro,kp _ _ (pC _ (by simp)) i.st,kp _ _ (pC _ (by simp)) i.tr,kp _ _ (pC _ (by simp)) i.ov,kp _ _ (pC _ (by simp)) i.un,i.nd⟩;by_cases hj:j=k
 ·subst hj;have bU:j < M.ts.length:=by rw [← i.len]; exact (List.getElem?_eq_some_iff.mp hk).1
  have e':(M.ts.set j t')[j]?=some t:=e;rw [List.getElem?_set_self bU] at e';cases e';exact ⟨a,hk,aO⟩
 ·have e':(M.ts.set k t')[j]?=some t:=e;rw [List.getElem?_set_ne (Ne.symm hj)] at e';obtain ⟨a',e1,h1⟩:=i.th j t e';refine ⟨a',e1,h1.keep kp fun b hb hm=>?_⟩;have mK:=iB e1 hb;simp only [List.mem_cons,List.not_mem_nil,or_false] at hm;rcases hm with rfl | rfl | rfl | rfl | rfl
  ·exact n3 _ (by simp [Ad.w]) _ mK rfl
  ·exact n3 _ (by simp [Ad.w]) _ mK rfl
  ·exact hj (uZ n2 e1 hk hb (by simp [Ta.l]))
  ·exact hj (uZ n2 e1 hk hb (by simp [Ta.l]))
  ·exact hj (uZ n2 e1 hk hb (by simp [Ta.l]))
end
def Hc:V→Bool
 | .int _=>true
 | _=>false
def ML:Sp:=qM fun v H Q _=>(∃ T,clsName H v=some T)∧Q (.bl (Hc v)) H
def Uk:Sp:=qM fun x H Q _=>(∃ T,clsName H x=some T)∧Ge x∧dR x=true∧∀ H',ai H H'→Q .ax H'
def Uo (C:Addr):Sp:=B9 fun x n kd ow mi re tx H Q _=>∃ dx,H x=some (.ins C dx [])∧∀ l1 l2 H',H l1=none→H l2=none→l1≠l2→l1≠x→l2≠x→(∀ b,b≠x→b≠l1→b≠l2→H' b=H b)→H' l1=some (.dK [])→H' l2=some (.dT []) →
   (∀ fs,fs.length≤40→cA fs (qy n kd ow mi re tx (.ref l1) (.ref l2))→H' x=some (.ins C dx fs)→Q .ax H')
def Rq (C:Addr):Sp:=iw fun x H Q _=>∃ dx,H x=some (.ins C dx [])∧∀ l H',H l=none→l≠x→(∀ b,b≠x→b≠l→H' b=H b)→H' l=some (.lst [])→(∀ fs,fs.length≤40→cA fs (qr l 0)→H' x=some (.ins C dx fs)→Q .ax H')
structure kC (CS:Addr) (H:Hp) (x dt ml:Addr) (rs:List V):Prop where
 o:∃ fs c,H x=some (.ins CS dt fs)∧fs.length≤40∧cA fs (qr ml c)
 ml:H ml=some (.lst rs)
def uu (CS CT:Addr) (x dt ml:Addr) (rs:List V) (kd ow mi re tx:V) (H:Hp) (Q:VK):Prop :=
 ∀ th cI nm pl ks H',H th=none→H nm=none→H pl=none→kC CS H' x dt ml (rs++[.ref th])→H' th=some (.ins CT cI ks)→ks.length≤40→cA ks (qy (.int rs.length) kd ow mi re tx (.ref nm) (.ref pl)) →
  H' nm=some (.dK [])→H' pl=some (.dT [])→Kp [x,ml] H H'→Q (.int rs.length) H'
def QX (CS CT:Addr):Sp:=GA fun x kd ow mi re tx H Q _=>∃ dt ml rs,kC CS H x dt ml rs∧rs.length≤500∧uu CS CT x dt ml rs kd ow mi re tx H Q
def VT (CS CT:Addr):Sp:=yf fun x ow mi re H Q _=>∃ dt ml rs,kC CS H x dt ml rs∧rs.length≤500∧uu CS CT x dt ml rs (.str "folder") ow mi re (.str "") H Q
def RK (CS CT:Addr):Sp:=Ck fun x ow tx mi re H Q _=>∃ dt ml rs,kC CS H x dt ml rs∧rs.length≤500∧uu CS CT x dt ml rs (.str "file") ow mi re tx H Q
def Ef (CH CS CT CN:Addr):Sp:=Aj fun x v H Q E=>∃ A L M,aI CH CS CT H A L M∧A.t=x∧(∃ T,clsName H v=some T)∧(∀ (k:Nat) a t,v=.int k→L[k]?=some a→M.ts[k]?=some t→Q (.ref a.th) H)∧((∀ k:Nat,v=.int k→¬ k < M.ts.length)→E (.ref CN) none H)
abbrev kf:=Ad→List Ta→Hs→Nat→Ta→Th→Hp→VK→Prop
def nI (CH CS CT:Addr) (sel:Ad→Addr) (f:kf):Sp:=je fun x n H Q _=>∃ A L M,∃ k:Nat,∃ a t,aI CH CS CT H A L M∧sel A=x∧n=(k:Int)∧L[k]?=some a∧M.ts[k]?=some t∧f A L M k a t H Q
def MH (CH CS CT:Addr) (sel:Ad→Addr):Sp:=uK fun x n z H Q _=>∃ A L M,∃ k:Nat,∃ a t,aI CH CS CT H A L M∧sel A=x∧n=(k:Int)∧L[k]?=some a∧M.ts[k]?=some t∧Q ((aN (sD t.aZ) (.inr z)).getD .ax) H
def Vb (CH CS CT:Addr):Sp:=uK fun x n z H Q _=>∃ A L M,∃ k:Nat,∃ a t,aI CH CS CT H A L M∧A.a=x∧n=(k:Int)∧L[k]?=some a∧M.ts[k]?=some t∧dR (.str z)=true∧z.length≤1000∧∀ H',ai H H'→Q ((aN (sD t.aZ) (.inr z)).getD .ax) H'
abbrev Wi:kf:=fun _ _ _ _ _ t H Q=>t.aZ.length < 64∧∀ l,H l=none→Q (.ref l) (upd H l (.lst ((fT (t.aZ.map (·.1))).map V.str)))
abbrev F5:kf:=fun _ _ _ _ _ t H Q=>(t.c7=[]∧Q .ax H)∨∃ f z,t.c7=[(f,z)]∧∀ p,H p=some (.tup [.int (f:Nat),.str z])→Q (.ref p) H
abbrev oV:kf:=fun _ _ _ _ _ t H Q=>Q (.str t.kd) H
abbrev R9:kf:=fun _ _ _ _ _ t H Q=>Q (.str t.ow) H
abbrev Wk:kf:=fun _ _ _ _ _ t H Q=>Q (.str t.tx) H
abbrev V8:kf:=fun _ _ _ _ _ t H Q=>∀ l,H l=none→Q (.ref l) (upd H l (.tup [.str t.mi,.str t.re]))
abbrev VF:kf:=fun _ _ _ _ _ _ H Q=>Q .ax H
def DI (CH CS CT CA:Addr):Sp:=Aj fun x v H Q E=>∃ A L M,aI CH CS CT H A L M∧A.a=x∧(∃ T,clsName H v=some T)∧(∀ z,v=.str z→(aN (sD M.ro) (.inr z)).isSome=true→Q .ax H)∧((∀ z,v=.str z→aN (sD M.ro) (.inr z)=none)→E (.ref CA) none H)
def NM (CH CS CT:Addr):Sp:=fN fun x z H Q _=>∃ A L M,∃ r:Nat,aI CH CS CT H A L M∧A.a=x∧aN (sD M.ro) (.inr z)=some (.int r)∧Q (.int r) H
def cJ (t:Th) (asker:Str):Str:=if asker=t.ow then t.mi else t.re
def V1 (CT:Addr):Sp:=fN fun x z H Q _=>∃ a i t,lK CT H a i t∧a.th=x∧Q (.str (cJ t z)) H
def ik (v:V):Bool:=decide (v=.str "l") || decide (v=.str "g") || decide (v=.str "w")
def VH (CR:Addr):Sp:=qM fun v H Q E=>(∃ T,clsName H v=some T)∧(ik v=true→Q .ax H)∧(ik v=false→E (.ref CR) none H)
def cW (s:Str) (z:Str):Bool:=!(Builtin.Str.occurrences z s 0 z.length 1).isEmpty
def Dp (CH CS CT CA CR CN:Addr):Sp:=yf fun x w v r H Q E=>∃ A L M,aI CH CS CT H A L M∧A.a=x∧(∃ T,clsName H w=some T)∧(∃ T,clsName H v=some T)∧(∃ T,clsName H r=some T) ∧
   ((∀ z,w=.str z→aN (sD M.ro) (.inr z)=none)→E (.ref CA) none H) ∧
   ∀ z,w=.str z→(aN (sD M.ro) (.inr z)).isSome=true→(ik r=false→E (.ref CR) none H) ∧
    ∀ s,r=.str s→ik r=true→((∀ k:Nat,v=.int k→¬ k < M.ts.length)→E (.ref CN) none H)∧∀ (k:Nat) t,v=.int k→M.ts[k]?=some t→Q (.bl (cW s (cJ t z))) H
local macro_rules | `(tactic| walk_at "rd")=>`(tactic| dsimp only [wy,xU,yl,vV,j5,eO,yr,kZ,tC,gG,vP,tq,lJ,gL,gn,uX,pU,w8,xT,xq,xv,qO,ia,nu,xr,uy,sY,j3,yF,xl,yQ,yX,tH,zY,tU,z9,Pz,SA,Oe,VN,lO,uf,wc,wo,vO,zp,yR,Ac,wK,rJoin,xu,zQ,pS,wM,zq,vY,zP,Cb,xk,zJ,yB,Ab,x9,vW,w9,pH,qB,wG,wg,v7,yE,wb,zh,wC,xA,z7,y8,xg,zu,wq,KS,ua,fR,yG,Pf,zo,Af,Ag,zH,yZ,zC,xK,xb,y9,zU,sQ,wX,xQ,NT,DC,y2,uT,TZ,List.getElem?_cons_zero,List.getElem?_cons_succ,List.set_cons_zero,List.set_cons_succ,List.cons_append,List.nil_append])
local macro_rules | `(tactic| walk_at "w")=>`(tactic| (first | walk_at "rd" | skip))
section
variable {P:Program} {w:World} {K:PySem.W.Frag} {mg:Str→Option Value} {base:Heap}
theorem yH (T:Tx K mg):aA P w K mg base aM 1 T.gj.f T.gj.d ["text"] (Ox K):=by
 refine T.gj.F.ok MY (fun vs H Q E h=>?_) (fun az A outer s H vs Q E hr h=>?_)
 ·exact j9 h fun _ _=>rfl
 ·refine j9 h fun x h=>?_;obtain ⟨⟨ty,h1⟩,jD,q⟩:=h;refine ⟨_,((Dv.cut (Dv.aW (Dv.dv (Dv.w_or (Dv.cw (Dv.cg (Dv.cD js T.fv fq (Dv.aa (Dv.v 0) (Dv.aa (Dv.jm (.ty "str") T.jW ko rfl) Dv.ag))))) (Dv.hZ (Dv.cw (Dv.yT oj oj Dv.int (Dv.cD (kb (K:=K) rfl) T.iS PySem.boot_len (Dv.aa (Dv.v 0) Dv.ag)) (Dv.glob (.int 8) T.VU ⟨_,rfl⟩)))))) (Dv.aj (Dv.aP Dv.bl)) Dv.nil)
  (Dv.aj (Dv.aP (Dv.cD (CZ (K:=K) rfl rfl) T.Hk EI (Dv.aa (Dv.Fo rfl (x:=("sign" : Str)) (Dv.TU (Dv.v 0)) (fun _ _ _ _=>by exact Dv.tL) (fun _ _ _ _=>by exact (Dv.dA 0 (show List.Nodup (["sign"]:List Str) by decide))) (fun _ _ _ _=>by exact (Dv.cmp (mU (K:=K) rfl) (Dv.v 0) (Dv.glob (.str "abcdefghijklmnopqrstuvwxyz") T.Po ⟨_,rfl⟩))) (.of rfl (by exact trivial) (by (repeat (first | exact trivial | (refine ⟨fun z=>(by first | exact ⟨_,rfl⟩ | (rcases z with z | z <;> cases z)),?_⟩)))) rfl (by exact trivial))) Dv.ag)))))).h,?_⟩
  refine stI [some x] ?_;refine ao ?_;walk_at "rd";simp only [h1,xH h1];refine ⟨uh _ rfl,?_⟩;cases x with
  | str z =>
   simp only [ue,Bool.not_true,Bool.false_eq_true,if_false];have hsh':z.length≤1000:=jD;have hl:z.cps.toList.length=z.length:=by simp [Str.length]
   refine ⟨fits hsh',?_⟩;by_cases a1:1≤z.length
   ·rw [decide_eq_true (show (1:Int)≤(z.length:Int) by omega)];refine bM ?_;by_cases a2:z.length≤8
    ·rw [decide_eq_true (show (z.length:Int)≤8 by omega)];refine bb ?_;refine KZ (fun c=>.bl (m7.contains c)) (fits hsh') ?_ ?_
     ·intro c _ H1 _ R hR;walk_at "rd";rw [VR,show (⟨#[c]⟩:Str)=Tx.S [c] from rfl,Tx.Kr];exact hR H1 (ai.refl H1)
     ·intro H1 s1 l rj;refine ⟨_,aK.of ay,z.cps.toList.map (m7.contains ·),by rw [List.map_map]; rfl,?_⟩;have e:((z.cps.toList.map (m7.contains ·)).all id)=dR (.str z):=by
       show _=isNm z.cps.toList;unfold isNm;rw [hl,decide_eq_true a1,decide_eq_true a2,List.all_map];rfl
      rw [e];exact q _ (s1.trans (ai.upd rj))
    ·rw [decide_eq_false (show ¬ (z.length:Int)≤8 by omega)];refine bM ?_;have e:dR (.str z)=false:=by
      show isNm z.cps.toList=false;unfold isNm;rw [hl,decide_eq_false a2,Bool.and_false,Bool.false_and]
     have:=q H (ai.refl H);rw [e] at this;exact this
   ·rw [decide_eq_false (show ¬ (1:Int)≤(z.length:Int) by omega)];refine bb (bM ?_);have e:dR (.str z)=false:=by
     show isNm z.cps.toList=false;unfold isNm;rw [hl,decide_eq_false a1,Bool.false_and,Bool.false_and]
    have:=q H (ai.refl H);rw [e] at this;exact this
  | _=>exact q H (ai.refl H)
theorem bC {X:Cx} {b:List Stmt} {t:TS} {D:Ends} {σ:St} {H:Hp} (h:QB X b t) (q:t D σ H):∃ t,cP X b t∧t D σ H:=⟨t,h.h,q⟩
def Mf:V→Bool
 | .int _=>true
 | .bl _=>true
 | _=>false
theorem RZ {H:Hp} {v:V} {ty:String} (h:clsName H v=some ty):rn ty "int" = Mf v:=by
 unfold clsName at h;split at h
 ·cases h; rfl
 ·cases h; rfl
 ·cases h; rfl
 ·cases h; rfl
 ·split at h
  ·cases h; rfl
  ·cases h; rfl
  ·cases h; rfl
  ·cases h
 ·cases h
theorem D9 (T:Tx K mg):aA P w K mg base aM 1 T.ja.f T.ja.d ["number"] ML:=by
 refine T.ja.F.ok S8 (fun vs H Q E h=>?_) (fun az A outer s H vs Q E hr h=>?_)
 ·exact j9 h fun _ _=>rfl
 ·refine j9 h fun v h=>?_;obtain ⟨⟨ty,b8⟩,q⟩:=h;refine ⟨_,((Dv.aj (Dv.aP (Dv.z8 (Dv.cD js T.fv fq (Dv.aa (Dv.v 0) (Dv.aa (Dv.jm (.ty "int") T.p8 qN rfl) Dv.ag))) (Dv.one (Dv.Uu (Dv.cD js T.fv fq (Dv.aa (Dv.v 0) (Dv.aa (Dv.jm (.ty "bool") T.g_bool Lj rfl) Dv.ag))))))))).h,?_⟩;refine stI [some v] ?_;walk_at "w";simp only [b8];refine ⟨by decide,?_⟩;cases v with
  | int i=>cases b8; exact bM ⟨by decide,q⟩
  | bl b=>cases b8; exact bM ⟨by decide,q⟩
  | _ =>
   rw [RZ b8];exact bb q
theorem yx (T:Tx K mg):aA P w K mg base aM 2 T.gd.f T.gd.d ["text"] Uk:=by
 refine T.gd.F.ok Qb (fun vs H Q E h=>?_) (fun az A outer s H vs Q E hr h=>?_)
 ·exact j9 h fun _ _=>rfl
 ·refine j9 h fun x h=>?_;obtain ⟨hc,jD,hn,q1⟩:=h;refine ⟨_,((Dv.aj (Dv.aW (Dv.cw (Dv.cg (Dv.call (yH T) (hr.mono (by decide)) T.gj.m T.gj.F.kp T.gj.b .nil aw (Dv.aa (Dv.v 0) Dv.ag)))) (Dv.aj Dv.cK) Dv.nil))).h,?_⟩;refine stI [some x] ?_;walk_at "w";refine ⟨hc,jD,fun H' s'=>?_⟩;rw [hn];exact bb (q1 H' s')
def gE:List Str:=["", "l", "g", "w", "lg", "lw", "gw", "lgw"]
def VI:Sp:=jd fun z H Q _=>z∈gE∧Q (.bl true) H
def Ol:Sp:=jd fun z H Q _=>z∈gE∧Q .ax H
theorem Qh {z:Str} {zs:List Str} (h:z∈zs):fQ (V.str z) (zs.map V.str)=true:=by
 unfold fQ;rw [List.any_map,List.any_eq_true];exact ⟨z,h,show (z == z)=true from beq_self_eq_true z⟩
theorem Nt (T:Tx K mg):aA P w K mg base aM 1 T.n9.f T.n9.d ["text"] VI:=by
 refine T.n9.F.ok Ss (fun vs H Q E h=>?_) (fun az A outer s H vs Q E hr h=>?_)
 ·exact eB h fun _ _=>rfl
 ·refine eB h fun z h=>?_;obtain ⟨hz,q⟩:=h;refine ⟨_,((Dv.aj (Dv.aP (Dv.z8 (Dv.cD js T.fv fq (Dv.aa (Dv.v 0) (Dv.aa (Dv.jm (.ty "str") T.jW ko rfl) Dv.ag))) (Dv.one (Dv.cmp (Cg (K:=K) rfl) (Dv.v 0) (Dv.glob (.ref T.AZ) T.Ki rfl))))))).h,?_⟩;refine stI [some (V.str z)] ?_;walk_at "w";refine ⟨by decide,bM ⟨_,.inr (T.xP H),rfl,rfl,?_⟩⟩;rw [show [V.str (Str.ofString ""),V.str (Str.ofString "l"),V.str (Str.ofString "g"),V.str (Str.ofString "w"),V.str (Str.ofString "lg"),V.str (Str.ofString "lw"),V.str (Str.ofString "gw"),V.str (Str.ofString "lgw")]=gE.map V.str from rfl,Qh hz];exact q
theorem nK (T:Tx K mg):aA P w K mg base aM 2 T.c8.f T.c8.d ["text"] Ol:=by
 refine T.c8.F.ok LH (fun vs H Q E h=>?_) (fun az A outer s H vs Q E hr h=>?_)
 ·exact eB h fun _ _=>rfl
 ·refine eB h fun z h=>?_;obtain ⟨hz,q⟩:=h;refine ⟨_,((Dv.aj (Dv.aW (Dv.cw (Dv.cg (Dv.call (Nt T) (hr.mono (by decide)) T.n9.m T.n9.F.kp T.n9.b .nil aw (Dv.aa (Dv.v 0) Dv.ag)))) (Dv.aj Dv.cK) Dv.nil))).h,?_⟩;refine stI [some (V.str z)] ?_;walk_at "w";exact ⟨hz,bb q⟩
theorem Lx (v:V):fQ v [V.str (Str.ofString "l"),V.str (Str.ofString "g"),V.str (Str.ofString "w")]=ik v:=by
 unfold fQ ik;simp only [List.any_cons,List.any_nil,Bool.or_false];have key:∀ z:Str,eN (.str z) v=decide (v=.str z):=fun z=>by
  cases v with
  | str y =>
   show (z == y)=decide (V.str y=V.str z);by_cases e:z=y
   ·subst e; simp
   ·rw [decide_eq_false (by intro h; injection h with h; exact e h.symm)];exact beq_eq_false_iff_ne.mpr e
  | _=>rfl
 rw [key,key,key,Bool.or_assoc]
theorem P6 (T:Tx K mg):aA P w K mg base (cB P w) 1 T.oR.f T.oR.d ["text"] (VH T.rV):=by
 refine T.oR.F.dF Nn (fun vs H Q E h=>?_) (fun az A outer s H vs Q E hr h=>?_)
 ·exact j9 h fun _ _=>rfl
 ·refine j9 h fun v h=>?_;obtain ⟨⟨ty,b8⟩,q1,q2⟩:=h;refine ⟨_,((Dv.aj (Dv.aW (Dv.dv (Dv.w_or (Dv.cw (Dv.cg (Dv.cD js T.fv fq (Dv.aa (Dv.v 0) (Dv.aa (Dv.jm (.ty "str") T.jW ko rfl) Dv.ag))))) (Dv.hZ (Dv.aY (ur (K:=K) rfl) (Dv.v 0) (Dv.glob (.ref T.Bf) T.Q3 rfl))))) (Dv.aj (Dv.xy wU rfl T.SU T.ON (Dv.aa Dv.str Dv.ag))) Dv.nil))).h,?_⟩;refine stI [some v] ?_;walk_at "w";simp only [b8,xH b8];refine ⟨uh _ rfl,?_⟩;cases v with
  | str z =>
   simp only [ue,Bool.not_true,Bool.false_eq_true,if_false];refine ⟨_,.inr (T.Ae H),rfl,rfl,?_⟩;rw [Lx];cases ho:ik (.str z) with
   | true=>exact bb (q1 ho)
   | false=>exact bM ⟨fits (by simp),q2 ho⟩
  | _=>exact ⟨fits (by simp),q2 rfl⟩
theorem MN (T:Tx K mg):aA P w K mg base aM 2 T.oz.f T.oz.d ["text"] (Lf K):=by
 refine T.oz.F.ok Tv (fun vs H Q E h=>?_) (fun az A outer s H vs Q E hr h=>?_)
 ·exact eB h fun _ _=>rfl
 ·refine eB h fun z h=>?_;obtain ⟨w',rfl,hw,q⟩:=h;refine ⟨_,((Dv.aj (Dv.aP (Dv.Sx (Dv.cmp (Cg (K:=K) rfl) (Dv.v 0) (Dv.glob (.ref T.BC) T.N7 rfl)) (Dv.one (Dv.call (yH T) (hr.mono (by decide)) T.gj.m T.gj.F.kp T.gj.b .nil aw (Dv.aa (Dv.v 0) Dv.ag))))))).h,?_⟩;refine stI [some (V.str (Tx.S w'))] ?_;walk_at "rd";refine ⟨_,.inr (T.vX H),rfl,rfl,?_⟩;have e:fQ (V.str (Tx.S w')) [V.str (Str.ofString "."),V.str (Str.ofString "..")]=(decide (w'=[46]) || decide (w'=[46,46])):=by
   rw [show Str.ofString "." = Tx.S [46] from by decide +kernel,show Str.ofString ".." = Tx.S [46,46] from by decide +kernel];unfold fQ eN;simp only [List.any_cons,List.any_nil,Bool.or_false];have b:∀ m:List Nat,(Tx.S m == Tx.S w')=decide (w'=m):=fun m=>by
    by_cases h:w'=m
    ·rw [h]; simp
    ·have:Tx.S m≠Tx.S w':=fun e=>h (Tx.rg e).symm;rw [decide_eq_false h];exact beq_eq_false_iff_ne.mpr this
   rw [b,b]
  rw [e];cases hd:(decide (w'=[46]) || decide (w'=[46,46])) with
  | true =>
   refine bM ?_;have:=q H (ai.refl H);unfold bZ at this;rw [hd] at this;exact this
  | false =>
   refine bb ?_;refine ⟨⟨_,rfl⟩,(by show (Tx.S w').length≤1000; rw [Tx.bX]; exact hw),fun H' s'=>?_⟩;have:=q H' s';unfold bZ at this;rw [hd,Bool.false_or] at this;have e2:dR (V.str (Tx.S w'))=isNm w':=by show isNm _=_; rw [Tx.hV]
   rw [e2];exact this
theorem m8 (T:Tx K mg):aA P w K mg base aM 3 T.da.f T.da.d ["path"] (PN K):=by
 refine T.da.F.ok Gf (fun vs H Q E h=>?_) (fun az A outer s H vs Q E hr h=>?_)
 ·exact eB h fun _ _=>rfl
 ·refine eB h fun z h=>?_;obtain ⟨t,rfl,t1,t2,jA,q⟩:=h;refine ⟨_,((Dv.cut (Dv.aW (Dv.dv (Dv.w_or (Dv.cw (Dv.cg (Dv.cD js T.fv fq (Dv.aa (Dv.v 0) (Dv.aa (Dv.jm (.ty "str") T.jW ko rfl) Dv.ag))))) (Dv.hZ (Dv.cw (Dv.yT oj oj Dv.int (Dv.cD (kb (K:=K) rfl) T.iS PySem.boot_len (Dv.aa (Dv.v 0) Dv.ag)) (Dv.glob (.int 2000) T.OI ⟨_,rfl⟩)))))) (Dv.aj Dv.cK) Dv.nil)
  (Dv.cut (Dv.zR 1 rfl Gf.nd (x:=("part" : Str)) (Dv.gX (K:=K) rfl (Dv.l8 PySem.F.slot_str_split PySem.F.type_str_split E7 (Dv.v 0) (Dv.aa Dv.str Dv.ag))) (fun _ _ _ _=>by exact (Dv.EV (Dv.aY kE (Dv.v 0) Dv.str))) (fun _ _ _ _=>by exact (Dv.dA 0 (show List.Nodup (["part"]:List Str) by decide))) (fun _ _ _ _=>by exact (Dv.v 0)) (.of rfl (by exact trivial) (by (repeat (first | exact trivial | (refine ⟨fun z=>(by first | exact ⟨_,rfl⟩ | (rcases z with z | z <;> cases z)),?_⟩)))) rfl (by exact trivial)))
  (Dv.cut (Dv.aW (Dv.cw (Dv.cg (Dv.cD (CZ (K:=K) rfl rfl) T.Hk EI (Dv.aa (Dv.Fo rfl (x:=("part" : Str)) (Dv.gX (K:=K) rfl (Dv.v 1)) (fun _ _ _ _=>by exact Dv.tL) (fun _ _ _ _=>by exact (Dv.dA 0 (show List.Nodup (["part"]:List Str) by decide))) (fun _ _ _ _=>by exact (Dv.call (MN T) (hr.mono (by decide)) T.oz.m T.oz.F.kp T.oz.b .nil aw (Dv.aa (Dv.v 0) Dv.ag))) (.of rfl (by exact trivial) (by (repeat (first | exact trivial | (refine ⟨fun z=>(by first | exact ⟨_,rfl⟩ | (rcases z with z | z <;> cases z)),?_⟩)))) rfl (by exact trivial))) Dv.ag)))) (Dv.aj Dv.cK) Dv.nil)
  (Dv.cut (Dv.aW (Dv.dv (Dv.w_and (Dv.aY (sO hr.fV) (Dv.v 1) (Dv.lst Dv.ag)) (Dv.iz (Dv.cg (Dv.l8 PySem.F.slot_str_endswith PySem.F.type_str_endswith O9 (Dv.v 0) (Dv.aa Dv.str Dv.ag)))))) (Dv.aj (Dv.aX (Dv.iA PySem.F.slot_list_append PySem.F.type_list_append jX (Dv.v 1) (Dv.aa Dv.str Dv.ag)))) Dv.nil)
  (Dv.aj (Dv.aP (Dv.tup (Dv.aa (Dv.l8 PySem.F.slot_str_startswith PySem.F.type_str_startswith Rv (Dv.v 0) (Dv.aa Dv.str Dv.ag)) (Dv.aa (Dv.v 1) Dv.ag)))))))))).h,?_⟩
  refine stI [some (V.str (Tx.S t)),none] ?_;refine ao ?_;walk_at "rd";have pA:Str.ofString "/" = Tx.S [47]:=by decide +kernel
  have e0:Str.ofString "" = Tx.S []:=by decide +kernel
  simp only [Tx.bX,pA,e0];refine ⟨uh _ rfl,bb ⟨Nat.le_trans t2 (by decide),?_⟩⟩;rw [decide_eq_true (show (1:Int)≤(t.length:Int) by omega),decide_eq_true (show (t.length:Int)≤2000 by omega)];refine bM (bb (ao ?_));walk_at "rd";have o9:=Tx.uN 47 t;refine ⟨rfl,by rw [Tx.bX]; exact Nat.le_trans t2 (by decide),?_,?_⟩
  ·rw [Tx.yK,Tx.jR,Tx.yP,Tx.pY,List.length_map];exact Nat.le_trans (show _≤2001 by omega) (by decide)
  intro l hl;rw [Tx.B6 t 47 (by decide)];have s1:=ai.upd (o:=.lst (((Tx.cut 47 t).map Tx.S).map V.str)) hl;have b1:upd H l (.lst (((Tx.cut 47 t).map Tx.S).map V.str)) l=some (.lst (((Tx.cut 47 t).map Tx.S).map V.str)):=ay;generalize upd H l (.lst (((Tx.cut 47 t).map Tx.S).map V.str))=H1 at s1 b1 ⊢;refine ⟨⟨_,aK.of b1⟩,vN (fun x=>match x with | .str z=>!decide (z=Tx.S []) | _=>false) id (aK.of b1) (by rw [List.length_map,List.length_map]; exact Nat.le_trans (show _≤2001 by omega) (by decide)) ?_ ?_ ?_⟩
  ·intro x hx H2 _ R hR;obtain ⟨z,_,rfl⟩:=List.mem_map.mp hx;walk_at "rd";exact hR H2 (ai.refl H2)
  ·intro x hx _ H2 _ R hR;walk_at "rd";exact hR H2 (ai.refl H2)
  intro H2 s2 l2 ck;have ew:((((Tx.cut 47 t).map Tx.S).map V.str).filter (fun x=>match x with | .str z=>!decide (z=Tx.S []) | _=>false)).map id=PV (Tx.words 47 t):=by
   rw [List.map_id,List.filter_map];show ((((Tx.cut 47 t).map Tx.S)).filter _).map V.str=_
   congr 1
   rw [← Tx.D0];refine List.filter_congr fun z _=>?_;show (!decide (z=Tx.S []))=decide (z≠Tx.S []);by_cases h:z=Tx.S [] <;> simp [h]
  rw [ew];have gO:H l2=none:=(s1.trans s2).free ck;have s3:=ai.upd (o:=.lst (PV (Tx.words 47 t))) ck;have b3:upd H2 l2 (.lst (PV (Tx.words 47 t))) l2=some (.lst (PV (Tx.words 47 t))):=ay;generalize upd H2 l2 (.lst (PV (Tx.words 47 t)))=H3 at s3 b3 ⊢;have iE:ai H H3:=(s1.trans s2).trans s3;have mj:(Tx.words 47 t).length≤2001:=Nat.le_trans (List.length_filter_le _ _) (by omega);refine ao ?_;walk_at "rd";refine ⟨⟨_,aK.of b3⟩,vN (fun _=>true) (fun x=>match x with | .str z=>.bl (bZ z.cps.toList) | _=>.bl false) (aK.of b3) (by rw [List.length_map,List.length_map]; exact Nat.le_trans mj (by decide)) ?_ ?_ ?_⟩
  ·intro x _ H4 _ R hR;exact hR H4 (ai.refl H4)
  ·intro x hx _ H4 _ R hR;obtain ⟨z,hz,rfl⟩:=List.mem_map.mp hx;obtain ⟨w',hw,rfl⟩:=List.mem_map.mp hz;walk_at "rd";obtain ⟨_,_,g3⟩:=nJ (List.all_eq_true.mp jA w' hw);refine ⟨w',rfl,by omega,fun H5 s5=>?_⟩;have:=hR H5 s5;simp only [Tx.hV] at this;exact this
  intro H4 s4 l4 hl4;have eb:((PV (Tx.words 47 t)).filter (fun _=>true)).map (fun x=>match x with | .str z=>V.bl (bZ z.cps.toList) | _=>V.bl false)=((Tx.words 47 t).map bZ).map V.bl:=by
   rw [List.filter_eq_self.mpr (fun _ _=>rfl),List.map_map,List.map_map,List.map_map];refine List.map_congr_left fun w' _=>?_;show V.bl (bZ (Tx.S w').cps.toList)=V.bl (bZ w');rw [Tx.hV]
  rw [eb];refine ⟨_,aK.of ay,_,rfl,?_⟩;have ea:((Tx.words 47 t).map bZ).all id=true:=by rw [List.all_map]; exact jA
  rw [ea];refine bb ?_;have s5:=ai.upd (o:=.lst (((Tx.words 47 t).map bZ).map V.bl)) hl4;generalize upd H4 l4 (.lst (((Tx.words 47 t).map bZ).map V.bl))=H5 at s5 ⊢;have b5:H5 l2=some (.lst (PV (Tx.words 47 t))):=s5 _ _ (s4 _ _ b3);have jB:ai H H5:=(iE.trans s4).trans s5;refine en (fun σ' H'=>σ'=[some (V.str (Tx.S t)),some (V.ref l2)]∧ai H H'∧H' l2=some (.lst (PV (told (Tx.words 47 t) t)))) ?_ ?_
  ·walk_at "rd";refine ⟨fits (by simp),fun p hp=>?_⟩;have s6:=ai.upd (o:=.lst []) hp;have c6:upd H5 p (.lst []) p=some (.lst ((([]:List Str)).map V.str)):=ay;generalize upd H5 p (.lst [])=H6 at s6 c6 ⊢;have b6:H6 l2=some (.lst (PV (Tx.words 47 t))):=s6 _ _ b5;refine ⟨(Tx.words 47 t).map Tx.S,[],b6,c6,?_⟩;by_cases vt:Tx.words 47 t=[]
   ·rw [decide_eq_true (show (Tx.words 47 t).map Tx.S=[] by rw [vt]; rfl)];refine bb (bb ⟨by trivial,jB.trans s6,?_⟩);unfold told;rw [if_neg (fun z=>z.1 vt)];exact b6
   ·rw [decide_eq_false (show ¬ (Tx.words 47 t).map Tx.S=[] by simpa using vt)];refine bM ?_;rw [Tx.MI];by_cases vy:t.getLast?=some 47
    ·rw [decide_eq_true vy];refine bM ?_;simp only [b6];refine ⟨by rw [List.length_map,List.length_map]; exact Nat.lt_of_le_of_lt mj (by decide),by trivial,cj.same (jB.trans s6) gO cj.upd,?_⟩;unfold told;rw [if_pos ⟨vt,vy⟩,ay,show Str.ofString "." = Tx.S [46] from by decide +kernel];simp only [PV,List.map_append,List.map_cons,List.map_nil]
    ·rw [decide_eq_false vy];refine bb ⟨by trivial,jB.trans s6,?_⟩;unfold told;rw [if_neg (fun z=>vy z.2)];exact b6
  ·rintro σ' H6 ⟨rfl,s6,b6⟩;walk_at "rd";simp only [pA,Tx.Uh];refine ⟨fits (by simp),fun p hp=>?_⟩;exact q _ l2 p (s6.trans (ai.upd hp)) gO (En b6 hp) ay
theorem OB (T:Tx K mg):aA P w K mg base aM 1 T.pZ.f T.pZ.d ["self", "number", "kind", "owner", "mine", "rest", "text"] (Uo T.aG):=by
 refine T.pZ.F.ok P4 (fun vs H Q E h=>?_) (fun az A outer s H vs Q E hr h=>?_)
 ·exact GP h fun _ _ _ _ _ _ _ _=>rfl
 ·refine GP h fun x n kd ow mi re tx h=>?_;obtain ⟨dx,hx,q⟩:=h;refine ⟨_,((Dv.cut (Dv.bw T.cT T.Rn (Dv.v 0) (Dv.v 1))
  (Dv.cut (Dv.bw T.cT T.xY (Dv.v 0) (Dv.v 2))
  (Dv.cut (Dv.bw T.cT T.wA (Dv.v 0) (Dv.v 3))
  (Dv.cut (Dv.bw T.cT T.zX (Dv.v 0) (Dv.v 4))
  (Dv.cut (Dv.bw T.cT T.vZ (Dv.v 0) (Dv.v 5))
  (Dv.cut (Dv.bw T.cT T.LZ (Dv.v 0) (Dv.v 6))
  (Dv.cut (Dv.bw T.cT T.zV (Dv.v 0) Dv.lz)
  (Dv.aj (Dv.bw T.cT T.sX (Dv.v 0) Dv.NL)))))))))).h,?_⟩
  refine stI [some (.ref x),some n,some kd,some ow,some mi,some re,some tx] ?_;refine ao ?_;walk_at "rd";refine ⟨x,dx,_,rfl,hx,by decide,ao ?_⟩;walk_at "rd";refine ⟨x,dx,_,rfl,ay,by (refine Nat.lt_of_le_of_lt (m:=40) ?_ (by decide); (repeat (refine bO ?_)); exact Nat.zero_le _),ao ?_⟩;walk_at "rd";refine ⟨x,dx,_,rfl,ay,by (refine Nat.lt_of_le_of_lt (m:=40) ?_ (by decide); (repeat (refine bO ?_)); exact Nat.zero_le _),ao ?_⟩;walk_at "rd";refine ⟨x,dx,_,rfl,ay,by (refine Nat.lt_of_le_of_lt (m:=40) ?_ (by decide); (repeat (refine bO ?_)); exact Nat.zero_le _),ao ?_⟩;walk_at "rd";refine ⟨x,dx,_,rfl,ay,by (refine Nat.lt_of_le_of_lt (m:=40) ?_ (by decide); (repeat (refine bO ?_)); exact Nat.zero_le _),ao ?_⟩;walk_at "rd";refine ⟨x,dx,_,rfl,ay,by (refine Nat.lt_of_le_of_lt (m:=40) ?_ (by decide); (repeat (refine bO ?_)); exact Nat.zero_le _),ao ?_⟩;simp only [ki];walk_at "rd";intro l1 h1;have n1:l1≠x:=fun e=>by rw [e,ay] at h1; cases h1
  have h1':H l1=none:=by rw [ah n1] at h1; exact h1
  refine ⟨x,dx,_,rfl,by rw [ah (Ne.symm n1),ay],by (refine Nat.lt_of_le_of_lt (m:=40) ?_ (by decide); (repeat (refine bO ?_)); exact Nat.zero_le _),fun l2 h2=>?_⟩;have n2:l2≠x:=fun e=>by rw [e,ay] at h2; cases h2
  rw [ah n2] at h2;have n3:l2≠l1:=fun e=>by rw [e,ay] at h2; cases h2
  rw [ah n3,ah n2] at h2;refine ⟨x,dx,_,rfl,by rw [ah (Ne.symm n2),ay],by (refine Nat.lt_of_le_of_lt (m:=40) ?_ (by decide); (repeat (refine bO ?_)); exact Nat.zero_le _),?_⟩;refine q l1 l2 _ h1' h2 (Ne.symm n3) n1 n2 (fun b b1 b2 b3=>?_) ?_ ?_ _ ?_ (fun f=>?_) ay
  ·rw [ah b1,ah b3,ah b1,ah b2,ah b1]
  ·rw [ah n1,ah (Ne.symm n3),ah n1,ay]
  ·rw [ah n2,ay]
  ·exact Nat.le_trans (by (repeat (refine bO ?_)); exact Nat.zero_le _) (Nat.le_refl 40)
  ·rfl
theorem Ka (T:Tx K mg):aA P w K mg base aM 1 T.rF.f T.rF.d ["self"] (Rq T.aE):=by
 refine T.rF.F.ok VC (fun vs H Q E h=>?_) (fun az A outer s H vs Q E hr h=>?_)
 ·exact dP h fun _ _=>rfl
 ·refine dP h fun x h=>?_;obtain ⟨dx,hx,q⟩:=h;refine ⟨_,((Dv.cut (Dv.bw T.b9 T.qQ (Dv.v 0) (Dv.lst Dv.ag))
  (Dv.aj (Dv.bw T.b9 T.ui (Dv.v 0) Dv.int)))).h,?_⟩
  refine stI [some (.ref x)] ?_;refine ao ?_;walk_at "rd";refine ⟨fits (by simp),fun l hl=>?_⟩;have n1:l≠x:=fun e=>by rw [e,hx] at hl; cases hl
  refine ⟨x,dx,_,rfl,by rw [ah (Ne.symm n1)]; exact hx,by decide,?_⟩;refine ⟨x,dx,_,rfl,ay,by (refine Nat.lt_of_le_of_lt (m:=40) ?_ (by decide); (repeat (refine bO ?_)); exact Nat.zero_le _),?_⟩;refine q l _ hl n1 (fun b b1 b2=>?_) ?_ _ ?_ (fun f=>?_) ay
  ·rw [ah b1,ah b1,ah b2]
  ·rw [ah n1,ah n1,ay]
  ·exact Nat.le_trans (bO (bO (Nat.zero_le _))) (show 0+1+1≤40 by decide)
  ·rfl
theorem L9 (T:Tx K mg):aA P w K mg base aM 1 T.rB.f T.rB.d ["self", "asker"] (V1 T.aG):=by
 refine T.rB.F.ok Td (fun vs H Q E h=>?_) (fun az A outer s H vs Q E hr h=>?_)
 ·exact cF h fun _ _ _=>rfl
 ·refine cF h fun x z h=>?_;obtain ⟨a,i,t,cS,rfl,q⟩:=h;obtain ⟨fs,hx,aV,sf⟩:=cS.o;refine ⟨_,((Dv.aj (Dv.aP (Dv.Fu (Dv.aY cv (Dv.v 1) (Dv.fld T.cT T.wA (Dv.v 0))) (Dv.fld T.cT T.zX (Dv.v 0)) (Dv.fld T.cT T.vZ (Dv.v 0)))))).h,?_⟩;refine stI [some (V.ref a.th),some (V.str z)] ?_;walk_at "w";refine ⟨a.th,_,_,_,rfl,hx,(sf _).trans rfl,?_⟩;dsimp only;unfold cJ at q;by_cases e:z=t.ow
  ·rw [decide_eq_true e];rw [if_pos e] at q;exact bM ⟨a.th,_,_,_,rfl,hx,(sf _).trans rfl,q⟩
  ·rw [decide_eq_false e];rw [if_neg e] at q;exact bb ⟨a.th,_,_,_,rfl,hx,(sf _).trans rfl,q⟩
theorem Dx (T:Tx K mg):aA P w K mg base aM 3 T.lE.f T.lE.d ["self", "kind", "owner", "mine", "rest", "text"] (QX T.aE T.aG):=by
 refine T.lE.F.ok GU (fun vs H Q E h=>?_) (fun az A outer s H vs Q E hr h=>?_)
 ·exact C9 h fun _ _ _ _ _ _ _=>rfl
 ·refine C9 h fun x kd ow mi re tx h=>?_;obtain ⟨dt,ml,rs,⟨⟨fs,c,hx,aV,sf⟩,gx⟩,rQ,q⟩:=h;refine ⟨_,((Dv.cut (Dv.jP T.b9 T.ui kh (Dv.v 0) Dv.int)
   (Dv.cut (Dv.aS 6 GU.nd (Dv.cD (kb (K:=K) rfl) T.iS PySem.boot_len (Dv.aa (Dv.fld T.b9 T.qQ (Dv.v 0)) Dv.ag)))
   (Dv.cut (Dv.aX (Dv.iA PySem.F.slot_list_append PySem.F.type_list_append jX (Dv.fld T.b9 T.qQ (Dv.v 0)) (Dv.aa (Dv.make T.QK (OB T) (hr.mono (by decide)) T.SN T.pZ.b .nil aw (Dv.aa (Dv.v 6) (Dv.aa (Dv.v 1) (Dv.aa (Dv.v 2) (Dv.aa (Dv.v 3) (Dv.aa (Dv.v 4) (Dv.aa (Dv.v 5) Dv.ag))))))) Dv.ag)))
   (Dv.aj (Dv.aP (Dv.v 6))))))).h,?_⟩
  refine stI [some (.ref x),some kd,some ow,some mi,some re,some tx,none] ?_;have fh:ml≠x:=fun e=>by rw [e,hx] at gx; cases gx
  refine ao ?_;walk_at "rd";refine ⟨x,dt,fs,.int c,rfl,hx,(sf _).trans rfl,_,_,rfl,rfl,dt,fs,hx,by omega,ao ?_⟩;have cf:cA (ae "changes" (.int (c+1)) fs) (qr ml (c+1)):=fun f=>by rw [(sf.put "changes" (.int (c+1))) f]; rfl
  have jC:(ae "changes" (.int (c+1)) fs).length≤41:=bO aV;have bu:upd H x (.ins T.aE dt (ae "changes" (.int (c+1)) fs)) x=some (.ins T.aE dt (ae "changes" (.int (c+1)) fs)):=ay;have jx:upd H x (.ins T.aE dt (ae "changes" (.int (c+1)) fs)) ml=some (.lst rs):=by rw [ah fh]; exact gx
  have gQ:Kp [x] H (upd H x (.ins T.aE dt (ae "changes" (.int (c+1)) fs))):=fun b o hb e=>by rw [ah (fun z=>hb (by simp [z]))]; exact e
  have ph:∀ b,b≠x→upd H x (.ins T.aE dt (ae "changes" (.int (c+1)) fs)) b=H b:=fun b hb=>ah hb;generalize upd H x (.ins T.aE dt (ae "changes" (.int (c+1)) fs))=H1 at bu jx gQ ph ⊢;walk_at "rd";refine ⟨x,dt,_,.ref ml,rfl,bu,(cf _).trans rfl,?_⟩;simp only [bG,jx];refine ao ?_;walk_at "rd";refine ⟨x,dt,_,.ref ml,rfl,bu,(cf _).trans rfl,?_⟩;simp only [jx];intro th cI aO hdth pE;refine ⟨cI,ay,fun nm pl H2 bJ bg hnp hn1 gO fr2 hnm2 hpl2 ks kU sk hth2=>⟨rfl,?_⟩⟩;have AY:∀ b o,H1 b=some o→upd (upd H1 cI (HO.own th)) th (HO.ins T.aG cI []) b=some o:=fun b o e=>by
   rw [ah (aF e aO),ah (aF e hdth)]; exact e
  have Bi:∀ b o,H1 b=some o→H2 b=some o:=fun b o e=>by
   rw [fr2 b (aF e aO) (aF (AY b o e) bJ) (aF (AY b o e) bg)]; exact AY b o e
  have dn:∀ d,d≠th→upd (upd H1 cI (HO.own th)) th (HO.ins T.aG cI []) d=none→H1 d=none:=fun d n e=>by
   rw [ah n] at e;by_cases z:d=cI
   ·rw [z,ay] at e; cases e
   ·rw [ah z] at e; exact e
  have Ie:=dn nm hn1 bJ;have IU:=dn pl gO bg;have Bq:∀ d,H1 d=none→H d=none:=fun d e=>by rw [← ph d (Ne.symm (aF bu e))]; exact e
  simp only [Bi _ _ jx];refine ⟨gN (by omega),?_⟩;refine q th cI nm pl ks _ (Bq _ aO) (Bq _ Ie) (Bq _ IU) ⟨⟨_,c+1,by rw [ah (Ne.symm fh)]; exact Bi _ _ bu,?_,cf⟩,ay⟩ (by rw [ah (Ne.symm (aF jx aO))]; exact hth2) kU sk
   (by rw [ah (Ne.symm (aF jx Ie))]; exact hnm2) (by rw [ah (Ne.symm (aF jx IU))]; exact hpl2) (fun b o hb e=>?_)
  ·rw [dN (u:=.int c) ((sf _).trans rfl)]; exact aV
  ·simp only [List.mem_cons,List.not_mem_nil,or_false,not_or] at hb;rw [ah hb.2];exact Bi _ _ (gQ b o (by simp [hb.1]) e)
theorem Dc (T:Tx K mg):aA P w K mg base aM 4 T.lL.f T.lL.d ["self", "owner", "mine", "rest"] (VT T.aE T.aG):=by
 refine T.lL.F.ok Tb (fun vs H Q E h=>?_) (fun az A outer s H vs Q E hr h=>?_)
 ·exact tI h fun _ _ _ _ _=>rfl
 ·refine tI h fun x ow mi re h=>?_;obtain ⟨dt,ml,rs,at',rQ,q⟩:=h;obtain ⟨fs,c,hx,aV,sf⟩:=at'.o;refine ⟨_,((Dv.aj (Dv.aP (Dv.bh T.b9 T.lE.h (Dx T) (hr.mono (by decide)) T.lE.b .nil aw (Dv.v 0) (Dv.aa (Dv.glob (.str "folder") T.qw ⟨_,rfl⟩) (Dv.aa (Dv.v 1) (Dv.aa (Dv.v 2) (Dv.aa (Dv.v 3) (Dv.aa Dv.str Dv.ag))))))))).h,?_⟩;refine stI [some (.ref x),some ow,some mi,some re] ?_;walk_at "w";exact ⟨x,dt,fs,rfl,hx,(sf _).trans rfl,dt,ml,rs,at',rQ,q⟩
theorem jg (T:Tx K mg):aA P w K mg base (cB P w) 2 T.df.f T.df.d ["self", "number"] (Ef T.au T.aE T.aG T.pj):=by
 refine T.df.F.dF O8 (fun vs H Q E h=>?_) (fun az A outer s H vs Q E hr h=>?_)
 ·exact sM h fun _ _ _=>rfl
 ·refine sM h fun x v h=>?_;obtain ⟨AA,L,M,i,rfl,o9,q1,q2⟩:=h;obtain ⟨fs,c,hx,aV,sf⟩:=i.t;refine ⟨_,((Dv.cut (Dv.aW (Dv.dv (Dv.w_or (Dv.cw (Dv.cg (Dv.call (D9 T) (hr.mono (by decide)) T.ja.m T.ja.F.kp T.ja.b .nil aw (Dv.aa (Dv.v 1) Dv.ag)))) (Dv.hZ (Dv.cw (Dv.yT oj Ek Dv.int (Dv.v 1) (Dv.cD (kb (K:=K) rfl) T.iS PySem.boot_len (Dv.aa (Dv.fld T.b9 T.qQ (Dv.v 0)) Dv.ag))))))) (Dv.aj (Dv.xy wU rfl T.T2 T.SQ (Dv.aa Dv.str Dv.ag))) Dv.nil)
  (Dv.aj (Dv.aP (Dv.ix (bq (K:=K) rfl) (Dv.fld T.b9 T.qQ (Dv.v 0)) (Dv.v 1)))))).h,?_⟩
  refine stI [some (.ref AA.t),some v] ?_;refine ao ?_;walk_at "w";refine ⟨o9,?_⟩;cases v with
  | int n =>
   simp only [Hc,Bool.not_true,Bool.false_eq_true,if_false];refine jk (fun h0=>?_) (fun h0=>bM ⟨fits (by simp),q2 fun j e=>?_⟩)
   ·have h0':0≤n:=of_decide_eq_true h0;refine ⟨AA.t,_,_,.ref AA.ml,rfl,hx,(sf _).trans rfl,?_⟩;simp only [bG,i.ml,List.length_map,i.len];obtain ⟨k,rfl⟩:=Int.eq_ofNat_of_zero_le h0';by_cases hk:k < M.ts.length
    ·rw [decide_eq_true (show (k:Int) < (M.ts.length:Int) by omega)];refine bb ⟨AA.t,_,_,.ref AA.ml,rfl,hx,(sf _).trans rfl,?_⟩;simp only [bG,i.ml];have JW:k < L.length:=by rw [i.len]; exact hk
     rw [gH (xs:=L.map fun a=>V.ref a.th) (j:=k) (by rw [List.getElem?_map,List.getElem?_eq_getElem JW]; rfl)];exact q1 k _ _ rfl (List.getElem?_eq_getElem JW) (List.getElem?_eq_getElem hk)
    ·rw [decide_eq_false (show ¬ (k:Int) < (M.ts.length:Int) by omega)];refine bM ⟨fits (by simp),q2 fun j e=>?_⟩;injection e with e;have:k=j:=by omega
     rw [← this]; exact hk
   ·injection e with e;exact absurd (decide_eq_true (show (0:Int)≤n by omega)) h0
  | _=>exact ⟨fits (by simp),q2 fun k e=>by cases e⟩
section
variable {T:Tx K mg} {H:Hp} {A:Ad} {L:List Ta} {M:Hs}
theorem ke {k:Nat} {a:Ta} {t:Th} {Q:VK} {E:XK} (i:aI T.au T.aE T.aG H A L M) (ha:L[k]?=some a) (ht:M.ts[k]?=some t) (q:Q (.ref a.th) H):Ef T.au T.aE T.aG T.pj [.ref A.t,.int (k:Int)] H Q E :=
 ⟨A,L,M,i,rfl,⟨_,rfl⟩,fun j a' t' e h1 h2=>by
  injection e with e;have:k=j:=by omega
  subst this;rw [ha] at h1; cases h1;exact q,fun h=>absurd (List.getElem?_eq_some_iff.mp ht).1 (h k rfl)⟩
theorem fC {k:Nat} {a:Ta} {t:Th} (i:aI T.au T.aE T.aG H A L M) (ha:L[k]?=some a) (ht:M.ts[k]?=some t):lK T.aG H a k t:=by
 obtain ⟨a',e,h⟩:=i.th k t ht;rw [ha] at e; cases e;exact h
end
theorem Ez (T:Tx K mg):aA P w K mg base aM 3 T.lW.f T.lW.d ["self", "folder", "name"] (MH T.au T.aE T.aG Ad.t):=by
 refine T.lW.F.ok Mv (fun vs H Q E h=>?_) (fun az A outer s H vs Q E hr h=>?_)
 ·exact nz h fun _ _ _ _=>rfl
 ·refine nz h fun x n z h=>?_;obtain ⟨AA,L,M,k,a,t,i,rfl,rfl,ha,aO,q⟩:=h;obtain ⟨fs,c,hx,aV,sf⟩:=i.h;obtain ⟨gs,c2,ht,dH,sg⟩:=i.t;have cS:=fC i ha aO;obtain ⟨ks,ho,jJ,so⟩:=cS.o;refine ⟨_,((Dv.aj (Dv.aP (Dv.EG (dX hr) (Dv.fld T.cT T.zV (Dv.dE T.b9 T.df.h (jg T) (hr.mono (by decide)) T.df.b .nil eV (Dv.v 0) (Dv.aa (Dv.v 1) Dv.ag))) (Dv.v 2))))).h,?_⟩;refine stI [some (V.ref AA.t),some (V.int (k:Int)),some (V.str z)] ?_;walk_at "w";refine ⟨AA.t,_,_,rfl,ht,(sg _).trans rfl,ke i ha aO ⟨a.th,_,_,.ref a.nm,rfl,ho,(so _).trans rfl,a.nm,rfl,.inl ⟨_,.inl cS.nm⟩,_,cN.k (k:=.inr z) cS.nm,q⟩⟩
theorem Of (T:Tx K mg):aA P w K mg base aM 3 T.qA.f T.qA.d ["self", "number"] (nI T.au T.aE T.aG Ad.t F5):=by
 refine T.qA.F.ok MW (fun vs H Q E h=>?_) (fun az A outer s H vs Q E hr h=>?_)
 ·exact cx h fun _ _ _=>rfl
 ·refine cx h fun x n h=>?_;obtain ⟨AA,L,M,k,a,t,i,rfl,rfl,ha,aO,q⟩:=h;obtain ⟨fs,c,hx,aV,sf⟩:=i.h;obtain ⟨gs,c2,ht,dH,sg⟩:=i.t;have cS:=fC i ha aO;obtain ⟨ks,ho,jJ,so⟩:=cS.o;refine ⟨_,((Dv.aj (Dv.aP (Dv.minD rfl T.Kn (Dv.fld T.cT T.sX (Dv.dE T.b9 T.df.h (jg T) (hr.mono (by decide)) T.df.b .nil eV (Dv.v 0) (Dv.aa (Dv.v 1) Dv.ag))))))).h,?_⟩;refine stI [some (V.ref AA.t),some (V.int (k:Int))] ?_;walk_at "w";refine ⟨AA.t,_,_,rfl,ht,(sg _).trans rfl,ke i ha aO ⟨a.th,_,_,.ref a.pl,rfl,ho,(so _).trans rfl,a.pl,_,rfl,cS.pl,?_⟩⟩;rcases q with ⟨e,q⟩ | ⟨f,z,e,q⟩
  ·rw [e]; exact .inl ⟨rfl,q⟩
  ·rw [e]; exact .inr ⟨_,_,rfl,q⟩
theorem mZ (T:Tx K mg):aA P w K mg base aM 3 T.eX.f T.eX.d ["self", "number"] (nI T.au T.aE T.aG Ad.a oV):=by
 refine T.eX.F.ok Sm (fun vs H Q E h=>?_) (fun az A outer s H vs Q E hr h=>?_)
 ·exact cx h fun _ _ _=>rfl
 ·refine cx h fun x n h=>?_;obtain ⟨AA,L,M,k,a,t,i,rfl,rfl,ha,aO,q⟩:=h;obtain ⟨fs,c,hx,aV,sf⟩:=i.h;obtain ⟨gs,c2,ht,dH,sg⟩:=i.t;have cS:=fC i ha aO;obtain ⟨ks,ho,jJ,so⟩:=cS.o;refine ⟨_,((Dv.aj (Dv.aP (Dv.fld T.cT T.xY (Dv.dE T.b9 T.df.h (jg T) (hr.mono (by decide)) T.df.b .nil eV (Dv.fld T.aL T.f9 (Dv.v 0)) (Dv.aa (Dv.v 1) Dv.ag)))))).h,?_⟩;refine stI [some (V.ref AA.a),some (V.int (k:Int))] ?_;walk_at "w";exact ⟨AA.a,_,_,.ref AA.t,rfl,hx,(sf _).trans rfl,AA.t,_,_,rfl,ht,(sg _).trans rfl,ke i ha aO ⟨a.th,_,_,_,rfl,ho,(so _).trans rfl,q⟩⟩
theorem ou (T:Tx K mg):aA P w K mg base aM 4 T.fb.f T.fb.d ["self", "number"] (nI T.au T.aE T.aG Ad.a F5):=by
 refine T.fb.F.ok P7 (fun vs H Q E h=>?_) (fun az A outer s H vs Q E hr h=>?_)
 ·exact cx h fun _ _ _=>rfl
 ·refine cx h fun x n h=>?_;obtain ⟨AA,L,M,k,a,t,i,rfl,rfl,ha,aO,q⟩:=h;obtain ⟨fs,c,hx,aV,sf⟩:=i.h;obtain ⟨gs,c2,ht,dH,sg⟩:=i.t;have cS:=fC i ha aO;obtain ⟨ks,ho,jJ,so⟩:=cS.o;refine ⟨_,((Dv.aj (Dv.aP (Dv.bh T.b9 T.qA.h (Of T) (hr.mono (by decide)) T.qA.b .nil aw (Dv.fld T.aL T.f9 (Dv.v 0)) (Dv.aa (Dv.v 1) Dv.ag))))).h,?_⟩;refine stI [some (V.ref AA.a),some (V.int (k:Int))] ?_;walk_at "w";exact ⟨AA.a,_,_,.ref AA.t,rfl,hx,(sf _).trans rfl,AA.t,_,_,rfl,ht,(sg _).trans rfl,AA,L,M,k,a,t,i,rfl,rfl,ha,aO,q⟩
theorem Le (T:Tx K mg):aA P w K mg base aM 3 T.qj.f T.qj.d ["self", "number"] (nI T.au T.aE T.aG Ad.a VF):=by
 refine T.qj.F.ok M5 (fun vs H Q E h=>?_) (fun az A outer s H vs Q E hr h=>?_)
 ·exact cx h fun _ _ _=>rfl
 ·refine cx h fun x n h=>?_;obtain ⟨AA,L,M,k,a,t,i,rfl,rfl,ha,aO,q⟩:=h;obtain ⟨fs,c,hx,aV,sf⟩:=i.h;obtain ⟨gs,c2,ht,dH,sg⟩:=i.t;have cS:=fC i ha aO;obtain ⟨ks,ho,jJ,so⟩:=cS.o;refine ⟨_,((Dv.aj (Dv.aX (Dv.dE T.b9 T.df.h (jg T) (hr.mono (by decide)) T.df.b .nil eV (Dv.fld T.aL T.f9 (Dv.v 0)) (Dv.aa (Dv.v 1) Dv.ag))))).h,?_⟩;refine stI [some (V.ref AA.a),some (V.int (k:Int))] ?_;walk_at "w";exact ⟨AA.a,_,_,.ref AA.t,rfl,hx,(sf _).trans rfl,AA.t,_,_,rfl,ht,(sg _).trans rfl,ke i ha aO q⟩
section
variable {CH CS CT:Addr} {H:Hp} {A:Ad} {L:List Ta} {M:Hs}
theorem aI.lN (i:aI CH CS CT H A L M) {k:Nat} {a:Ta} (ha:L[k]?=some a):∀ b∈A.w,∀ c∈a.l,b≠c:=fun b hb c hc=>by
 have nd:=i.nd;rw [List.nodup_append] at nd;exact nd.2.2 b hb c (iB ha hc)
theorem aI.aT (i:aI CH CS CT H A L M):A.a≠A.t:=by
 have nd:=i.nd;rw [List.nodup_append] at nd;have:=(List.nodup_cons.mp nd.1).1;exact fun e=>this (by rw [e]; simp)
theorem DQ:∀ {L:List Ta} {k:Nat} {a:Ta},(L.flatMap Ta.l).Nodup→L[k]?=some a→a.l.Nodup
 | c::r,0,a,nd,h=>by
  rw [List.flatMap_cons,List.nodup_append] at nd;simp only [List.getElem?_cons_zero,Option.some.injEq] at h;subst h; exact nd.1
 | c::r,k+1,a,nd,h=>by
  rw [List.flatMap_cons,List.nodup_append] at nd;simp only [List.getElem?_cons_succ] at h;exact DQ nd.2.1 h
theorem aI.own (i:aI CH CS CT H A L M) {k:Nat} {a:Ta} (ha:L[k]?=some a):a.th≠a.nm∧a.th≠a.pl∧a.nm≠a.pl:=by
 have nd:=i.nd;rw [List.nodup_append] at nd;have:=DQ nd.2.1 ha;simp only [Ta.l,List.nodup_cons,List.mem_cons,List.not_mem_nil,or_false,not_or,not_false_eq_true,List.nodup_nil,and_true] at this;exact ⟨this.1.1,this.1.2,this.2⟩
end
def Qf (CH CS CT:Addr):Sp:=uK fun x n z H Q _=>∃ A L M,∃ k:Nat,∃ a t,aI CH CS CT H A L M∧A.t=x∧n=(k:Int)∧L[k]?=some a∧M.ts[k]?=some t∧aN (sD t.aZ) (.inr z)=none∧Q .ax H
theorem K0 (T:Tx K mg):aA P w K mg base aM 4 T.qk.f T.qk.d ["self", "folder", "name"] (Qf T.au T.aE T.aG):=by
 refine T.qk.F.ok E2 (fun vs H Q E h=>?_) (fun az A outer s H vs Q E hr h=>?_)
 ·exact nz h fun _ _ _ _=>rfl
 ·refine nz h fun x n z h=>?_;obtain ⟨AA,L,M,k,a,t,i,rfl,rfl,ha,aO,hv,q⟩:=h;obtain ⟨gs,c2,ht,dH,sg⟩:=i.t;refine ⟨_,((Dv.cut (Dv.aS 3 E2.nd (Dv.bh T.b9 T.lW.h (Ez T) (hr.mono (by decide)) T.lW.b .nil aw (Dv.v 0) (Dv.aa (Dv.v 1) (Dv.aa (Dv.v 2) Dv.ag))))
  (Dv.aj (Dv.aW (Dv.aY lV (Dv.v 3) Dv.ax) (Dv.cut Dv.cK
  (Dv.cut Dv.cK
  (Dv.aj Dv.cK))) Dv.nil)))).h,?_⟩
  refine stI [some (V.ref AA.t),some (V.int (k:Int)),some (V.str z),none] ?_;refine ao ?_;walk_at "w";refine ⟨AA.t,_,_,rfl,ht,(sg _).trans rfl,AA,L,M,k,a,t,i,rfl,rfl,ha,aO,?_⟩;rw [hv];refine ⟨by trivial,?_⟩;exact bb q
def Us (CH CS CT:Addr):Sp:=DS fun x fn z kn H Q _=>∃ A L M,∃ f k:Nat,∃ af tf ak tk,aI CH CS CT H A L M∧A.t=x∧fn=(f:Int)∧kn=(k:Int)∧L[f]?=some af∧M.ts[f]?=some tf∧L[k]?=some ak∧M.ts[k]?=some tk∧f≠k∧aN (sD tf.aZ) (.inr z)=none∧tf.aZ.length≤500∧tk.c7=[] ∧
   ∀ H',aI CH CS CT H' A L { M with ts:=(M.ts.set f { tf with aZ:=tf.aZ++[(z,k)] }).set k { tk with c7:=[(f,z)] } }→Kp [A.t,af.nm,ak.pl] H H'→Q .ax H'
theorem zx {l:List (Str×Nat)} {z:Str} {k:Nat} (h:aN (sD l) (.inr z)=none):putK (sD l) (.inr z) (.int (k:Int))=sD (l++[(z,k)]):=by
 have e:((sD l).any fun kv=>decide (kv.1=(Sum.inr z:Key)))=false:=by rw [n8,h]; rfl
 unfold putK;rw [e];simp [sD]
theorem MF (T:Tx K mg):aA P w K mg base aM 5 T.pX.f T.pX.d ["self", "folder", "name", "number"] (Us T.au T.aE T.aG):=by
 refine T.pX.F.ok tO (fun vs H Q E h=>?_) (fun az A outer s H vs Q E hr h=>?_)
 ·exact D1 h fun _ _ _ _ _=>rfl
 ·refine D1 h fun x fn z kn h=>?_;obtain ⟨AA,L,M,f,k,af,tf,ak,tk,i,rfl,rfl,rfl,fK,bA,gr,dm,hfk,hv,Jl,bg,q⟩:=h;obtain ⟨fs,c,hx,aV,sf⟩:=i.h;obtain ⟨gs,c2,ht,dH,sg⟩:=i.t;have Io:=fC i gr dm;obtain ⟨ks,ho,jJ,so⟩:=Io.o;refine ⟨_,((Dv.cut (Dv.aS 4 tO.nd (Dv.dE T.b9 T.df.h (jg T) (hr.mono (by decide)) T.df.b .nil eV (Dv.v 0) (Dv.aa (Dv.v 3) Dv.ag)))
  (Dv.cut (Dv.jP T.b9 T.ui kh (Dv.v 0) Dv.int)
  (Dv.cut (Dv.aX (Dv.bh T.b9 T.qk.h (K0 T) (hr.mono (by decide)) T.qk.b .nil aw (Dv.v 0) (Dv.aa (Dv.v 1) (Dv.aa (Dv.v 2) Dv.ag))))
  (Dv.cut (Dv.aW (Dv.aY kE (Dv.fld T.cT T.xY (Dv.v 4)) (Dv.glob (.str "file") T.yp ⟨_,rfl⟩)) (Dv.aj (Dv.nN PassesOwn.never rfl (Dv.gX (K:=K) rfl (Dv.oE (Qj rfl) T.wu Qw (Dv.aa (Dv.fld T.cT T.sX (Dv.v 4)) Dv.ag))) (Dv.tG (K:=K) (n:=2) rfl rfl (Dv.ka (Dv.dA 5 tO.nd) (Dv.ka (Dv.dA 6 tO.nd) Dv.uS))) (Dv.aj Dv.cK))) Dv.nil)
  (Dv.cut (Dv.rm (dX hr) (Dv.fld T.cT T.zV (Dv.dE T.b9 T.df.h (jg T) (hr.mono (by decide)) T.df.b .nil eV (Dv.v 0) (Dv.aa (Dv.v 1) Dv.ag))) (Dv.v 2) (Dv.v 3))
  (Dv.aj (Dv.rm (dX hr) (Dv.fld T.cT T.sX (Dv.v 4)) (Dv.tup (Dv.aa (Dv.v 1) (Dv.aa (Dv.v 2) Dv.ag))) Dv.bl)))))))).h,?_⟩
  refine stI [some (V.ref AA.t),some (V.int (f:Int)),some (V.str z),some (V.int (k:Int)),none,none,none] ?_;refine ao ?_;walk_at "w";refine ⟨AA.t,_,_,rfl,ht,(sg _).trans rfl,ke i gr dm ?_⟩;refine ao ?_;walk_at "w";refine ⟨AA.t,_,_,.int c2,rfl,ht,(sg _).trans rfl,_,_,rfl,rfl,_,_,ht,by omega,ao ?_⟩;have tn:∀ b∈ak.l,AA.t≠b:=i.lN gr _ (by simp [Ad.w]);have i1:aI T.au T.aE T.aG (upd H AA.t (.ins T.aE AA.dt (ae "changes" (.int (c2+1)) gs))) AA L M:=by
   have w:=i.write (H':=upd H AA.t (.ins T.aE AA.dt (ae "changes" (.int (c2+1)) gs))) (t':=tk) gr ⟨fs,c,by rw [ah i.aT]; exact hx,aV,sf⟩ ⟨_,c2+1,ay,by rw [dN (u:=.int c2) ((sg _).trans rfl)]; exact dH,fun f=>by rw [(sg.put "changes" (.int (c2+1))) f]; rfl⟩
    (Io.keep (W:=[AA.t]) (fun b o hb e=>by rw [ah (fun z=>hb (by simp [z]))]; exact e) fun b hb=>by simp [Ne.symm (tn b hb)]) (fun b o hb e=>by simp only [List.mem_cons,List.not_mem_nil,or_false,not_or] at hb; rw [ah hb.2.1]; exact e)
   have e:M.ts.set k tk=M.ts:=by
    apply List.ext_getElem?;intro j;by_cases hj:k=j
    ·subst hj; rw [List.getElem?_set_self (List.getElem?_eq_some_iff.mp dm).1,dm]
    ·rw [List.getElem?_set_ne hj]
   rw [e] at w;exact w
  have gQ:Kp [AA.t] H (upd H AA.t (.ins T.aE AA.dt (ae "changes" (.int (c2+1)) gs))):=fun b o hb e=>by rw [ah (fun z=>hb (by simp [z]))]; exact e
  generalize upd H AA.t (.ins T.aE AA.dt (ae "changes" (.int (c2+1)) gs))=H1 at i1 gQ ⊢;obtain ⟨gs1,c3,mC,JX,BF⟩:=i1.t;have Iq:=fC i1 gr dm;have ithf1:=fC i1 fK bA;obtain ⟨ks1,JP,hol1,IJ⟩:=Iq.o;obtain ⟨iJ,mB,jC,cf⟩:=ithf1.o;walk_at "w";refine ⟨AA.t,_,_,rfl,mC,(BF _).trans rfl,AA,L,M,f,af,tf,i1,rfl,rfl,fK,bA,hv,?_⟩;refine en (fun σ' H'=>ai H1 H'∧∃ t5 t6,σ'=[some (V.ref AA.t),some (V.int (f:Int)),some (V.str z),some (V.int (k:Int)),some (.ref ak.th),t5,t6]) ?_ ?_
  ·walk_at "w";refine ⟨ak.th,_,_,_,rfl,JP,(IJ _).trans rfl,?_⟩;refine jk (fun _=>?_) (fun _=>⟨ai.refl _,_,_,rfl⟩);refine ⟨ak.th,_,_,_,rfl,JP,(IJ _).trans rfl,?_⟩;have vh:H1 ak.pl=some (.dT []):=by have:=Iq.pl; rw [bg] at this; exact this
   refine ⟨ak.pl,_,rfl,vh,?_⟩;intro l ks hk _ hl;have rP:ks=[]:=List.length_eq_zero_iff.mp hk;subst rP;refine ⟨⟨_,aK.of ay⟩,qH (xs:=[]) (fun _ σ' H'=>H'=upd H1 l (.lst [])∧σ'=[some (V.ref AA.t),some (V.int (f:Int)),some (V.str z),some (V.int (k:Int)),some (.ref ak.th),none,none]) ⟨rfl,rfl⟩ (fun _ σ' H' _ h=>by rw [h.1]; exact aK.of ay) (fun j x σ' H' hx _=>by simp at hx) (fun σ' H' h=>?_)⟩;obtain ⟨rfl,rfl⟩:=h;exact ⟨ai.upd hl,_,_,rfl⟩
  ·rintro σ' H2 ⟨s2,t5,t6,rfl⟩;have i2:=i1.same s2;obtain ⟨gs2,c4,fe,hgl2,JA⟩:=i2.t;obtain ⟨vC,d2,bN,hxl2,sx2⟩:=i2.h;have Bd:=fC i2 fK bA;obtain ⟨iL,kP,iK,bS⟩:=Bd.o;have IZ:=i2.own fK;have HM:=i2.own gr;have J7:=i2.lN fK;have Iz:=i2.lN gr;refine ao ?_;walk_at "w";refine ⟨AA.t,_,_,rfl,fe,(JA _).trans rfl,ke i2 fK bA ⟨af.th,_,_,.ref af.nm,rfl,kP,(bS _).trans rfl,af.nm,_,rfl,gF.k (k:=.inr z) Bd.nm (gN (by unfold sD; rw [List.length_map]; omega)),?_⟩⟩;rw [zx hv];have i3:aI T.au T.aE T.aG (upd H2 af.nm (.dK (sD (tf.aZ++[(z,k)])))) AA L { M with ts:=M.ts.set f { tf with aZ:=tf.aZ++[(z,k)] } }:=by
    refine i2.write fK ⟨vC,d2,by rw [ah (J7 _ (by simp [Ad.w]) _ (by simp [Ta.l]))]; exact bN,hxl2,sx2⟩ ⟨gs2,c4,by rw [ah (J7 _ (by simp [Ad.w]) _ (by simp [Ta.l]))]; exact fe,hgl2,JA⟩ ⟨⟨iL,by rw [ah IZ.1]; exact kP,iK,bS⟩,ay,by rw [ah (Ne.symm IZ.2.2)]; exact Bd.pl⟩ (fun b o hb e=>?_);simp only [List.mem_cons,List.not_mem_nil,or_false,not_or] at hb;rw [ah hb.2.2.2.1]; exact e
   have JZ:Kp [AA.t,af.nm] H (upd H2 af.nm (.dK (sD (tf.aZ++[(z,k)])))):=fun b o hb e=>by
    simp only [List.mem_cons,List.not_mem_nil,or_false,not_or] at hb;rw [ah hb.2];exact s2 _ _ (gQ b o (by simp [hb.1]) e)
   generalize upd H2 af.nm (.dK (sD (tf.aZ++[(z,k)])))=H3 at i3 JZ ⊢;have Ia:(M.ts.set f { tf with aZ:=tf.aZ++[(z,k)] })[k]?=some tk:=by rw [List.getElem?_set_ne hfk]; exact dm
   have ithk3:=fC i3 gr Ia;obtain ⟨ks3,ho3,hol3,so3⟩:=ithk3.o;walk_at "w";refine ⟨ak.th,_,_,.ref ak.pl,rfl,ho3,(so3 _).trans rfl,fits (by simp),fun p hp=>?_⟩;have s4:=ai.upd (o:=.tup [V.int (f:Int),V.str z]) hp;have b4:upd H3 p (.tup [V.int (f:Int),V.str z]) p=some (.tup [V.int (f:Int),V.str z]):=ay;generalize upd H3 p (.tup [V.int (f:Int),V.str z])=H4 at s4 b4 ⊢;have i4:=i3.same s4;have Ao:=fC i4 gr Ia;obtain ⟨ks4,ho4,hol4,so4⟩:=Ao.o;obtain ⟨gs4,c5,ht4,hgl4,sg4⟩:=i4.t;obtain ⟨hs4,d4,jH,hxl4,sx4⟩:=i4.h;have hpl4:H4 ak.pl=some (.dT []):=by have:=Ao.pl; rw [bg] at this; exact this
   refine ⟨ak.pl,_,rfl,gF.t (k:=[.inl (f:Int),.inr z]) hpl4 b4 (by decide),?_⟩;refine q _ (i4.write gr ⟨hs4,d4,by rw [ah (Iz _ (by simp [Ad.w]) _ (by simp [Ta.l]))]; exact jH,hxl4,sx4⟩ ⟨gs4,c5,by rw [ah (Iz _ (by simp [Ad.w]) _ (by simp [Ta.l]))]; exact ht4,hgl4,sg4⟩ ⟨⟨ks4,by rw [ah HM.2.1]; exact ho4,hol4,so4⟩,by rw [ah HM.2.2]; exact Ao.nm,ay⟩ (fun b o hb e=>?_)) (fun b o hb e=>?_)
   ·simp only [List.mem_cons,List.not_mem_nil,or_false,not_or] at hb;rw [ah hb.2.2.2.2]; exact e
   ·simp only [List.mem_cons,List.not_mem_nil,or_false,not_or] at hb;rw [ah hb.2.2];exact s4 _ _ (JZ b o (by simp [hb.1,hb.2.1]) e)
def EE (CH:Addr) (fld:Str):Sp:=km fun x z n H Q _=>∃ dx fs c d kvs,H x=some (.ins CH dx fs)∧fs.length≤40∧fs.lookup ("changes" : Str)=some (.int c)∧fs.lookup fld=some (.ref d)∧H d=some (.dK kvs)∧kvs.length≤40 ∧
   Q .ax (upd (upd H x (.ins CH dx (ae "changes" (.int (c+1)) fs))) d (.dK (putK kvs (.inr z) (.int n))))
def RE (CH:Addr):Sp:=fN fun x z H Q _=>∃ dx fs c ro st kr ks,H x=some (.ins CH dx fs)∧fs.length≤40∧fs.lookup ("changes" : Str)=some (.int c)∧fs.lookup ("roots" : Str)=some (.ref ro)∧fs.lookup ("standings" : Str)=some (.ref st)∧fs.lookup ("first_root" : Str)=some (.int 0)∧fs.lookup ("put_root" : Str)=none∧fs.lookup ("put_standing" : Str)=none ∧
   H ro=some (.dK kr)∧kr.length≤40∧H st=some (.dK ks)∧ks.length≤40∧ro≠st ∧
   ∀ fs' c' H',H' x=some (.ins CH dx fs')→fs'.length≤40→cA fs' (ae "changes" (.int c') fs)→H' ro=some (.dK (putK kr (.inr z) (.int 0)))→H' st=some (.dK (putK ks (.inr z) (.int 0)))→(∀ b,b≠x→b≠ro→b≠st→H' b=H b)→Q .ax H'
theorem Vz (T:Tx K mg):aA P w K mg base aM 1 T.qK.f T.qK.d ["self", "asker", "folder"] (EE T.au "roots"):=by
 refine T.qK.F.ok TY (fun vs H Q E h=>?_) (fun az A outer s H vs Q E hr h=>?_)
 ·exact fc h fun _ _ _ _=>rfl
 ·refine fc h fun x z n h=>?_;obtain ⟨dx,fs,c,d,kvs,hx,aV,hc,hd,hD,kU,q⟩:=h;refine ⟨_,((Dv.cut (Dv.jP T.aL T.uY kh (Dv.v 0) Dv.int)
  (Dv.aj (Dv.rm (dX hr) (Dv.fld T.aL T.qF (Dv.v 0)) (Dv.v 1) (Dv.v 2))))).h,?_⟩
  refine stI [some (V.ref x),some (V.str z),some (V.int n)] ?_;have fh:d≠x:=fun e=>by rw [e,hx] at hD; cases hD
  refine ao ?_;walk_at "w";refine ⟨x,dx,fs,.int c,rfl,hx,hc,_,_,rfl,rfl,dx,fs,hx,by omega,?_⟩;walk_at "w";refine ⟨x,dx,_,.ref d,rfl,ay,by rw [dk,if_neg (by decide)]; exact hd,d,_,rfl,gF.k (k:=.inr z) (by rw [ah fh]; exact hD) (gN (by omega)),q⟩
theorem Hu (T:Tx K mg):aA P w K mg base aM 1 T.i0.f T.i0.d ["self", "asker", "folder"] (EE T.au "standings"):=by
 refine T.i0.F.ok MX (fun vs H Q E h=>?_) (fun az A outer s H vs Q E hr h=>?_)
 ·exact fc h fun _ _ _ _=>rfl
 ·refine fc h fun x z n h=>?_;obtain ⟨dx,fs,c,d,kvs,hx,aV,hc,hd,hD,kU,q⟩:=h;refine ⟨_,((Dv.cut (Dv.jP T.aL T.uY kh (Dv.v 0) Dv.int)
  (Dv.aj (Dv.rm (dX hr) (Dv.fld T.aL T.wN (Dv.v 0)) (Dv.v 1) (Dv.v 2))))).h,?_⟩
  refine stI [some (V.ref x),some (V.str z),some (V.int n)] ?_;have fh:d≠x:=fun e=>by rw [e,hx] at hD; cases hD
  refine ao ?_;walk_at "w";refine ⟨x,dx,fs,.int c,rfl,hx,hc,_,_,rfl,rfl,dx,fs,hx,by omega,?_⟩;walk_at "w";refine ⟨x,dx,_,.ref d,rfl,ay,by rw [dk,if_neg (by decide)]; exact hd,d,_,rfl,gF.k (k:=.inr z) (by rw [ah fh]; exact hD) (gN (by omega)),q⟩
theorem GJ (T:Tx K mg):aA P w K mg base aM 2 T.lS.f T.lS.d ["self", "name"] (RE T.au):=by
 refine T.lS.F.ok VP (fun vs H Q E h=>?_) (fun az A outer s H vs Q E hr h=>?_)
 ·exact cF h fun _ _ _=>rfl
 ·refine cF h fun x z h=>?_;obtain ⟨dx,fs,c,ro,st,kr,ks,hx,aV,hc,mM,aQ,jL,mx,ej,Ak,hkr,AB,rP,Jq,q⟩:=h;refine ⟨_,((Dv.cut (Dv.aX (Dv.bh T.aL T.qK.h (Vz T) (hr.mono (by decide)) T.qK.b .nil aw (Dv.v 0) (Dv.aa (Dv.v 1) (Dv.aa (Dv.fld T.aL T.xO (Dv.v 0)) Dv.ag))))
  (Dv.aj (Dv.aX (Dv.bh T.aL T.i0.h (Hu T) (hr.mono (by decide)) T.i0.b .nil aw (Dv.v 0) (Dv.aa (Dv.v 1) (Dv.aa (Dv.fld T.aL T.xO (Dv.v 0)) Dv.ag))))))).h,?_⟩
  refine stI [some (V.ref x),some (V.str z)] ?_;have n1:ro≠x:=fun e=>by rw [e,hx] at Ak; cases Ak
  have n2:st≠x:=fun e=>by rw [e,hx] at AB; cases AB
  refine ao ?_;walk_at "w";refine ⟨x,dx,fs,rfl,hx,mx,x,dx,fs,.int 0,rfl,hx,jL,?_⟩;refine ⟨dx,fs,c,ro,kr,hx,by omega,hc,mM,Ak,hkr,?_⟩;have bu:upd (upd H x (.ins T.au dx (ae "changes" (.int (c+1)) fs))) ro (.dK (putK kr (.inr z) (.int 0))) x=some (.ins T.au dx (ae "changes" (.int (c+1)) fs)):=by rw [ah (Ne.symm n1),ay]
  have gz:upd (upd H x (.ins T.au dx (ae "changes" (.int (c+1)) fs))) ro (.dK (putK kr (.inr z) (.int 0))) ro=some (.dK (putK kr (.inr z) (.int 0))):=ay;have IQ:upd (upd H x (.ins T.au dx (ae "changes" (.int (c+1)) fs))) ro (.dK (putK kr (.inr z) (.int 0))) st=some (.dK ks):=by rw [ah (Ne.symm Jq),ah n2]; exact AB
  have ph:∀ b,b≠x→b≠ro→upd (upd H x (.ins T.au dx (ae "changes" (.int (c+1)) fs))) ro (.dK (putK kr (.inr z) (.int 0))) b=H b:=fun b b1 b2=>by rw [ah b2,ah b1]
  generalize upd (upd H x (.ins T.au dx (ae "changes" (.int (c+1)) fs))) ro (.dK (putK kr (.inr z) (.int 0)))=H1 at bu gz IQ ph ⊢;have lk:∀ f:Str,f ≠ "changes" → (ae "changes" (.int (c+1)) fs).lookup f=fs.lookup f:=fun f hf=>by rw [dk,if_neg hf]
  walk_at "w";refine ⟨x,dx,_,rfl,bu,(lk _ (by decide)).trans ej,x,dx,_,.int 0,rfl,bu,(lk _ (by decide)).trans jL,?_⟩;refine ⟨dx,_,c+1,st,ks,bu,by rw [dN hc]; exact aV,by rw [dk,if_pos rfl],(lk _ (by decide)).trans aQ,IQ,rP,?_⟩;refine q _ (c+1+1) _ (by rw [ah (Ne.symm n2),ay]) (by rw [dN (u:=.int (c+1)) (by rw [dk,if_pos rfl]),dN hc]; exact aV) (fun f=>?_) (by rw [ah Jq,ah n1]; exact gz) ay (fun b b1 b2 b3=>by rw [ah b3,ah b1]; exact ph b b1 b2);rw [dk,dk,dk];by_cases e:f = "changes"
  ·rw [if_pos e,if_pos e]
  ·rw [if_neg e,if_neg e,if_neg e]
def Qy (CH CS CT:Addr):Sp:=lP fun x m own H Q _=>m = "main" ∧ ∃ dx fs c t dt ml tr,H x=some (.ins CH dx fs)∧fs.length≤40∧fs.lookup ("things" : Str)=some (.ref t)∧fs.lookup ("changes" : Str)=some (.int c)∧fs.lookup ("tree_roots" : Str)=some (.ref tr)∧fs.lookup ("add_folder" : Str)=none ∧
   kC CS H t dt ml []∧H tr=some (.dK []) ∧
   ∀ th cI nm pl fs' ks c' H',H th=none→H nm=none→H pl=none→H' x=some (.ins CH dx fs')→fs'.length≤fs.length→cA fs' (ae "changes" (.int c') fs)→kC CS H' t dt ml [.ref th]→H' th=some (.ins CT cI ks)→ks.length≤40 →
    cA ks (qy (.int 0) (.str "folder") (.str own) (.str "lgw") (.str "lg") (.str "") (.ref nm) (.ref pl))→H' nm=some (.dK [])→H' pl=some (.dT [])→H' tr=some (.dK [(.inr "main",.int 0)])→Kp [x,t,ml,tr] H H'→Q (.int 0) H'
theorem US (T:Tx K mg):aA P w K mg base aM 5 T.p7.f T.p7.d ["self", "tree", "owner"] (Qy T.au T.aE T.aG):=by
 refine T.p7.F.ok FP (fun vs H Q E h=>?_) (fun az A outer s H vs Q E hr h=>?_)
 ·exact gg h fun _ _ _ _=>rfl
 ·refine gg h fun x m own h=>?_;obtain ⟨rfl,dx,fs,c,t,dt,ml,tr,hx,aV,aO,hc,cR,fK,BJ,iI,q⟩:=h;obtain ⟨gs,d,ht,dH,sg⟩:=BJ.o;have gx:=BJ.ml;refine ⟨_,((Dv.cut (Dv.aS 3 FP.nd (Dv.bh T.b9 T.lL.h (Dc T) (hr.mono (by decide)) T.lL.b .nil aw (Dv.fld T.aL T.f9 (Dv.v 0)) (Dv.aa (Dv.v 2) (Dv.aa Dv.str (Dv.aa Dv.str Dv.ag)))))
  (Dv.cut (Dv.jP T.aL T.uY kh (Dv.v 0) Dv.int)
  (Dv.cut (Dv.rm (dX hr) (Dv.fld T.aL T.qq (Dv.v 0)) (Dv.v 1) (Dv.v 3))
  (Dv.aj (Dv.aP (Dv.v 3))))))).h,?_⟩
  refine stI [some (V.ref x),some (V.str "main"),some (V.str own),none] ?_;have n1:t≠x∨True:=.inr trivial;refine ao ?_;walk_at "w";refine ⟨x,dx,fs,.ref t,rfl,hx,aO,t,dt,gs,rfl,ht,(sg _).trans rfl,?_⟩;refine ⟨dt,ml,[],BJ,by simp,?_⟩;intro th cI nm pl ks H1 fth fnm fpl at1 hth1 hkl1 sk1 hnm1 vh gQ;obtain ⟨gs',d',mC,JX,BF⟩:=at1.o;have jx:=at1.ml;have vE:x≠t:=fun e=>by
   rw [e,ht] at hx;injection hx with hx;injection hx with _ _ mH;rw [← mH] at aO;have:=(sg "things").symm.trans aO;cases this
  have Jf:x≠ml:=fun e=>by rw [e,gx] at hx; cases hx
  have IB:tr≠t:=fun e=>by rw [e,ht] at iI; cases iI
  have JY:tr≠ml:=fun e=>by rw [e,gx] at iI; cases iI
  have JM:tr≠x:=fun e=>by rw [e,hx] at iI; cases iI
  have bu:H1 x=some (.ins T.au dx fs):=gQ _ _ (by simp [vE,Jf]) hx;have hTr1:H1 tr=some (.dK []):=gQ _ _ (by simp [IB,JY]) iI;refine ao ?_;walk_at "w";refine ⟨x,dx,fs,.int c,rfl,bu,hc,_,_,rfl,rfl,dx,fs,bu,by omega,ao ?_⟩;walk_at "w";refine ⟨x,dx,_,.ref tr,rfl,ay,by rw [dk,if_neg (by decide)]; exact cR,tr,_,rfl,gF.k (k:=.inr "main") (by rw [ah JM]; exact hTr1) (by decide),?_⟩;walk_at "w";have old:∀ b o,H1 b=some o→b≠x→b≠tr→upd (upd H1 x (.ins T.au dx (ae "changes" (.int (c+1)) fs))) tr (.dK (putK [] (.inr "main") (.int 0))) b=some o:=fun b o e b1 b2=>by rw [ah b2,ah b1]; exact e
  have IC:th≠x∧th≠tr:=⟨Ne.symm (aF hx fth),Ne.symm (aF iI fth)⟩;have JV:nm≠x∧nm≠tr:=⟨Ne.symm (aF hx fnm),Ne.symm (aF iI fnm)⟩;have Iv:pl≠x∧pl≠tr:=⟨Ne.symm (aF hx fpl),Ne.symm (aF iI fpl)⟩;refine q th cI nm pl _ ks (c+1) _ fth fnm fpl (by rw [ah (Ne.symm JM),ay]) (Nat.le_of_eq (dN hc)) (cA.refl _) ⟨⟨gs',d',old _ _ mC (Ne.symm vE) (Ne.symm IB),JX,BF⟩,old _ _ jx (Ne.symm Jf) (Ne.symm JY)⟩ (old _ _ hth1 IC.1 IC.2) hkl1 sk1 (old _ _ hnm1 JV.1 JV.2) (old _ _ vh Iv.1 Iv.2) ay ?_;intro b o hb e;simp only [List.mem_cons,List.not_mem_nil,or_false,not_or] at hb;exact old _ _ (gQ b o (by simp [hb.2.1,hb.2.2.1]) e) hb.1 hb.2.2.2
theorem kW (T:Tx K mg):aA P w K mg base (cB P w) 1 T.dY.f T.dY.d ["self", "asker"] (DI T.au T.aE T.aG T.pB):=by
 refine T.dY.F.dF KL (fun vs H Q E h=>?_) (fun az A outer s H vs Q E hr h=>?_)
 ·exact sM h fun _ _ _=>rfl
 ·refine sM h fun x v h=>?_;obtain ⟨AA,L,M,i,rfl,⟨ty,b8⟩,q1,q2⟩:=h;obtain ⟨fs,c,hx,aV,sf⟩:=i.h;refine ⟨_,((Dv.aj (Dv.aW (Dv.dv (Dv.w_or (Dv.cw (Dv.cg (Dv.cD js T.fv fq (Dv.aa (Dv.v 1) (Dv.aa (Dv.jm (.ty "str") T.jW ko rfl) Dv.ag))))) (Dv.hZ (Dv.DM (dX hr) (Dv.v 1) (Dv.fld T.aL T.qF (Dv.v 0)))))) (Dv.aj (Dv.xy wU rfl T.N1 T.Py (Dv.aa Dv.str Dv.ag))) Dv.nil))).h,?_⟩;refine stI [some (V.ref AA.a),some v] ?_;walk_at "w";simp only [b8,xH b8];refine ⟨uh _ rfl,?_⟩;cases v with
  | str z =>
   simp only [ue,Bool.not_true,Bool.false_eq_true,if_false];refine ⟨AA.a,_,_,.ref AA.ro,rfl,hx,(sf _).trans rfl,AA.ro,_,rfl,cN.k (k:=.inr z) i.ro,?_⟩;cases hz:aN (sD M.ro) (.inr z) with
   | none=>exact bM ⟨fits (by simp),q2 fun z' e=>by cases e; exact hz⟩
   | some u=>exact bb (q1 z rfl (by rw [hz]; rfl))
  | _=>exact ⟨fits (by simp),q2 fun z' e=>by cases e⟩
section
variable {T:Tx K mg} {H:Hp} {A:Ad} {L:List Ta} {M:Hs}
theorem oX {z:Str} {Q:VK} {E:XK} (i:aI T.au T.aE T.aG H A L M) (hz:(aN (sD M.ro) (.inr z)).isSome=true) (q:Q .ax H):DI T.au T.aE T.aG T.pB [.ref A.a,.str z] H Q E :=
 ⟨A,L,M,i,rfl,⟨_,rfl⟩,fun _ _ _=>q,fun h=>by rw [h z rfl] at hz; cases hz⟩
end
theorem lb (T:Tx K mg):aA P w K mg base aM 2 T.ef.f T.ef.d ["self", "asker"] (NM T.au T.aE T.aG):=by
 refine T.ef.F.ok S2 (fun vs H Q E h=>?_) (fun az A outer s H vs Q E hr h=>?_)
 ·exact cF h fun _ _ _=>rfl
 ·refine cF h fun x z h=>?_;obtain ⟨AA,L,M,r,i,rfl,hz,q⟩:=h;obtain ⟨fs,c,hx,aV,sf⟩:=i.h;refine ⟨_,((Dv.cut (Dv.aX (Dv.dE T.aL T.dY.h (kW T) (hr.mono (by decide)) T.dY.b .nil eV (Dv.v 0) (Dv.aa (Dv.v 1) Dv.ag)))
  (Dv.aj (Dv.aP (Dv.rh (dX hr) (Dv.fld T.aL T.qF (Dv.v 0)) (Dv.v 1)))))).h,?_⟩
  refine stI [some (V.ref AA.a),some (V.str z)] ?_;refine ao ?_;walk_at "w";refine ⟨AA.a,_,_,rfl,hx,(sf _).trans rfl,oX i (by rw [hz]; rfl) ?_⟩;refine ⟨AA.a,_,_,.ref AA.ro,rfl,hx,(sf _).trans rfl,AA.ro,.int r,rfl,?_,q⟩;have:=cN.k (k:=.inr z) i.ro;rw [hz] at this;exact this
def SG (CH CS CT:Addr):Sp:=fN fun x z H Q _=>∃ A L M,∃ r:Nat,aI CH CS CT H A L M∧A.a=x∧(aN (sD M.ro) (.inr z)).isSome=true∧aN (sD M.st) (.inr z)=some (.int r)∧Q (.int r) H
theorem EW (T:Tx K mg):aA P w K mg base aM 2 T.lD.f T.lD.d ["self", "asker"] (SG T.au T.aE T.aG):=by
 refine T.lD.F.ok Sq (fun vs H Q E h=>?_) (fun az A outer s H vs Q E hr h=>?_)
 ·exact cF h fun _ _ _=>rfl
 ·refine cF h fun x z h=>?_;obtain ⟨AA,L,M,r,i,rfl,hzr,hz,q⟩:=h;obtain ⟨fs,c,hx,aV,sf⟩:=i.h;refine ⟨_,((Dv.cut (Dv.aX (Dv.dE T.aL T.dY.h (kW T) (hr.mono (by decide)) T.dY.b .nil eV (Dv.v 0) (Dv.aa (Dv.v 1) Dv.ag)))
  (Dv.aj (Dv.aP (Dv.rh (dX hr) (Dv.fld T.aL T.wN (Dv.v 0)) (Dv.v 1)))))).h,?_⟩
  refine stI [some (V.ref AA.a),some (V.str z)] ?_;refine ao ?_;walk_at "w";refine ⟨AA.a,_,_,rfl,hx,(sf _).trans rfl,oX i hzr ?_⟩;refine ⟨AA.a,_,_,.ref AA.st,rfl,hx,(sf _).trans rfl,AA.st,.int r,rfl,?_,q⟩;have:=cN.k (k:=.inr z) i.st;rw [hz] at this;exact this
theorem xB (T:Tx K mg):aA P w K mg base aM 4 T.iR.f T.iR.d ["self", "number", "name"] (Vb T.au T.aE T.aG):=by
 refine T.iR.F.ok Rc (fun vs H Q E h=>?_) (fun az A outer s H vs Q E hr h=>?_)
 ·exact nz h fun _ _ _ _=>rfl
 ·refine nz h fun x n z h=>?_;obtain ⟨AA,L,M,k,a,t,i,rfl,rfl,ha,aO,hn,hl,q⟩:=h;refine ⟨_,((Dv.cut (Dv.aX (Dv.call (yx T) (hr.mono (by decide)) T.gd.m T.gd.F.kp T.gd.b .nil aw (Dv.aa (Dv.v 2) Dv.ag)))
  (Dv.aj (Dv.aP (Dv.bh T.b9 T.lW.h (Ez T) (hr.mono (by decide)) T.lW.b .nil aw (Dv.fld T.aL T.f9 (Dv.v 0)) (Dv.aa (Dv.v 1) (Dv.aa (Dv.v 2) Dv.ag))))))).h,?_⟩
  refine stI [some (V.ref AA.a),some (V.int (k:Int)),some (V.str z)] ?_;refine ao ?_;walk_at "w";refine ⟨⟨_,rfl⟩,hl,hn,fun H1 s1=>?_⟩;have i1:=i.same s1;obtain ⟨fs,c,hx,aV,sf⟩:=i1.h;obtain ⟨gs,c2,ht,dH,sg⟩:=i1.t;exact ⟨AA.a,_,_,.ref AA.t,rfl,hx,(sf _).trans rfl,AA.t,_,_,rfl,ht,(sg _).trans rfl,AA,L,M,k,a,t,i1,rfl,rfl,ha,aO,q H1 s1⟩
theorem wI (T:Tx K mg):aA P w K mg base (cB P w) 3 T.jc.f T.jc.d ["self", "asker", "number", "right"] (Dp T.au T.aE T.aG T.pB T.rV T.pj):=by
 refine T.jc.F.dF NY (fun vs H Q E h=>?_) (fun az A outer s H vs Q E hr h=>?_)
 ·exact tI h fun _ _ _ _ _=>rfl
 ·refine tI h fun x wv v r h=>?_;obtain ⟨AA,L,M,i,rfl,hcw,hcv,hcr,q1,q2⟩:=h;obtain ⟨fs,c,hx,aV,sf⟩:=i.h;obtain ⟨gs,c2,ht,dH,sg⟩:=i.t;refine ⟨_,((Dv.cut (Dv.aX (Dv.dE T.aL T.dY.h (kW T) (hr.mono (by decide)) T.dY.b .nil du (Dv.v 0) (Dv.aa (Dv.v 1) Dv.ag)))
  (Dv.cut (Dv.aX (Dv.ee (P6 T) (hr.mono (by decide)) T.oR.m T.oR.F.kp T.oR.b .nil du (Dv.aa (Dv.v 3) Dv.ag)))
  (Dv.aj (Dv.aP (Dv.cmp (mU (K:=K) rfl) (Dv.v 3) (Dv.bh T.cT T.rB.h (L9 T) (hr.mono (by decide)) T.rB.b .nil aw (Dv.dE T.b9 T.df.h (jg T) (hr.mono (by decide)) T.df.b .nil du (Dv.fld T.aL T.f9 (Dv.v 0)) (Dv.aa (Dv.v 2) Dv.ag)) (Dv.aa (Dv.v 1) Dv.ag)))))))).h,?_⟩
  refine stI [some (V.ref AA.a),some wv,some v,some r] ?_;refine ao ?_;walk_at "w";refine ⟨AA.a,_,_,rfl,hx,(sf _).trans rfl,AA,L,M,i,rfl,hcw,fun z ez hz=>?_,q1⟩;obtain ⟨q3,q4⟩:=q2 z ez hz;subst ez;refine ao ?_;walk_at "w";refine ⟨hcr,fun h1=>?_,q3⟩;obtain ⟨st,rfl⟩:∃ st,r=.str st:=by
   unfold ik at h1;simp only [Bool.or_eq_true,decide_eq_true_eq] at h1;rcases h1 with (h1 | h1) | h1 <;> exact ⟨_,h1⟩
  obtain ⟨q5,q6⟩:=q4 st rfl h1;refine ⟨AA.a,_,_,.ref AA.t,rfl,hx,(sf _).trans rfl,AA.t,_,_,rfl,ht,(sg _).trans rfl,AA,L,M,i,rfl,hcv,fun k a t ev ha aO=>?_,q5⟩;have cS:=fC i ha aO;obtain ⟨ks,ho,jJ,so⟩:=cS.o;exact ⟨a.th,_,_,rfl,ho,(so _).trans rfl,a,k,t,cS,rfl,q6 k t ev aO⟩
def M0 (z:Str):Hs:={ ts:=[{ kd := "folder",ow:=z,mi := "lgw",re := "lg",tx := "",aZ:=[],c7:=[] }],ro:=[(z,0)],st:=[(z,0)],tr:=[("main",0)],ov:=[],un:=[] }
def Tf (CH CS CT:Addr):Sp:=fN fun x z H Q _=>(∃ dx,H x=some (.ins CH dx []))∧z.length≤1000∧dR (.str z)=true∧∀ A L H',A.a=x→aI CH CS CT H' A L (M0 z)→(∀ b∈A.w++L.flatMap Ta.l,b≠x→H b=none)→Kp [x] H H'→Q .ax H'
theorem M9 (T:Tx K mg):aA P w K mg base aM 6 T.pN.f T.pN.d ["self", "owner"] (Tf T.au T.aE T.aG):=by
 refine T.pN.F.ok QR (fun vs H Q E h=>?_) (fun az A outer s H vs Q E hr h=>?_)
 ·exact cF h fun _ _ _=>rfl
 ·refine cF h fun x z h=>?_;obtain ⟨⟨dx,hx0⟩,jD,hn,q⟩:=h;refine ⟨_,((Dv.cut (Dv.aX (Dv.call (yx T) (hr.mono (by decide)) T.gd.m T.gd.F.kp T.gd.b .nil aw (Dv.aa (Dv.v 1) Dv.ag)))
  (Dv.cut (Dv.bw T.aL T.f9 (Dv.v 0) (Dv.Ln T.S5 (Ka T) (hr.mono (by decide)) T.Q5 T.rF.b .nil aw))
  (Dv.cut (Dv.bw T.aL T.uY (Dv.v 0) Dv.int)
  (Dv.cut (Dv.bw T.aL T.qF (Dv.v 0) Dv.lz)
  (Dv.cut (Dv.bw T.aL T.wN (Dv.v 0) Dv.lz)
  (Dv.cut (Dv.bw T.aL T.qq (Dv.v 0) Dv.lz)
  (Dv.cut (Dv.bw T.aL T.yL (Dv.v 0) Dv.lz)
  (Dv.cut (Dv.bw T.aL T.uO (Dv.v 0) Dv.lz)
  (Dv.cut (Dv.bw T.aL T.Pe (Dv.v 0) Dv.lz)
  (Dv.cut (Dv.bw T.aL T.MK (Dv.v 0) Dv.int)
  (Dv.cut (Dv.bw T.aL T.xO (Dv.v 0) (Dv.bh T.aL T.p7.h (US T) (hr.mono (by decide)) T.p7.b .nil aw (Dv.v 0) (Dv.aa (Dv.glob (.str "main") T.LV ⟨_,rfl⟩) (Dv.aa (Dv.v 1) Dv.ag))))
  (Dv.aj (Dv.aX (Dv.bh T.aL T.lS.h (GJ T) (hr.mono (by decide)) T.lS.b .nil aw (Dv.v 0) (Dv.aa (Dv.v 1) Dv.ag)))))))))))))))).h,?_⟩
  refine stI [some (V.ref x),some (V.str z)] ?_;refine ao ?_;walk_at "w";refine ⟨⟨_,rfl⟩,jD,hn,fun H1 s1=>?_⟩;have bu:=s1 _ _ hx0;refine ao ?_;walk_at "w";intro t dt ht o7 pE;refine ⟨dt,ay,fun ml H2 gx nml fr2 hml2 gs dH sg fe=>⟨rfl,?_⟩⟩;have vE:x≠t:=aF bu ht;have nxd:x≠dt:=aF bu o7;have hml':H1 ml=none:=by
   rw [ah nml] at gx;by_cases e:ml=dt
   ·rw [e,ay] at gx; cases gx
   ·rw [ah e] at gx; exact gx
  have s2:ai H1 H2:=fun b o e=>by
   rw [fr2 b (aF e ht) (aF e hml'),ah (aF e ht),ah (aF e o7)]; exact e
  refine ⟨x,dx,_,rfl,s2 _ _ bu,by decide,ao ?_⟩;have n1:t≠x:=Ne.symm vE;have n2:ml≠x:=Ne.symm (aF bu hml');have bN:upd H2 x (.ins T.au dx (ae "things" (.ref t) [])) x=some (.ins T.au dx (ae "things" (.ref t) [])):=ay;have t2:upd H2 x (.ins T.au dx (ae "things" (.ref t) [])) t=some (.ins T.aE dt gs):=by rw [ah n1]; exact fe
  have m2:upd H2 x (.ins T.au dx (ae "things" (.ref t) [])) ml=some (.lst []):=by rw [ah n2]; exact hml2
  have k2:Kp [x] H (upd H2 x (.ins T.au dx (ae "things" (.ref t) []))):=fun b o hb e=>by
   rw [ah (fun z=>hb (by simp [z]))]; exact s2 _ _ (s1 _ _ e)
  have ft:H t=none:=by
   cases e:H t with
   | none=>rfl
   | some o=>rw [s1 _ _ e] at ht; cases ht
  have J6:H ml=none:=by
   cases e:H ml with
   | none=>rfl
   | some o=>rw [s1 _ _ e] at hml'; cases hml'
  clear fr2;generalize upd H2 x (.ins T.au dx (ae "things" (.ref t) []))=H3 at bN t2 m2 k2 ⊢;walk_at "w";refine ⟨x,dx,_,rfl,bN,by (refine Nat.lt_of_le_of_lt (m:=40) ?_ (by decide); (repeat (refine bO ?_)); exact Nat.zero_le _),ao ?_⟩;have cQ:upd H3 x (.ins T.au dx (ae "changes" (.int 0) (ae "things" (.ref t) []))) x=some (.ins T.au dx (ae "changes" (.int 0) (ae "things" (.ref t) []))):=ay;have t3:upd H3 x (.ins T.au dx (ae "changes" (.int 0) (ae "things" (.ref t) []))) t=some (.ins T.aE dt gs):=by rw [ah n1]; exact t2
  have m3:upd H3 x (.ins T.au dx (ae "changes" (.int 0) (ae "things" (.ref t) []))) ml=some (.lst []):=by rw [ah n2]; exact m2
  have k3:Kp [x] H (upd H3 x (.ins T.au dx (ae "changes" (.int 0) (ae "things" (.ref t) [])))):=fun b o hb e=>by
   rw [ah (fun z=>hb (by simp [z]))]; exact k2 _ _ hb e
  generalize upd H3 x (.ins T.au dx (ae "changes" (.int 0) (ae "things" (.ref t) [])))=H4 at cQ t3 m3 k3 ⊢;have fresh:∀ {J:Hp} {d:Addr},Kp [x] H J→d≠x→J d=none→H d=none:=fun {J d} k hd hn=>by
   cases e:H d with
   | none=>rfl
   | some o=>rw [k d o (by simp [hd]) e] at hn; cases hn
  walk_at "w";intro ro mM;refine ⟨x,dx,_,rfl,by rw [ah (aF cQ mM)]; exact cQ,by (refine Nat.lt_of_le_of_lt (m:=40) ?_ (by decide); (repeat (refine bO ?_)); exact Nat.zero_le _),ao ?_⟩;obtain ⟨gv,A3,kN,iH⟩:=jn (o:=.dK []) (O:=.ins T.au dx (ae "roots" (.ref ro) (ae "changes" (.int 0) (ae "things" (.ref t) [])))) mM cQ;have Im:H ro=none:=fresh k3 iH mM;have k5:Kp [x] H (upd (upd H4 ro (.dK [])) x (.ins T.au dx (ae "roots" (.ref ro) (ae "changes" (.int 0) (ae "things" (.ref t) []))))):=fun b o hb e=>kN b o (fun z=>hb (by simp [z])) (k3 b o hb e);have JH:=kN t _ n1 t3;have IW:=kN ml _ n2 m3;clear kN;generalize upd (upd H4 ro (.dK [])) x (.ins T.au dx (ae "roots" (.ref ro) (ae "changes" (.int 0) (ae "things" (.ref t) []))))=H5 at gv A3 k5 JH IW ⊢;walk_at "w";intro st aQ;refine ⟨x,dx,_,rfl,by rw [ah (aF gv aQ)]; exact gv,by (refine Nat.lt_of_le_of_lt (m:=40) ?_ (by decide); (repeat (refine bO ?_)); exact Nat.zero_le _),ao ?_⟩;obtain ⟨vq,A4,sx,jO⟩:=jn (o:=.dK []) (O:=.ins T.au dx (ae "standings" (.ref st) (ae "roots" (.ref ro) (ae "changes" (.int 0) (ae "things" (.ref t) []))))) aQ gv;have JB:H st=none:=fresh k5 jO aQ;have Ja:ro≠st:=aF A3 aQ;have k6:Kp [x] H (upd (upd H5 st (.dK [])) x (.ins T.au dx (ae "standings" (.ref st) (ae "roots" (.ref ro) (ae "changes" (.int 0) (ae "things" (.ref t) [])))))):=fun b o hb e=>sx b o (fun z=>hb (by simp [z])) (k5 b o hb e);have J3:=sx t _ n1 JH;have II:=sx ml _ n2 IW;have An:=sx ro _ iH A3;clear sx;generalize upd (upd H5 st (.dK [])) x (.ins T.au dx (ae "standings" (.ref st) (ae "roots" (.ref ro) (ae "changes" (.int 0) (ae "things" (.ref t) [])))))=H6 at vq A4 k6 J3 II An ⊢;walk_at "w";intro tr cR;refine ⟨x,dx,_,rfl,by rw [ah (aF vq cR)]; exact vq,by (refine Nat.lt_of_le_of_lt (m:=40) ?_ (by decide); (repeat (refine bO ?_)); exact Nat.zero_le _),ao ?_⟩;obtain ⟨vv,Bl,pb,mh⟩:=jn (o:=.dK []) (O:=.ins T.au dx (ae "tree_roots" (.ref tr) (ae "standings" (.ref st) (ae "roots" (.ref ro) (ae "changes" (.int 0) (ae "things" (.ref t) [])))))) cR vq;have JJ:H tr=none:=fresh k6 mh cR;have A6:ro≠tr:=aF An cR;have As:st≠tr:=aF A4 cR;have k7:Kp [x] H (upd (upd H6 tr (.dK [])) x (.ins T.au dx (ae "tree_roots" (.ref tr) (ae "standings" (.ref st) (ae "roots" (.ref ro) (ae "changes" (.int 0) (ae "things" (.ref t) []))))))):=fun b o hb e=>pb b o (fun z=>hb (by simp [z])) (k6 b o hb e);have Jk:=pb t _ n1 J3;have ID:=pb ml _ n2 II;have A9:=pb ro _ iH An;have Am:=pb st _ jO A4;clear pb;generalize upd (upd H6 tr (.dK [])) x (.ins T.au dx (ae "tree_roots" (.ref tr) (ae "standings" (.ref st) (ae "roots" (.ref ro) (ae "changes" (.int 0) (ae "things" (.ref t) []))))))=H7 at vv Bl k7 Jk ID A9 Am ⊢;walk_at "w";intro ov kJ;refine ⟨x,dx,_,rfl,by rw [ah (aF vv kJ)]; exact vv,by (refine Nat.lt_of_le_of_lt (m:=40) ?_ (by decide); (repeat (refine bO ?_)); exact Nat.zero_le _),ao ?_⟩;obtain ⟨u4,Aq,me,mL⟩:=jn (o:=.dK []) (O:=.ins T.au dx (ae "root_over" (.ref ov) (ae "tree_roots" (.ref tr) (ae "standings" (.ref st) (ae "roots" (.ref ro) (ae "changes" (.int 0) (ae "things" (.ref t) []))))))) kJ vv;have fr_ov:H ov=none:=fresh k7 mL kJ;have Iy:ro≠ov:=aF A9 kJ;have Jb:st≠ov:=aF Am kJ;have JK:tr≠ov:=aF Bl kJ;have k8:Kp [x] H (upd (upd H7 ov (.dK [])) x (.ins T.au dx (ae "root_over" (.ref ov) (ae "tree_roots" (.ref tr) (ae "standings" (.ref st) (ae "roots" (.ref ro) (ae "changes" (.int 0) (ae "things" (.ref t) [])))))))):=fun b o hb e=>me b o (fun z=>hb (by simp [z])) (k7 b o hb e);have Jt:=me t _ n1 Jk;have JU:=me ml _ n2 ID;have Ax:=me ro _ iH A9;have BQ:=me st _ jO Am;have Ay:=me tr _ mh Bl;clear me;generalize upd (upd H7 ov (.dK [])) x (.ins T.au dx (ae "root_over" (.ref ov) (ae "tree_roots" (.ref tr) (ae "standings" (.ref st) (ae "roots" (.ref ro) (ae "changes" (.int 0) (ae "things" (.ref t) [])))))))=H8 at u4 Aq k8 Jt JU Ax BQ Ay ⊢;walk_at "w";intro un fL;refine ⟨x,dx,_,rfl,by rw [ah (aF u4 fL)]; exact u4,by (refine Nat.lt_of_le_of_lt (m:=40) ?_ (by decide); (repeat (refine bO ?_)); exact Nat.zero_le _),ao ?_⟩;obtain ⟨vw,BL,kT,pk⟩:=jn (o:=.dK []) (O:=.ins T.au dx (ae "folder_under" (.ref un) (ae "root_over" (.ref ov) (ae "tree_roots" (.ref tr) (ae "standings" (.ref st) (ae "roots" (.ref ro) (ae "changes" (.int 0) (ae "things" (.ref t) [])))))))) fL u4;have fr_un:H un=none:=fresh k8 pk fL;have Jg:ro≠un:=aF Ax fL;have Jh:st≠un:=aF BQ fL;have J1:tr≠un:=aF Ay fL;have eovun:ov≠un:=aF Aq fL;have k9:Kp [x] H (upd (upd H8 un (.dK [])) x (.ins T.au dx (ae "folder_under" (.ref un) (ae "root_over" (.ref ov) (ae "tree_roots" (.ref tr) (ae "standings" (.ref st) (ae "roots" (.ref ro) (ae "changes" (.int 0) (ae "things" (.ref t) []))))))))):=fun b o hb e=>kT b o (fun z=>hb (by simp [z])) (k8 b o hb e);have Ii:=kT t _ n1 Jt;have JF:=kT ml _ n2 JU;have AO:=kT ro _ iH Ax;have A2:=kT st _ jO BQ;have BS:=kT tr _ mh Ay;have BR:=kT ov _ mL Aq;clear kT;generalize upd (upd H8 un (.dK [])) x (.ins T.au dx (ae "folder_under" (.ref un) (ae "root_over" (.ref ov) (ae "tree_roots" (.ref tr) (ae "standings" (.ref st) (ae "roots" (.ref ro) (ae "changes" (.int 0) (ae "things" (.ref t) []))))))))=H9 at vw BL k9 Ii JF AO A2 BS BR ⊢;walk_at "w";intro ho hho;refine ⟨x,dx,_,rfl,by rw [ah (aF vw hho)]; exact vw,by (refine Nat.lt_of_le_of_lt (m:=40) ?_ (by decide); (repeat (refine bO ?_)); exact Nat.zero_le _),ao ?_⟩;obtain ⟨JC,IE,jE,IK⟩:=jn (o:=.dK []) (O:=.ins T.au dx (ae "holds" (.ref ho) (ae "folder_under" (.ref un) (ae "root_over" (.ref ov) (ae "tree_roots" (.ref tr) (ae "standings" (.ref st) (ae "roots" (.ref ro) (ae "changes" (.int 0) (ae "things" (.ref t) []))))))))) hho vw;have fr_ho:H ho=none:=fresh k9 IK hho;have eroho:ro≠ho:=aF AO hho;have estho:st≠ho:=aF A2 hho;have etrho:tr≠ho:=aF BS hho;have eovho:ov≠ho:=aF BR hho;have eunho:un≠ho:=aF BL hho;have sH:Kp [x] H (upd (upd H9 ho (.dK [])) x (.ins T.au dx (ae "holds" (.ref ho) (ae "folder_under" (.ref un) (ae "root_over" (.ref ov) (ae "tree_roots" (.ref tr) (ae "standings" (.ref st) (ae "roots" (.ref ro) (ae "changes" (.int 0) (ae "things" (.ref t) [])))))))))):=fun b o hb e=>jE b o (fun z=>hb (by simp [z])) (k9 b o hb e);have Ik:=jE t _ n1 Ii;have Jx:=jE ml _ n2 JF;have JN:=jE ro _ iH AO;have JE:=jE st _ jO A2;have JS:=jE tr _ mh BS;have HN:=jE ov _ mL BR;have Jy:=jE un _ pk BL;clear jE;generalize upd (upd H9 ho (.dK [])) x (.ins T.au dx (ae "holds" (.ref ho) (ae "folder_under" (.ref un) (ae "root_over" (.ref ov) (ae "tree_roots" (.ref tr) (ae "standings" (.ref st) (ae "roots" (.ref ro) (ae "changes" (.int 0) (ae "things" (.ref t) [])))))))))=eG at JC IE sH Ik Jx JN JE JS HN Jy ⊢;walk_at "w";refine ⟨x,dx,_,rfl,JC,by (refine Nat.lt_of_le_of_lt (m:=40) ?_ (by decide); (repeat (refine bO ?_)); exact Nat.zero_le _),ao ?_⟩;have jG:upd eG x (.ins T.au dx (ae "holds_given" (.int 0) (ae "holds" (.ref ho) (ae "folder_under" (.ref un) (ae "root_over" (.ref ov) (ae "tree_roots" (.ref tr) (ae "standings" (.ref st) (ae "roots" (.ref ro) (ae "changes" (.int 0) (ae "things" (.ref t) [])))))))))) x=some (.ins T.au dx (ae "holds_given" (.int 0) (ae "holds" (.ref ho) (ae "folder_under" (.ref un) (ae "root_over" (.ref ov) (ae "tree_roots" (.ref tr) (ae "standings" (.ref st) (ae "roots" (.ref ro) (ae "changes" (.int 0) (ae "things" (.ref t) [])))))))))):=ay;have eh:upd eG x (.ins T.au dx (ae "holds_given" (.int 0) (ae "holds" (.ref ho) (ae "folder_under" (.ref un) (ae "root_over" (.ref ov) (ae "tree_roots" (.ref tr) (ae "standings" (.ref st) (ae "roots" (.ref ro) (ae "changes" (.int 0) (ae "things" (.ref t) [])))))))))) t=some (.ins T.aE dt gs):=by rw [ah n1]; exact Ik
  have ei:upd eG x (.ins T.au dx (ae "holds_given" (.int 0) (ae "holds" (.ref ho) (ae "folder_under" (.ref un) (ae "root_over" (.ref ov) (ae "tree_roots" (.ref tr) (ae "standings" (.ref st) (ae "roots" (.ref ro) (ae "changes" (.int 0) (ae "things" (.ref t) [])))))))))) ml=some (.lst []):=by rw [ah n2]; exact Jx
  have fM:upd eG x (.ins T.au dx (ae "holds_given" (.int 0) (ae "holds" (.ref ho) (ae "folder_under" (.ref un) (ae "root_over" (.ref ov) (ae "tree_roots" (.ref tr) (ae "standings" (.ref st) (ae "roots" (.ref ro) (ae "changes" (.int 0) (ae "things" (.ref t) [])))))))))) ro=some (.dK []):=by rw [ah iH]; exact JN
  have fD:upd eG x (.ins T.au dx (ae "holds_given" (.int 0) (ae "holds" (.ref ho) (ae "folder_under" (.ref un) (ae "root_over" (.ref ov) (ae "tree_roots" (.ref tr) (ae "standings" (.ref st) (ae "roots" (.ref ro) (ae "changes" (.int 0) (ae "things" (.ref t) [])))))))))) st=some (.dK []):=by rw [ah jO]; exact JE
  have mm:upd eG x (.ins T.au dx (ae "holds_given" (.int 0) (ae "holds" (.ref ho) (ae "folder_under" (.ref un) (ae "root_over" (.ref ov) (ae "tree_roots" (.ref tr) (ae "standings" (.ref st) (ae "roots" (.ref ro) (ae "changes" (.int 0) (ae "things" (.ref t) [])))))))))) tr=some (.dK []):=by rw [ah mh]; exact JS
  have jz:upd eG x (.ins T.au dx (ae "holds_given" (.int 0) (ae "holds" (.ref ho) (ae "folder_under" (.ref un) (ae "root_over" (.ref ov) (ae "tree_roots" (.ref tr) (ae "standings" (.ref st) (ae "roots" (.ref ro) (ae "changes" (.int 0) (ae "things" (.ref t) [])))))))))) ov=some (.dK []):=by rw [ah mL]; exact HN
  have jI:upd eG x (.ins T.au dx (ae "holds_given" (.int 0) (ae "holds" (.ref ho) (ae "folder_under" (.ref un) (ae "root_over" (.ref ov) (ae "tree_roots" (.ref tr) (ae "standings" (.ref st) (ae "roots" (.ref ro) (ae "changes" (.int 0) (ae "things" (.ref t) [])))))))))) un=some (.dK []):=by rw [ah pk]; exact Jy
  have gho11:upd eG x (.ins T.au dx (ae "holds_given" (.int 0) (ae "holds" (.ref ho) (ae "folder_under" (.ref un) (ae "root_over" (.ref ov) (ae "tree_roots" (.ref tr) (ae "standings" (.ref st) (ae "roots" (.ref ro) (ae "changes" (.int 0) (ae "things" (.ref t) [])))))))))) ho=some (.dK []):=by rw [ah IK]; exact IE
  have mI:Kp [x] H (upd eG x (.ins T.au dx (ae "holds_given" (.int 0) (ae "holds" (.ref ho) (ae "folder_under" (.ref un) (ae "root_over" (.ref ov) (ae "tree_roots" (.ref tr) (ae "standings" (.ref st) (ae "roots" (.ref ro) (ae "changes" (.int 0) (ae "things" (.ref t) []))))))))))):=fun b o hb e=>by rw [ah (fun z=>hb (by simp [z]))]; exact sH b o hb e
  generalize upd eG x (.ins T.au dx (ae "holds_given" (.int 0) (ae "holds" (.ref ho) (ae "folder_under" (.ref un) (ae "root_over" (.ref ov) (ae "tree_roots" (.ref tr) (ae "standings" (.ref st) (ae "roots" (.ref ro) (ae "changes" (.int 0) (ae "things" (.ref t) []))))))))))=H11 at jG mI eh ei fM fD mm jz jI gho11 ⊢;walk_at "w";refine ⟨x,dx,_,rfl,jG,rfl,?_⟩;refine ⟨rfl,dx,_,0,t,dt,ml,tr,jG,by (repeat (refine bO ?_)); exact Nat.zero_le _,rfl,rfl,rfl,rfl,⟨⟨gs,0,eh,dH,sg⟩,ei⟩,mm,?_⟩;intro th cI nm pl fs' ks c' H12 fth fnm fpl hxA hflA BE atA hthA hklA skA hnmA hplA htrA sE;obtain ⟨gs',d',htA,hglA,sgA⟩:=atA.o;have hmlA:=atA.ml;have lkA:∀ f:Str,f ≠ "changes" → fs'.lookup f=(ae "holds_given" (.int 0) (ae "holds" (.ref ho) (ae "folder_under" (.ref un) (ae "root_over" (.ref ov) (ae "tree_roots" (.ref tr) (ae "standings" (.ref st) (ae "roots" (.ref ro) (ae "changes" (.int 0) (ae "things" (.ref t) []))))))))).lookup f:=fun f hf=>by rw [BE f,dk,if_neg hf]
  have qro:H12 ro=some (.dK []):=sE _ _ (by simp [iH,bL fM eh (by nofun),bL fM ei (by nofun),A6]) fM;have qst:H12 st=some (.dK []):=sE _ _ (by simp [jO,bL fD eh (by nofun),bL fD ei (by nofun),As]) fD;have qun:H12 un=some (.dK []):=sE _ _ (by simp [pk,bL jI eh (by nofun),bL jI ei (by nofun),Ne.symm J1]) jI;have qov:H12 ov=some (.dK []):=sE _ _ (by simp [mL,bL jz eh (by nofun),bL jz ei (by nofun),Ne.symm JK]) jz;have hlN:(ae "holds_given" (.int 0) (ae "holds" (.ref ho) (ae "folder_under" (.ref un) (ae "root_over" (.ref ov) (ae "tree_roots" (.ref tr) (ae "standings" (.ref st) (ae "roots" (.ref ro) (ae "changes" (.int 0) (ae "things" (.ref t) []))))))))).length≤9:=by (repeat (refine bO ?_)); exact Nat.zero_le _
  have sL:∀ f:Str,f ≠ "first_root" → f ≠ "changes" → (ae "first_root" (.int 0) fs').lookup f=(ae "holds_given" (.int 0) (ae "holds" (.ref ho) (ae "folder_under" (.ref un) (ae "root_over" (.ref ov) (ae "tree_roots" (.ref tr) (ae "standings" (.ref st) (ae "roots" (.ref ro) (ae "changes" (.int 0) (ae "things" (.ref t) []))))))))).lookup f:=fun f h1 h2=>by rw [dk,if_neg h1]; exact lkA f h2
  refine ⟨x,dx,fs',rfl,hxA,by omega,?_⟩;refine ⟨x,dx,_,rfl,ay,(sL _ (by decide) (by decide)).trans rfl,?_⟩;refine ⟨dx,_,c',ro,st,[],[],ay,Nat.le_trans (bO (Nat.le_trans hflA hlN)) (by decide),by rw [dk,if_neg (by decide),BE,dk,if_pos rfl],(sL _ (by decide) (by decide)).trans rfl,(sL _ (by decide) (by decide)).trans rfl,by rw [dk,if_pos rfl],(sL _ (by decide) (by decide)).trans rfl,(sL _ (by decide) (by decide)).trans rfl,by rw [ah iH]; exact qro,by decide,by rw [ah jO]; exact qst,by decide,Ja,?_⟩;intro gU c3 H13 hx13 gP fi hro3 hst3 vK;have old:∀ b o,b≠x→b≠ro→b≠st→H12 b=some o→H13 b=some o:=fun b o b1 b2 b3 e=>by rw [vK b b1 b2 b3,ah b1]; exact e
  refine q ⟨x,dx,t,dt,ml,ro,st,tr,ov,un,ho⟩ [⟨th,cI,nm,pl⟩] H13 rfl ⟨⟨gU,c3,hx13,gP,fun f=>?_⟩,⟨gs',d',old _ _ (n1) (bL eh fM (by nofun)) (bL eh fD (by nofun)) htA,hglA,sgA⟩,old _ _ (n2) (bL ei fM (by nofun)) (bL ei fD (by nofun)) hmlA,rfl,fun j tt e=>?_,hro3,hst3,old _ _ (mh) (Ne.symm A6) (Ne.symm As) htrA,old _ _ (mL) (Ne.symm Iy) (Ne.symm Jb) qov,old _ _ (pk) (Ne.symm Jg) (Ne.symm Jh) qun,?_⟩ ?_ ?_
  ·rw [fi f];refine ((BE.put "first_root" (.int 0)).put "changes" (.int c3) f).trans rfl
  ·have hj:j=0:=by
    have:=(List.getElem?_eq_some_iff.mp e).1;have h1:(M0 z).ts.length=1:=rfl;omega
   subst hj;cases e;exact ⟨_,rfl,⟨⟨ks,old _ _ (Ne.symm (aF jG fth)) (Ne.symm (aF fM fth)) (Ne.symm (aF fD fth)) hthA,hklA,skA⟩,old _ _ (Ne.symm (aF jG fnm)) (Ne.symm (aF fM fnm)) (Ne.symm (aF fD fnm)) hnmA,old _ _ (Ne.symm (aF jG fpl)) (Ne.symm (aF fM fpl)) (Ne.symm (aF fD fpl)) hplA⟩⟩
  ·show List.Nodup [x,t,ml,ro,st,tr,ov,un,th,nm,pl];simp only [List.nodup_cons,List.mem_cons,List.not_mem_nil,or_false,not_or,not_false_eq_true,List.nodup_nil,and_true];exact ⟨⟨Ne.symm n1,Ne.symm n2,Ne.symm iH,Ne.symm jO,Ne.symm mh,Ne.symm mL,Ne.symm pk,aF jG fth,aF jG fnm,aF jG fpl⟩,⟨bL eh ei (by nofun),bL eh fM (by nofun),bL eh fD (by nofun),bL eh mm (by nofun),bL eh jz (by nofun),bL eh jI (by nofun),aF eh fth,aF eh fnm,aF eh fpl⟩,⟨bL ei fM (by nofun),bL ei fD (by nofun),bL ei mm (by nofun),bL ei jz (by nofun),bL ei jI (by nofun),aF ei fth,aF ei fnm,aF ei fpl⟩,⟨Ja,A6,Iy,Jg,aF fM fth,aF fM fnm,aF fM fpl⟩,⟨As,Jb,Jh,aF fD fth,aF fD fnm,aF fD fpl⟩,⟨JK,J1,aF mm fth,aF mm fnm,aF mm fpl⟩,⟨eovun,aF jz fth,aF jz fnm,aF jz fpl⟩,⟨aF jI fth,aF jI fnm,aF jI fpl⟩,⟨bL hthA hnmA (by nofun),bL hthA hplA (by nofun)⟩,bL hnmA hplA (by nofun)⟩
  ·intro b hb mq;have hb':b∈[x,t,ml,ro,st,tr,ov,un,th,nm,pl]:=hb;simp only [List.mem_cons,List.not_mem_nil,or_false] at hb';rcases hb' with rfl | rfl | rfl | rfl | rfl | rfl | rfl | rfl | rfl | rfl | rfl
   ·exact absurd rfl mq
   ·exact ft
   ·exact J6
   ·exact Im
   ·exact JB
   ·exact JJ
   ·exact fr_ov
   ·exact fr_un
   ·exact fresh mI mq fth
   ·exact fresh mI mq fnm
   ·exact fresh mI mq fpl
  ·intro b o hb e;have mq:b≠x:=fun z=>hb (by simp [z]);refine old b o mq (aF e Im) (aF e JB) (sE b o ?_ (mI b o hb e));simp only [List.mem_cons,List.not_mem_nil,or_false,not_or];exact ⟨mq,aF e ft,aF e J6,aF e JJ⟩
def OT (CH CS CT:Addr):Sp:=fN fun x z H Q _=>∃ A L M,aI CH CS CT H A L M∧A.a=x∧z.length≤1000∧dR (.str z)=true∧M.ro.length≤30∧M.st.length≤30∧aN (sD M.ro) (.inr z)=none∧aN (sD M.st) (.inr z)=none ∧
   ∀ H',aI CH CS CT H' A L { M with ro:=M.ro++[(z,0)],st:=M.st++[(z,0)] }→Kp [A.a,A.ro,A.st] H H'→Q .ax H'
theorem E1 (T:Tx K mg):aA P w K mg base aM 3 T.lq.f T.lq.d ["self", "name"] (OT T.au T.aE T.aG):=by
 refine T.lq.F.ok O5 (fun vs H Q E h=>?_) (fun az A outer s H vs Q E hr h=>?_)
 ·exact cF h fun _ _ _=>rfl
 ·refine cF h fun x z h=>?_;obtain ⟨AA,L,M,i,rfl,jD,hn,rQ,hsl,Ig,hs0,q⟩:=h;refine ⟨_,((Dv.cut (Dv.aX (Dv.call (yx T) (hr.mono (by decide)) T.gd.m T.gd.F.kp T.gd.b .nil aw (Dv.aa (Dv.v 1) Dv.ag)))
  (Dv.cut (Dv.aW (Dv.xZ (dX hr) (Dv.v 1) (Dv.fld T.aL T.qF (Dv.v 0))) (Dv.aj Dv.cK) Dv.nil)
  (Dv.aj (Dv.aX (Dv.bh T.aL T.lS.h (GJ T) (hr.mono (by decide)) T.lS.b .nil aw (Dv.v 0) (Dv.aa (Dv.v 1) Dv.ag))))))).h,?_⟩
  refine stI [some (V.ref AA.a),some (V.str z)] ?_;refine ao ?_;walk_at "w";refine ⟨⟨_,rfl⟩,jD,hn,fun H1 s1=>?_⟩;have i1:=i.same s1;obtain ⟨fs,c,hx,aV,sf⟩:=i1.h;have nd:=i1.nd;rw [List.nodup_append] at nd;have Bg:=nd.1;simp only [Ad.w,List.nodup_cons,List.mem_cons,List.not_mem_nil,or_false,not_or] at Bg;refine ao ?_;walk_at "w";refine ⟨AA.a,_,_,.ref AA.ro,rfl,hx,(sf _).trans rfl,AA.ro,_,rfl,cN.k (k:=.inr z) i1.ro,?_⟩;rw [Ig];refine bb ?_;walk_at "w";refine ⟨AA.a,_,_,rfl,hx,(sf _).trans rfl,AA.dx,fs,c,AA.ro,AA.st,_,_,hx,aV,(sf _).trans rfl,(sf _).trans rfl,(sf _).trans rfl,(sf _).trans rfl,(sf _).trans rfl,(sf _).trans rfl,i1.ro,by unfold sD; rw [List.length_map]; omega,i1.st,by unfold sD; rw [List.length_map]; omega,Bg.2.2.2.1.1,?_⟩;intro fs' c' H' hx' hfl' sf' hro' hst' fr';have e1:putK (sD M.ro) (.inr z) (.int 0)=sD (M.ro++[(z,0)]):=zx Ig;have e2:putK (sD M.st) (.inr z) (.int 0)=sD (M.st++[(z,0)]):=zx hs0;rw [e1] at hro';rw [e2] at hst';have kp:Kp [AA.a,AA.ro,AA.st] H1 H':=fun b o hb e=>by
   simp only [List.mem_cons,List.not_mem_nil,or_false,not_or] at hb;rw [fr' b hb.1 hb.2.1 hb.2.2]; exact e
  have rZ:∀ b∈[AA.t,AA.ml,AA.tr,AA.ov,AA.un],b ∉ [AA.a,AA.ro,AA.st]:=by
   intro b hb hm;simp only [List.mem_cons,List.not_mem_nil,or_false] at hb hm;obtain ⟨⟨a1,a2,a3,a4,a5,a6,a7⟩,⟨b1,b2,b3,b4,b5,b6⟩,⟨c1,c2,c3,c4,c5⟩,⟨d1,d2,d3,d4⟩,⟨f1,f2,f3⟩,_⟩:=Bg;rcases hb with rfl | rfl | rfl | rfl | rfl <;> rcases hm with h | h | h <;> first
    | exact a1 h.symm | exact a2 h.symm | exact a5 h.symm | exact a6 h.symm | exact a7 h.symm
    | exact b2 h | exact b3 h | exact c1' h | exact c1 h | exact c2 h | exact c3 h
    | exact d2 h.symm | exact d3 h.symm | exact d4 h.symm | exact f1 h.symm | exact f2 h.symm | exact f3 h.symm | exact b1 h | exact b4 h
  refine q H' ⟨⟨fs',c',hx',hfl',fun f=>?_⟩,?_,kp _ _ (rZ _ (by simp)) i1.ml,i1.len,fun j t e=>?_,hro',hst',kp _ _ (rZ _ (by simp)) i1.tr,kp _ _ (rZ _ (by simp)) i1.ov,kp _ _ (rZ _ (by simp)) i1.un,i1.nd⟩ (fun b o hb e=>kp b o hb (s1 b o e))
  ·rw [sf' f,dk,sf f];by_cases e:f = "changes"
   ·rw [if_pos e,e]; rfl
   ·rw [if_neg e];exact U7 e
  ·obtain ⟨gs,d,e,r⟩:=i1.t;exact ⟨gs,d,kp _ _ (rZ _ (by simp)) e,r⟩
  ·obtain ⟨a,e1,h1⟩:=i1.th j t e;refine ⟨a,e1,h1.keep kp fun b hb hm=>?_⟩;have:=i1.lN e1;simp only [List.mem_cons,List.not_mem_nil,or_false] at hm;rcases hm with rfl | rfl | rfl
   ·exact this _ (by simp [Ad.w]) _ hb rfl
   ·exact this _ (by simp [Ad.w]) _ hb rfl
   ·exact this _ (by simp [Ad.w]) _ hb rfl
def oh (M:Hs):Nat→Nat→Nat→Prop
 | 0,k,b=>aN (nD M.un) (.inl (k:Int))=none∧b=k
 | n+1,k,b=>∃ k':Nat,aN (nD M.un) (.inl (k:Int))=some (.int (k':Int))∧oh M n k' b
def lU (M:Hs):Nat→Nat→List Nat→Prop
 | 0,k,l=>aN (nD M.ov) (.inl (k:Int))=none∧l=[]
 | n+1,k,l=>∃ (k':Nat) (r:List Nat),aN (nD M.ov) (.inl (k:Int))=some (.int (k':Int))∧lU M n k' r∧l=k'::r
def de (M:Hs) (k b:Nat) (r:List Nat):Prop:=(∃ n,oh M n k b)∧∃ n,lU M n b r∧n≤100
theorem lU.len {M:Hs}:∀ {n k:Nat} {l:List Nat},lU M n k l→l.length=n
 | 0,_,_,h=>by rw [h.2]; rfl
 | n+1,_,_,h=>by obtain ⟨k',r,_,h2,rfl⟩:=h; simp [h2.len]
abbrev nV (l:List Nat):List V:=l.map fun n:Nat=>V.int (n:Int)
def cM (b:Nat) (r:List Nat):Nat:=(b::r).getLast (by simp)
def K1 (CH CS CT:Addr):Sp:=je fun x n H Q _=>∃ A L M,∃ k b:Nat,∃ a t,aI CH CS CT H A L M∧A.a=x∧n=(k:Int)∧L[k]?=some a∧M.ts[k]?=some t∧(∃ m,oh M m k b)∧Q (.int (b:Int)) H
def Qs (CH CS CT:Addr):Sp:=je fun x n H Q _=>∃ A L M,∃ k b:Nat,∃ r a t,aI CH CS CT H A L M∧A.a=x∧n=(k:Int)∧L[k]?=some a∧M.ts[k]?=some t∧de M k b r∧∀ l H',ai H H'→H l=none→H' l=some (.lst (nV (b::r)))→Q (.ref l) H'
def Nq (CH CS CT:Addr):Sp:=je fun x n H Q _=>∃ A L M,∃ k b:Nat,∃ r a t,aI CH CS CT H A L M∧A.a=x∧n=(k:Int)∧L[k]?=some a∧M.ts[k]?=some t∧de M k b r∧∀ H',ai H H'→Q (.int (cM b r:Nat)) H'
theorem LO (T:Tx K mg):aA P w K mg base aM 4 T.nW.f T.nW.d ["house", "folder"] (K1 T.au T.aE T.aG):=by
 refine T.nW.F.ok wW (fun vs H Q E h=>?_) (fun az A outer s H vs Q E hr h=>?_)
 ·exact cx h fun _ _ _=>rfl
 ·refine cx h fun x n h=>?_;obtain ⟨AA,L,M,k,b,a,t,i,rfl,rfl,ha,aO,⟨m,hb⟩,q⟩:=h;obtain ⟨fs,c,hx,aV,sf⟩:=i.h;refine ⟨_,((Dv.cut (Dv.aX (Dv.bh T.aL T.qj.h (Le T) (hr.mono (by decide)) T.qj.b .nil aw (Dv.v 0) (Dv.aa (Dv.v 1) Dv.ag)))
  (Dv.cut (Dv.aS 2 wW.nd (Dv.v 1))
  (Dv.cut (Dv.iY PassesOwn.never (Dv.xZ (dX hr) (Dv.v 2) (Dv.fld T.aL T.uO (Dv.v 0))) (Dv.aj (Dv.aS 2 wW.nd (Dv.rh (dX hr) (Dv.fld T.aL T.uO (Dv.v 0)) (Dv.v 2)))))
  (Dv.aj (Dv.aP (Dv.v 2))))))).h,?_⟩
  refine stI [some (V.ref AA.a),some (V.int (k:Int)),none] ?_;refine ao ?_;walk_at "w";refine ⟨AA.a,_,_,rfl,hx,(sf _).trans rfl,AA,L,M,k,a,t,i,rfl,rfl,ha,aO,?_⟩;refine ao ?_;walk_at "w";refine ao ⟨fun m σ' H'=>∃ j:Nat,σ'=[some (V.ref AA.a),some (V.int (k:Int)),some (V.int (j:Int))]∧H'=H∧oh M m j b,⟨m,k,rfl,rfl,hb⟩,?_⟩;rintro m σ' H' ⟨j,rfl,rfl,hj⟩;walk_at "w";refine ⟨AA.a,_,_,.ref AA.un,rfl,hx,(sf _).trans rfl,AA.un,_,rfl,cN.k (k:=.inl (j:Int)) i.un,?_⟩;cases m with
  | zero =>
   obtain ⟨h0,rfl⟩:=hj;rw [h0];exact bb q
  | succ m =>
   obtain ⟨k',h0,h1⟩:=hj;rw [h0];refine bM ⟨fun σ' H''=>∃ j:Nat,σ'=[some (V.ref AA.a),some (V.int (k:Int)),some (V.int (j:Int))]∧H''=H'∧oh M m j b,fun σ' H' z=>⟨m,Nat.lt_succ_self m,z⟩,?_⟩;walk_at "w";refine ⟨AA.a,_,_,.ref AA.un,rfl,hx,(sf _).trans rfl,AA.un,.int (k':Int),rfl,?_,k',rfl,by trivial,h1⟩;have:=cN.k (k:=.inl (j:Int)) i.un;rw [h0] at this;exact this
theorem ng {a b:List Nat}:nV (a++b)=nV a++nV b:=List.map_append
theorem oF (T:Tx K mg):aA P w K mg base aM 5 T.di.f T.di.d ["house", "folder"] (Qs T.au T.aE T.aG):=by
 refine T.di.F.ok Ep (fun vs H Q E h=>?_) (fun az A outer s H vs Q E hr h=>?_)
 ·exact cx h fun _ _ _=>rfl
 ·refine cx h fun x n h=>?_;obtain ⟨AA,L,M,k,b,r,a,t,i,rfl,rfl,ha,aO,⟨hb,⟨m,hu,hm⟩⟩,q⟩:=h;have hlen:=hu.len;refine ⟨_,((Dv.cut (Dv.aS 2 Ep.nd (Dv.lst (Dv.aa (Dv.call (LO T) (hr.mono (by decide)) T.nW.m T.nW.F.kp T.nW.b .nil aw (Dv.aa (Dv.v 0) (Dv.aa (Dv.v 1) Dv.ag))) Dv.ag)))
  (Dv.cut (Dv.iY PassesOwn.never (Dv.xZ (dX hr) (Dv.ix (bq (K:=K) rfl) (Dv.v 2) (Dv.un ie Dv.int)) (Dv.fld T.aL T.yL (Dv.v 0))) (Dv.aj (Dv.aX (Dv.iA PySem.F.slot_list_append PySem.F.type_list_append jX (Dv.v 2) (Dv.aa (Dv.rh (dX hr) (Dv.fld T.aL T.yL (Dv.v 0)) (Dv.ix (bq (K:=K) rfl) (Dv.v 2) (Dv.un ie Dv.int))) Dv.ag)))))
  (Dv.aj (Dv.aP (Dv.v 2)))))).h,?_⟩
  refine stI [some (V.ref AA.a),some (V.int (k:Int)),none] ?_;refine ao ?_;walk_at "w";refine ⟨AA,L,M,k,b,a,t,i,rfl,rfl,ha,aO,hb,fits (by simp),fun l hl=>?_⟩;have s1:=ai.upd (o:=.lst [V.int (b:Int)]) hl;have b1:upd H l (.lst [V.int (b:Int)]) l=some (.lst [V.int (b:Int)]):=ay;generalize upd H l (.lst [V.int (b:Int)])=H1 at s1 b1 ⊢;refine ao ⟨fun m σ' H'=>ai H H'∧∃ (pre:List Nat) (j:Nat) (r':List Nat),σ'=[some (V.ref AA.a),some (V.int (k:Int)),some (V.ref l)]∧H' l=some (.lst (nV pre++[V.int (j:Int)]))∧lU M m j r'∧pre++j::r'=b::r,⟨m,s1,[],b,r,rfl,b1,hu,rfl⟩,?_⟩;rintro m σ' H' ⟨s',pre,j,r',rfl,hl',hj,hp⟩;have i1:=i.same s';obtain ⟨fs,c,hx,aV,sf⟩:=i1.h;walk_at "w";simp only [bG,hl',jr];refine ⟨AA.a,_,_,.ref AA.ov,rfl,hx,(sf _).trans rfl,AA.ov,_,rfl,cN.k (k:=.inl (j:Int)) i1.ov,?_⟩;cases m with
  | zero =>
   obtain ⟨h0,rfl⟩:=hj;rw [h0];refine bb (q l H' s' hl ?_);rw [hl',← hp,ng];rfl
  | succ m =>
   obtain ⟨k',r2,h0,h1,rfl⟩:=hj;rw [h0];refine bM ⟨fun σ' H'=>ai H H'∧∃ (pre:List Nat) (j:Nat) (r':List Nat),σ'=[some (V.ref AA.a),some (V.int (k:Int)),some (V.ref l)]∧H' l=some (.lst (nV pre++[V.int (j:Int)]))∧lU M m j r'∧pre++j::r'=b::r,fun σ' H' z=>⟨m,Nat.lt_succ_self m,z⟩,?_⟩;walk_at "w";refine ⟨AA.a,_,_,.ref AA.ov,rfl,hx,(sf _).trans rfl,AA.ov,.int (k':Int),rfl,?_,?_⟩
   ·have:=cN.k (k:=.inl (j:Int)) i1.ov;rw [h0] at this;exact this
   have bg:(pre++[j]).length≤102:=by
    have:=congrArg List.length hp;simp at this ⊢;omega
   refine ⟨gN (by simp at bg ⊢; omega),s'.eA hl,pre++[j],k',r2,by trivial,?_,h1,?_⟩
   ·rw [ay,ng]; rfl
   ·rw [← hp]; simp
theorem CG {b:Nat} {r:List Nat}:∃ pre,b::r=pre++[cM b r]:=⟨(b::r).dropLast,by unfold cM; exact (List.dropLast_concat_getLast (by simp)).symm⟩
theorem zM (T:Tx K mg):aA P w K mg base aM 6 T.gf.f T.gf.d ["house", "folder"] (Nq T.au T.aE T.aG):=by
 refine T.gf.F.ok OH (fun vs H Q E h=>?_) (fun az A outer s H vs Q E hr h=>?_)
 ·exact cx h fun _ _ _=>rfl
 ·refine cx h fun x n h=>?_;obtain ⟨AA,L,M,k,b,r,a,t,i,rfl,rfl,ha,aO,hs,q⟩:=h;refine ⟨_,((Dv.aj (Dv.aP (Dv.ix (bq (K:=K) rfl) (Dv.call (oF T) (hr.mono (by decide)) T.di.m T.di.F.kp T.di.b .nil aw (Dv.aa (Dv.v 0) (Dv.aa (Dv.v 1) Dv.ag))) (Dv.un ie Dv.int))))).h,?_⟩;refine stI [some (V.ref AA.a),some (V.int (k:Int))] ?_;walk_at "w";refine ⟨AA,L,M,k,b,r,a,t,i,rfl,rfl,ha,aO,hs,fun l H' s' _ hl=>?_⟩;dsimp only;obtain ⟨pre,hp⟩:=CG (b:=b) (r:=r);rw [hp,ng] at hl;simp only [bG,hl,List.map_cons,List.map_nil,jr];exact q _ s'
def fk (r:Nat) (l:List Nat):Bool:=l.any (· == r)
theorem lR {r:Nat}:∀ {l:List Nat},fQ (V.int (r:Int)) (nV l)=fk r l
 | []=>rfl
 | x::l=>by
  have ih:=lR (r:=r) (l:=l);unfold fQ at ih ⊢;unfold fk at ih ⊢;simp only [nV,List.map_cons,List.any_cons] at ih ⊢;rw [ih]
  congr 1
  unfold eN;by_cases e:x=r
  ·subst e; simp
  ·rw [beq_eq_false_iff_ne.mpr e]
   first | exact beq_eq_false_iff_ne.mpr (by omega) | (simp; omega)
def ir (M:Hs) (L:List Ta) (root:Nat):Nat→Nat→Bool→Prop
 | n,k,v=>∃ b r a t,L[k]?=some a∧M.ts[k]?=some t∧de M k b r ∧
  if k=cM b r then
   if fk root (b::r)=true then v=true
   else ∃ ab tb,L[b]?=some ab∧M.ts[b]?=some tb∧((tb.c7=[]∧v=false)∨∃ f z,tb.c7=[(f,z)]∧match n with | 0=>False | n+1=>ir M L root n f v)
  else v=false
def KH (CH CS CT:Addr):Sp:=km fun x z n H Q _=>∃ A L M,∃ k root:Nat,∃ v,aI CH CS CT H A L M∧A.a=x∧n=(k:Int)∧aN (sD M.ro) (.inr z)=some (.int (root:Int))∧(∃ m,ir M L root m k v)∧∀ H',ai H H'→Q (.bl v) H'
theorem Mn (T:Tx K mg):aA P w K mg base aM 6 T.oO.f T.oO.d ["house", "asker", "folder"] (KH T.au T.aE T.aG):=by
 refine T.oO.F.ok lB (fun vs H Q E h=>?_) (fun az A outer s H vs Q E hr h=>?_)
 ·exact fc h fun _ _ _ _=>rfl
 ·refine fc h fun x z n h=>?_;obtain ⟨AA,L,M,k,root,v,i,rfl,rfl,hz,⟨m,hm⟩,q⟩:=h;obtain ⟨fs,c,hx,aV,sf⟩:=i.h;refine bC (b:=aU zS) ((Dv.cut (Dv.aS 3 lB.nd (Dv.bh T.aL T.ef.h (lb T) (hr.mono (by decide)) T.ef.b .nil aw (Dv.v 0) (Dv.aa (Dv.v 1) Dv.ag)))
  (Dv.cut (Dv.aS 4 lB.nd (Dv.v 2))
  (Dv.cut (Dv.aS 5 lB.nd (Dv.call (oF T) (hr.mono (by decide)) T.di.m T.di.F.kp T.di.b .nil aw (Dv.aa (Dv.v 0) (Dv.aa (Dv.v 4) Dv.ag))))
  (Dv.cut (Dv.iY PassesOwn.never (Dv.aY cv (Dv.v 4) (Dv.ix (bq (K:=K) rfl) (Dv.v 5) (Dv.un ie Dv.int))) (Dv.cut (Dv.aW (Dv.aY (mU (K:=K) rfl) (Dv.v 3) (Dv.v 5)) (Dv.aj (Dv.aP Dv.bl)) Dv.nil)
  (Dv.cut (Dv.aS 6 lB.nd (Dv.bh T.aL T.fb.h (ou T) (hr.mono (by decide)) T.fb.b .nil aw (Dv.v 0) (Dv.aa (Dv.ix (bq (K:=K) rfl) (Dv.v 5) Dv.int) Dv.ag)))
  (Dv.cut (Dv.aW (Dv.aY oy (Dv.v 6) Dv.ax) (Dv.aj (Dv.aP Dv.bl)) Dv.nil)
  (Dv.cut (Dv.aS 4 lB.nd (Dv.ix (bq (K:=K) rfl) (Dv.v 6) Dv.int))
  (Dv.aj (Dv.aS 5 lB.nd (Dv.call (oF T) (hr.mono (by decide)) T.di.m T.di.F.kp T.di.b .nil aw (Dv.aa (Dv.v 0) (Dv.aa (Dv.v 4) Dv.ag))))))))))
  (Dv.aj (Dv.aP Dv.bl))))))) ?_
  refine stI [some (V.ref AA.a),some (V.str z),some (V.int (k:Int)),none,none,none,none] ?_;refine ao ?_;walk_at "w";refine ⟨AA.a,_,_,rfl,hx,(sf _).trans rfl,AA,L,M,root,i,rfl,hz,?_⟩;refine ao ?_;walk_at "w";refine ao ?_;walk_at "w";obtain ⟨b,r,a,t,ha,ht,aQ,cY⟩:=(by unfold ir at hm; exact hm:∃ b r a t,L[k]?=some a∧M.ts[k]?=some t∧de M k b r∧_);refine ⟨AA,L,M,k,b,r,a,t,i,rfl,rfl,ha,ht,aQ,fun l H1 s1 hl0 hl=>?_⟩;refine ao ⟨fun m σ' H'=>ai H H'∧∃ (j:Nat) (l:Addr) (b:Nat) (r:List Nat) (pv:Option V),σ'=[some (V.ref AA.a),some (V.str z),some (V.int (k:Int)),some (V.int (root:Int)),some (V.int (j:Int)),some (V.ref l),pv]∧H' l=some (.lst (nV (b::r)))∧de M j b r ∧
   (if j=cM b r then
    if fk root (b::r)=true then v=true
    else ∃ ab tb,L[b]?=some ab∧M.ts[b]?=some tb∧((tb.c7=[]∧v=false)∨∃ f z,tb.c7=[(f,z)]∧match m with | 0=>False | n+1=>ir M L root n f v)
   else v=false),⟨m,s1,k,l,b,r,none,rfl,hl,aQ,cY⟩,?_⟩
  clear cY ha ht aQ hl hl0 s1 hm;rintro m σ' H' ⟨s',j,l,b,r,pv,rfl,hl,aQ,cY⟩;have i':=i.same s';obtain ⟨pre,hp⟩:=CG (b:=b) (r:=r);have ck:=hl;rw [hp,ng] at ck;walk_at "w";simp only [bG,ck,List.map_cons,List.map_nil,jr];by_cases hj:j=cM b r
  ·rw [if_pos hj] at cY;rw [decide_eq_true (by rw [hj])];refine bM ⟨_,fun _ _ h=>h,?_⟩;refine ao ?_;walk_at "w";simp only [bG,hl];refine ⟨rfl,by simp [cm],?_⟩;rw [lR];cases hmem:fk root (b::r) with
   | true =>
    rw [if_pos hmem] at cY;subst cY;exact bM (q _ s')
   | false =>
    rw [if_neg (by rw [hmem]; nofun)] at cY;obtain ⟨ab,tb,eK,kI,bg⟩:=cY;refine bb ?_;refine ao ?_;obtain ⟨fs,c,hx,aV,sf⟩:=i'.h;walk_at "w";simp only [bG,hl,nV,List.map_cons,cU];refine ⟨AA.a,_,_,rfl,hx,(sf _).trans rfl,AA,L,M,b,ab,tb,i',rfl,rfl,eK,kI,?_⟩;rcases bg with ⟨bg,rfl⟩ | ⟨f,zz,bg,hn⟩
    ·refine .inl ⟨bg,?_⟩;refine ao ?_;walk_at "w";exact ⟨by trivial,bM (q _ s')⟩
    ·refine .inr ⟨f,zz,bg,fun p hp=>?_⟩;refine ao ?_;walk_at "w";refine ⟨by trivial,?_⟩;rw [decide_eq_false (by nofun)];refine bb ?_;refine ao ?_;walk_at "w";simp only [bG,hp,cU];cases m with
     | zero=>exact hn.elim
     | succ m =>
      obtain ⟨b2,r2,a2,t2,Bw,fe,kG,Bo⟩:=(by unfold ir at hn; exact hn:∃ b r a t,L[f]?=some a∧M.ts[f]?=some t∧de M f b r∧_);refine ⟨AA,L,M,f,b2,r2,a2,t2,i',rfl,rfl,Bw,fe,kG,fun l2 H2 s2 hl0 ck=>?_⟩;exact ⟨m,Nat.lt_succ_self m,s'.trans s2,f,l2,b2,r2,some (V.ref p),rfl,ck,kG,Bo⟩
  ·rw [if_neg hj] at cY;rw [decide_eq_false (by omega)];subst cY;refine bb ?_;walk_at "w";exact q _ s'
abbrev xX (M:Hs):List Str:=fT (M.tr.map (·.1))
def U9 (CH CS CT:Addr):Sp:=iw fun x H Q _=>∃ A L M,aI CH CS CT H A L M∧A.a=x∧M.tr.length < 64∧∀ l,H l=none→Q (.ref l) (upd H l (.lst ((xX M).map V.str)))
def TH (CH CS CT:Addr):Sp:=fN fun x z H Q _=>∃ A L M,aI CH CS CT H A L M∧A.a=x∧(aN (sD M.tr) (.inr z)).isSome=true∧Q .ax H
def Vp (CH CS CT:Addr):Sp:=fN fun x z H Q _=>∃ A L M,∃ r:Nat,aI CH CS CT H A L M∧A.a=x∧aN (sD M.tr) (.inr z)=some (.int (r:Int))∧Q (.int (r:Int)) H
def NK (CH CS CT:Addr):Sp:=fN fun x z H Q _=>∃ A L M,∃ r:Nat,aI CH CS CT H A L M∧A.a=x∧aN (sD M.tr) (.inr z)=some (.int (r:Int))∧Q ((aN (nD M.un) (.inl (r:Int))).getD .ax) H
theorem y3 (T:Tx K mg):aA P w K mg base aM 1 T.jh.f T.jh.d ["self"] (U9 T.au T.aE T.aG):=by
 refine T.jh.F.ok Rr (fun vs H Q E h=>?_) (fun az A outer s H vs Q E hr h=>?_)
 ·exact dP h fun _ _=>rfl
 ·refine dP h fun x h=>?_;obtain ⟨AA,L,M,i,rfl,hl,q⟩:=h;obtain ⟨fs,c,hx,aV,sf⟩:=i.h;refine ⟨_,((Dv.aj (Dv.aP (Dv.cD (Pu (K:=K) rfl rfl) T.Vv Mj (Dv.aa (Dv.fld T.aL T.qq (Dv.v 0)) Dv.ag))))).h,?_⟩;refine stI [some (V.ref AA.a)] ?_;walk_at "w";exact ⟨AA.a,_,_,.ref AA.tr,rfl,hx,(sf _).trans rfl,.inr (.inl ⟨AA.tr,_,M.tr.map (·.1),rfl,i.tr,by unfold sD; rw [List.map_map,List.map_map]; rfl,by rw [List.length_map]; exact hl,q⟩)⟩
theorem NZ (T:Tx K mg):aA P w K mg base aM 1 T.rb.f T.rb.d ["self", "tree"] (TH T.au T.aE T.aG):=by
 refine T.rb.F.ok U6 (fun vs H Q E h=>?_) (fun az A outer s H vs Q E hr h=>?_)
 ·exact cF h fun _ _ _=>rfl
 ·refine cF h fun x z h=>?_;obtain ⟨AA,L,M,i,rfl,hz,q⟩:=h;obtain ⟨fs,c,hx,aV,sf⟩:=i.h;refine ⟨_,((Dv.aj (Dv.aW (Dv.dv (Dv.w_or (Dv.cw (Dv.cg (Dv.cD js T.fv fq (Dv.aa (Dv.v 1) (Dv.aa (Dv.jm (.ty "str") T.jW ko rfl) Dv.ag))))) (Dv.hZ (Dv.DM (dX hr) (Dv.v 1) (Dv.fld T.aL T.qq (Dv.v 0)))))) (Dv.aj Dv.cK) Dv.nil))).h,?_⟩;refine stI [some (V.ref AA.a),some (V.str z)] ?_;walk_at "w";refine ⟨by simp,?_⟩;rw [show (!rn "str" "str")=false from by decide +kernel];refine bb ?_;refine ⟨AA.a,_,_,.ref AA.tr,rfl,hx,(sf _).trans rfl,AA.tr,_,rfl,cN.k (k:=.inr z) i.tr,?_⟩;rw [hz];exact bb q
theorem BZ (T:Tx K mg):aA P w K mg base aM 2 T.lh.f T.lh.d ["self", "tree"] (Vp T.au T.aE T.aG):=by
 refine T.lh.F.ok VO (fun vs H Q E h=>?_) (fun az A outer s H vs Q E hr h=>?_)
 ·exact cF h fun _ _ _=>rfl
 ·refine cF h fun x z h=>?_;obtain ⟨AA,L,M,r,i,rfl,hz,q⟩:=h;obtain ⟨fs,c,hx,aV,sf⟩:=i.h;refine ⟨_,((Dv.cut (Dv.aX (Dv.bh T.aL T.rb.h (NZ T) (hr.mono (by decide)) T.rb.b .nil aw (Dv.v 0) (Dv.aa (Dv.v 1) Dv.ag)))
  (Dv.aj (Dv.aP (Dv.rh (dX hr) (Dv.fld T.aL T.qq (Dv.v 0)) (Dv.v 1)))))).h,?_⟩
  refine stI [some (V.ref AA.a),some (V.str z)] ?_;refine ao ?_;walk_at "w";refine ⟨AA.a,_,_,rfl,hx,(sf _).trans rfl,AA,L,M,i,rfl,by rw [hz]; rfl,?_⟩;refine ⟨AA.a,_,_,.ref AA.tr,rfl,hx,(sf _).trans rfl,AA.tr,.int r,rfl,?_,q⟩;have:=cN.k (k:=.inr z) i.tr;rw [hz] at this;exact this
theorem DY (T:Tx K mg):aA P w K mg base aM 3 T.l6.f T.l6.d ["self", "tree"] (NK T.au T.aE T.aG):=by
 refine T.l6.F.ok UM (fun vs H Q E h=>?_) (fun az A outer s H vs Q E hr h=>?_)
 ·exact cF h fun _ _ _=>rfl
 ·refine cF h fun x z h=>?_;obtain ⟨AA,L,M,r,i,rfl,hz,q⟩:=h;obtain ⟨fs,c,hx,aV,sf⟩:=i.h;refine ⟨_,((Dv.aj (Dv.aP (Dv.EG (dX hr) (Dv.fld T.aL T.uO (Dv.v 0)) (Dv.bh T.aL T.lh.h (BZ T) (hr.mono (by decide)) T.lh.b .nil aw (Dv.v 0) (Dv.aa (Dv.v 1) Dv.ag)))))).h,?_⟩;refine stI [some (V.ref AA.a),some (V.str z)] ?_;walk_at "w";exact ⟨AA.a,_,_,.ref AA.un,rfl,hx,(sf _).trans rfl,AA.un,rfl,.inl ⟨_,.inl i.un⟩,AA.a,_,_,rfl,hx,(sf _).trans rfl,AA,L,M,r,i,rfl,hz,_,cN.k (k:=.inl (r:Int)) i.un,q⟩
def j7 (l:List (Str×Nat)) (z:Str) (n:Nat):List (Str×Nat):=if (aN (sD l) (.inr z)).isSome=true then l.map (fun e=>if e.1=z then (e.1,n) else e) else l++[(z,n)]
theorem Eu {l:List (Str×Nat)} {z:Str} {n:Nat}:putK (sD l) (.inr z) (.int (n:Int))=sD (j7 l z n):=by
 unfold j7 putK;rw [n8];cases h:(aN (sD l) (.inr z)).isSome with
 | true =>
  rw [if_pos rfl,if_pos rfl];unfold sD;rw [List.map_map,List.map_map];refine List.map_congr_left fun e _=>?_;by_cases he:e.1=z
  ·simp [he]
  ·simp [he]
 | false =>
  rw [if_neg (by nofun),if_neg (by nofun)];unfold sD;rw [List.map_append];rfl
section
variable {CH CS CT:Addr} {H H':Hp} {A:Ad} {L:List Ta} {M:Hs}
theorem aI.Vd {ro' st' tr':List (Str×Nat)} {ov' un':List (Nat×Nat)} (i:aI CH CS CT H A L M) (hh:∃ fs c,H' A.a=some (.ins CH A.dx fs)∧fs.length≤40∧cA fs (oU c A)) (mM:H' A.ro=some (.dK (sD ro'))) (aQ:H' A.st=some (.dK (sD st'))) (cR:H' A.tr=some (.dK (sD tr'))) (kJ:H' A.ov=some (.dK (nD ov'))) (fL:H' A.un=some (.dK (nD un')))
  (kp:Kp [A.a,A.ro,A.st,A.tr,A.ov,A.un] H H'):aI CH CS CT H' A L { ts:=M.ts,ro:=ro',st:=st',tr:=tr',ov:=ov',un:=un' }:=by
 have nd:=i.nd;rw [List.nodup_append] at nd;obtain ⟨n1,n2,n3⟩:=nd;have off:∀ b,b∈[A.t,A.ml]→b ∉ [A.a,A.ro,A.st,A.tr,A.ov,A.un]:=by
  intro b hb hm;simp only [Ad.w,List.nodup_cons,List.mem_cons,List.not_mem_nil,or_false,not_or] at n1 hb hm;obtain ⟨⟨a1,a2,a3,a4,a5,a6,a7⟩,⟨b1,b2,b3,b4,b5,b6⟩,⟨c1,c2,c3,c4,c5⟩,_⟩:=n1;rcases hb with rfl | rfl <;> rcases hm with h | h | h | h | h | h <;> simp_all
 have lN:∀ b,b∈L.flatMap Ta.l→b ∉ [A.a,A.ro,A.st,A.tr,A.ov,A.un]:=by
  intro b hb hm;have hw:b∈A.w:=by
   simp only [Ad.w,List.mem_cons,List.not_mem_nil,or_false] at hm ⊢;rcases hm with h | h | h | h | h | h <;> simp [h]
  exact n3 _ hw _ hb rfl
 refine ⟨hh,?_,kp _ _ (off _ (by simp)) i.ml,i.len,fun j t e=>?_,mM,aQ,cR,kJ,fL,i.nd⟩
 ·obtain ⟨fs,c,e,r⟩:=i.t;exact ⟨fs,c,kp _ _ (off _ (by simp)) e,r⟩
 ·obtain ⟨a,e1,h1⟩:=i.th j t e;exact ⟨a,e1,h1.keep kp fun b hb=>lN b (iB e1 hb)⟩
theorem aI.KY (i:aI CH CS CT H A L M):A.ro≠A.a∧A.st≠A.a∧A.tr≠A.a∧A.ov≠A.a∧A.un≠A.a∧A.st≠A.ro∧A.tr≠A.ro∧A.ov≠A.ro∧A.un≠A.ro∧A.tr≠A.st∧A.ov≠A.st∧A.un≠A.st∧A.ov≠A.tr∧A.un≠A.tr∧A.un≠A.ov:=by
 have nd:=i.nd;rw [List.nodup_append] at nd;have n1:=nd.1;simp only [Ad.w,List.nodup_cons,List.mem_cons,List.not_mem_nil,or_false,not_or] at n1;obtain ⟨⟨a1,a2,a3,a4,a5,a6,a7⟩,⟨b1,b2,b3,b4,b5,b6⟩,⟨c1,c2,c3,c4,c5⟩,⟨d1,d2,d3,d4⟩,⟨e1,e2,e3⟩,⟨f1,f2⟩,g1,_⟩:=n1;exact ⟨Ne.symm a3,Ne.symm a4,Ne.symm a5,Ne.symm a6,Ne.symm a7,Ne.symm d1,Ne.symm d2,Ne.symm d3,Ne.symm d4,Ne.symm e1,Ne.symm e2,Ne.symm e3,Ne.symm f1,Ne.symm f2,Ne.symm g1⟩
end
def Nr (CH CS CT:Addr):Sp:=km fun x z n H Q _=>∃ A L M,∃ k:Nat,aI CH CS CT H A L M∧A.a=x∧n=(k:Int)∧M.st.length≤40∧∀ H',aI CH CS CT H' A L { M with st:=j7 M.st z k }→Kp [A.a,A.st] H H'→Q .ax H'
theorem Tg {l:List (Str×Nat)}:(sD l).length=l.length:=List.length_map _
theorem RA (T:Tx K mg):aA P w K mg base aM 1 T.i0.f T.i0.d ["self", "asker", "folder"] (Nr T.au T.aE T.aG):=by
 refine (Hu T).imp fun vs H Q E h=>?_;refine fc h fun x z n h=>?_;obtain ⟨AA,L,M,k,i,rfl,rfl,hl,q⟩:=h;obtain ⟨fs,c,hx,aV,sf⟩:=i.h;obtain ⟨e1,e2,e3,e4,e5,e6,e7,e8,e9,e10,e11,e12,_⟩:=i.KY;refine ⟨AA.dx,fs,c,AA.st,_,hx,aV,(sf _).trans rfl,(sf _).trans rfl,i.st,by rw [Tg]; exact hl,?_⟩;rw [Eu];refine q _ (i.Vd ⟨ae "changes" (.int (c+1)) fs,c+1,by rw [ah (Ne.symm e2),ay],by rw [dN (u:=.int c) ((sf _).trans rfl)]; exact aV,fun f=>((sf.put "changes" (.int (c+1))) f).trans rfl⟩ (by rw [ah (Ne.symm e6),ah e1]; exact i.ro) ay (by rw [ah e10,ah e3]; exact i.tr) (by rw [ah e11,ah e4]; exact i.ov) (by rw [ah e12,ah e5]; exact i.un) ?_) ?_
 ·intro b o hb e;simp only [List.mem_cons,List.not_mem_nil,or_false,not_or] at hb;rw [ah hb.2.2.1,ah hb.1]; exact e
 ·intro b o hb e;simp only [List.mem_cons,List.not_mem_nil,or_false,not_or] at hb;rw [ah hb.2,ah hb.1]; exact e
def zt (C:Addr) (f1 f2:Str):Sp:=G1 fun x v1 v2 H Q _=>∃ dx,H x=some (.ins C dx [])∧Q .ax (upd H x (.ins C dx (ae f2 v2 (ae f1 v1 []))))
theorem VZ (T:Tx K mg):aA P w K mg base aM 1 T.qo.f T.qo.d ["self", "number", "way"] (zt T.b7 "number" "way"):=by
 refine T.qo.F.ok Ph (fun vs H Q E h=>?_) (fun az A outer s H vs Q E hr h=>?_)
 ·exact m9 h fun _ _ _ _=>rfl
 ·refine m9 h fun x v1 v2 h=>?_;obtain ⟨dx,hx,q⟩:=h;refine ⟨_,((Dv.cut (Dv.bw T.iy T.xR (Dv.v 0) (Dv.v 1))
  (Dv.aj (Dv.bw T.iy T.B5 (Dv.v 0) (Dv.v 2))))).h,?_⟩
  refine stI [some (V.ref x),some v1,some v2] ?_;refine ao ?_;walk_at "w";refine ⟨x,dx,_,rfl,hx,by decide,?_⟩;refine ⟨x,dx,_,rfl,ay,by (refine Nat.lt_of_le_of_lt (m:=40) ?_ (by decide); (repeat (refine bO ?_)); exact Nat.zero_le _),?_⟩;rw [ki];exact q
theorem Up (T:Tx K mg):aA P w K mg base aM 1 T.qY.f T.qY.d ["self", "folder", "name"] (zt T.gy "folder" "name"):=by
 refine T.qY.F.ok KA (fun vs H Q E h=>?_) (fun az A outer s H vs Q E hr h=>?_)
 ·exact m9 h fun _ _ _ _=>rfl
 ·refine m9 h fun x v1 v2 h=>?_;obtain ⟨dx,hx,q⟩:=h;refine ⟨_,((Dv.cut (Dv.bw T.lC T.sV (Dv.v 0) (Dv.v 1))
  (Dv.aj (Dv.bw T.lC T.yN (Dv.v 0) (Dv.v 2))))).h,?_⟩
  refine stI [some (V.ref x),some v1,some v2] ?_;refine ao ?_;walk_at "w";refine ⟨x,dx,_,rfl,hx,by decide,?_⟩;refine ⟨x,dx,_,rfl,ay,by (refine Nat.lt_of_le_of_lt (m:=40) ?_ (by decide); (repeat (refine bO ?_)); exact Nat.zero_le _),?_⟩;rw [ki];exact q
theorem K9 (T:Tx K mg):aA P w K mg base aM 1 T.qP.f T.qP.d ["self", "step", "reason"] (zt T.bD "step" "reason"):=by
 refine T.qP.F.ok KR (fun vs H Q E h=>?_) (fun az A outer s H vs Q E hr h=>?_)
 ·exact m9 h fun _ _ _ _=>rfl
 ·refine m9 h fun x v1 v2 h=>?_;obtain ⟨dx,hx,q⟩:=h;refine ⟨_,((Dv.cut (Dv.bw T.jt T.Df (Dv.v 0) (Dv.v 1))
  (Dv.aj (Dv.bw T.jt T.He (Dv.v 0) (Dv.v 2))))).h,?_⟩
  refine stI [some (V.ref x),some v1,some v2] ?_;refine ao ?_;walk_at "w";refine ⟨x,dx,_,rfl,hx,by decide,?_⟩;refine ⟨x,dx,_,rfl,ay,by (refine Nat.lt_of_le_of_lt (m:=40) ?_ (by decide); (repeat (refine bO ?_)); exact Nat.zero_le _),?_⟩;rw [ki];exact q
def uc (h:Addr) (z:Str) (last:Bool) (root here:Int) (place:V) (step:Int) (av lf rd:Addr) (lr lu:Int) (told:V):List (Str×V):=[("house",.ref h),("asker",.str z),("last",.bl last),("root",.int root),("here",.int here),("place",place),("step",.int step),("asked",.ref av),("left",.ref lf),("reading",.ref rd),("leads_read",.int lr),("looked_up",.int lu),("told",told)]
structure Ws where
 here:Nat
 place:Option (Nat×Str)
 step:Nat
 asked:List Nat
 left:List (Sum Nat Str)
 Sd:List Nat
 read:Nat
 look:Nat
def pG:Sum Nat Str→V
 | .inl n=>.int (n:Int)
 | .inr z=>.str z
def g9 (H0 H:Hp):Option (Nat×Str)→V→Prop
 | none,v=>v=.ax
 | some (k,nm),v=>∃ p,v=.ref p∧H0 p=none∧H p=some (.tup [.int (k:Int),.str nm])
structure ba (CH CS CT CW:Addr) (S:Ws) (H0 H:Hp) (A:Ad) (L:List Ta) (M:Hs) (x dx av lf rd:Addr) (z:Str) (last:Bool) (root:Nat) (told:V):Prop where
 i:aI CH CS CT H0 A L M
 s:ai H0 H
 x0:H0 x=none
 a0:H0 av=none
 l0:H0 lf=none
 r0:H0 rd=none
 o:∃ fs pv,H x=some (.ins CW dx fs)∧fs.length≤40∧g9 H0 H S.place pv∧cA fs (uc A.a z last root S.here pv S.step av lf rd S.read S.look told)
 oa:H av=some (.lst (nV S.asked))
 ol:H lf=some (.lst (S.left.map pG))
 od:H rd=some (.lst (nV S.Sd))
 n1:av≠lf
 n2:av≠rd
 n3:lf≠rd
 hz:aN (sD M.ro) (.inr z)=some (.int (root:Int))
section
variable {CH CS CT CW:Addr} {S:Ws} {H0 H H':Hp} {A:Ad} {L:List Ta} {M:Hs} {x dx av lf rd:Addr} {z:Str} {last:Bool} {root:Nat} {told:V}
theorem g9.same {p:Option (Nat×Str)} {v:V} (h:g9 H0 H p v) (s:ai H H'):g9 H0 H' p v:=by
 match p,h with
 | none,h=>exact h
 | some (k,nm),⟨q,e,e0,e1⟩=>exact ⟨q,e,e0,s _ _ e1⟩
theorem ba.same (v:ba CH CS CT CW S H0 H A L M x dx av lf rd z last root told) (s:ai H H'):ba CH CS CT CW S H0 H' A L M x dx av lf rd z last root told :=
 ⟨v.i,v.s.trans s,v.x0,v.a0,v.l0,v.r0,let ⟨fs,pv,e,l,p,f⟩:=v.o; ⟨fs,pv,s _ _ e,l,p.same s,f⟩,s _ _ v.oa,s _ _ v.ol,s _ _ v.od,v.n1,v.n2,v.n3,v.hz⟩
theorem ba.m (v:ba CH CS CT CW S H0 H A L M x dx av lf rd z last root told):aI CH CS CT H A L M:=v.i.same v.s
theorem ba.xa (v:ba CH CS CT CW S H0 H A L M x dx av lf rd z last root told):x≠av∧x≠lf∧x≠rd:=by
 obtain ⟨fs,pv,e,_⟩:=v.o;exact ⟨bL e v.oa (by nofun),bL e v.ol (by nofun),bL e v.od (by nofun)⟩
theorem g9.put {p:Option (Nat×Str)} {v:V} {fs:List (Str×V)} (h:g9 H0 H p v) (hx:∃ gs,H x=some (.ins CW dx gs)):g9 H0 (upd H x (.ins CW dx fs)) p v:=by
 match p,h with
 | none,h=>exact h
 | some (k,nm),⟨q,e,e0,e1⟩ =>
  obtain ⟨gs,hx⟩:=hx;exact ⟨q,e,e0,by rw [ah (Ne.symm (bL hx e1 (by nofun)))]; exact e1⟩
theorem ba.put (v:ba CH CS CT CW S H0 H A L M x dx av lf rd z last root told) {fs:List (Str×V)} {here':Nat} {step' look':Nat} {told':V} (hl:fs.length≤40)
  (sf:∀ pv,g9 H0 H S.place pv→∀ gs,H x=some (.ins CW dx gs)→cA gs (uc A.a z last root S.here pv S.step av lf rd S.read S.look told)→cA fs (uc A.a z last root here' pv step' av lf rd S.read look' told')) :
  ba CH CS CT CW { S with here:=here',step:=step',look:=look' } H0 (upd H x (.ins CW dx fs)) A L M x dx av lf rd z last root told':=by
 obtain ⟨gs,pv,e,l,p,f⟩:=v.o;exact ⟨v.i,v.s.eA v.x0,v.x0,v.a0,v.l0,v.r0,⟨fs,pv,ay,hl,p.put ⟨gs,e⟩,sf pv p gs e f⟩,by rw [ah (Ne.symm v.xa.1)]; exact v.oa,by rw [ah (Ne.symm v.xa.2.1)]; exact v.ol,by rw [ah (Ne.symm v.xa.2.2)]; exact v.od,v.n1,v.n2,v.n3,v.hz⟩
end
def Vx (CH CS CT CW:Addr):Sp:=HJ fun x h z last H Q _=>∃ A L M dx H0,∃ root:Nat,aI CH CS CT H0 A L M∧A.a=h∧H x=some (.ins CW dx [])∧ai H0 H∧H0 x=none∧aN (sD M.ro) (.inr z)=some (.int (root:Int)) ∧
   ∀ av lf rd H',ba CH CS CT CW ⟨root,none,0,[],[],[],0,0⟩ H0 H' A L M x dx av lf rd z last root .ax→Q .ax H'
theorem MM (T:Tx K mg):aA P w K mg base aM 3 T.rq.f T.rq.d ["self", "house", "asker", "last"] (Vx T.au T.aE T.aG T.bf):=by
 refine T.rq.F.ok VG (fun vs H Q E h=>?_) (fun az A outer s H vs Q E hr h=>?_)
 ·exact EL h fun _ _ _ _ _=>rfl
 ·refine EL h fun x hh z last h=>?_;obtain ⟨AA,L,M,dx,H0,root,i,rfl,hx,s0,x0,hz,q⟩:=h;refine bC (b:=aU xE) ((Dv.cut (Dv.bw T.aR T.fA (Dv.v 0) (Dv.v 1))
  (Dv.cut (Dv.bw T.aR T.pJ (Dv.v 0) (Dv.v 2))
  (Dv.cut (Dv.bw T.aR T.Fe (Dv.v 0) (Dv.v 3))
  (Dv.cut (Dv.bw T.aR T.tW (Dv.v 0) (Dv.bh T.aL T.ef.h (lb T) (hr.mono (by decide)) T.ef.b .nil aw (Dv.v 1) (Dv.aa (Dv.v 2) Dv.ag)))
  (Dv.cut (Dv.bw T.aR T.eZ (Dv.v 0) (Dv.fld T.aR T.tW (Dv.v 0)))
  (Dv.cut (Dv.bw T.aR T.tw (Dv.v 0) Dv.ax)
  (Dv.cut (Dv.bw T.aR T.zk (Dv.v 0) Dv.int)
  (Dv.cut (Dv.bw T.aR T.zi (Dv.v 0) (Dv.lst Dv.ag))
  (Dv.cut (Dv.bw T.aR T.qi (Dv.v 0) (Dv.lst Dv.ag))
  (Dv.cut (Dv.bw T.aR T.RP (Dv.v 0) (Dv.lst Dv.ag))
  (Dv.cut (Dv.bw T.aR T.Ny (Dv.v 0) Dv.int)
  (Dv.cut (Dv.bw T.aR T.Di (Dv.v 0) Dv.int)
  (Dv.aj (Dv.bw T.aR T.lI (Dv.v 0) Dv.ax))))))))))))))) ?_
  refine stI [some (V.ref x),some (V.ref AA.a),some (V.str z),some (V.bl last)] ?_;refine ao ?_;walk_at "w";refine ⟨x,dx,_,rfl,hx,by decide,ao ?_⟩;walk_at "w";refine ⟨x,dx,_,rfl,ay,by (refine Nat.lt_of_le_of_lt (m:=40) ?_ (by decide); (repeat (refine bO ?_)); exact Nat.zero_le _),ao ?_⟩;walk_at "w";refine ⟨x,dx,_,rfl,ay,by (refine Nat.lt_of_le_of_lt (m:=40) ?_ (by decide); (repeat (refine bO ?_)); exact Nat.zero_le _),ao ?_⟩;simp only [ki];walk_at "w";have s1:=s0.eA (o:=.ins T.bf dx (ae "last" (.bl last) (ae "asker" (.str z) (ae "house" (.ref AA.a) [])))) x0;have b1:upd H x (.ins T.bf dx (ae "last" (.bl last) (ae "asker" (.str z) (ae "house" (.ref AA.a) [])))) x=some (.ins T.bf dx (ae "last" (.bl last) (ae "asker" (.str z) (ae "house" (.ref AA.a) [])))):=ay;generalize upd H x (.ins T.bf dx (ae "last" (.bl last) (ae "asker" (.str z) (ae "house" (.ref AA.a) []))))=H1 at s1 b1 ⊢;have i1:=i.same s1;obtain ⟨fs,c,bu,aV,sf⟩:=i1.h;refine ⟨AA.a,_,_,rfl,bu,(sf _).trans rfl,AA,L,M,root,i1,rfl,hz,?_⟩;refine ⟨x,dx,_,rfl,b1,by (refine Nat.lt_of_le_of_lt (m:=40) ?_ (by decide); (repeat (refine bO ?_)); exact Nat.zero_le _),ao ?_⟩;walk_at "w";refine ⟨x,dx,_,_,rfl,ay,rfl,x,dx,_,rfl,ay,by (refine Nat.lt_of_le_of_lt (m:=40) ?_ (by decide); (repeat (refine bO ?_)); exact Nat.zero_le _),ao ?_⟩;walk_at "w";refine ⟨x,dx,_,rfl,ay,by (refine Nat.lt_of_le_of_lt (m:=40) ?_ (by decide); (repeat (refine bO ?_)); exact Nat.zero_le _),ao ?_⟩;walk_at "w";refine ⟨x,dx,_,rfl,ay,by (refine Nat.lt_of_le_of_lt (m:=40) ?_ (by decide); (repeat (refine bO ?_)); exact Nat.zero_le _),ao ?_⟩;simp only [ki];walk_at "w";have JQ:cA (ae "step" (.int 0) (ae "place" .ax (ae "here" (.int (root:Int)) (ae "root" (.int (root:Int)) (ae "last" (.bl last) (ae "asker" (.str z) (ae "house" (.ref AA.a) []))))))) [("house",.ref AA.a),("asker",.str z),("last",.bl last),("root",.int (root:Int)),("here",.int (root:Int)),("place",.ax),("step",.int 0)]:=fun f=>rfl;have J2:(ae "step" (.int 0) (ae "place" .ax (ae "here" (.int (root:Int)) (ae "root" (.int (root:Int)) (ae "last" (.bl last) (ae "asker" (.str z) (ae "house" (.ref AA.a) []))))))).length≤10:=by (repeat (refine bO ?_)); exact Nat.zero_le _
  generalize (ae "step" (.int 0) (ae "place" .ax (ae "here" (.int (root:Int)) (ae "root" (.int (root:Int)) (ae "last" (.bl last) (ae "asker" (.str z) (ae "house" (.ref AA.a) [])))))))=F7 at JQ J2 ⊢;have s2:=s1.eA (o:=.ins T.bf dx F7) x0;have b2:upd H1 x (.ins T.bf dx F7) x=some (.ins T.bf dx F7):=ay;generalize upd H1 x (.ins T.bf dx F7)=H2 at s2 b2 ⊢;have bH:∀ {J:Hp} {d:Addr},ai H0 J→J d=none→H0 d=none:=fun {J d} k hn=>by
   cases e:H0 d with
   | none=>rfl
   | some o=>rw [k d o e] at hn; cases hn
  refine ⟨fits (by simp),fun av fJ=>?_⟩;refine ⟨x,dx,_,rfl,by rw [ah (aF b2 fJ)]; exact b2,by omega,ao ?_⟩;obtain ⟨b3,o3,old3,n3⟩:=jn (o:=.lst []) (O:=.ins T.bf dx (ae "asked" (.ref av) F7)) fJ b2;have s3:=(s2.trans (ai.upd (o:=.lst []) fJ)).eA (o:=.ins T.bf dx (ae "asked" (.ref av) F7)) x0;have av0:=bH s2 fJ;generalize upd (upd H2 av (.lst [])) x (.ins T.bf dx (ae "asked" (.ref av) F7))=H3 at b3 o3 old3 s3 ⊢;walk_at "w";refine ⟨fits (by simp),fun lf hlf=>?_⟩;have l1:(ae "asked" (.ref av) F7).length≤11:=bO J2;refine ⟨x,dx,_,rfl,by rw [ah (aF b3 hlf)]; exact b3,by omega,ao ?_⟩;obtain ⟨b4,o4,IT,n4⟩:=jn (o:=.lst []) (O:=.ins T.bf dx (ae "left" (.ref lf) (ae "asked" (.ref av) F7))) hlf b3;have s4:=(s3.trans (ai.upd (o:=.lst []) hlf)).eA (o:=.ins T.bf dx (ae "left" (.ref lf) (ae "asked" (.ref av) F7))) x0;have lf0:=bH s3 hlf;have BH:av≠lf:=aF o3 hlf;have Au:=IT av _ n3 o3;generalize upd (upd H3 lf (.lst [])) x (.ins T.bf dx (ae "left" (.ref lf) (ae "asked" (.ref av) F7)))=H4 at b4 o4 IT s4 Au ⊢;walk_at "w";refine ⟨fits (by simp),fun rd hrd=>?_⟩;have l2:(ae "left" (.ref lf) (ae "asked" (.ref av) F7)).length≤12:=bO l1;refine ⟨x,dx,_,rfl,by rw [ah (aF b4 hrd)]; exact b4,by omega,ao ?_⟩;obtain ⟨b5,o5,kN,n5⟩:=jn (o:=.lst []) (O:=.ins T.bf dx (ae "reading" (.ref rd) (ae "left" (.ref lf) (ae "asked" (.ref av) F7)))) hrd b4;have s5:=(s4.trans (ai.upd (o:=.lst []) hrd)).eA (o:=.ins T.bf dx (ae "reading" (.ref rd) (ae "left" (.ref lf) (ae "asked" (.ref av) F7)))) x0;have IY:=kN av _ n3 Au;have Jv:=kN lf _ n4 o4;have rd0:=bH s4 hrd;have nar:av≠rd:=aF Au hrd;have Be:lf≠rd:=aF o4 hrd;generalize upd (upd H4 rd (.lst [])) x (.ins T.bf dx (ae "reading" (.ref rd) (ae "left" (.ref lf) (ae "asked" (.ref av) F7))))=H5 at b5 o5 kN s5 IY Jv ⊢;have l3:(ae "reading" (.ref rd) (ae "left" (.ref lf) (ae "asked" (.ref av) F7))).length≤13:=bO l2;walk_at "w";refine ⟨x,dx,_,rfl,b5,by omega,ao ?_⟩;have l4:(ae "leads_read" (.int 0) (ae "reading" (.ref rd) (ae "left" (.ref lf) (ae "asked" (.ref av) F7)))).length≤14:=bO l3;walk_at "w";refine ⟨x,dx,_,rfl,ay,by omega,?_⟩;have l5:(ae "looked_up" (.int 0) (ae "leads_read" (.int 0) (ae "reading" (.ref rd) (ae "left" (.ref lf) (ae "asked" (.ref av) F7))))).length≤15:=bO l4;refine ⟨x,dx,_,rfl,ay,by omega,?_⟩;simp only [ki];refine q av lf rd _ ⟨i,s5.eA x0,x0,av0,lf0,rd0,⟨_,.ax,ay,Nat.le_trans (bO l5) (by decide),rfl,fun f=>?_⟩,by rw [ah n3]; exact IY,by rw [ah n4]; exact Jv,by rw [ah n5]; exact o5,BH,nar,Be,hz⟩;exact ((((((JQ.put "asked" (.ref av)).put "left" (.ref lf)).put "reading" (.ref rd)).put "leads_read" (.int 0)).put "looked_up" (.int 0)).put "told" .ax f).trans rfl
section
variable {CH CS CT CW:Addr} {S:Ws} {H0 H H':Hp} {A:Ad} {L:List Ta} {M:Hs} {x dx av lf rd:Addr} {z:Str} {last:Bool} {root:Nat} {told:V}
theorem ba.off {y:Addr} {o o':HO} (v:ba CH CS CT CW S H0 H A L M x dx av lf rd z last root told) (y0:H0 y=none) (hy:H y=some o) (nx:x≠y) (na:av≠y) (nl:lf≠y) (nr:rd≠y) (ht:∀ xs,o≠.tup xs):ba CH CS CT CW S H0 (upd H y o') A L M x dx av lf rd z last root told:=by
 obtain ⟨gs,pv,e,l,p,f⟩:=v.o;refine ⟨v.i,v.s.eA y0,v.x0,v.a0,v.l0,v.r0,⟨gs,pv,by rw [ah nx]; exact e,l,?_,f⟩,by rw [ah na]; exact v.oa,by rw [ah nl]; exact v.ol,by rw [ah nr]; exact v.od,v.n1,v.n2,v.n3,v.hz⟩;generalize S.place=pl at p
 match pl,p with
 | none,h=>exact h
 | some (k,nm),⟨q,e,e0,e1⟩ =>
  refine ⟨q,e,e0,?_⟩;rw [ah (fun z=>?_)]
  ·exact e1
  ·rw [z,hy] at e1;exact ht _ (Option.some.inj e1)
theorem ba.fresh {y:Addr} (v:ba CH CS CT CW S H0 H A L M x dx av lf rd z last root told) (hy:H y=none):H0 y=none:=by
 cases e:H0 y with
 | none=>rfl
 | some o=>rw [v.s y o e] at hy; cases hy
theorem ba.tell {told':V} (v:ba CH CS CT CW S H0 H A L M x dx av lf rd z last root told):∃ fs,H x=some (.ins CW dx fs)∧fs.length≤40∧ba CH CS CT CW S H0 (upd H x (.ins CW dx (ae "told" told' fs))) A L M x dx av lf rd z last root told':=by
 obtain ⟨fs,pv,e,l,p,f⟩:=v.o;refine ⟨fs,e,l,v.put (S:=S) (here':=S.here) (step':=S.step) (look':=S.look) (by rw [dN (u:=told) ((f _).trans rfl)]; exact l) fun pv' p' gs e' f'=>?_⟩;rw [e] at e';cases e';exact fun g=>((f'.put "told" told') g).trans rfl
end
abbrev fo (k:Nat) (r:Str):List (Str×V):=ae "reason" (.str r) (ae "step" (.int (k:Int)) [])
def RF (CH CS CT CW CF:Addr):Sp:=fN fun x r H Q _=>∃ S H0 A L M dx av lf rd z last root,ba CH CS CT CW S H0 H A L M x dx av lf rd z last root .ax ∧
   ∀ fd aJ H',ba CH CS CT CW S H0 H' A L M x dx av lf rd z last root (.ref fd)→H0 fd=none→H' fd=some (.ins CF aJ (fo S.step r))→Q .ax H'
theorem tj (T:Tx K mg):aA P w K mg base aM 3 T.gD.f T.gD.d ["self", "reason"] (RF T.au T.aE T.aG T.bf T.bD):=by
 refine T.gD.F.ok Mo (fun vs H Q E h=>?_) (fun az A outer s H vs Q E hr h=>?_)
 ·exact cF h fun _ _ _=>rfl
 ·refine cF h fun x r h=>?_;obtain ⟨S,H0,AA,L,M,dx,av,lf,rd,z,last,root,v,q⟩:=h;refine bC (b:=aU wB) ((Dv.aj (Dv.bw T.aR T.lI (Dv.v 0) (Dv.make T.Qt (K9 T) (hr.mono (by decide)) T.Ca T.qP.b .nil aw (Dv.aa (Dv.fld T.aR T.zk (Dv.v 0)) (Dv.aa (Dv.v 1) Dv.ag)))))) ?_;refine stI [some (V.ref x),some (V.str r)] ?_;obtain ⟨fs,pv,hx,aV,AH,sf⟩:=v.o;walk_at "w";refine ⟨x,_,_,_,rfl,hx,(sf _).trans rfl,fun fd aJ br hdfd nfd=>?_⟩;have s4:=(ai.upd (o:=.own fd) hdfd).trans (ai.upd (p:=fd) (o:=.ins T.bD aJ []) (by rw [ah (Ne.symm nfd)]; exact br));have b4:upd (upd H aJ (.own fd)) fd (.ins T.bD aJ []) fd=some (.ins T.bD aJ []):=ay;have v4:=v.same s4;have f0:=v.fresh br;have nx:x≠fd:=aF hx br;have na:av≠fd:=aF v.oa br;have nl:lf≠fd:=aF v.ol br;have nr:rd≠fd:=aF v.od br;generalize upd (upd H aJ (.own fd)) fd (.ins T.bD aJ [])=H4 at s4 b4 v4 ⊢;refine ⟨aJ,b4,rfl,?_⟩;have v5:=v4.off (o':=.ins T.bD aJ (fo S.step r)) f0 b4 nx na nl nr (by nofun);have b5:upd H4 fd (.ins T.bD aJ (fo S.step r)) fd=some (.ins T.bD aJ (fo S.step r)):=ay;generalize upd H4 fd (.ins T.bD aJ (fo S.step r))=H5 at v5 b5 ⊢;obtain ⟨Ju,gv,pz,v6⟩:=v5.tell (told':=.ref fd);exact ⟨x,_,_,rfl,gv,by omega,q fd aJ _ v6 f0 (by rw [ah (Ne.symm nx)]; exact b5)⟩
section
variable {CH CS CT CW:Addr} {S:Ws} {H0 H H':Hp} {A:Ad} {L:List Ta} {M:Hs} {x dx av lf rd:Addr} {z:Str} {last:Bool} {root:Nat} {told:V}
theorem ba.goto {h':Nat} (v:ba CH CS CT CW S H0 H A L M x dx av lf rd z last root told):∃ fs,H x=some (.ins CW dx fs)∧fs.length≤40∧ba CH CS CT CW { S with here:=h' } H0 (upd H x (.ins CW dx (ae "here" (.int (h':Int)) fs))) A L M x dx av lf rd z last root told:=by
 obtain ⟨fs,pv,e,l,p,f⟩:=v.o;refine ⟨fs,e,l,v.put (S:=S) (here':=h') (step':=S.step) (look':=S.look) (by rw [dN (u:=.int (S.here:Int)) ((f _).trans rfl)]; exact l) fun pv' p' gs e' f'=>?_⟩;rw [e] at e';cases e';exact fun g=>((f'.put "here" (.int (h':Int))) g).trans rfl
theorem ba.Pr {l:Addr} {ts:List (Sum Nat Str)} (v:ba CH CS CT CW S H0 H A L M x dx av lf rd z last root told) (l0:H0 l=none) (hl:H l=some (.lst (ts.map pG))) (n1:av≠l) (n3:l≠rd):∃ fs,H x=some (.ins CW dx fs)∧fs.length≤40∧ba CH CS CT CW { S with left:=ts } H0 (upd H x (.ins CW dx (ae "left" (.ref l) fs))) A L M x dx av l rd z last root told:=by
 obtain ⟨fs,pv,e,le,p,f⟩:=v.o;have nx:x≠l:=bL e hl (by nofun);exact ⟨fs,e,le,⟨v.i,v.s.eA v.x0,v.x0,v.a0,l0,v.r0,⟨_,pv,ay,by rw [dN (u:=.ref lf) ((f _).trans rfl)]; exact le,p.put ⟨fs,e⟩,fun g=>((f.put "left" (.ref l)) g).trans rfl⟩,by rw [ah (Ne.symm v.xa.1)]; exact v.oa,by rw [ah (Ne.symm nx)]; exact hl,by rw [ah (Ne.symm v.xa.2.2)]; exact v.od,n1,v.n2,n3,v.hz⟩⟩
theorem ba.fld (v:ba CH CS CT CW S H0 H A L M x dx av lf rd z last root told):∃ fs pv,H x=some (.ins CW dx fs)∧fs.length≤40∧cA fs (uc A.a z last root S.here pv S.step av lf rd S.read S.look told):=by
 obtain ⟨fs,pv,e,l,p,f⟩:=v.o;exact ⟨fs,pv,e,l,f⟩
end
def TB (CH CS CT CW CF:Addr):Sp:=Gx fun x fr lp H Q _=>∃ S H0 A L M dx av lf rd z last,∃ root st b:Nat,∃ (ps:List Str) (r:List Nat) (a:Ta) (t:Th) (sn:Bool),ba CH CS CT CW S H0 H A L M x dx av lf rd z last root .ax∧H lp=some (.lst (ps.map V.str))∧(fr=true∧st=root∨fr=false∧aN (sD M.st) (.inr z)=some (.int (st:Int)))∧L[st]?=some a∧M.ts[st]?=some t∧de M st b r∧(∃ m,ir M L root m (cM b r) sn) ∧
   (sn=true→∀ lf' H',ba CH CS CT CW { S with here:=cM b r,left:=(ps.map Sum.inr).reverse } H0 H' A L M x dx av lf' rd z last root .ax→Q .ax H') ∧
   (sn=false→∀ fd aJ H',ba CH CS CT CW { S with here:=cM b r } H0 H' A L M x dx av lf rd z last root (.ref fd)→H0 fd=none→H' fd=some (.ins CF aJ (fo S.step "outside"))→Q .ax H')
theorem Rb (T:Tx K mg):aA P w K mg base aM 7 T.ra.f T.ra.d ["self", "from_root", "parts"] (TB T.au T.aE T.aG T.bf T.bD):=by
 refine T.ra.F.ok Hi (fun vs H Q E h=>?_) (fun az A outer s H vs Q E hr h=>?_)
 ·exact Cs h fun _ _ _ _=>rfl
 ·refine Cs h fun x fr lp h=>?_;obtain ⟨S,H0,AA,L,M,dx,av,lf,rd,z,last,root,st,b,ps,r,a,t,sn,v,fj,aQ,ha,ht,jw,kS,q1,q2⟩:=h;obtain ⟨fs,pv,hx,aV,sf⟩:=v.fld;refine bC (b:=aU zc) ((Dv.cut (Dv.aS 3 Hi.nd (Dv.Fu (Dv.cg (Dv.v 1)) (Dv.fld T.aR T.tW (Dv.v 0)) (Dv.bh T.aL T.lD.h (EW T) (hr.mono (by decide)) T.lD.b .nil aw (Dv.fld T.aR T.fA (Dv.v 0)) (Dv.aa (Dv.fld T.aR T.pJ (Dv.v 0)) Dv.ag))))
  (Dv.cut (Dv.bw T.aR T.eZ (Dv.v 0) (Dv.call (zM T) (hr.mono (by decide)) T.gf.m T.gf.F.kp T.gf.b .nil aw (Dv.aa (Dv.fld T.aR T.fA (Dv.v 0)) (Dv.aa (Dv.v 3) Dv.ag))))
  (Dv.aj (Dv.aW (Dv.cg (Dv.call (Mn T) (hr.mono (by decide)) T.oO.m T.oO.F.kp T.oO.b .nil aw (Dv.aa (Dv.fld T.aR T.fA (Dv.v 0)) (Dv.aa (Dv.fld T.aR T.pJ (Dv.v 0)) (Dv.aa (Dv.fld T.aR T.eZ (Dv.v 0)) Dv.ag))))) (Dv.aj (Dv.bw T.aR T.qi (Dv.v 0) (Dv.listRev (K:=K) rfl rfl T.wu T.ED (Dv.v 2)))) (Dv.aj (Dv.aX (Dv.bh T.aR T.gD.h (tj T) (hr.mono (by decide)) T.gD.b .nil aw (Dv.v 0) (Dv.aa Dv.str Dv.ag))))))))) ?_
  refine stI [some (V.ref x),some (V.bl fr),some (V.ref lp),none] ?_;refine en (fun σ' H'=>σ'=[some (V.ref x),some (V.bl fr),some (V.ref lp),some (V.int (st:Int))]∧H'=H) ?_ ?_
  ·walk_at "w";rcases aQ with ⟨rfl,rfl⟩ | ⟨rfl,aQ⟩
   ·exact bM ⟨x,_,_,_,rfl,hx,(sf _).trans rfl,rfl,by trivial⟩
   ·obtain ⟨mH,hc,hh,rY,gR⟩:=v.m.h;exact bb ⟨x,_,_,_,rfl,hx,(sf _).trans rfl,AA.a,_,_,rfl,hh,(gR _).trans rfl,x,_,_,_,rfl,hx,(sf _).trans rfl,AA,L,M,st,v.m,rfl,by rw [v.hz]; rfl,aQ,rfl,by first | rfl | trivial⟩
  rintro σ' H' ⟨rfl,rfl⟩;refine ao ?_;walk_at "w";refine ⟨x,_,_,_,rfl,hx,(sf _).trans rfl,AA,L,M,st,b,r,a,t,v.m,rfl,rfl,ha,ht,jw,fun H1 s1=>?_⟩;have v1:=v.same s1;obtain ⟨iJ,bu,jC,v2⟩:=v1.goto (h':=cM b r);refine ⟨x,_,_,rfl,bu,by omega,?_⟩;have hlp1:=s1 _ _ fj;have AJ:lp≠x:=fun e=>by rw [e,hx] at fj; cases fj
  have J0:upd H1 x (.ins T.bf dx (ae "here" (.int ((cM b r:Nat):Int)) iJ)) lp=some (.lst (ps.map V.str)):=by rw [ah AJ]; exact hlp1
  generalize upd H1 x (.ins T.bf dx (ae "here" (.int ((cM b r:Nat):Int)) iJ))=H2 at v2 J0 ⊢;obtain ⟨iL,sA,bN,iK,bS⟩:=v2.fld;walk_at "w";refine ⟨x,_,_,_,rfl,bN,(bS _).trans rfl,x,_,_,_,rfl,bN,(bS _).trans rfl,x,_,_,_,rfl,bN,(bS _).trans rfl,AA,L,M,cM b r,root,sn,v2.m,rfl,rfl,v2.hz,kS,fun H3 s3=>?_⟩;have v3:=v2.same s3;cases sn
  ·obtain ⟨gU,vL,cQ,gP,fi⟩:=v3.fld;exact bb ⟨x,_,_,rfl,cQ,(fi _).trans rfl,_,H0,AA,L,M,dx,av,lf,rd,z,last,root,v3,fun fd aJ H' v' f0 hf=>q2 rfl fd aJ H' v' f0 hf⟩
  ·refine bM ?_;refine ⟨lp,ps.map V.str,rfl,aK.of (s3 _ _ J0),fun l hl=>?_⟩;have v4:=v3.same (ai.upd (o:=.lst (ps.map V.str).reverse) hl);have b4:upd H3 l (.lst (ps.map V.str).reverse) l=some (.lst ((ps.map Sum.inr).reverse.map pG)):=by
    rw [ay,← List.map_reverse,← List.map_reverse,List.map_map]; rfl
   have l0:=v3.fresh hl;have BH:av≠l:=aF v3.oa hl;have Be:l≠rd:=Ne.symm (aF v3.od hl);generalize upd H3 l (.lst (ps.map V.str).reverse)=H4 at v4 b4 ⊢;obtain ⟨r8,jH,AW,v5⟩:=v4.Pr l0 b4 BH Be;exact ⟨x,_,_,rfl,jH,by omega,q1 rfl l _ v5⟩
def fU (M:Hs) (L:List Ta) (root:Nat):Nat→Nat→List Str→Prop
 | n,k,ns=>∃ b r a t,L[k]?=some a∧M.ts[k]?=some t∧de M k b r ∧
  if fk root (b::r)=true then ns=[]
  else ∃ ab tb f z,L[b]?=some ab∧M.ts[b]?=some tb∧tb.c7=[(f,z)]∧match n with | 0=>False | n+1=>∃ ns',ns=ns'++[z]∧fU M L root n f ns'
def Nk (CH CS CT:Addr):Sp:=km fun x z n H Q _=>∃ A L M,∃ k root:Nat,∃ ns,aI CH CS CT H A L M∧A.a=x∧n=(k:Int)∧aN (sD M.ro) (.inr z)=some (.int (root:Int))∧(∃ m,fU M L root m k ns)∧ns.length≤500∧∀ l H',ai H H'→H' l=some (.lst (ns.map V.str))→Q (.ref l) H'
theorem Mp (T:Tx K mg):aA P w K mg base aM 6 T.oA.f T.oA.d ["house", "asker", "folder"] (Nk T.au T.aE T.aG):=by
 refine T.oA.F.ok mY (fun vs H Q E h=>?_) (fun az A outer s H vs Q E hr h=>?_)
 ·exact fc h fun _ _ _ _=>rfl
 ·refine fc h fun x z n h=>?_;obtain ⟨AA,L,M,k,root,ns,i,rfl,rfl,hz,⟨m,hm⟩,hlen,q⟩:=h;obtain ⟨fs,c,hx,aV,sf⟩:=i.h;refine bC (b:=aU v8) ((Dv.cut (Dv.aS 3 mY.nd (Dv.bh T.aL T.ef.h (lb T) (hr.mono (by decide)) T.ef.b .nil aw (Dv.v 0) (Dv.aa (Dv.v 1) Dv.ag)))
  (Dv.cut (Dv.aS 4 mY.nd (Dv.lst Dv.ag))
  (Dv.cut (Dv.aS 5 mY.nd (Dv.call (oF T) (hr.mono (by decide)) T.di.m T.di.F.kp T.di.b .nil aw (Dv.aa (Dv.v 0) (Dv.aa (Dv.v 2) Dv.ag))))
  (Dv.cut (Dv.iY PassesOwn.never (Dv.aY (ur (K:=K) rfl) (Dv.v 3) (Dv.v 5)) (Dv.cut (Dv.aS 6 mY.nd (Dv.bh T.aL T.fb.h (ou T) (hr.mono (by decide)) T.fb.b .nil aw (Dv.v 0) (Dv.aa (Dv.ix (bq (K:=K) rfl) (Dv.v 5) Dv.int) Dv.ag)))
  (Dv.cut (Dv.aX (Dv.iA PySem.F.slot_list_append PySem.F.type_list_append jX (Dv.v 4) (Dv.aa (Dv.ix (bq (K:=K) rfl) (Dv.v 6) Dv.int) Dv.ag)))
  (Dv.aj (Dv.aS 5 mY.nd (Dv.call (oF T) (hr.mono (by decide)) T.di.m T.di.F.kp T.di.b .nil aw (Dv.aa (Dv.v 0) (Dv.aa (Dv.ix (bq (K:=K) rfl) (Dv.v 6) Dv.int) Dv.ag))))))))
  (Dv.aj (Dv.aP (Dv.listRev (K:=K) rfl rfl T.wu T.ED (Dv.v 4))))))))) ?_
  refine stI [some (V.ref AA.a),some (V.str z),some (V.int (k:Int)),none,none,none,none] ?_;refine ao ?_;walk_at "w";refine ⟨AA.a,_,_,rfl,hx,(sf _).trans rfl,AA,L,M,root,i,rfl,hz,?_⟩;refine ao ?_;walk_at "w";refine ⟨fits (by simp),fun ln va=>?_⟩;have s1:=ai.upd (o:=.lst []) va;have b1:upd H ln (.lst []) ln=some (.lst []):=ay;generalize upd H ln (.lst [])=H1 at s1 b1 ⊢;have i1:=i.same s1;refine ao ?_;walk_at "w";obtain ⟨b,r,a,t,ha,ht,aQ,cY⟩:=(by unfold fU at hm; exact hm:∃ b r a t,L[k]?=some a∧M.ts[k]?=some t∧de M k b r∧_);refine ⟨AA,L,M,k,b,r,a,t,i1,rfl,rfl,ha,ht,aQ,fun l2 H2 s2 hl20 ck=>?_⟩;have Ih:=s1.trans s2;have c1:=s2 _ _ b1;obtain ⟨PV,kL⟩:∃ PV:Nat→St→Hp→Prop,PV=fun m σ' H'=>ai H H'∧∃ (ls:Addr) (b:Nat) (r:List Nat) (cs ns':List Str) (pv:Option V),σ'=[some (V.ref AA.a),some (V.str z),some (V.int (k:Int)),some (V.int (root:Int)),some (V.ref ln),some (V.ref ls),pv]∧H' ls=some (.lst (nV (b::r)))∧H' ln=some (.lst (cs.map V.str))∧ns=ns'++cs.reverse ∧
   (if fk root (b::r)=true then ns'=[]
    else ∃ ab tb f z,L[b]?=some ab∧M.ts[b]?=some tb∧tb.c7=[(f,z)]∧match m with | 0=>False | n+1=>∃ ns'',ns'=ns''++[z]∧fU M L root n f ns''):=⟨_,rfl⟩
  refine ao ⟨PV,⟨m,by rw [kL]; exact ⟨Ih,l2,b,r,[],ns,none,rfl,ck,c1,by simp,cY⟩⟩,?_⟩;clear cY ha ht aQ ck hl20 c1 hm Ih s2;intro m σ' H' hI;rw [kL] at hI;obtain ⟨s',ls,b,r,cs,ns',pv,rfl,sG,hln',fH,cY⟩:=hI;have i':=i.same s';obtain ⟨fs',c',hx',hfl',sf'⟩:=i'.h;walk_at "w";refine ⟨_,.inl (aK.of sG),rfl,by simp [cm],?_⟩;rw [lR];cases hmem:fk root (b::r) with
  | true =>
   rw [if_pos hmem] at cY;subst cY;refine bb ?_;walk_at "w";refine ⟨ln,_,rfl,aK.of hln',fun l hl=>?_⟩;refine q l _ (s'.trans (ai.upd hl)) ?_;rw [ay,fH,List.nil_append,List.map_reverse]
  | false =>
   rw [if_neg (by rw [hmem]; nofun)] at cY;obtain ⟨ab,tb,f,zz,eK,kI,bg,hn⟩:=cY;refine bM ⟨fun σ' H'=>∃ m',m' < m∧PV m' σ' H',fun σ' H' h=>h,?_⟩;refine ao ?_;walk_at "w";simp only [bG,sG,nV,List.map_cons,cU];refine ⟨AA.a,_,_,rfl,hx',(sf' _).trans rfl,AA,L,M,b,ab,tb,i',rfl,rfl,eK,kI,.inr ⟨f,zz,bg,fun p hp=>?_⟩⟩;refine ao ?_;walk_at "w";simp only [hln',bG,hp,wF];cases m with
   | zero=>exact hn.elim
   | succ m =>
    obtain ⟨ns2,hns2,hn⟩:=hn;have o9:cs.length≤500:=by
     have:=congrArg List.length fH;simp at this;omega
    refine ⟨gN (by rw [List.length_map]; omega),?_⟩;have AJ:p≠ln:=bL hp hln' (by nofun);have s4:=s'.eA (o:=.lst (List.map V.str cs++[V.str zz])) va;have b4:upd H' ln (.lst (List.map V.str cs++[V.str zz])) ln=some (.lst ((cs++[zz]).map V.str)):=by rw [ay,List.map_append]; rfl
    have kH:upd H' ln (.lst (List.map V.str cs++[V.str zz])) p=some (.tup [V.int (f:Int),V.str zz]):=by rw [ah AJ]; exact hp
    generalize upd H' ln (.lst (List.map V.str cs++[V.str zz]))=H4 at s4 b4 kH ⊢;walk_at "w";simp only [bG,kH,cU];obtain ⟨b2,r2,a2,t2,Bw,fe,kG,Bo⟩:=(by unfold fU at hn; exact hn:∃ b r a t,L[f]?=some a∧M.ts[f]?=some t∧de M f b r∧_);refine ⟨AA,L,M,f,b2,r2,a2,t2,i.same s4,rfl,rfl,Bw,fe,kG,fun l5 H5 s5 hl50 pz=>⟨m,Nat.lt_succ_self m,?_⟩⟩;rw [kL];refine ⟨s4.trans s5,l5,b2,r2,cs++[zz],ns2,_,rfl,pz,s5 _ _ b4,?_,Bo⟩;rw [fH,hns2];simp
def Qp (CH CS CT CW:Addr):Sp:=iw fun x H Q _=>∃ S H0 A L M dx av lf rd z last,∃ root b:Nat,∃ (r:List Nat) (a:Ta) (t:Th),ba CH CS CT CW S H0 H A L M x dx av lf rd z last root .ax∧L[S.here]?=some a∧M.ts[S.here]?=some t∧de M S.here b r ∧
   (fk root (b::r)=true∧(∀ H',ba CH CS CT CW S H0 H' A L M x dx av lf rd z last root .ax→Q .ax H') ∨
     fk root (b::r)=false∧∃ (ab:Ta) (tb:Th) (f:Nat) (zz:Str) (af:Ta) (tf:Th) (b':Nat) (r':List Nat),L[b]?=some ab∧M.ts[b]?=some tb∧tb.c7=[(f,zz)]∧L[f]?=some af∧M.ts[f]?=some tf∧de M f b' r'∧∀ H',ba CH CS CT CW { S with here:=cM b' r' } H0 H' A L M x dx av lf rd z last root .ax→Q .ax H')
theorem Nv (T:Tx K mg):aA P w K mg base aM 7 T.rG.f T.rG.d ["self"] (Qp T.au T.aE T.aG T.bf):=by
 refine T.rG.F.ok C7 (fun vs H Q E h=>?_) (fun az A outer s H vs Q E hr h=>?_)
 ·exact dP h fun _ _=>rfl
 ·refine dP h fun x h=>?_;obtain ⟨S,H0,AA,L,M,dx,av,lf,rd,z,last,root,b,r,a,t,v,ha,aO,aQ,q⟩:=h;obtain ⟨fs,pv,hx,aV,sf⟩:=v.fld;refine bC (b:=aU wL) ((Dv.cut (Dv.aS 1 C7.nd (Dv.call (oF T) (hr.mono (by decide)) T.di.m T.di.F.kp T.di.b .nil aw (Dv.aa (Dv.fld T.aR T.fA (Dv.v 0)) (Dv.aa (Dv.fld T.aR T.eZ (Dv.v 0)) Dv.ag))))
  (Dv.aj (Dv.aW (Dv.aY (ur (K:=K) rfl) (Dv.fld T.aR T.tW (Dv.v 0)) (Dv.v 1)) (Dv.aj (Dv.bw T.aR T.eZ (Dv.v 0) (Dv.call (zM T) (hr.mono (by decide)) T.gf.m T.gf.F.kp T.gf.b .nil aw (Dv.aa (Dv.fld T.aR T.fA (Dv.v 0)) (Dv.aa (Dv.ix (bq (K:=K) rfl) (Dv.bh T.aL T.fb.h (ou T) (hr.mono (by decide)) T.fb.b .nil aw (Dv.fld T.aR T.fA (Dv.v 0)) (Dv.aa (Dv.ix (bq (K:=K) rfl) (Dv.v 1) Dv.int) Dv.ag)) Dv.int) Dv.ag))))) Dv.nil)))) ?_
  refine stI [some (V.ref x),none] ?_;refine ao ?_;walk_at "w";refine ⟨x,_,_,_,rfl,hx,(sf _).trans rfl,x,_,_,_,rfl,hx,(sf _).trans rfl,AA,L,M,S.here,b,r,a,t,v.m,rfl,rfl,ha,aO,aQ,fun l H1 s1 hl0 hl=>?_⟩;have v1:=v.same s1;obtain ⟨iJ,vA,bu,jC,cf⟩:=v1.fld;walk_at "w";refine ⟨x,_,_,_,rfl,bu,(cf _).trans rfl,_,.inl (aK.of hl),rfl,by simp [cm],?_⟩;rw [lR];rcases q with ⟨hm,q⟩ | ⟨hm,ab,tb,f,zz,af,tf,b',r',eK,kI,bg,fK,bA,hst',q⟩
  ·rw [hm];exact bb (q _ v1)
  ·rw [hm];refine bM ?_;obtain ⟨mH,hc,hh,rY,gR⟩:=v1.m.h;simp only [bG,hl,nV,List.map_cons,cU];refine ⟨x,_,_,_,rfl,bu,(cf _).trans rfl,x,_,_,_,rfl,bu,(cf _).trans rfl,AA.a,_,_,rfl,hh,(gR _).trans rfl,AA,L,M,b,ab,tb,v1.m,rfl,rfl,eK,kI,.inr ⟨f,zz,bg,fun p hp=>?_⟩⟩;simp only [hp,cU];refine ⟨AA,L,M,f,b',r',af,tf,v1.m,rfl,rfl,fK,bA,hst',fun H2 s2=>?_⟩;obtain ⟨iL,bN,iK,v2⟩:=(v1.same s2).goto (h':=cM b' r');exact ⟨x,_,_,rfl,bN,by omega,q _ v2⟩
section
variable {CH CS CT CW:Addr} {S:Ws} {H0 H H':Hp} {A:Ad} {L:List Ta} {M:Hs} {x dx av lf rd:Addr} {z:Str} {last:Bool} {root:Nat} {told:V}
theorem ba.looked (v:ba CH CS CT CW S H0 H A L M x dx av lf rd z last root told):∃ fs,H x=some (.ins CW dx fs)∧fs.length≤40∧ba CH CS CT CW { S with look:=S.look+1 } H0 (upd H x (.ins CW dx (ae "looked_up" (.int ((S.look:Int)+1)) fs))) A L M x dx av lf rd z last root told∧List.lookup ("looked_up" : Str) fs=some (V.int (S.look:Int)):=by
 obtain ⟨fs,pv,e,l,p,f⟩:=v.o;refine ⟨fs,e,l,v.put (S:=S) (here':=S.here) (step':=S.step) (look':=S.look+1) (by rw [dN (u:=.int (S.look:Int)) ((f _).trans rfl)]; exact l) fun pv' p' gs e' f'=>?_,(f _).trans rfl⟩;rw [e] at e';cases e';exact fun g=>((f'.put "looked_up" (.int ((S.look:Int)+1))) g).trans rfl
theorem ba.P1 (v:ba CH CS CT CW S H0 H A L M x dx av lf rd z last root told):∃ fs,H x=some (.ins CW dx fs)∧fs.length≤40∧ba CH CS CT CW { S with step:=S.step+1 } H0 (upd H x (.ins CW dx (ae "step" (.int ((S.step:Int)+1)) fs))) A L M x dx av lf rd z last root told∧List.lookup ("step" : Str) fs=some (V.int (S.step:Int)):=by
 obtain ⟨fs,pv,e,l,p,f⟩:=v.o;refine ⟨fs,e,l,v.put (S:=S) (here':=S.here) (step':=S.step+1) (look':=S.look) (by rw [dN (u:=.int (S.step:Int)) ((f _).trans rfl)]; exact l) fun pv' p' gs e' f'=>?_,(f _).trans rfl⟩;rw [e] at e';cases e';exact fun g=>((f'.put "step" (.int ((S.step:Int)+1))) g).trans rfl
theorem ba.placed {p:Addr} {k:Nat} {nm:Str} (v:ba CH CS CT CW S H0 H A L M x dx av lf rd z last root told) (p0:H0 p=none) (hp:H p=some (.tup [.int (k:Int),.str nm])):∃ fs,H x=some (.ins CW dx fs)∧fs.length≤40∧ba CH CS CT CW { S with place:=some (k,nm) } H0 (upd H x (.ins CW dx (ae "place" (.ref p) fs))) A L M x dx av lf rd z last root told:=by
 obtain ⟨fs,pv,e,l,_,f⟩:=v.o;exact ⟨fs,e,l,⟨v.i,v.s.eA v.x0,v.x0,v.a0,v.l0,v.r0,⟨_,.ref p,ay,by rw [dN (u:=pv) ((f _).trans rfl)]; exact l,⟨p,rfl,p0,by rw [ah (Ne.symm (bL e hp (by nofun)))]; exact hp⟩,fun g=>((f.put "place" (.ref p)) g).trans rfl⟩,by rw [ah (Ne.symm v.xa.1)]; exact v.oa,by rw [ah (Ne.symm v.xa.2.1)]; exact v.ol,by rw [ah (Ne.symm v.xa.2.2)]; exact v.od,v.n1,v.n2,v.n3,v.hz⟩⟩
end
def Mq (CH CS CT CW CF:Addr):Sp:=fN fun x nm H Q _=>∃ S H0 A L M dx av lf rd z last,∃ root:Nat,∃ (a:Ta) (t:Th),ba CH CS CT CW S H0 H A L M x dx av lf rd z last root .ax∧L[S.here]?=some a∧M.ts[S.here]?=some t∧dR (.str nm)=true∧nm.length≤1000 ∧
   ((aN (sD t.aZ) (.inr nm)=none∧∀ fd aJ H',ba CH CS CT CW { S with look:=S.look+1 } H0 H' A L M x dx av lf rd z last root (.ref fd)→H0 fd=none→H' fd=some (.ins CF aJ (fo S.step "none"))→Q .ax H') ∨
     ∃ (c:Nat) (ac:Ta) (tc:Th),aN (sD t.aZ) (.inr nm)=some (.int (c:Int))∧L[c]?=some ac∧M.ts[c]?=some tc ∧
    ((tc.kd=("folder" : Str)∧∃ (b:Nat) (r:List Nat),de M c b r∧∀ H',ba CH CS CT CW { S with look:=S.look+1,here:=cM b r } H0 H' A L M x dx av lf rd z last root .ax→Q .ax H') ∨
      (tc.kd=("file" : Str)∧∀ H',ba CH CS CT CW { S with look:=S.look+1,place:=some (S.here,nm),here:=c } H0 H' A L M x dx av lf rd z last root .ax→Q .ax H')))
theorem Ky (T:Tx K mg):aA P w K mg base aM 7 T.qW.f T.qW.d ["self", "name"] (Mq T.au T.aE T.aG T.bf T.bD):=by
 refine T.qW.F.ok xm (fun vs H Q E h=>?_) (fun az A outer s H vs Q E hr h=>?_)
 ·exact cF h fun _ _ _=>rfl
 ·refine cF h fun x nm h=>?_;obtain ⟨S,H0,AA,L,M,dx,av,lf,rd,z,last,root,a,t,v,ha,aO,hn,Jl,q⟩:=h;refine bC (b:=aU wV) ((Dv.cut (Dv.jP T.aR T.Di kh (Dv.v 0) Dv.int)
  (Dv.cut (Dv.aS 2 xm.nd (Dv.bh T.aL T.iR.h (xB T) (hr.mono (by decide)) T.iR.b .nil aw (Dv.fld T.aR T.fA (Dv.v 0)) (Dv.aa (Dv.fld T.aR T.eZ (Dv.v 0)) (Dv.aa (Dv.v 1) Dv.ag))))
  (Dv.cut (Dv.aW (Dv.aY oy (Dv.v 2) Dv.ax) (Dv.cut (Dv.aX (Dv.bh T.aR T.gD.h (tj T) (hr.mono (by decide)) T.gD.b .nil aw (Dv.v 0) (Dv.aa Dv.str Dv.ag)))
  (Dv.aj Dv.Dg)) Dv.nil)
  (Dv.cut (Dv.aS 3 xm.nd (Dv.bh T.aL T.eX.h (mZ T) (hr.mono (by decide)) T.eX.b .nil aw (Dv.fld T.aR T.fA (Dv.v 0)) (Dv.aa (Dv.v 2) Dv.ag)))
  (Dv.aj (Dv.aW (Dv.aY cv (Dv.v 3) (Dv.glob (.str "folder") T.qw ⟨_,rfl⟩)) (Dv.aj (Dv.bw T.aR T.eZ (Dv.v 0) (Dv.call (zM T) (hr.mono (by decide)) T.gf.m T.gf.F.kp T.gf.b .nil aw (Dv.aa (Dv.fld T.aR T.fA (Dv.v 0)) (Dv.aa (Dv.v 2) Dv.ag))))) (Dv.aj (Dv.aW (Dv.dv (Dv.w_or (Dv.aY cv (Dv.v 3) (Dv.glob (.str "file") T.yp ⟨_,rfl⟩)) (Dv.hZ (Dv.dv (Dv.w_and (Dv.aY (xI hr.fV) (Dv.fld T.aR T.qi (Dv.v 0)) (Dv.lst Dv.ag)) (Dv.iz (Dv.cw (Dv.cg (Dv.fld T.aR T.Fe (Dv.v 0)))))))))) (Dv.cut (Dv.bw T.aR T.tw (Dv.v 0) (Dv.tup (Dv.aa (Dv.fld T.aR T.eZ (Dv.v 0)) (Dv.aa (Dv.v 1) Dv.ag))))
  (Dv.aj (Dv.bw T.aR T.eZ (Dv.v 0) (Dv.v 2)))) (Dv.aj Dv.cK)))))))))) ?_
  refine stI [some (V.ref x),some (V.str nm),none,none] ?_;obtain ⟨fs,hx,aV,v1,jN⟩:=v.looked;refine ao ?_;walk_at "w";refine ⟨x,_,_,.int (S.look:Int),rfl,hx,jN,_,_,rfl,rfl,_,_,hx,by omega,ao ?_⟩;generalize upd H x (.ins T.bf dx (ae "looked_up" (.int ((S.look:Int)+1)) fs))=H1 at v1 ⊢;obtain ⟨iJ,vA,bu,jC,cf⟩:=v1.fld;obtain ⟨mH,hc,hh,rY,gR⟩:=v1.m.h;walk_at "w";refine ⟨x,_,_,_,rfl,bu,(cf _).trans rfl,AA.a,_,_,rfl,hh,(gR _).trans rfl,x,_,_,_,rfl,bu,(cf _).trans rfl,AA,L,M,S.here,a,t,v1.m,rfl,rfl,ha,aO,hn,Jl,fun H2 s2=>?_⟩;have v2:=v1.same s2;obtain ⟨iL,sA,bN,iK,bS⟩:=v2.fld;obtain ⟨hfs2,AV,JO,hhl2,hsf2⟩:=v2.m.h;rcases q with ⟨hv,q⟩ | ⟨c,ac,tc,hv,fZ,fg,q⟩
  ·rw [hv];refine ao ?_;walk_at "w";refine ⟨by trivial,bM ?_⟩;refine ao ?_;walk_at "w";exact ⟨x,_,_,rfl,bN,(bS _).trans rfl,_,H0,AA,L,M,dx,av,lf,rd,z,last,root,v2,fun fd aJ H' v' f0 hf=>q fd aJ H' v' f0 hf⟩
  rw [hv];refine ao ?_;walk_at "w";refine ⟨by trivial,?_⟩;rw [decide_eq_false (by nofun)];refine bb ?_;refine ao ?_;walk_at "w";refine ⟨x,_,_,_,rfl,bN,(bS _).trans rfl,AA.a,_,_,rfl,JO,(hsf2 _).trans rfl,AA,L,M,c,ac,tc,v2.m,rfl,rfl,fZ,fg,?_⟩;rcases q with ⟨bK,b,r,aQ,q⟩ | ⟨bK,q⟩
  ·simp only [oV,bK,decide_true];walk_at "w";refine ⟨x,_,_,_,rfl,bN,(bS _).trans rfl,AA,L,M,c,b,r,ac,tc,v2.m,rfl,rfl,fZ,fg,aQ,fun H3 s3=>?_⟩;obtain ⟨gU,cQ,gP,v3⟩:=(v2.same s3).goto (h':=cM b r);exact ⟨x,_,_,rfl,cQ,by omega,q _ v3⟩
  ·simp only [oV,bK];rw [decide_eq_false (by decide +kernel)];refine bb ?_;walk_at "w";simp only [decide_true,if_true];refine ao ?_;walk_at "w";refine ⟨x,_,_,_,rfl,bN,(bS _).trans rfl,fits (by simp),fun p hp=>?_⟩;have v3:=v2.same (ai.upd (o:=.tup [V.int (S.here:Int),V.str nm]) hp);have b3:upd H2 p (.tup [V.int (S.here:Int),V.str nm]) p=some (.tup [V.int (S.here:Int),V.str nm]):=ay;have p0:=v2.fresh hp;generalize upd H2 p (.tup [V.int (S.here:Int),V.str nm])=H3 at v3 b3 ⊢;obtain ⟨gU,cQ,gP,v4⟩:=v3.placed p0 b3;refine ⟨x,_,_,rfl,cQ,by omega,?_⟩;generalize upd H3 x _=H4 at v4 ⊢;obtain ⟨r8,jH,AW,v5⟩:=v4.goto (h':=c);exact ⟨x,_,_,rfl,jH,by omega,q _ v5⟩
theorem bT {b:Bool} {A B:Prop} {i:Decidable (b=true)} (h:b=false) (hb:B):if b=true then A else B:=by rw [if_neg (by rw [h]; decide)]; exact hb
theorem cb {b:Bool} {A B:Prop} {i:Decidable (b=true)} (h:b=true) (hb:A):if b=true then A else B:=by rw [if_pos h]; exact hb
section
variable {T:Tx K mg} {H:Hp} {A:Ad} {L:List Ta} {M:Hs}
theorem wR {z s:Str} {k:Nat} {t:Th} {Q:VK} {E:XK} (i:aI T.au T.aE T.aG H A L M) (hz:(aN (sD M.ro) (.inr z)).isSome=true) (hs:ik (.str s)=true) (ht:M.ts[k]?=some t) (q:Q (.bl (cW s (cJ t z))) H):Dp T.au T.aE T.aG T.pB T.rV T.pj [.ref A.a,.str z,.int k,.str s] H Q E:=by
 refine ⟨A,L,M,i,rfl,⟨_,rfl⟩,⟨_,rfl⟩,⟨_,rfl⟩,fun h=>(by rw [h z rfl] at hz; cases hz),fun z' e _=>?_⟩;cases e;refine ⟨fun h=>(by rw [hs] at h; cases h),fun s' e _=>?_⟩;cases e;have bU:=(List.getElem?_eq_some_iff.mp ht).1;refine ⟨fun h=>absurd bU (h k rfl),fun k' t' e ht'=>?_⟩;cases e;rw [ht] at ht';cases ht';exact q
end
section
variable {CH CS CT CW:Addr} {S:Ws} {H0 H H':Hp} {A:Ad} {L:List Ta} {M:Hs} {x dx av lf rd:Addr} {z:Str} {last:Bool} {root:Nat} {told:V}
theorem ba.ask {k:Nat} (v:ba CH CS CT CW S H0 H A L M x dx av lf rd z last root told):ba CH CS CT CW { S with asked:=S.asked++[k] } H0 (upd H av (.lst (nV S.asked++[.int (k:Int)]))) A L M x dx av lf rd z last root told:=by
 obtain ⟨gs,pv,e,l,p,f⟩:=v.o;refine ⟨v.i,v.s.eA v.a0,v.x0,v.a0,v.l0,v.r0,⟨gs,pv,by rw [ah v.xa.1]; exact e,l,?_,f⟩,by rw [ay,ng]; rfl,by rw [ah (Ne.symm v.n1)]; exact v.ol,by rw [ah (Ne.symm v.n2)]; exact v.od,v.n1,v.n2,v.n3,v.hz⟩;show g9 H0 _ S.place pv;generalize S.place=pl at p ⊢
 match pl,p with
 | none,h=>exact h
 | some (k,nm),⟨q,e,e0,e1⟩=>exact ⟨q,e,e0,by rw [ah (Ne.symm (bL v.oa e1 (by nofun)))]; exact e1⟩
end
inductive dq (M:Hs) (L:List Ta) (z:Str) (root:Nat) (S:Ws) (p:Str):Ws→Option Str→Prop
 | flat {a t}:L[S.here]?=some a→M.ts[S.here]?=some t→t.kd≠("folder" : Str)→dq M L z root S p { S with step:=S.step+1 } (some "flat")
 | n6 {a t}:L[S.here]?=some a→M.ts[S.here]?=some t→t.kd=("folder" : Str)→cW ("g" : Str) (cJ t z)=false→dq M L z root S p { S with step:=S.step+1,asked:=S.asked++[S.here] } (some "shut")
 | dot {a t}:L[S.here]?=some a→M.ts[S.here]?=some t→t.kd=("folder" : Str)→cW ("g" : Str) (cJ t z)=true→p=("." : Str)→dq M L z root S p { S with step:=S.step+1,asked:=S.asked++[S.here] } none
 | dZ {a t b r}:L[S.here]?=some a→M.ts[S.here]?=some t→t.kd=("folder" : Str)→cW ("g" : Str) (cJ t z)=true→p=(".." : Str)→de M S.here b r→fk root (b::r)=true→dq M L z root S p { S with step:=S.step+1,asked:=S.asked++[S.here] } none
 | up {a t b r ab tb f zz af tf b' r'}:L[S.here]?=some a→M.ts[S.here]?=some t→t.kd=("folder" : Str)→cW ("g" : Str) (cJ t z)=true→p=(".." : Str)→de M S.here b r→fk root (b::r)=false→L[b]?=some ab→M.ts[b]?=some tb→tb.c7=[(f,zz)]→L[f]?=some af→M.ts[f]?=some tf→de M f b' r'→dq M L z root S p { S with step:=S.step+1,asked:=S.asked++[S.here],here:=cM b' r' } none
 | no {a t}:L[S.here]?=some a→M.ts[S.here]?=some t→t.kd=("folder" : Str)→cW ("g" : Str) (cJ t z)=true→p≠(".." : Str)→p≠("." : Str)→dR (.str p)=true→p.length≤1000→aN (sD t.aZ) (.inr p)=none→dq M L z root S p { S with step:=S.step+1,asked:=S.asked++[S.here],look:=S.look+1 } (some "none")
 | folder {a t c ac tc b r}:L[S.here]?=some a→M.ts[S.here]?=some t→t.kd=("folder" : Str)→cW ("g" : Str) (cJ t z)=true→p≠(".." : Str)→p≠("." : Str)→dR (.str p)=true→p.length≤1000→aN (sD t.aZ) (.inr p)=some (.int ((c:Nat):Int))→L[c]?=some ac→M.ts[c]?=some tc→tc.kd=("folder" : Str)→de M c b r→dq M L z root S p { S with step:=S.step+1,asked:=S.asked++[S.here],look:=S.look+1,here:=cM b r } none
 | file {a t c ac tc}:L[S.here]?=some a→M.ts[S.here]?=some t→t.kd=("folder" : Str)→cW ("g" : Str) (cJ t z)=true→p≠(".." : Str)→p≠("." : Str)→dR (.str p)=true→p.length≤1000→aN (sD t.aZ) (.inr p)=some (.int ((c:Nat):Int))→L[c]?=some ac→M.ts[c]?=some tc→tc.kd=("file" : Str)→dq M L z root S p { S with step:=S.step+1,asked:=S.asked++[S.here],look:=S.look+1,place:=some (S.here,p),here:=c } none
def PB (CH CS CT CW CF:Addr):Sp:=fN fun x p H Q _=>∃ S H0 A L M dx av lf rd z last,∃ root:Nat,∃ S' o,ba CH CS CT CW S H0 H A L M x dx av lf rd z last root .ax∧S.asked.length≤900∧dq M L z root S p S' o ∧
   (o=none→∀ H',ba CH CS CT CW S' H0 H' A L M x dx av lf rd z last root .ax→Q .ax H') ∧
   (∀ y,o=some y→∀ fd aJ H',ba CH CS CT CW S' H0 H' A L M x dx av lf rd z last root (.ref fd)→H0 fd=none→H' fd=some (.ins CF aJ (fo S'.step y))→Q .ax H')
theorem VB (T:Tx K mg):aA P w K mg base aM 8 T.p9.f T.p9.d ["self", "part"] (PB T.au T.aE T.aG T.bf T.bD):=by
 refine T.p9.F.ok Q9 (fun vs H Q E h=>?_) (fun az A outer s H vs Q E hr h=>?_)
 ·exact cF h fun _ _ _=>rfl
 ·refine cF h fun x p h=>?_;obtain ⟨S,H0,AA,L,M,dx,av,lf,rd,z,last,root,S',o,v,hn,hp,q1,q2⟩:=h;have hb:∃ a t,L[S.here]?=some a∧M.ts[S.here]?=some t:=by
   cases hp <;> exact ⟨_,_,by assumption,by assumption⟩
  obtain ⟨a,t,ha,aO⟩:=hb;refine bC (b:=aU yD) ((Dv.cut (Dv.jP T.aR T.zk kh (Dv.v 0) Dv.int)
  (Dv.cut (Dv.aW (Dv.aY kE (Dv.bh T.aL T.eX.h (mZ T) (hr.mono (by decide)) T.eX.b .nil aw (Dv.fld T.aR T.fA (Dv.v 0)) (Dv.aa (Dv.fld T.aR T.eZ (Dv.v 0)) Dv.ag)) (Dv.glob (.str "folder") T.qw ⟨_,rfl⟩)) (Dv.cut (Dv.aX (Dv.bh T.aR T.gD.h (tj T) (hr.mono (by decide)) T.gD.b .nil aw (Dv.v 0) (Dv.aa Dv.str Dv.ag)))
  (Dv.aj Dv.Dg)) Dv.nil)
  (Dv.cut (Dv.aX (Dv.iA PySem.F.slot_list_append PySem.F.type_list_append jX (Dv.fld T.aR T.zi (Dv.v 0)) (Dv.aa (Dv.fld T.aR T.eZ (Dv.v 0)) Dv.ag)))
  (Dv.aj (Dv.aW (Dv.cw (Dv.cg (Dv.dE T.aL T.jc.h (wI T) (hr.mono (by decide)) T.jc.b .nil eV (Dv.fld T.aR T.fA (Dv.v 0)) (Dv.aa (Dv.fld T.aR T.pJ (Dv.v 0)) (Dv.aa (Dv.fld T.aR T.eZ (Dv.v 0)) (Dv.aa Dv.str Dv.ag)))))) (Dv.aj (Dv.aX (Dv.bh T.aR T.gD.h (tj T) (hr.mono (by decide)) T.gD.b .nil aw (Dv.v 0) (Dv.aa Dv.str Dv.ag)))) (Dv.aj (Dv.aW (Dv.aY cv (Dv.v 1) Dv.str) (Dv.aj (Dv.aX (Dv.nB T.aR T.rG.h (Nv T) (hr.mono (by decide)) T.rG.b .nil aw (Dv.v 0)))) (Dv.aj (Dv.aW (Dv.aY kE (Dv.v 1) Dv.str) (Dv.aj (Dv.aX (Dv.bh T.aR T.qW.h (Ky T) (hr.mono (by decide)) T.qW.b .nil aw (Dv.v 0) (Dv.aa (Dv.v 1) Dv.ag)))) Dv.nil)))))))))) ?_
  refine stI [some (V.ref x),some (V.str p)] ?_;obtain ⟨fs,hx,aV,v1,jN⟩:=v.P1;refine ao ?_;walk_at "w";refine ⟨x,_,_,.int (S.step:Int),rfl,hx,jN,_,_,rfl,rfl,_,_,hx,by omega,ao ?_⟩;generalize upd H x (.ins T.bf dx (ae "step" (.int ((S.step:Int)+1)) fs))=H1 at v1 ⊢;obtain ⟨iJ,vA,bu,jC,cf⟩:=v1.fld;obtain ⟨mH,hc,hh,rY,gR⟩:=v1.m.h;walk_at "w";refine ⟨x,_,_,_,rfl,bu,(cf _).trans rfl,AA.a,_,_,rfl,hh,(gR _).trans rfl,x,_,_,_,rfl,bu,(cf _).trans rfl,AA,L,M,S.here,a,t,v1.m,rfl,rfl,ha,aO,?_⟩;simp only [oV];by_cases bK:t.kd=("folder" : Str)
  ·simp only [bK,decide_true];refine bb ?_;refine ao ?_;walk_at "w";refine ⟨x,_,_,_,rfl,bu,(cf _).trans rfl,?_⟩;simp only [v1.oa];refine ⟨x,_,_,_,rfl,bu,(cf _).trans rfl,?_⟩;have v2:=v1.ask (k:=S.here);refine ⟨gN (by simp; omega),?_⟩;dsimp only at v2;generalize upd H1 av (.lst (nV S.asked++[.int (S.here:Int)]))=H2 at v2 ⊢;obtain ⟨iL,sA,bN,iK,bS⟩:=v2.fld;obtain ⟨mz,gc,gh,mf,ff⟩:=v2.m.h;refine ⟨x,_,_,_,rfl,bN,(bS _).trans rfl,AA.a,_,_,rfl,gh,(ff _).trans rfl,x,_,_,_,rfl,bN,(bS _).trans rfl,x,_,_,_,rfl,bN,(bS _).trans rfl,wR v2.m (by rw [v2.hz]; rfl) (by decide +kernel) aO ?_⟩;cases hp with
   | flat h1 h2 h3=>rw [aO] at h2; cases h2; exact absurd bK h3
   | n6 h1 h2 h3 h4 =>
    rw [aO] at h2; cases h2;rw [h4];exact bM ⟨x,_,_,rfl,bN,(bS _).trans rfl,_,H0,AA,L,M,dx,av,lf,rd,z,last,root,v2,fun fd aJ H' v' f0 hf=>q2 _ rfl fd aJ H' v' f0 hf⟩
   | dot h1 h2 h3 h4 h5 =>
    rw [aO] at h2; cases h2;subst h5;rw [h4];refine bb (bT (decide_eq_false (by decide +kernel)) (bT (by rw [decide_eq_true rfl]; rfl) (q1 rfl _ v2)))
   | dZ h1 h2 h3 h4 h5 h6 h7 =>
    rw [aO] at h2; cases h2;subst h5;rw [h4];exact bb (cb (decide_eq_true rfl) ⟨x,_,_,rfl,bN,(bS _).trans rfl,_,H0,AA,L,M,dx,av,lf,rd,z,last,root,_,_,a,_,v2,ha,aO,h6,.inl ⟨h7,fun H' v'=>q1 rfl H' v'⟩⟩)
   | up h1 h2 h3 h4 h5 h6 h7 h8 h9 dI eJ dj fF =>
    rw [aO] at h2; cases h2;subst h5;rw [h4];exact bb (cb (decide_eq_true rfl) ⟨x,_,_,rfl,bN,(bS _).trans rfl,_,H0,AA,L,M,dx,av,lf,rd,z,last,root,_,_,a,_,v2,ha,aO,h6,.inr ⟨h7,_,_,_,_,_,_,_,_,h8,h9,dI,eJ,dj,fF,fun H' v'=>q1 rfl H' v'⟩⟩)
   | no h1 h2 h3 h4 h5 h6 h7 h8 h9 =>
    rw [aO] at h2; cases h2;rw [h4];exact bb (bT (decide_eq_false h5) (cb (by rw [decide_eq_false h6]; rfl) ⟨x,_,_,rfl,bN,(bS _).trans rfl,_,H0,AA,L,M,dx,av,lf,rd,z,last,root,a,_,v2,ha,aO,h7,h8,.inl ⟨h9,fun fd aJ H' v' f0 hf=>q2 _ rfl fd aJ H' v' f0 hf⟩⟩))
   | folder h1 h2 h3 h4 h5 h6 h7 h8 h9 dI eJ dj fF =>
    rw [aO] at h2; cases h2;rw [h4];exact bb (bT (decide_eq_false h5) (cb (by rw [decide_eq_false h6]; rfl) ⟨x,_,_,rfl,bN,(bS _).trans rfl,_,H0,AA,L,M,dx,av,lf,rd,z,last,root,a,_,v2,ha,aO,h7,h8,.inr ⟨_,_,_,h9,dI,eJ,.inl ⟨dj,_,_,fF,fun H' v'=>q1 rfl H' v'⟩⟩⟩))
   | file h1 h2 h3 h4 h5 h6 h7 h8 h9 dI eJ dj =>
    rw [aO] at h2; cases h2;rw [h4];exact bb (bT (decide_eq_false h5) (cb (by rw [decide_eq_false h6]; rfl) ⟨x,_,_,rfl,bN,(bS _).trans rfl,_,H0,AA,L,M,dx,av,lf,rd,z,last,root,a,_,v2,ha,aO,h7,h8,.inr ⟨_,_,_,h9,dI,eJ,.inr ⟨dj,fun H' v'=>q1 rfl H' v'⟩⟩⟩))
  ·refine cb (by rw [decide_eq_false bK]; rfl) ?_;refine ao ?_;walk_at "w";have hf:S'={ S with step:=S.step+1 }∧o=some ("flat" : Str):=by
    cases hp with
    | flat h1 h2 h3=>exact ⟨rfl,rfl⟩
    | n6 h1 h2 h3 h4=>rw [aO] at h2; cases h2; exact absurd h3 bK
    | dot h1 h2 h3 h4 h5=>rw [aO] at h2; cases h2; exact absurd h3 bK
    | dZ h1 h2 h3 h4 h5 h6 h7=>rw [aO] at h2; cases h2; exact absurd h3 bK
    | up h1 h2 h3 h4 h5 h6 h7 h8 h9 dI eJ dj fF=>rw [aO] at h2; cases h2; exact absurd h3 bK
    | no h1 h2 h3 h4 h5 h6 h7 h8 h9=>rw [aO] at h2; cases h2; exact absurd h3 bK
    | folder h1 h2 h3 h4 h5 h6 h7 h8 h9 dI eJ dj fF=>rw [aO] at h2; cases h2; exact absurd h3 bK
    | file h1 h2 h3 h4 h5 h6 h7 h8 h9 dI eJ dj=>rw [aO] at h2; cases h2; exact absurd h3 bK
   obtain ⟨rfl,rfl⟩:=hf;exact ⟨x,_,_,rfl,bu,(cf _).trans rfl,_,H0,AA,L,M,dx,av,lf,rd,z,last,root,v1,fun fd aJ H' v' f0 hf=>q2 _ rfl fd aJ H' v' f0 hf⟩
theorem wk (c:Nat):∀ (ns:List Str) (n:Nat),(∀ s∈ns,s.length≤8)→ns.foldl (fun n z=>n+z.length+c) n≤n+(8+c) * ns.length
 | [],n,_=>by simp
 | y::r,n,h=>by
  have h1:=h y (by simp);have h2:=wk c r (n+y.length+c) fun s hs=>h s (by simp [hs]);rw [List.foldl_cons,List.length_cons,Nat.mul_add];omega
theorem EF {ns:List Str} (h:∀ s∈ns,s.length≤8) (hl:ns.length≤100):ns.foldl (fun n z=>n+z.length+(Str.ofString "/").length) 0≤900∧(Str.join (Str.ofString "/") ns).length≤900:=by
 have lj:(Str.ofString "/").length=1:=by decide +kernel
 have h1:=wk 1 ns 0 h;have h2:=StrLaws.join_length_le (Str.ofString "/") ns;have h3:(ns.map (·.length)).sum≤8 * ns.length:=by
  clear h1 h2 hl
  induction ns with
  | nil=>simp
  | cons y r ih =>
   have:=ih fun s hs=>h s (by simp [hs]);have h4:=h y (by simp);rw [List.map_cons,List.sum_cons,List.length_cons];omega
 rw [lj] at h2 ⊢;omega
def gi (ns:List Str):Str:=Str.ofString "/" ++ Str.join (Str.ofString "/") ns
def Sj (CH CS CT CW:Addr):Sp:=iw fun x H Q _=>∃ S H0 A L M dx av lf rd z last,∃ (root f:Nat) (a:Ta) (t:Th) (ns bE:List Str) (told:V),ba CH CS CT CW S H0 H A L M x dx av lf rd z last root told∧L[S.here]?=some a∧M.ts[S.here]?=some t ∧
   (t.kd=("folder" : Str)∧f=S.here∧bE=[]∨t.kd≠("folder" : Str)∧∃ nm:Str,S.place=some (f,nm)∧bE=[nm]∧nm.length≤8)∧(∃ m,fU M L root m f ns)∧ns.length≤99∧(∀ s∈ns,s.length≤8)∧∀ H',ai H H'→Q (.str (gi (ns++bE))) H'
theorem MS (T:Tx K mg):aA P w K mg base aM 7 T.qf.f T.qf.d ["self"] (Sj T.au T.aE T.aG T.bf):=by
 refine T.qf.F.ok pQ (fun vs H Q E h=>?_) (fun az A outer s H vs Q E hr h=>?_)
 ·exact dP h fun _ _=>rfl
 ·refine dP h fun x h=>?_;obtain ⟨S,H0,AA,L,M,dx,av,lf,rd,z,last,root,f,a,t,ns,bE,told,v,ha,aO,hk,fH,hl100,Bm,q⟩:=h;refine bC (b:=aU yt) ((Dv.cut (Dv.aS 1 pQ.nd (Dv.lst Dv.ag))
  (Dv.cut (Dv.aS 2 pQ.nd (Dv.fld T.aR T.eZ (Dv.v 0)))
  (Dv.cut (Dv.aW (Dv.aY kE (Dv.bh T.aL T.eX.h (mZ T) (hr.mono (by decide)) T.eX.b .nil aw (Dv.fld T.aR T.fA (Dv.v 0)) (Dv.aa (Dv.fld T.aR T.eZ (Dv.v 0)) Dv.ag)) (Dv.glob (.str "folder") T.qw ⟨_,rfl⟩)) (Dv.cut (Dv.aS 2 pQ.nd (Dv.ix (bq (K:=K) rfl) (Dv.fld T.aR T.tw (Dv.v 0)) Dv.int))
  (Dv.aj (Dv.aS 1 pQ.nd (Dv.lst (Dv.aa (Dv.ix (bq (K:=K) rfl) (Dv.fld T.aR T.tw (Dv.v 0)) Dv.int) Dv.ag))))) Dv.nil)
  (Dv.aj (Dv.aP (Dv.op dQ Dv.str (Dv.l8 PySem.F.slot_str_join PySem.F.type_str_join (wz (K:=K) rfl) Dv.str (Dv.aa (Dv.op dQ (Dv.call (Mp T) (hr.mono (by decide)) T.oA.m T.oA.F.kp T.oA.b .nil aw (Dv.aa (Dv.fld T.aR T.fA (Dv.v 0)) (Dv.aa (Dv.fld T.aR T.pJ (Dv.v 0)) (Dv.aa (Dv.v 2) Dv.ag)))) (Dv.v 1)) Dv.ag))))))))) ?_
  refine stI [some (V.ref x),none,none] ?_;refine ao ?_;walk_at "w";refine ⟨fits (by simp),fun ln va=>?_⟩;have s1:=ai.upd (o:=.lst []) va;have b1:upd H ln (.lst []) ln=some (.lst []):=ay;generalize upd H ln (.lst [])=H1 at s1 b1 ⊢;have v1:=v.same s1;obtain ⟨fs,pv,hx,aV,AH,sf⟩:=v1.o;obtain ⟨mH,hc,hh,rY,gR⟩:=v1.m.h;refine ao ?_;walk_at "w";refine ⟨x,_,_,_,rfl,hx,(sf _).trans rfl,?_⟩;refine en (fun σ' H'=>∃ ln',σ'=[some (V.ref x),some (V.ref ln'),some (V.int (f:Int))]∧ai H H'∧H' ln'=some (.lst (bE.map V.str))∧bE.length≤1∧∀ s∈bE,s.length≤8) ?_ ?_
  ·walk_at "w";refine ⟨x,_,_,_,rfl,hx,(sf _).trans rfl,AA.a,_,_,rfl,hh,(gR _).trans rfl,x,_,_,_,rfl,hx,(sf _).trans rfl,AA,L,M,S.here,a,t,v1.m,rfl,rfl,ha,aO,?_⟩;simp only [oV];rcases hk with ⟨bK,rfl,rfl⟩ | ⟨bK,nm,bg,rfl,bJ⟩
   ·refine bT (by rw [decide_eq_true bK]; rfl) ?_;exact ⟨ln,rfl,s1,b1,by simp,fun s hs=>(by cases hs)⟩
   ·refine cb (by rw [decide_eq_false bK]; rfl) ?_;rw [bg] at AH;obtain ⟨p,rfl,p0,hp⟩:=AH;refine ao ?_;walk_at "w";refine ⟨x,_,_,_,rfl,hx,(sf _).trans rfl,?_⟩;simp only [bG,hp,cU];refine ⟨x,_,_,_,rfl,hx,(sf _).trans rfl,?_⟩;simp only [hp,wF];exact ⟨fits (by simp),fun p2 ej=>⟨p2,rfl,s1.trans (ai.upd ej),by rw [ay]; rfl,by simp,fun s hs=>by rw [List.mem_singleton.mp hs]; exact bJ⟩⟩
  rintro σ' H2 ⟨l2,rfl,s2,b2,rj,h8⟩;have v2:=v.same s2;obtain ⟨iL,sA,bN,iK,bS⟩:=v2.fld;walk_at "w";refine ⟨x,_,_,_,rfl,bN,(bS _).trans rfl,x,_,_,_,rfl,bN,(bS _).trans rfl,AA,L,M,f,root,ns,v2.m,rfl,rfl,v2.hz,fH,by omega,fun l H3 s3 hl=>?_⟩;have c3:=s3 _ _ b2;simp only [hl,c3];have hn8':∀ s∈ns++bE,s.length≤8:=fun s hs=>by
   rcases List.mem_append.mp hs with hs | hs
   ·exact Bm s hs
   ·exact h8 s hs
  obtain ⟨vc,hb2⟩:=EF hn8' (by rw [List.length_append]; omega);have lj:(Str.ofString "/").length=1:=by decide +kernel
  refine ⟨fits (by simp only [List.length_map]; omega),fun p hp=>?_⟩;refine ⟨_,aK.of ay,ns++bE,by simp,?_⟩;exact ⟨fits (by omega),fits (by omega),q _ ((s2.trans s3).trans (ai.upd hp))⟩
section
variable {CH CS CT CW:Addr} {S S':Ws} {H0 H H':Hp} {A:Ad} {L:List Ta} {M:Hs} {x dx av lf rd:Addr} {z:Str} {last:Bool} {root:Nat} {told:V} {p:Str} {o:Option Str}
theorem ba.pop {ts:List (Sum Nat Str)} (v:ba CH CS CT CW S H0 H A L M x dx av lf rd z last root told):ba CH CS CT CW { S with left:=ts } H0 (upd H lf (.lst (ts.map pG))) A L M x dx av lf rd z last root told:=by
 obtain ⟨gs,pv,e,l,p,f⟩:=v.o;refine ⟨v.i,v.s.eA v.l0,v.x0,v.a0,v.l0,v.r0,⟨gs,pv,by rw [ah v.xa.2.1]; exact e,l,?_,f⟩,by rw [ah v.n1]; exact v.oa,ay,by rw [ah (Ne.symm v.n3)]; exact v.od,v.n1,v.n2,v.n3,v.hz⟩;show g9 H0 _ S.place pv;generalize S.place=pl at p ⊢
 match pl,p with
 | none,h=>exact h
 | some (k,nm),⟨q,e,e0,e1⟩=>exact ⟨q,e,e0,by rw [ah (Ne.symm (bL v.ol e1 (by nofun)))]; exact e1⟩
theorem dq.left (h:dq M L z root S p S' o):S'.left=S.left:=by cases h <;> rfl
theorem dq.asked (h:dq M L z root S p S' o):S'.asked.length≤S.asked.length+1:=by
 cases h <;> simp
end
def gm (ps:List Str):List (Sum Nat Str):=(ps.map Sum.inr).reverse
theorem t8 (ps:List Str):(gm ps).map pG=ps.reverse.map V.str:=by
 unfold gm;rw [← List.map_reverse,List.map_map]; rfl
inductive fS (M:Hs) (L:List Ta) (z:Str) (root:Nat):Ws→List Str→Ws→Option Str→Prop
 | done (S):fS M L z root S [] S none
 | step {S p ps S1 S' o}:dq M L z root { S with left:=gm ps } p S1 none→fS M L z root S1 ps S' o→fS M L z root S (p::ps) S' o
 | fail {S p ps S1 y}:dq M L z root { S with left:=gm ps } p S1 (some y)→fS M L z root S (p::ps) S1 (some y)
abbrev og (k:Nat) (ns:List Str):List (Str×V):=ae "way" (.str (gi ns)) (ae "number" (.int (k:Int)) [])
def z6 (M:Hs) (L:List Ta) (root:Nat) (S:Ws) (ns bE:List Str):Prop:=∃ (f:Nat) (a:Ta) (t:Th),L[S.here]?=some a∧M.ts[S.here]?=some t ∧
   (t.kd=("folder" : Str)∧f=S.here∧bE=[]∨t.kd≠("folder" : Str)∧∃ nm:Str,S.place=some (f,nm)∧bE=[nm]∧nm.length≤8)∧(∃ m,fU M L root m f ns)∧ns.length≤99∧(∀ s∈ns,s.length≤8)
def Sf (CH CS CT CW CF CX:Addr):Sp:=iw fun x H Q _=>∃ S H0 A L M dx av lf rd z last,∃ root:Nat,∃ ps:List Str,∃ S' o,ba CH CS CT CW S H0 H A L M x dx av lf rd z last root .ax∧S.left=gm ps∧S.asked.length+ps.length≤900∧fS M L z root S ps S' o ∧
   (∀ y,o=some y→∀ fd aJ H',ba CH CS CT CW S' H0 H' A L M x dx av lf rd z last root (.ref fd)→H0 fd=none→H' fd=some (.ins CX aJ (fo S'.step y))→Q .ax H') ∧
   (o=none→∃ ns bE,z6 M L root S' ns bE∧∀ fd aJ H',ba CH CS CT CW S' H0 H' A L M x dx av lf rd z last root (.ref fd)→H0 fd=none→H' fd=some (.ins CF aJ (og S'.here (ns++bE)))→Q .ax H')
theorem PZ (T:Tx K mg):aA P w K mg base aM 9 T.qg.f T.qg.d ["self"] (Sf T.au T.aE T.aG T.bf T.b7 T.bD):=by
 refine T.qg.F.ok DT (fun vs H Q E h=>?_) (fun az A outer s H vs Q E hr h=>?_)
 ·exact dP h fun _ _=>rfl
 ·refine dP h fun x h=>?_;obtain ⟨S,H0,AA,L,M,dx,av,lf,rd,z,last,root,ps,S',o,v,hle,hlen,dS,q1,q2⟩:=h;refine bC (b:=aU Ah) ((Dv.cut (Dv.iY PassesOwn.never (Dv.dv (Dv.w_and (Dv.aY oy (Dv.fld T.aR T.lI (Dv.v 0)) Dv.ax) (Dv.iz (Dv.aY (sO hr.fV) (Dv.fld T.aR T.qi (Dv.v 0)) (Dv.lst Dv.ag))))) (Dv.cut (Dv.aS 1 DT.nd (Dv.UA PySem.F.slot_list_pop PySem.F.type_list_pop Nd (Dv.fld T.aR T.qi (Dv.v 0))))
  (Dv.aj (Dv.aW (Dv.cg (Dv.call (D9 T) (hr.mono (by decide)) T.ja.m T.ja.F.kp T.ja.b .nil aw (Dv.aa (Dv.v 1) Dv.ag))) (Dv.aj Dv.cK) (Dv.aj (Dv.aX (Dv.bh T.aR T.p9.h (VB T) (hr.mono (by decide)) T.p9.b .nil aw (Dv.v 0) (Dv.aa (Dv.v 1) Dv.ag))))))))
  (Dv.aj (Dv.aW (Dv.aY oy (Dv.fld T.aR T.lI (Dv.v 0)) Dv.ax) (Dv.aj (Dv.bw T.aR T.lI (Dv.v 0) (Dv.make T.Mu (VZ T) (hr.mono (by decide)) T.zl T.qo.b .nil aw (Dv.aa (Dv.fld T.aR T.eZ (Dv.v 0)) (Dv.aa (Dv.nB T.aR T.qf.h (MS T) (hr.mono (by decide)) T.qf.b .nil aw (Dv.v 0)) Dv.ag))))) Dv.nil)))) ?_
  refine stI [some (V.ref x),none] ?_;obtain ⟨PV,kL⟩:∃ PV:Nat→St→Hp→Prop,PV=fun m σ' H'=>∃ pv:Option V,σ'=[some (V.ref x),pv] ∧
    ((∃ S ps,m=ps.length+1∧ba T.au T.aE T.aG T.bf S H0 H' AA L M x dx av lf rd z last root .ax∧S.left=gm ps∧S.asked.length+ps.length≤900∧fS M L z root S ps S' o) ∨
      (∃ y fd aJ,m=0∧o=some y∧ba T.au T.aE T.aG T.bf S' H0 H' AA L M x dx av lf rd z last root (.ref fd)∧H0 fd=none∧H' fd=some (.ins T.bD aJ (fo S'.step y)))):=⟨_,rfl⟩
  refine ao ?_;refine ⟨PV,⟨ps.length+1,by rw [kL]; exact ⟨none,rfl,.inl ⟨S,ps,rfl,v,hle,hlen,dS⟩⟩⟩,?_⟩;clear v hle hlen dS;intro m σ' H' hI;rw [kL] at hI;obtain ⟨pv,rfl,⟨S,ps,hm,v1,hle,hlen,dS⟩ | ⟨y,fd,aJ,hm,ho,v1,f0,br⟩⟩:=hI
  ·walk_at "w";obtain ⟨iJ,vA,bu,jC,cf⟩:=v1.fld;refine ⟨x,_,_,_,rfl,bu,(cf _).trans rfl,by trivial,bM ?_⟩;refine ⟨x,_,_,_,rfl,bu,(cf _).trans rfl,fits (by simp),fun d hd=>?_⟩;have v2:=v1.same (ai.upd (o:=.lst []) hd);have b2:upd H' d (.lst []) d=some (.lst []):=ay;generalize upd H' d (.lst [])=H2 at v2 b2 ⊢;obtain ⟨iL,sA,bN,iK,bS⟩:=v2.fld;cases dS with
   | done =>
    have mw:H2 lf=some (.lst (([]:List Str).map V.str)):=by rw [v2.ol,hle]; rfl
    refine ⟨[],[],mw,b2,bb ?_⟩;refine ⟨x,_,_,_,rfl,bN,(bS _).trans rfl,by trivial,bM ?_⟩;walk_at "w";obtain ⟨ns,bE,⟨f,a,t,h1,h2,h3,h4,h5,h6⟩,q⟩:=q2 rfl;refine ⟨x,_,_,_,rfl,bN,(bS _).trans rfl,x,_,_,rfl,bN,(bS _).trans rfl,_,H0,AA,L,M,dx,av,lf,rd,z,last,root,f,a,t,ns,bE,_,v2,h1,h2,h3,h4,h5,h6,fun H3 s3=>?_⟩;have v3:=v2.same s3;intro fd aJ br hdfd nfd;have s4:=(ai.upd (o:=.own fd) hdfd).trans (ai.upd (p:=fd) (o:=.ins T.b7 aJ []) (by rw [ah (Ne.symm nfd)]; exact br));have b4:upd (upd H3 aJ (.own fd)) fd (.ins T.b7 aJ []) fd=some (.ins T.b7 aJ []):=ay;have v4:=v3.same s4;have f0:=v3.fresh br;obtain ⟨gU,vL,cQ,gP,fi⟩:=v3.fld;have nx:x≠fd:=aF cQ br;have na:av≠fd:=aF v3.oa br;have nl:lf≠fd:=aF v3.ol br;have nr:rd≠fd:=aF v3.od br;generalize upd (upd H3 aJ (.own fd)) fd (.ins T.b7 aJ [])=H4 at s4 b4 v4 ⊢;refine ⟨aJ,b4,rfl,?_⟩;have v5:=v4.off (o':=.ins T.b7 aJ (og S'.here (ns++bE))) f0 b4 nx na nl nr (by nofun);have b5:upd H4 fd (.ins T.b7 aJ (og S'.here (ns++bE))) fd=some (.ins T.b7 aJ (og S'.here (ns++bE))):=ay;generalize upd H4 fd (.ins T.b7 aJ (og S'.here (ns++bE)))=H5 at v5 b5 ⊢;obtain ⟨Ju,gv,pz,v6⟩:=v5.tell (told':=.ref fd);exact ⟨x,_,_,rfl,gv,by omega,q fd aJ _ v6 f0 (by rw [ah (Ne.symm nx)]; exact b5)⟩
   | @step _ p ps S1 _ _ aQ dS =>
    have mw:H2 lf=some (.lst ((ps.reverse++[p]).map V.str)):=by rw [v2.ol,hle,t8,List.reverse_cons]
    refine ⟨ps.reverse++[p],[],mw,b2,?_⟩;rw [decide_eq_false (by simp)];refine bM ⟨_,fun _ _ h=>h,?_⟩;refine ao ?_;walk_at "w";refine ⟨x,_,_,_,rfl,bN,(bS _).trans rfl,?_⟩;simp only [mw];refine ⟨ps.reverse.map V.str,V.str p,by simp,?_⟩;have v3:=v2.pop (ts:=gm ps);rw [t8] at v3;generalize upd H2 lf (.lst (ps.reverse.map V.str))=H3 at v3 ⊢;obtain ⟨gU,vL,cQ,gP,fi⟩:=v3.fld;refine ⟨⟨_,rfl⟩,bb ?_⟩;refine ⟨x,_,_,rfl,cQ,(fi _).trans rfl,_,H0,AA,L,M,dx,av,lf,rd,z,last,root,_,_,v3,by simp at hlen ⊢; omega,aQ,fun _ H4 v4=>⟨ps.length+1,by rw [hm]; simp,?_⟩,fun y hy=>by cases hy⟩;rw [kL];have h1:=aQ.asked;exact ⟨_,rfl,.inl ⟨S1,ps,rfl,v4,aQ.left,by simp at hlen h1 ⊢; omega,dS⟩⟩
   | @fail _ p ps _ y aQ =>
    have mw:H2 lf=some (.lst ((ps.reverse++[p]).map V.str)):=by rw [v2.ol,hle,t8,List.reverse_cons]
    refine ⟨ps.reverse++[p],[],mw,b2,?_⟩;rw [decide_eq_false (by simp)];refine bM ⟨_,fun _ _ h=>h,?_⟩;refine ao ?_;walk_at "w";refine ⟨x,_,_,_,rfl,bN,(bS _).trans rfl,?_⟩;simp only [mw];refine ⟨ps.reverse.map V.str,V.str p,by simp,?_⟩;have v3:=v2.pop (ts:=gm ps);rw [t8] at v3;generalize upd H2 lf (.lst (ps.reverse.map V.str))=H3 at v3 ⊢;obtain ⟨gU,vL,cQ,gP,fi⟩:=v3.fld;refine ⟨⟨_,rfl⟩,bb ?_⟩;refine ⟨x,_,_,rfl,cQ,(fi _).trans rfl,_,H0,AA,L,M,dx,av,lf,rd,z,last,root,_,_,v3,by simp at hlen ⊢; omega,aQ,(fun z=>by cases z),fun y' hy fd aJ H4 v4 f0 hf=>⟨0,by rw [hm]; simp,?_⟩⟩;cases hy;rw [kL];exact ⟨_,rfl,.inr ⟨y,fd,aJ,rfl,rfl,v4,f0,hf⟩⟩
  ·walk_at "w";obtain ⟨iJ,vA,bu,jC,cf⟩:=v1.fld;refine ⟨x,_,_,_,rfl,bu,(cf _).trans rfl,by trivial,?_⟩;refine bT (decide_eq_false (by nofun)) ?_
   first
    | exact ⟨x,_,_,_,rfl,bu,(cf _).trans rfl,by trivial,bT (decide_eq_false (by nofun)) (q1 y ho fd aJ _ v1 f0 br)⟩
    | exact bb ⟨x,_,_,_,rfl,bu,(cf _).trans rfl,by trivial,bT (decide_eq_false (by nofun)) (q1 y ho fd aJ _ v1 f0 br)⟩
    | (walk_at "w"; exact ⟨x,_,_,_,rfl,bu,(cf _).trans rfl,by trivial,bT (decide_eq_false (by nofun)) (q1 y ho fd aJ _ v1 f0 br)⟩)
structure End where
 asked:List Nat
 res:Sum (Nat×List Str) (Nat×Str)
def tT:Sum (Nat×List Str) (Nat×Str)→List (Str×V)
 | .inl (k,ns)=>og k ns
 | .inr (k,y)=>fo k y
def uz (CF CX:Addr):Sum (Nat×List Str) (Nat×Str)→Addr
 | .inl _=>CF
 | .inr _=>CX
structure oS (M:Hs) (L:List Ta) (z:Str) (fr:Bool) (ps:List Str) (e:End):Prop where
 ex:∃ (root st b:Nat) (r:List Nat) (a:Ta) (t:Th) (S':Ws) (o:Option Str),aN (sD M.ro) (.inr z)=some (.int (root:Int))∧(fr=true∧st=root∨fr=false∧aN (sD M.st) (.inr z)=some (.int (st:Int)))∧L[st]?=some a∧M.ts[st]?=some t∧de M st b r∧(∃ m,ir M L root m (cM b r) true) ∧
  fS M L z root ⟨cM b r,none,0,[],gm ps,[],0,0⟩ ps S' o∧e.asked=S'.asked∧(∀ y,o=some y→e.res=.inr (S'.step,y))∧(o=none→∃ ns bE,z6 M L root S' ns bE∧e.res=.inl (S'.here,ns++bE))
 hp:ps.length≤500
def qD (CW CF CX:Addr) (H H':Hp) (e:End) (x:Addr):Prop:=ai H H'∧∃ dx gs fd aJ av,H' x=some (.ins CW dx gs)∧gs.lookup ("told" : Str)=some (.ref fd)∧H' fd=some (.ins (uz CF CX e.res) aJ (tT e.res))∧gs.lookup ("asked" : Str)=some (.ref av)∧H' av=some (.lst (nV e.asked))
theorem qD.of {CW CF CX:Addr} {H H1 H2:Hp} {e:End} {x:Addr} (s:ai H H1) (h:qD CW CF CX H1 H2 e x):qD CW CF CX H H2 e x:=⟨s.trans h.1,h.2⟩
def PU (CH CS CT CW CF CX:Addr):Sp:=C8 fun h z fr lp last H Q _=>∃ A L M ps e,aI CH CS CT H A L M∧A.a=h∧H lp=some (.lst (ps.map V.str))∧oS M L z fr ps e∧∀ x H',qD CW CF CX H H' e x→Q (.ref x) H'
theorem FG (T:Tx K mg):aA P w K mg base aM 10 T.iV.f T.iV.d ["house", "asker", "from_root", "parts", "last"] (PU T.au T.aE T.aG T.bf T.b7 T.bD):=by
 refine T.iV.F.ok B4 (fun vs H Q E h=>?_) (fun az A outer s H vs Q E hr h=>?_)
 ·exact CU h fun _ _ _ _ _ _=>rfl
 ·refine CU h fun hh z fr lp last h=>?_;obtain ⟨AA,L,M,ps,e,i,rfl,fj,g,q⟩:=h;obtain ⟨root,st,b,r,a,t,S',o,hz,aQ,ha,ht,jw,kS,dS,has,mB,kP⟩:=g.ex;refine bC (b:=aU vU) ((Dv.cut (Dv.aS 5 B4.nd (Dv.make T.O1 (MM T) (hr.mono (by decide)) T.NI T.rq.b .nil aw (Dv.aa (Dv.v 0) (Dv.aa (Dv.v 1) (Dv.aa (Dv.v 4) Dv.ag)))))
  (Dv.cut (Dv.aX (Dv.bh T.aR T.ra.h (Rb T) (hr.mono (by decide)) T.ra.b .nil aw (Dv.v 5) (Dv.aa (Dv.v 2) (Dv.aa (Dv.v 3) Dv.ag))))
  (Dv.cut (Dv.aX (Dv.nB T.aR T.qg.h (PZ T) (hr.mono (by decide)) T.qg.b .nil aw (Dv.v 5)))
  (Dv.aj (Dv.aP (Dv.v 5))))))) ?_
  refine stI [some (V.ref AA.a),some (V.str z),some (V.bl fr),some (V.ref lp),some (V.bl last),none] ?_;refine ao ?_;walk_at "w";intro x dx hx jv ndx;have s1:=(ai.upd (o:=.own x) jv).trans (ai.upd (p:=x) (o:=.ins T.bf dx []) (by rw [ah (Ne.symm ndx)]; exact hx));have b1:upd (upd H dx (.own x)) x (.ins T.bf dx []) x=some (.ins T.bf dx []):=ay;generalize upd (upd H dx (.own x)) x (.ins T.bf dx [])=H1 at s1 b1 ⊢;refine ⟨AA,L,M,dx,H,root,i,rfl,b1,s1,hx,hz,fun av lf rd H2 v2=>?_⟩;refine ⟨rfl,ao ?_⟩;walk_at "w";obtain ⟨iL,sA,bN,iK,bS⟩:=v2.fld;refine ⟨x,_,_,rfl,bN,(bS _).trans rfl,_,H,AA,L,M,dx,av,lf,rd,z,last,root,st,b,ps,r,a,t,true,v2,v2.s _ _ fj,aQ,ha,ht,jw,kS,fun _ lf' H3 v3=>ao ?_,fun z=>by cases z⟩;walk_at "w";obtain ⟨gU,vL,cQ,gP,fi⟩:=v3.fld;refine ⟨x,_,_,rfl,cQ,(fi _).trans rfl,_,H,AA,L,M,dx,av,lf',rd,z,last,root,ps,S',o,v3,rfl,by have:=g.hp; simp; omega,dS,fun y hy fd aJ H4 v4 f0 br=>?_,fun ho=>?_⟩
  ·obtain ⟨r8,pv4,jH,AW,sI⟩:=v4.fld;have he:=mB y hy;exact q x H4 ⟨v4.s,dx,r8,fd,aJ,av,jH,(sI _).trans rfl,by rw [he]; exact br,(sI _).trans rfl,by rw [has]; exact v4.oa⟩
  ·obtain ⟨ns,bE,ht,he⟩:=kP ho;refine ⟨ns,bE,ht,fun fd aJ H4 v4 f0 br=>?_⟩;obtain ⟨r8,pv4,jH,AW,sI⟩:=v4.fld;exact q x H4 ⟨v4.s,dx,r8,fd,aJ,av,jH,(sI _).trans rfl,by rw [he]; exact br,(sI _).trans rfl,by rw [has]; exact v4.oa⟩
structure eM (M:Hs) (L:List Ta) (z:Str) (t:List Nat) (e:End):Prop where
 l1:1≤t.length
 l2:t.length≤2000
 all:(Tx.words 47 t).all bZ=true
 g:oS M L z (dG t) ((told (Tx.words 47 t) t).map Tx.S) e
theorem eM.hz {M:Hs} {L:List Ta} {z:Str} {t:List Nat} {e:End} (p:eM M L z t e):(aN (sD M.ro) (.inr z)).isSome=true:=by
 obtain ⟨root,st,b,r,a,t,S',o,hz,_⟩:=p.g.ex;rw [hz]; rfl
theorem Fz (ps:List (List Nat)):PV ps=(ps.map Tx.S).map V.str:=by
 unfold PV
 first | rfl | simp [List.map_map,Function.comp_def]
def Qx (CH CS CT CW CF CX:Addr):Sp:=ox fun h z pt last H Q _=>∃ A L M t e,pt=Tx.S t∧aI CH CS CT H A L M∧A.a=h∧eM M L z t e∧∀ x H',qD CW CF CX H H' e x→Q (.ref x) H'
theorem Ed (T:Tx K mg):aA P w K mg base aM 11 T.iT.f T.iT.d ["house", "asker", "path", "last"] (Qx T.au T.aE T.aG T.bf T.b7 T.bD):=by
 refine T.iT.F.ok Gs (fun vs H Q E h=>?_) (fun az A outer s H vs Q E hr h=>?_)
 ·exact iD h fun _ _ _ _ _=>rfl
 ·refine iD h fun hh z pt last h=>?_;obtain ⟨AA,L,M,t,e,rfl,i,rfl,pg,q⟩:=h;obtain ⟨mH,hc,hh,rY,gR⟩:=i.h;refine bC (b:=aU zK) ((Dv.cut (Dv.aX (Dv.dE T.aL T.dY.h (kW T) (hr.mono (by decide)) T.dY.b .nil eV (Dv.v 0) (Dv.aa (Dv.v 1) Dv.ag)))
  (Dv.cut (Dv.aS 4 Gs.nd (Dv.call (m8 T) (hr.mono (by decide)) T.da.m T.da.F.kp T.da.b .nil aw (Dv.aa (Dv.v 2) Dv.ag)))
  (Dv.aj (Dv.aP (Dv.call (FG T) (hr.mono (by decide)) T.iV.m T.iV.F.kp T.iV.b .nil aw (Dv.aa (Dv.v 0) (Dv.aa (Dv.v 1) (Dv.aa (Dv.ix (bq (K:=K) rfl) (Dv.v 4) Dv.int) (Dv.aa (Dv.ix (bq (K:=K) rfl) (Dv.v 4) Dv.int) (Dv.aa (Dv.v 3) Dv.ag))))))))))) ?_
  refine stI [some (V.ref AA.a),some (V.str z),some (V.str (Tx.S t)),some (V.bl last),none] ?_;refine ao ?_;walk_at "w";refine ⟨AA.a,_,_,rfl,hh,(gR _).trans rfl,oX i pg.hz (ao ?_)⟩;walk_at "w";refine ⟨t,rfl,pg.l1,pg.l2,pg.all,fun H1 l p s1 _ hl hp=>?_⟩;simp only [bG,hp];walk_at "w";rw [show cq [V.bl (dG t),V.ref l] 0=some (V.bl (dG t)) from rfl,show cq [V.bl (dG t),V.ref l] 1=some (V.ref l) from rfl];rw [Fz] at hl;exact ⟨AA,L,M,_,e,i.same s1,rfl,hl,pg.g,fun x H2 f=>q x H2 (f.of s1)⟩
def K2 (CH CS CT CF CX:Addr):Sp:=ox fun h z pt last H Q _=>∃ A L M t e,pt=Tx.S t∧aI CH CS CT H A L M∧A.a=h∧eM M L z t e∧∀ fd aJ H',ai H H'→H' fd=some (.ins (uz CF CX e.res) aJ (tT e.res))→Q (.ref fd) H'
theorem pT (T:Tx K mg):aA P w K mg base aM 12 T.Az T.vk ["house", "asker", "path", "last"] (K2 T.au T.aE T.aG T.b7 T.bD):=by
 refine T.i8.ok Kb (fun vs H Q E h=>?_) (fun az A outer s H vs Q E hr h=>?_)
 ·exact iD h fun _ _ _ _ _=>rfl
 ·refine iD h fun hh z pt last h=>?_;obtain ⟨AA,L,M,t,e,rfl,i,rfl,pg,q⟩:=h;refine bC (b:=aU rH) ((Dv.aj (Dv.aP (Dv.fld T.aR T.lI (Dv.call (Ed T) (hr.mono (by decide)) T.iT.m T.iT.F.kp T.iT.b .nil aw (Dv.aa (Dv.v 0) (Dv.aa (Dv.v 1) (Dv.aa (Dv.v 2) (Dv.aa (Dv.v 3) Dv.ag))))))))) ?_;refine stI [some (V.ref AA.a),some (V.str z),some (V.str (Tx.S t)),some (V.bl last)] ?_;walk_at "w";refine ⟨AA,L,M,t,e,rfl,i,rfl,pg,fun x H1 ⟨s1,dx,gs,fd,aJ,av,hx,vF,br,qR,fJ⟩=>?_⟩;exact ⟨x,_,_,_,rfl,hx,vF,q fd aJ H1 s1 br⟩
def Q8 (CH CS CT:Addr):Sp:=ox fun h z pt last H Q _=>∃ A L M t e,pt=Tx.S t∧aI CH CS CT H A L M∧A.a=h∧eM M L z t e∧∀ av H',ai H H'→H' av=some (.lst (nV e.asked))→Q (.ref av) H'
theorem DF (T:Tx K mg):aA P w K mg base aM 12 T.AD T.u7 ["house", "asker", "path", "last"] (Q8 T.au T.aE T.aG):=by
 refine T.rp.ok LF (fun vs H Q E h=>?_) (fun az A outer s H vs Q E hr h=>?_)
 ·exact iD h fun _ _ _ _ _=>rfl
 ·refine iD h fun hh z pt last h=>?_;obtain ⟨AA,L,M,t,e,rfl,i,rfl,pg,q⟩:=h;refine bC (b:=aU rA) ((Dv.aj (Dv.aP (Dv.fld T.aR T.zi (Dv.call (Ed T) (hr.mono (by decide)) T.iT.m T.iT.F.kp T.iT.b .nil aw (Dv.aa (Dv.v 0) (Dv.aa (Dv.v 1) (Dv.aa (Dv.v 2) (Dv.aa (Dv.v 3) Dv.ag))))))))) ?_;refine stI [some (V.ref AA.a),some (V.str z),some (V.str (Tx.S t)),some (V.bl last)] ?_;walk_at "w";refine ⟨AA,L,M,t,e,rfl,i,rfl,pg,fun x H1 ⟨s1,dx,gs,fd,aJ,av,hx,vF,br,qR,fJ⟩=>?_⟩;exact ⟨x,_,_,_,rfl,hx,qR,q av H1 s1 fJ⟩
theorem t9 (T:Tx K mg):aA P w K mg base aM 1 T.kx.f T.kx.d ["self", "reason"] (j4 T.dU "reason"):=by
 refine T.kx.F.ok OP (fun vs H Q E h=>?_) (fun az A outer s H vs Q E hr h=>?_)
 ·unfold j4 at h;split at h
  ·rfl
  ·exact h.elim
 ·unfold j4 at h;split at h
  ·rename_i ea y;obtain ⟨he,q⟩:=h;refine ⟨_,((Dv.aj (Dv.C6 T.rM (Dv.v 0) (Dv.v 1)))).h,?_⟩;refine stI [some (.ref ea),some y] ?_;walk_at "rd";exact ⟨ea,rfl,he,q⟩
  ·exact h.elim
theorem Sy (T:Tx K mg):aA P w K mg base aM 1 T.pL.f T.pL.d ["self", "told"] (j4 T.dw "told"):=by
 refine T.pL.F.ok O4 (fun vs H Q E h=>?_) (fun az A outer s H vs Q E hr h=>?_)
 ·unfold j4 at h;split at h
  ·rfl
  ·exact h.elim
 ·unfold j4 at h;split at h
  ·rename_i ea y;obtain ⟨he,q⟩:=h;refine ⟨_,((Dv.aj (Dv.C6 T.D4 (Dv.v 0) (Dv.v 1)))).h,?_⟩;refine stI [some (.ref ea),some y] ?_;walk_at "rd";exact ⟨ea,rfl,he,q⟩
  ·exact h.elim
def Kl (CF CX CN:Addr):Sp:=iw fun fd H Q E=>∃ aJ e,H fd=some (.ins (uz CF CX e) aJ (tT e))∧(∀ k ns,e=.inl (k,ns)→Q (.int (k:Int)) H)∧∀ k y,e=.inr (k,y)→∀ d,H d=none→E (.ref CN) (some d) (upd H d (.xd [("told",.ref fd)]))
theorem B3 (T:Tx K mg):aA P w K mg base (cB P w) 3 T.i6.f T.i6.d ["told"] (Kl T.b7 T.bD T.dw):=by
 refine T.i6.F.dF MZ (fun vs H Q E h=>?_) (fun az A outer s H vs Q E hr h=>?_)
 ·exact dP h fun _ _=>rfl
 ·refine dP h fun fd h=>?_;obtain ⟨aJ,e,br,q1,q2⟩:=h;refine bC (b:=aU yA) ((Dv.cut (Dv.aW (Dv.cw (Dv.cg (Dv.cD (rC (K:=K) rfl) T.fv fq (Dv.aa (Dv.v 0) (Dv.aa (Dv.glob (.ref T.b7) T.zl rfl) Dv.ag))))) (Dv.aj (Dv.rJ pM rfl rfl T.RN T.D4 T.Pp (Sy T) (hr.mono (by decide)) T.pL.b (Dv.aa (Dv.v 0) Dv.ag))) Dv.nil)
  (Dv.aj (Dv.aP (Dv.fld T.iy T.xR (Dv.v 0)))))) ?_
  refine stI [some (V.ref fd)] ?_;refine ao ?_;walk_at "w";rcases e with ⟨k,ns⟩ | ⟨k,y⟩
  ·exact ⟨_,_,_,.of (.ins br T.iy T.q1 T.q2 T.q3 T.q4),.cls T.q5,bb ⟨fd,aJ,_,_,rfl,br,rfl,q1 k ns rfl⟩⟩
  ·exact ⟨_,_,_,.of (.ins br T.jt T.q6 T.q2 T.q3 T.q7),.cls T.q8,bM ⟨_,rfl,fun d hd=>q2 k y rfl d hd⟩⟩
def RC (CH CS CT CX CN:Addr):Sp:=lP fun h z pt H Q E=>∃ A L M t e,pt=Tx.S t∧aI CH CS CT H A L M∧A.a=h∧eM M L z t e∧(∀ k ns,e.res=.inl (k,ns)→∀ H',ai H H'→Q (.int (k:Int)) H') ∧
   ∀ k y,e.res=.inr (k,y)→∀ fd aJ d H',ai H H'→H' fd=some (.ins CX aJ (fo k y))→H' d=none→E (.ref CN) (some d) (upd H' d (.xd [("told",.ref fd)]))
theorem Ga (T:Tx K mg):aA P w K mg base (cB P w) 13 T.jo.f T.jo.d ["house", "asker", "path"] (RC T.au T.aE T.aG T.bD T.dw):=by
 refine T.jo.F.dF Pj (fun vs H Q E h=>?_) (fun az A outer s H vs Q E hr h=>?_)
 ·exact gg h fun _ _ _ _=>rfl
 ·refine gg h fun hh z pt h=>?_;obtain ⟨AA,L,M,t,e,rfl,i,rfl,pg,q1,q2⟩:=h;refine bC (b:=aU yC) ((Dv.aj (Dv.aP (Dv.ee (B3 T) (hr.mono (by decide)) T.i6.m T.i6.F.kp T.i6.b .nil du (Dv.aa (Dv.call (pT T) (hr.mono (by decide)) T.qT T.i8.kp T.pW (.cons (show RelV (.bl true) _ from rfl) .nil) aw (Dv.aa (Dv.v 0) (Dv.aa (Dv.v 1) (Dv.aa (Dv.v 2) Dv.ag)))) Dv.ag))))) ?_;refine stI [some (V.ref AA.a),some (V.str z),some (V.str (Tx.S t))] ?_;walk_at "w";refine ⟨AA,L,M,t,e,rfl,i,rfl,pg,fun fd aJ H1 s1 br=>?_⟩;exact ⟨aJ,e.res,br,fun k ns he=>q1 k ns he H1 s1,fun k y he d hd=>q2 k y he fd aJ d H1 s1 (by rw [he] at br; exact br) hd⟩
theorem K5 (T:Tx K mg):aA P w K mg base aM 4 T.oP.f T.oP.d ["house", "number"] (nI T.au T.aE T.aG Ad.a fun _ _ _ _ _ t H Q=>Q (.bl (decide (t.kd=("folder" : Str)))) H):=by
 refine T.oP.F.ok Ra (fun vs H Q E h=>?_) (fun az A outer s H vs Q E hr h=>?_)
 ·exact cx h fun _ _ _=>rfl
 ·refine cx h fun x n h=>?_;obtain ⟨AA,L,M,k,a,t,i,rfl,rfl,ha,aO,q⟩:=h;obtain ⟨fs,c,hx,aV,sf⟩:=i.h;refine ⟨_,((Dv.aj (Dv.aP (Dv.cmp cv (Dv.bh T.aL T.eX.h (mZ T) (hr.mono (by decide)) T.eX.b .nil aw (Dv.v 0) (Dv.aa (Dv.v 1) Dv.ag)) (Dv.glob (.str "folder") T.qw ⟨_,rfl⟩))))).h,?_⟩;refine stI [some (V.ref AA.a),some (V.int (k:Int))] ?_;walk_at "w";exact ⟨AA.a,_,_,rfl,hx,(sf _).trans rfl,AA,L,M,k,a,t,i,rfl,rfl,ha,aO,q⟩
def VA (CH CS CT CX CN CD:Addr):Sp:=lP fun h z pt H Q E=>∃ A L M t e,pt=Tx.S t∧aI CH CS CT H A L M∧A.a=h∧eM M L z t e ∧
   (∀ k ns,e.res=.inl (k,ns)→∃ a t,L[k]?=some a∧M.ts[k]?=some t∧(t.kd=("folder" : Str)→∀ H',ai H H'→Q (.int (k:Int)) H')∧(t.kd≠("folder" : Str)→∀ d H',ai H H'→H' d=none→E (.ref CD) (some d) (upd H' d (.xd [("reason",.str "file")])))) ∧
   ∀ k y,e.res=.inr (k,y)→∀ fd aJ d H',ai H H'→H' fd=some (.ins CX aJ (fo k y))→H' d=none→E (.ref CN) (some d) (upd H' d (.xd [("told",.ref fd)]))
theorem Vg (T:Tx K mg):aA P w K mg base (cB P w) 14 T.oN.f T.oN.d ["house", "asker", "path"] (VA T.au T.aE T.aG T.bD T.dw T.dU):=by
 refine T.oN.F.dF DE (fun vs H Q E h=>?_) (fun az A outer s H vs Q E hr h=>?_)
 ·exact gg h fun _ _ _ _=>rfl
 ·refine gg h fun hh z pt h=>?_;obtain ⟨AA,L,M,t,e,rfl,i,rfl,pg,q1,q2⟩:=h;refine bC (b:=aU wD) ((Dv.cut (Dv.aS 3 DE.nd (Dv.ee (Ga T) (hr.mono (by decide)) T.jo.m T.jo.F.kp T.jo.b .nil du (Dv.aa (Dv.v 0) (Dv.aa (Dv.v 1) (Dv.aa (Dv.v 2) Dv.ag)))))
  (Dv.cut (Dv.aW (Dv.cw (Dv.cg (Dv.call (K5 T) (hr.mono (by decide)) T.oP.m T.oP.F.kp T.oP.b .nil aw (Dv.aa (Dv.v 0) (Dv.aa (Dv.v 3) Dv.ag))))) (Dv.aj (Dv.rJ pM rfl rfl T.tP T.rM T.uC (t9 T) (hr.mono (by decide)) T.kx.b (Dv.aa Dv.str Dv.ag))) Dv.nil)
  (Dv.aj (Dv.aP (Dv.v 3)))))) ?_
  refine stI [some (V.ref AA.a),some (V.str z),some (V.str (Tx.S t)),none] ?_;refine ao ?_;walk_at "w";refine ⟨AA,L,M,t,e,rfl,i,rfl,pg,fun k ns he H1 s1=>?_,fun k y he fd aJ d H1 s1 hf hd=>q2 k y he fd aJ d H1 s1 hf hd⟩;obtain ⟨a,t',ha,ht,r1,r2⟩:=q1 k ns he;refine ao ?_;walk_at "w";refine ⟨AA,L,M,k,a,t',i.same s1,rfl,rfl,ha,ht,?_⟩;dsimp only;by_cases hk:t'.kd=("folder" : Str)
  ·rw [decide_eq_true hk];exact bb (r1 hk _ s1)
  ·rw [decide_eq_false hk];exact bM ⟨_,rfl,fun d hd=>r2 hk d H1 s1 hd⟩
inductive Rf
 | fz (y:Str)
 | way (k:Nat) (y:Str)
def ed (CX CN CD:Addr) (H:Hp) (E:XK):Rf→Prop
 | .fz y=>∀ d H',ai H H'→H' d=some (.xd [("reason",.str y)])→E (.ref CD) (some d) H'
 | .way k y=>∀ fd aJ d H',ai H H'→H' fd=some (.ins CX aJ (fo k y))→H' d=some (.xd [("told",.ref fd)])→E (.ref CN) (some d) H'
theorem ed.of {CX CN CD:Addr} {H H1:Hp} {E:XK} {r:Rf} (s:ai H H1) (h:ed CX CN CD H E r):ed CX CN CD H1 E r:=by
 cases r with
 | fz y=>exact fun d H' s' e=>h d H' (s.trans s') e
 | way k y=>exact fun fd aJ d H' s' e1 e2=>h fd aJ d H' (s.trans s') e1 e2
theorem ed.raise {CX CN CD:Addr} {H H1:Hp} {E:XK} {y:Str} {d:Addr} (h:ed CX CN CD H E (.fz y)) (s:ai H H1) (hd:H1 d=none):E (.ref CD) (some d) (upd H1 d (.xd [("reason",.str y)])):=h d _ (s.trans (ai.upd hd)) ay
inductive iu (ps:List (List Nat)):Option (List (List Nat)×List Nat)→Prop
 | nil:ps=[]→iu ps none
 | pR {q nm}:ps=q++[nm]→isNm nm=false→nm.length≤8→iu ps none
 | FL {q nm}:ps=q++[nm]→isNm nm=true→iu ps (some (q,nm))
structure fW (t:List Nat):Prop where
 l1:1≤t.length
 l2:t.length≤2000
 all:(Tx.words 47 t).all bZ=true
def Nh (CX CN CD:Addr):Sp:=jd fun pt H Q E=>∃ t r,pt=Tx.S t∧fW t∧iu (told (Tx.words 47 t) t) r∧(∀ x,r=some x→∀ H',ai H H'→Q .ax H')∧(r=none→ed CX CN CD H E (.fz "dots"))
theorem uR {w:List Nat} (h:isNm w=true):47 ∉ w∧w≠[]∧1≤w.length∧w.length≤8:=by
 have hp:bZ w=true:=by unfold bZ; rw [h]; simp
 obtain ⟨h1,h2,_⟩:=Dm h;exact ⟨(nJ hp).1,(nJ hp).2.1,h1,h2⟩
theorem HI {w:List Nat} {b:Bool} (h:isNm w=b):dR (.str (Tx.S w))=b:=by
 show isNm (Tx.S w).cps.toList=b;rw [Tx.hV]; exact h
theorem xj {w:List Nat} (h:isNm w=true):dR (.str (Tx.S w))=true:=HI h
theorem N2 (T:Tx K mg):aA P w K mg base (cB P w) 4 T.mS.f T.mS.d ["path"] (Nh T.bD T.dw T.dU):=by
 refine T.mS.F.dF EK (fun vs H Q E h=>?_) (fun az A outer s H vs Q E hr h=>?_)
 ·exact eB h fun _ _=>rfl
 ·refine eB h fun pt h=>?_;obtain ⟨t,r,rfl,sp,hs,q1,q2⟩:=h;refine bC (b:=aU wJ) ((Dv.cut (Dv.aS 1 EK.nd (Dv.ix (bq (K:=K) rfl) (Dv.call (m8 T) (hr.mono (by decide)) T.da.m T.da.F.kp T.da.b .nil aw (Dv.aa (Dv.v 0) Dv.ag)) Dv.int))
  (Dv.aj (Dv.aW (Dv.dv (Dv.w_or (Dv.aY (xI hr.fV) (Dv.v 1) (Dv.lst Dv.ag)) (Dv.hZ (Dv.cw (Dv.cg (Dv.call (yH T) (hr.mono (by decide)) T.gj.m T.gj.F.kp T.gj.b .nil aw (Dv.aa (Dv.ix (bq (K:=K) rfl) (Dv.v 1) (Dv.un ie Dv.int)) Dv.ag))))))) (Dv.aj (Dv.rJ pM rfl rfl T.tP T.rM T.uC (t9 T) (hr.mono (by decide)) T.kx.b (Dv.aa Dv.str Dv.ag))) Dv.nil)))) ?_
  refine stI [some (V.str (Tx.S t)),none] ?_;refine ao ?_;walk_at "w";refine ⟨t,rfl,sp.l1,sp.l2,sp.all,fun H1 l p s1 _ hl hp=>?_⟩;simp only [bG,hp];rw [show cq [V.bl (dG t),V.ref l] 1=some (V.ref l) from rfl];refine ⟨fits (by simp),fun d hd=>?_⟩;have s2:=ai.upd (o:=.lst []) hd;have b2:upd H1 d (.lst []) d=some (.lst []):=ay;generalize upd H1 d (.lst [])=H2 at s2 b2 ⊢;have ck:=s2 _ _ hl;cases hs with
  | nil e =>
   rw [e] at ck;exact ⟨[],[],ck,b2,cb (decide_eq_true rfl) ⟨_,rfl,fun d' hd'=>(q2 rfl).raise (s1.trans s2) hd'⟩⟩
  | @pR qs nm e hn hl8 =>
   rw [e] at ck;have gI:H2 l=some (.lst (PV qs++[V.str (Tx.S nm)])):=by rw [ck]; simp [PV]
   refine ⟨qs.map Tx.S++[Tx.S nm],[],by rw [gI]; simp [PV],b2,?_⟩;rw [decide_eq_false (by simp)];refine bb ?_;simp only [gI,jr];refine ⟨⟨_,rfl⟩,by show (Tx.S nm).length≤1000; rw [Tx.bX]; omega,fun H3 s3=>?_⟩;rw [HI hn];exact bM ⟨_,rfl,fun d' hd'=>(q2 rfl).raise ((s1.trans s2).trans s3) hd'⟩
  | @FL qs nm e hn =>
   rw [e] at ck;obtain ⟨h1,h2,h3,h4⟩:=uR hn;have gI:H2 l=some (.lst (PV qs++[V.str (Tx.S nm)])):=by rw [ck]; simp [PV]
   refine ⟨qs.map Tx.S++[Tx.S nm],[],by rw [gI]; simp [PV],b2,?_⟩;rw [decide_eq_false (by simp)];refine bb ?_;simp only [gI,jr];refine ⟨⟨_,rfl⟩,by show (Tx.S nm).length≤1000; rw [Tx.bX]; omega,fun H3 s3=>?_⟩;rw [xj hn];exact bb (q1 _ rfl _ ((s1.trans s2).trans s3))
theorem tS {H H':Hp} {x:Addr} (s:ai H H') (h:H' x=none):H x=none:=by
 cases e:H x with
 | none=>rfl
 | some o=>rw [s _ _ e] at h; cases h
abbrev uU (f:Nat) (nm:List Nat):List (Str×V):=ae "name" (.str (Tx.S nm)) (ae "folder" (.int (f:Int)) [])
inductive jf (M:Hs) (L:List Ta) (z:Str) (t:List Nat):Sum Rf (Nat×List Nat)→Prop
 | pR:iu (told (Tx.words 47 t) t) none→jf M L z t (.inl (.fz "dots"))
 | way {q nm e k y}:iu (told (Tx.words 47 t) t) (some (q,nm))→q.length≤400→oS M L z (dG t) (q.map Tx.S++[("." : Str)]) e→e.res=.inr (k,y)→jf M L z t (.inl (.way k y))
 | CP {q nm e f ns}:iu (told (Tx.words 47 t) t) (some (q,nm))→q.length≤400→oS M L z (dG t) (q.map Tx.S++[("." : Str)]) e→e.res=.inl (f,ns)→jf M L z t (.inr (f,nm))
def SS (CH CS CT CE CX CN CD:Addr):Sp:=lP fun h z pt H Q E=>∃ A L M t r,pt=Tx.S t∧fW t∧aI CH CS CT H A L M∧A.a=h∧jf M L z t r∧(∀ x,r=.inl x→ed CX CN CD H E x) ∧
   ∀ f nm,r=.inr (f,nm)→∀ x dx H',H x=none→ai H H'→H' x=some (.ins CE dx (uU f nm))→Q (.ref x) H'
theorem OO (T:Tx K mg):aA P w K mg base (cB P w) 11 T.oi.f T.oi.d ["house", "asker", "path"] (SS T.au T.aE T.aG T.gy T.bD T.dw T.dU):=by
 refine T.oi.F.dF xV (fun vs H Q E h=>?_) (fun az A outer s H vs Q E hr h=>?_)
 ·exact gg h fun _ _ _ _=>rfl
 ·refine gg h fun hh z pt h=>?_;obtain ⟨AA,L,M,t,r,rfl,sp,i,rfl,g,q1,q2⟩:=h;refine bC (b:=aU yS) ((Dv.cut (Dv.aX (Dv.ee (N2 T) (hr.mono (by decide)) T.mS.m T.mS.F.kp T.mS.b .nil du (Dv.aa (Dv.v 2) Dv.ag)))
  (Dv.cut (Dv.aS 3 xV.nd (Dv.call (m8 T) (hr.mono (by decide)) T.da.m T.da.F.kp T.da.b .nil aw (Dv.aa (Dv.v 2) Dv.ag)))
  (Dv.cut (Dv.aS 4 xV.nd (Dv.call (FG T) (hr.mono (by decide)) T.iV.m T.iV.F.kp T.iV.b .nil aw (Dv.aa (Dv.v 0) (Dv.aa (Dv.v 1) (Dv.aa (Dv.ix (bq (K:=K) rfl) (Dv.v 3) Dv.int) (Dv.aa (Dv.op dQ (Dv.slice (xM (K:=K) rfl) (Dv.ix (bq (K:=K) rfl) (Dv.v 3) Dv.int) Dv.tE (Dv.nG (Dv.un ie Dv.int))) (Dv.lst (Dv.aa Dv.str Dv.ag))) (Dv.aa Dv.bl Dv.ag)))))))
  (Dv.aj (Dv.aP (Dv.make T.N5 (Up T) (hr.mono (by decide)) T.Tw T.qY.b .nil aw (Dv.aa (Dv.ee (B3 T) (hr.mono (by decide)) T.i6.m T.i6.F.kp T.i6.b .nil du (Dv.aa (Dv.fld T.aR T.lI (Dv.v 4)) Dv.ag)) (Dv.aa (Dv.ix (bq (K:=K) rfl) (Dv.ix (bq (K:=K) rfl) (Dv.v 3) Dv.int) (Dv.un ie Dv.int)) Dv.ag))))))))) ?_
  refine stI [some (V.ref AA.a),some (V.str z),some (V.str (Tx.S t)),none,none] ?_;refine ao ?_;walk_at "w";have hs:(r=.inl (.fz "dots")∧iu (told (Tx.words 47 t) t) none)∨∃ qs nm e,iu (told (Tx.words 47 t) t) (some (qs,nm))∧qs.length≤400∧oS M L z (dG t) (qs.map Tx.S++[("." : Str)]) e∧(∀ k y,e.res=.inr (k,y)→r=.inl (.way k y))∧∀ f ns,e.res=.inl (f,ns)→r=.inr (f,nm):=by
   cases g with
   | pR h=>exact .inl ⟨rfl,h⟩
   | way h1 h2 h3 h4=>exact .inr ⟨_,_,_,h1,h2,h3,fun k y e=>(by rw [h4] at e; cases e; rfl),fun f ns e=>by rw [h4] at e; cases e⟩
   | CP h1 h2 h3 h4=>exact .inr ⟨_,_,_,h1,h2,h3,fun k y e=>(by rw [h4] at e; cases e),fun f ns e=>by rw [h4] at e; cases e; rfl⟩
  rcases hs with ⟨rfl,hs⟩ | ⟨qs,nm,e,hs,hq,g,r1,r2⟩
  ·exact ⟨t,none,rfl,sp,hs,(fun x e=>by cases e),fun _=>q1 _ rfl⟩
  refine ⟨t,_,rfl,sp,hs,fun x _ H1 s1=>ao ?_,fun e=>by cases e⟩;have he:told (Tx.words 47 t) t=qs++[nm]:=by cases hs; assumption
  walk_at "w";refine ⟨t,rfl,sp.l1,sp.l2,sp.all,fun H2 l p s2 _ hl hp=>ao ?_⟩;rw [he,show PV (qs++[nm])=PV qs++[V.str (Tx.S nm)] from by simp [PV]] at hl;walk_at "w";simp only [bG,hp];rw [show cq [V.bl (dG t),V.ref l] 1=some (V.ref l) from rfl,show cq [V.bl (dG t),V.ref l] 0=some (V.bl (dG t)) from rfl]
  try dsimp only
  refine ⟨_,aK.of hl,fun p1 mx=>?_⟩;rw [NG];refine ⟨fits (by simp),fun p2 ej=>?_⟩;have s3:=(ai.upd (o:=.lst (PV qs)) mx).trans (ai.upd (o:=.lst [V.str (Str.ofString ".")]) ej);have n12:p1≠p2:=aF (ay (o:=.lst (PV qs))) ej;have b3:upd (upd H2 p1 (.lst (PV qs))) p2 (.lst [V.str (Str.ofString ".")]) p1=some (.lst (PV qs)):=by rw [ah n12,ay]
  have b4:upd (upd H2 p1 (.lst (PV qs))) p2 (.lst [V.str (Str.ofString ".")]) p2=some (.lst [V.str (Str.ofString ".")]):=ay;generalize upd (upd H2 p1 (.lst (PV qs))) p2 (.lst [V.str (Str.ofString ".")])=H3 at s3 b3 b4 ⊢;simp only [b3,b4];refine ⟨fits (by simp; omega),fun p3 hp3=>?_⟩;have s4:=s3.trans (ai.upd (o:=.lst (PV qs++[V.str (Str.ofString ".")])) hp3);have b5:upd H3 p3 (.lst (PV qs++[V.str (Str.ofString ".")])) p3=some (.lst (PV qs++[V.str (Str.ofString ".")])):=ay;generalize upd H3 p3 (.lst (PV qs++[V.str (Str.ofString ".")]))=H4 at s4 b5 ⊢;refine ⟨AA,L,M,qs.map Tx.S++[("." : Str)],e,i.same ((s1.trans s2).trans s4),rfl,by rw [b5]; simp [PV],g,?_⟩;rintro x H5 ⟨s5,dx,gs,fd,aJ,av,hx,vF,br,qR,fJ⟩;have gp:=((s1.trans s2).trans s4).trans s5;refine ⟨x,_,_,_,rfl,hx,vF,aJ,_,br,fun k ns hk=>?_,fun k y hk d hd=>?_⟩
  ·have Bc:=(s4.trans s5) _ _ hp;have pz:=(s4.trans s5) _ _ hl;simp only [Bc];rw [show cq [V.bl (dG t),V.ref l] 1=some (V.ref l) from rfl];simp only [pz,jr]
   try dsimp only
   intro y dy hy hdy ndy;refine ⟨dy,ay,rfl,?_⟩;rw [ki];exact q2 _ _ (r2 _ _ hk) y dy _ (tS gp hy) (gp.trans ((ai.upd (o:=.own y) hdy).trans (ai.upd (p:=y) (by rw [ah (Ne.symm ndy)]; exact hy)))) ay
  ·rw [hk] at br;exact q1 _ (r1 _ _ hk) fd aJ d _ (gp.trans (ai.upd hd)) (by rw [ah (aF br hd)]; exact br) ay
def OR (CH CS CT CX CN CD:Addr):Sp:=D6 fun h z n r y H Q E=>∃ A L M t,∃ k:Nat,n=(k:Int)∧aI CH CS CT H A L M∧A.a=h∧(aN (sD M.ro) (.inr z)).isSome=true∧ik (.str r)=true∧M.ts[k]?=some t∧(cW r (cJ t z)=true→Q .ax H)∧(cW r (cJ t z)=false→ed CX CN CD H E (.fz y))
theorem UO (T:Tx K mg):aA P w K mg base (cB P w) 4 T.nM.f T.nM.d ["house", "asker", "number", "right", "reason"] (OR T.au T.aE T.aG T.bD T.dw T.dU):=by
 refine T.nM.F.dF OD (fun vs H Q E h=>?_) (fun az A outer s H vs Q E hr h=>?_)
 ·exact BY h fun _ _ _ _ _ _=>rfl
 ·refine BY h fun hh z n r rs h=>?_;obtain ⟨AA,L,M,t,k,rfl,i,rfl,hz,gz,ht,q1,q2⟩:=h;obtain ⟨mz,gc,gh,mf,ff⟩:=i.h;refine bC (b:=aU xn) ((Dv.aj (Dv.aW (Dv.cw (Dv.cg (Dv.dE T.aL T.jc.h (wI T) (hr.mono (by decide)) T.jc.b .nil du (Dv.v 0) (Dv.aa (Dv.v 1) (Dv.aa (Dv.v 2) (Dv.aa (Dv.v 3) Dv.ag)))))) (Dv.aj (Dv.rJ pM rfl rfl T.tP T.rM T.uC (t9 T) (hr.mono (by decide)) T.kx.b (Dv.aa (Dv.v 4) Dv.ag))) Dv.nil))) ?_;refine stI [some (V.ref AA.a),some (V.str z),some (V.int (k:Int)),some (V.str r),some (V.str rs)] ?_;walk_at "w";refine ⟨AA.a,_,_,rfl,gh,(ff _).trans rfl,wR i hz gz ht ?_⟩;cases hm:cW r (cJ t z) with
  | true=>exact bb (q1 hm)
  | false=>exact bM ⟨_,rfl,fun d hd=>(q2 hm).raise (fun _ _ e=>e) hd⟩
def RV (CH CS CT CX CN CD:Addr):Sp:=km fun h z n H Q E=>∃ A L M t,∃ k:Nat,n=(k:Int)∧aI CH CS CT H A L M∧A.a=h∧(aN (sD M.ro) (.inr z)).isSome=true∧M.ts[k]?=some t∧(cW ("w" : Str) (cJ t z)=true→Q .ax H)∧(cW ("w" : Str) (cJ t z)=false→ed CX CN CD H E (.fz "kept"))
theorem Sw (T:Tx K mg):aA P w K mg base (cB P w) 5 T.nF.f T.nF.d ["house", "asker", "folder"] (RV T.au T.aE T.aG T.bD T.dw T.dU):=by
 refine T.nF.F.dF UE (fun vs H Q E h=>?_) (fun az A outer s H vs Q E hr h=>?_)
 ·exact fc h fun _ _ _ _=>rfl
 ·refine fc h fun hh z n h=>?_;obtain ⟨AA,L,M,t,k,rfl,i,rfl,hz,ht,q1,q2⟩:=h;refine bC (b:=aU vT) ((Dv.aj (Dv.aX (Dv.ee (UO T) (hr.mono (by decide)) T.nM.m T.nM.F.kp T.nM.b .nil du (Dv.aa (Dv.v 0) (Dv.aa (Dv.v 1) (Dv.aa (Dv.v 2) (Dv.aa Dv.str (Dv.aa Dv.str Dv.ag))))))))) ?_;refine stI [some (V.ref AA.a),some (V.str z),some (V.int (k:Int))] ?_;walk_at "w";exact ⟨AA,L,M,t,k,rfl,i,rfl,hz,by decide +kernel,ht,q1,q2⟩
def Pb (CH CS CT CE:Addr):Sp:=uB fun h x H Q _=>∃ A L M a t dx nm,∃ k:Nat,aI CH CS CT H A L M∧A.a=h∧H x=some (.ins CE dx (uU k nm))∧isNm nm=true∧L[k]?=some a∧M.ts[k]?=some t∧∀ H',ai H H'→Q ((aN (sD t.aZ) (.inr (Tx.S nm))).getD .ax) H'
theorem MG (T:Tx K mg):aA P w K mg base aM 5 T.nO.f T.nO.d ["house", "seat"] (Pb T.au T.aE T.aG T.gy):=by
 refine T.nO.F.ok LQ (fun vs H Q E h=>?_) (fun az A outer s H vs Q E hr h=>?_)
 ·exact oW h fun _ _ _=>rfl
 ·refine oW h fun hh x h=>?_;obtain ⟨AA,L,M,a,t,dx,nm,k,i,rfl,hx,hn,ha,ht,q⟩:=h;obtain ⟨mz,gc,gh,mf,ff⟩:=i.h;obtain ⟨h1,h2,h3,h4⟩:=uR hn;refine bC (b:=aU zB) ((Dv.aj (Dv.aP (Dv.bh T.aL T.iR.h (xB T) (hr.mono (by decide)) T.iR.b .nil aw (Dv.v 0) (Dv.aa (Dv.fld T.lC T.sV (Dv.v 1)) (Dv.aa (Dv.fld T.lC T.yN (Dv.v 1)) Dv.ag)))))) ?_;refine stI [some (V.ref AA.a),some (V.ref x)] ?_;walk_at "w";exact ⟨AA.a,_,_,rfl,gh,(ff _).trans rfl,x,_,_,_,rfl,hx,rfl,x,_,_,_,rfl,hx,rfl,AA,L,M,k,a,t,i,rfl,rfl,ha,ht,xj hn,by rw [Tx.bX]; omega,q⟩
def MJ (CH CS CT CE CX CN CD:Addr):Sp:=uB fun h x H Q E=>∃ A L M a t dx nm,∃ k:Nat,aI CH CS CT H A L M∧A.a=h∧H x=some (.ins CE dx (uU k nm))∧isNm nm=true∧L[k]?=some a∧M.ts[k]?=some t∧(aN (sD t.aZ) (.inr (Tx.S nm))=none→∀ H',ai H H'→Q .ax H')∧(∀ c:Int,aN (sD t.aZ) (.inr (Tx.S nm))=some (.int c)→ed CX CN CD H E (.fz "there"))
theorem Cv {l:List (Str×Nat)} {z:Key} {v:V} (h:aN (sD l) z=some v):∃ c:Nat,v=.int (c:Int):=by
 unfold aN at h;obtain ⟨kv,h1,rfl⟩:=Option.map_eq_some_iff.mp h;obtain ⟨e,_,rfl⟩:=List.mem_map.mp (List.mem_of_find?_eq_some h1);exact ⟨_,rfl⟩
theorem Oj (T:Tx K mg):aA P w K mg base (cB P w) 6 T.oM.f T.oM.d ["house", "seat"] (MJ T.au T.aE T.aG T.gy T.bD T.dw T.dU):=by
 refine T.oM.F.dF Ro (fun vs H Q E h=>?_) (fun az A outer s H vs Q E hr h=>?_)
 ·exact oW h fun _ _ _=>rfl
 ·refine oW h fun hh x h=>?_;obtain ⟨AA,L,M,a,t,dx,nm,k,i,rfl,hx,hn,ha,ht,q1,q2⟩:=h;refine bC (b:=aU ye) ((Dv.aj (Dv.aW (Dv.aY lV (Dv.call (MG T) (hr.mono (by decide)) T.nO.m T.nO.F.kp T.nO.b .nil aw (Dv.aa (Dv.v 0) (Dv.aa (Dv.v 1) Dv.ag))) Dv.ax) (Dv.aj (Dv.rJ pM rfl rfl T.tP T.rM T.uC (t9 T) (hr.mono (by decide)) T.kx.b (Dv.aa Dv.str Dv.ag))) Dv.nil))) ?_;refine stI [some (V.ref AA.a),some (V.ref x)] ?_;walk_at "w";refine ⟨AA,L,M,a,t,dx,nm,k,i,rfl,hx,hn,ha,ht,fun H1 s1=>?_⟩;cases hv:aN (sD t.aZ) (.inr (Tx.S nm)) with
  | none=>exact ⟨by trivial,bb (q1 hv H1 s1)⟩
  | some v =>
   obtain ⟨c,rfl⟩:=Cv hv;exact ⟨by trivial,bM ⟨_,rfl,fun d hd=>(q2 _ hv).raise s1 hd⟩⟩
inductive lH (M:Hs) (L:List Ta) (z:Str) (t:List Nat):Sum Rf (Nat×List Nat)→Prop
 | no {x}:jf M L z t (.inl x)→lH M L z t (.inl x)
 | kept {f nm tf}:jf M L z t (.inr (f,nm))→M.ts[f]?=some tf→cW ("w" : Str) (cJ tf z)=false→lH M L z t (.inl (.fz "kept"))
 | there {f nm a tf c}:jf M L z t (.inr (f,nm))→isNm nm=true→L[f]?=some a→M.ts[f]?=some tf→cW ("w" : Str) (cJ tf z)=true→aN (sD tf.aZ) (.inr (Tx.S nm))=some (.int (c:Int))→lH M L z t (.inl (.fz "there"))
 | free {f nm a tf}:jf M L z t (.inr (f,nm))→isNm nm=true→L[f]?=some a→M.ts[f]?=some tf→cW ("w" : Str) (cJ tf z)=true→aN (sD tf.aZ) (.inr (Tx.S nm))=none→lH M L z t (.inr (f,nm))
def Rz (CH CS CT CE CX CN CD:Addr):Sp:=lP fun h z pt H Q E=>∃ A L M t r,pt=Tx.S t∧fW t∧aI CH CS CT H A L M∧A.a=h∧(aN (sD M.ro) (.inr z)).isSome=true∧lH M L z t r∧(∀ x,r=.inl x→ed CX CN CD H E x) ∧
   ∀ f nm,r=.inr (f,nm)→∀ x dx H',H x=none→ai H H'→H' x=some (.ins CE dx (uU f nm))→Q (.ref x) H'
theorem GZ (T:Tx K mg):aA P w K mg base (cB P w) 12 T.iU.f T.iU.d ["house", "asker", "path"] (Rz T.au T.aE T.aG T.gy T.bD T.dw T.dU):=by
 refine T.iU.F.dF Fd (fun vs H Q E h=>?_) (fun az A outer s H vs Q E hr h=>?_)
 ·exact gg h fun _ _ _ _=>rfl
 ·refine gg h fun hh z pt h=>?_;obtain ⟨AA,L,M,t,r,rfl,sp,i,rfl,Bn,g,q1,q2⟩:=h;refine bC (b:=aU zE) ((Dv.cut (Dv.aS 3 Fd.nd (Dv.ee (OO T) (hr.mono (by decide)) T.oi.m T.oi.F.kp T.oi.b .nil du (Dv.aa (Dv.v 0) (Dv.aa (Dv.v 1) (Dv.aa (Dv.v 2) Dv.ag)))))
  (Dv.cut (Dv.aX (Dv.ee (Sw T) (hr.mono (by decide)) T.nF.m T.nF.F.kp T.nF.b .nil du (Dv.aa (Dv.v 0) (Dv.aa (Dv.v 1) (Dv.aa (Dv.fld T.lC T.sV (Dv.v 3)) Dv.ag)))))
  (Dv.cut (Dv.aX (Dv.ee (Oj T) (hr.mono (by decide)) T.oM.m T.oM.F.kp T.oM.b .nil du (Dv.aa (Dv.v 0) (Dv.aa (Dv.v 3) Dv.ag))))
  (Dv.aj (Dv.aP (Dv.v 3))))))) ?_
  refine stI [some (V.ref AA.a),some (V.str z),some (V.str (Tx.S t)),none] ?_;refine ao ?_;walk_at "w";cases g with
  | no g=>exact ⟨AA,L,M,t,_,rfl,sp,i,rfl,g,fun x e=>(by cases e; exact q1 _ rfl),fun f nm e=>by cases e⟩
  | kept g mJ hw =>
   refine ⟨AA,L,M,t,_,rfl,sp,i,rfl,g,fun x e=>(by cases e),fun f nm e=>?_⟩;cases e;intro x dx H1 fx s1 hx;refine ao ?_;walk_at "w";exact ⟨x,_,_,_,rfl,hx,rfl,AA,L,M,_,_,rfl,i.same s1,rfl,Bn,mJ,fun e=>(by rw [hw] at e; cases e),fun _=>(q1 _ rfl).of s1⟩
  | there g hn Bu mJ hw hv =>
   refine ⟨AA,L,M,t,_,rfl,sp,i,rfl,g,fun x e=>(by cases e),fun f nm e=>?_⟩;cases e;intro x dx H1 fx s1 hx;refine ao ?_;walk_at "w";refine ⟨x,_,_,_,rfl,hx,rfl,AA,L,M,_,_,rfl,i.same s1,rfl,Bn,mJ,fun _=>ao ?_,fun e=>by rw [hw] at e; cases e⟩;walk_at "w";exact ⟨AA,L,M,_,_,dx,_,_,i.same s1,rfl,hx,hn,Bu,mJ,fun e=>(by rw [hv] at e; cases e),fun _ _=>(q1 _ rfl).of s1⟩
  | free g hn Bu mJ hw hv =>
   refine ⟨AA,L,M,t,_,rfl,sp,i,rfl,g,fun x e=>(by cases e),fun f nm e=>?_⟩;cases e;intro x dx H1 fx s1 hx;refine ao ?_;walk_at "w";refine ⟨x,_,_,_,rfl,hx,rfl,AA,L,M,_,_,rfl,i.same s1,rfl,Bn,mJ,fun _=>ao ?_,fun e=>by rw [hw] at e; cases e⟩;walk_at "w";exact ⟨AA,L,M,_,_,dx,_,_,i.same s1,rfl,hx,hn,Bu,mJ,fun _ H2 s2=>q2 _ _ rfl x dx H2 fx (s1.trans s2) (s2 _ _ hx),fun _ e=>by rw [hv] at e; cases e⟩
def KI:Sp:=jd fun z H Q _=>z.length≤60∧Q (.bl true) H
def OW:Sp:=jd fun z H Q _=>z.length≤60∧Q .ax H
theorem QM (T:Tx K mg):aA P w K mg base aM 1 T.oK.f T.oK.d ["text"] KI:=by
 refine T.oK.F.ok UD (fun vs H Q E h=>?_) (fun az A outer s H vs Q E hr h=>?_)
 ·exact eB h fun _ _=>rfl
 ·refine eB h fun z h=>?_;obtain ⟨hz,q⟩:=h;refine ⟨_,((Dv.aj (Dv.aP (Dv.z8 (Dv.cD js T.fv fq (Dv.aa (Dv.v 0) (Dv.aa (Dv.jm (.ty "str") T.jW ko rfl) Dv.ag))) (Dv.one (Dv.cmp oj (Dv.cD (kb (K:=K) rfl) T.iS PySem.boot_len (Dv.aa (Dv.v 0) Dv.ag)) (Dv.glob (.int 60) T.Qg ⟨_,rfl⟩))))))).h,?_⟩;refine stI [some (V.str z)] ?_;walk_at "w";refine ⟨by decide,bM ⟨fits (by omega),?_⟩⟩;rw [decide_eq_true (show (z.length:Int)≤60 by omega)];exact q
theorem Rk (T:Tx K mg):aA P w K mg base aM 2 T.ot.f T.ot.d ["text"] OW:=by
 refine T.ot.F.ok Ly (fun vs H Q E h=>?_) (fun az A outer s H vs Q E hr h=>?_)
 ·exact eB h fun _ _=>rfl
 ·refine eB h fun z h=>?_;obtain ⟨hz,q⟩:=h;refine ⟨_,((Dv.aj (Dv.aW (Dv.cw (Dv.cg (Dv.call (QM T) (hr.mono (by decide)) T.oK.m T.oK.F.kp T.oK.b .nil aw (Dv.aa (Dv.v 0) Dv.ag)))) (Dv.aj Dv.cK) Dv.nil))).h,?_⟩;refine stI [some (V.str z)] ?_;walk_at "w";exact ⟨hz,bb q⟩
theorem S3 (T:Tx K mg):aA P w K mg base aM 4 T.qJ.f T.qJ.d ["self", "owner", "text", "mine", "rest"] (RK T.aE T.aG):=by
 refine T.qJ.F.ok SV (fun vs H Q E h=>?_) (fun az A outer s H vs Q E hr h=>?_)
 ·exact HH h fun _ _ _ _ _ _=>rfl
 ·refine HH h fun x ow tx mi re h=>?_;obtain ⟨dt,ml,rs,at',rQ,q⟩:=h;obtain ⟨fs,c,hx,aV,sf⟩:=at'.o;refine ⟨_,((Dv.aj (Dv.aP (Dv.bh T.b9 T.lE.h (Dx T) (hr.mono (by decide)) T.lE.b .nil aw (Dv.v 0) (Dv.aa (Dv.glob (.str "file") T.yp ⟨_,rfl⟩) (Dv.aa (Dv.v 1) (Dv.aa (Dv.v 3) (Dv.aa (Dv.v 4) (Dv.aa (Dv.v 2) Dv.ag))))))))).h,?_⟩;refine stI [some (.ref x),some ow,some tx,some mi,some re] ?_;walk_at "w";exact ⟨x,dt,fs,rfl,hx,(sf _).trans rfl,dt,ml,rs,at',rQ,q⟩
theorem UT (T:Tx K mg):aA P w K mg base aM 3 T.qe.f T.qe.d ["self", "number"] (nI T.au T.aE T.aG Ad.a R9):=by
 refine T.qe.F.ok P5 (fun vs H Q E h=>?_) (fun az A outer s H vs Q E hr h=>?_)
 ·exact cx h fun _ _ _=>rfl
 ·refine cx h fun x n h=>?_;obtain ⟨AA,L,M,k,a,t,i,rfl,rfl,ha,aO,q⟩:=h;obtain ⟨fs,c,hx,aV,sf⟩:=i.h;obtain ⟨gs,c2,ht,dH,sg⟩:=i.t;have cS:=fC i ha aO;obtain ⟨ks,ho,jJ,so⟩:=cS.o;refine ⟨_,((Dv.aj (Dv.aP (Dv.fld T.cT T.wA (Dv.dE T.b9 T.df.h (jg T) (hr.mono (by decide)) T.df.b .nil eV (Dv.fld T.aL T.f9 (Dv.v 0)) (Dv.aa (Dv.v 1) Dv.ag)))))).h,?_⟩;refine stI [some (V.ref AA.a),some (V.int (k:Int))] ?_;walk_at "w";exact ⟨AA.a,_,_,.ref AA.t,rfl,hx,(sf _).trans rfl,AA.t,_,_,rfl,ht,(sg _).trans rfl,ke i ha aO ⟨a.th,_,_,_,rfl,ho,(so _).trans rfl,q⟩⟩
def VE (CH CS CT:Addr):Sp:=EB fun x n m r H Q _=>∃ A L M,∃ k:Nat,∃ a t,aI CH CS CT H A L M∧A.t=x∧n=(k:Int)∧L[k]?=some a∧M.ts[k]?=some t ∧
   ∀ H',aI CH CS CT H' A L { M with ts:=M.ts.set k { t with mi:=m,re:=r } }→Kp [A.t,a.th] H H'→Q .ax H'
theorem So (T:Tx K mg):aA P w K mg base aM 3 T.qc.f T.qc.d ["self", "number", "mine", "rest"] (VE T.au T.aE T.aG):=by
 refine T.qc.F.ok Ei (fun vs H Q E h=>?_) (fun az A outer s H vs Q E hr h=>?_)
 ·exact Fy h fun _ _ _ _ _=>rfl
 ·refine Fy h fun x n m r h=>?_;obtain ⟨AA,L,M,k,a,t,i,rfl,rfl,ha,aO,q⟩:=h;obtain ⟨fs,c,hx,aV,sf⟩:=i.h;obtain ⟨gs,c2,ht,dH,sg⟩:=i.t;have cS:=fC i ha aO;obtain ⟨ks,ho,jJ,so⟩:=cS.o;have off:=i.lN ha;have n1:AA.t≠a.th:=off _ (by simp [Ad.w]) _ (by simp [Ta.l]);have n2:AA.a≠a.th:=off _ (by simp [Ad.w]) _ (by simp [Ta.l]);have n3:=i.own ha;refine ⟨_,((Dv.cut (Dv.aS 4 Ei.nd (Dv.dE T.b9 T.df.h (jg T) (hr.mono (by decide)) T.df.b .nil eV (Dv.v 0) (Dv.aa (Dv.v 1) Dv.ag)))
  (Dv.cut (Dv.jP T.b9 T.ui kh (Dv.v 0) Dv.int)
  (Dv.cut (Dv.bw T.cT T.zX (Dv.v 4) (Dv.v 2))
  (Dv.aj (Dv.bw T.cT T.vZ (Dv.v 4) (Dv.v 3))))))).h,?_⟩
  refine stI [some (V.ref AA.t),some (V.int (k:Int)),some (V.str m),some (V.str r),none] ?_;refine ao ?_;walk_at "w";refine ⟨AA.t,_,_,rfl,ht,(sg _).trans rfl,ke i ha aO ?_⟩;refine ao ?_;walk_at "w";refine ⟨AA.t,_,_,.int c2,rfl,ht,(sg _).trans rfl,_,_,rfl,rfl,_,_,ht,by omega,ao ?_⟩;walk_at "w";refine ⟨a.th,_,_,rfl,by rw [ah (Ne.symm n1)]; exact ho,by omega,?_⟩;walk_at "w";refine ⟨a.th,_,_,rfl,ay,by rw [dN (u:=.str t.mi) ((so _).trans rfl)]; omega,?_⟩;refine q _ (i.write (t':={ t with mi:=m,re:=r }) ha ⟨fs,c,by rw [ah n2,ah n2,ah i.aT]; exact hx,aV,sf⟩ ⟨_,c2+1,by rw [ah n1,ah n1,ay],by rw [dN (u:=.int c2) ((sg _).trans rfl)]; exact dH,fun f=>by rw [(sg.put "changes" (.int (c2+1))) f]; rfl⟩ ⟨⟨_,ay,?_,fun f=>((so.put "mine" (.str m)).put "rest" (.str r) f).trans rfl⟩,?_,?_⟩ (fun b o hb e=>?_)) (fun b o hb e=>?_)
  ·rw [dN (u:=.str t.re) (by rw [dk,if_neg (by decide)]; exact (so _).trans rfl),dN (u:=.str t.mi) ((so _).trans rfl)]; exact jJ
  ·rw [ah (Ne.symm n3.1),ah (Ne.symm n3.1),ah (Ne.symm (off _ (by simp [Ad.w]) _ (by simp [Ta.l])))]; exact cS.nm
  ·rw [ah (Ne.symm n3.2.1),ah (Ne.symm n3.2.1),ah (Ne.symm (off _ (by simp [Ad.w]) _ (by simp [Ta.l])))]; exact cS.pl
  ·simp only [List.mem_cons,List.not_mem_nil,or_false,not_or] at hb;rw [ah hb.2.2.1,ah hb.2.2.1,ah hb.2.1]; exact e
  ·simp only [List.mem_cons,List.not_mem_nil,or_false,not_or] at hb;rw [ah hb.2,ah hb.2,ah hb.1]; exact e
section
variable {CH CS CT:Addr} {H H':Hp} {A:Ad} {L:List Ta} {M:Hs}
theorem aI.some (i:aI CH CS CT H A L M):∀ b∈A.w++L.flatMap Ta.l,∃ o,H b=.some o:=fun b hb=>by
 rcases List.mem_append.mp hb with h | h
 ·simp only [Ad.w,List.mem_cons,List.not_mem_nil,or_false] at h;rcases h with rfl | rfl | rfl | rfl | rfl | rfl | rfl | rfl
  ·obtain ⟨_,_,e,_⟩:=i.h; exact ⟨_,e⟩
  ·obtain ⟨_,_,e,_⟩:=i.t; exact ⟨_,e⟩
  ·exact ⟨_,i.ml⟩
  ·exact ⟨_,i.ro⟩
  ·exact ⟨_,i.st⟩
  ·exact ⟨_,i.tr⟩
  ·exact ⟨_,i.ov⟩
  ·exact ⟨_,i.un⟩
 ·obtain ⟨a,ha,hb⟩:=List.mem_flatMap.mp h;obtain ⟨k,hk⟩:=List.getElem?_of_mem ha;have bU:k < M.ts.length:=by rw [← i.len]; exact (List.getElem?_eq_some_iff.mp hk).1
  obtain ⟨a',e1,t⟩:=i.th k _ (List.getElem?_eq_getElem bU);rw [hk] at e1;cases e1;simp only [Ta.l,List.mem_cons,List.not_mem_nil,or_false] at hb;rcases hb with rfl | rfl | rfl
  ·obtain ⟨_,e,_⟩:=t.o; exact ⟨_,e⟩
  ·exact ⟨_,t.nm⟩
  ·exact ⟨_,t.pl⟩
theorem aI.add {th cI nm pl:Addr} {ks:List (Str×V)} {kd ow mi re tx:Str} (i:aI CH CS CT H A L M) (f1:H th=none) (f2:H nm=none) (f3:H pl=none) (at':kC CS H' A.t A.dt A.ml ((L.map fun a=>V.ref a.th)++[.ref th])) (aO:H' th=Option.some (.ins CT cI ks)) (kl:ks.length≤40)
  (sk:cA ks (qy (.int (L.length:Nat)) (.str kd) (.str ow) (.str mi) (.str re) (.str tx) (.ref nm) (.ref pl))) (bJ:H' nm=Option.some (.dK [])) (bg:H' pl=Option.some (.dT [])) (kp:Kp [A.t,A.ml] H H') :
  aI CH CS CT H' A (L++[⟨th,cI,nm,pl⟩]) { M with ts:=M.ts++[⟨kd,ow,mi,re,tx,[],[]⟩] }:=by
 have nd:=i.nd;have sm:=i.some;have nw:∀ b∈A.w++L.flatMap Ta.l,b≠th∧b≠nm∧b≠pl:=fun b hb=>by
  obtain ⟨o,e⟩:=sm b hb;exact ⟨aF e f1,aF e f2,aF e f3⟩
 have dj:th≠nm:=bL aO bJ (by nofun);have fF:th≠pl:=bL aO bg (by nofun);have h23:nm≠pl:=bL bJ bg (by nofun);have n0:=nd;rw [List.nodup_append] at n0;obtain ⟨n1,n2,n3⟩:=n0;simp only [Ad.w,List.nodup_cons,List.mem_cons,List.not_mem_nil,or_false,not_or] at n1;have kA:∀ b∈[A.a,A.ro,A.st,A.tr,A.ov,A.un],b ∉ [A.t,A.ml]:=by
  intro b hb hm;simp only [List.mem_cons,List.not_mem_nil,or_false] at hb hm;rcases hb with rfl | rfl | rfl | rfl | rfl | rfl <;> rcases hm with h | h
  ·exact n1.1.1 h
  ·exact n1.1.2.1 h
  ·exact n1.2.1.2.1 h.symm
  ·exact n1.2.2.1.1 h.symm
  ·exact n1.2.1.2.2.1 h.symm
  ·exact n1.2.2.1.2.1 h.symm
  ·exact n1.2.1.2.2.2.1 h.symm
  ·exact n1.2.2.1.2.2.1 h.symm
  ·exact n1.2.1.2.2.2.2.1 h.symm
  ·exact n1.2.2.1.2.2.2.1 h.symm
  ·exact n1.2.1.2.2.2.2.2 h.symm
  ·exact n1.2.2.1.2.2.2.2 h.symm
 refine ⟨?_,at'.o,?_,by simp [i.len],fun j t e=>?_,kp _ _ (kA _ (by simp)) i.ro,kp _ _ (kA _ (by simp)) i.st,kp _ _ (kA _ (by simp)) i.tr,kp _ _ (kA _ (by simp)) i.ov,kp _ _ (kA _ (by simp)) i.un,?_⟩
 ·obtain ⟨fs,c,e,r⟩:=i.h;exact ⟨fs,c,kp _ _ (kA _ (by simp)) e,r⟩
 ·rw [at'.ml]; simp
 ·have e':(M.ts++[(⟨kd,ow,mi,re,tx,[],[]⟩:Th)])[j]?=.some t:=e;by_cases hj:j < M.ts.length
  ·rw [List.getElem?_append_left hj] at e';obtain ⟨a,e1,h1⟩:=i.th j t e';refine ⟨a,by rw [List.getElem?_append_left (by rw [i.len]; exact hj)]; exact e1,h1.keep kp fun b hb hm=>?_⟩;have mK:=iB e1 hb;simp only [List.mem_cons,List.not_mem_nil,or_false] at hm;rcases hm with rfl | rfl
   ·exact n3 _ (by simp [Ad.w]) _ mK rfl
   ·exact n3 _ (by simp [Ad.w]) _ mK rfl
  ·rw [List.getElem?_append_right (by omega)] at e';have hj0:j - M.ts.length=0:=by
    rcases Nat.eq_zero_or_pos (j - M.ts.length) with h | h
    ·exact h
    ·rw [List.getElem?_eq_none (by simp; omega)] at e'; cases e'
   rw [hj0] at e';cases e';have Br:j=L.length:=by rw [i.len]; omega
   subst Br;exact ⟨_,by rw [List.getElem?_append_right (Nat.le_refl _),Nat.sub_self]; rfl,⟨⟨ks,aO,kl,sk⟩,bJ,bg⟩⟩
 ·rw [List.flatMap_append,← List.append_assoc,List.nodup_append];refine ⟨nd,?_,fun b hb c hc e=>?_⟩
  ·simp only [List.flatMap_cons,List.flatMap_nil,List.append_nil,Ta.l,List.nodup_cons,List.mem_cons,List.not_mem_nil,or_false,not_or,not_false_eq_true,List.nodup_nil,and_true];exact ⟨⟨dj,fF⟩,h23⟩
  ·obtain ⟨q1,q2,q3⟩:=nw b hb;simp only [List.flatMap_cons,List.flatMap_nil,List.append_nil,Ta.l,List.mem_cons,List.not_mem_nil,or_false] at hc;rcases hc with h | h | h
   ·exact q1 (e.trans h)
   ·exact q2 (e.trans h)
   ·exact q3 (e.trans h)
end
def GO (CH CS CT CE:Addr):Sp:=C5 fun h x n H Q _=>∃ A L M,∃ f k:Nat,∃ af tf ak tk dx nm,aI CH CS CT H A L M∧A.a=h∧H x=some (.ins CE dx (ae "name" (.str nm) (ae "folder" (.int (f:Int)) [])))∧n=(k:Int)∧L[f]?=some af∧M.ts[f]?=some tf∧L[k]?=some ak∧M.ts[k]?=some tk∧f≠k∧aN (sD tf.aZ) (.inr nm)=none∧tf.aZ.length≤500∧tk.c7=[] ∧
   ∀ H',aI CH CS CT H' A L { M with ts:=(M.ts.set f { tf with aZ:=tf.aZ++[(nm,k)] }).set k { tk with c7:=[(f,nm)] } }→Kp [A.t,af.nm,ak.pl] H H'→Q (.int (k:Int)) H'
theorem GL (T:Tx K mg):aA P w K mg base aM 6 T.jl.f T.jl.d ["house", "seat", "number"] (GO T.au T.aE T.aG T.gy):=by
 refine T.jl.F.ok KQ (fun vs H Q E h=>?_) (fun az A outer s H vs Q E hr h=>?_)
 ·exact Fx h fun _ _ _ _=>rfl
 ·refine Fx h fun hh x n h=>?_;obtain ⟨AA,L,M,f,k,af,tf,ak,tk,dx,nm,i,rfl,hx,rfl,fK,bA,gr,dm,fh,hv,hl,bg,q⟩:=h;obtain ⟨mz,gc,gh,mf,ff⟩:=i.h;obtain ⟨gs,c2,ht,dH,sg⟩:=i.t;refine bC (b:=aU zN) ((Dv.cut (Dv.aX (Dv.bh T.b9 T.pX.h (MF T) (hr.mono (by decide)) T.pX.b .nil aw (Dv.fld T.aL T.f9 (Dv.v 0)) (Dv.aa (Dv.fld T.lC T.sV (Dv.v 1)) (Dv.aa (Dv.fld T.lC T.yN (Dv.v 1)) (Dv.aa (Dv.v 2) Dv.ag)))))
  (Dv.aj (Dv.aP (Dv.v 2))))) ?_
  refine stI [some (V.ref AA.a),some (V.ref x),some (V.int (k:Int))] ?_;refine ao ?_;walk_at "w";exact ⟨AA.a,_,_,_,rfl,gh,(ff _).trans rfl,AA.t,_,_,rfl,ht,(sg _).trans rfl,x,_,_,_,rfl,hx,rfl,x,_,_,_,rfl,hx,rfl,AA,L,M,f,k,af,tf,ak,tk,i,rfl,rfl,rfl,fK,bA,gr,dm,fh,hv,hl,bg,q⟩
def rf (CH CS CT:Addr) (A:Ad) (L:List Ta) (M:Hs) (f:Nat) (t0:Th) (a0:Ta) (nm kd ow mi re tx:Str) (H:Hp) (Q:VK):Prop :=
 ∀ a H',aI CH CS CT H' A (L++[a]) { M with ts:=M.ts.set f { t0 with aZ:=t0.aZ++[(nm,M.ts.length)] }++[⟨kd,ow,mi,re,tx,[],[(f,nm)]⟩] }→Kp [A.t,A.ml,a0.nm] H H'→Q (.int (M.ts.length:Nat)) H'
theorem Hf {α:Type} {y b:α}:∀ r:List α,(r++[y]).set r.length b=r++[b]
 | []=>rfl
 | c::r=>by simp only [List.cons_append,List.length_cons,List.set_cons_succ]; rw [Hf r]
theorem RT {α:Type}:∀ {xs:List α} {f:Nat} {y a b:α},f < xs.length→((xs++[y]).set f a).set xs.length b=xs.set f a++[b]:=fun {xs f y a b} h=>by
 rw [List.set_append_left _ _ h];have:=Hf (y:=y) (b:=b) (xs.set f a)
 rwa [List.length_set] at this
theorem Fm {CH CS CT CE:Addr} {H:Hp} {A:Ad} {L:List Ta} {M:Hs} {f:Nat} {z nm kd mi re tx:Str} {a0:Ta} {t0:Th} {x dx:Addr} {Q:VK} {E:XK} (i:aI CH CS CT H A L M) (jM:L[f]?=some a0) (iO:M.ts[f]?=some t0) (hx:H x=some (.ins CE dx (ae "name" (.str nm) (ae "folder" (.int (f:Int)) [])))) (hv:aN (sD t0.aZ) (.inr nm)=none) (hl:t0.aZ.length≤400)
  (nx1:x≠A.t) (mp:rf CH CS CT A L M f t0 a0 nm kd z mi re tx H Q):uu CS CT A.t A.dt A.ml (L.map fun a=>V.ref a.th) (.str kd) (.str z) (.str mi) (.str re) (.str tx) H (fun v H'=>GO CH CS CT CE [.ref A.a,.ref x,v] H' Q E):=by
 intro th cI nm' pl ks H' f1 f2 f3 at' aO kl sk bJ bg kp;have nx2:x≠A.ml:=bL hx i.ml (by nofun);have hlen:(L.map fun a=>V.ref a.th).length=L.length:=List.length_map _;rw [hlen] at sk ⊢;have i2:=i.add f1 f2 f3 at' aO kl sk bJ bg kp;have h0:f < M.ts.length:=(List.getElem?_eq_some_iff.mp iO).1;have Bh:=i.len;have e0:(M.ts++[(⟨kd,z,mi,re,tx,[],[]⟩:Th)])[f]?=some t0:=by rw [List.getElem?_append_left h0]; exact iO
 have ek:(M.ts++[(⟨kd,z,mi,re,tx,[],[]⟩:Th)])[L.length]?=some ⟨kd,z,mi,re,tx,[],[]⟩:=by rw [Bh,List.getElem?_append_right (Nat.le_refl _),Nat.sub_self]; rfl
 refine ⟨A,L++[⟨th,cI,nm',pl⟩],_,f,L.length,a0,t0,⟨th,cI,nm',pl⟩,⟨kd,z,mi,re,tx,[],[]⟩,dx,nm,i2,rfl,kp _ _ (by simp [nx1,nx2]) hx,rfl,by rw [List.getElem?_append_left (by omega)]; exact jM,e0,by rw [List.getElem?_append_right (Nat.le_refl _),Nat.sub_self]; rfl,ek,by omega,hv,by omega,rfl,fun H2 i3 k3=>?_⟩;have:=mp ⟨th,cI,nm',pl⟩ H2 (by
  have e:=i3;dsimp only at e;rw [Bh] at e;rw [RT h0] at e;exact e) (fun b o hb e=>?_)
 ·rw [Bh]; exact this
 ·simp only [List.mem_cons,List.not_mem_nil,or_false,not_or] at hb;have nbp:b≠pl:=aF e f3;exact k3 _ _ (by simp [hb.1,hb.2.2,nbp]) (kp _ _ (by simp [hb.1,hb.2.1]) e)
theorem FD {CH CS CT:Addr} {H:Hp} {A:Ad} {L:List Ta} {M:Hs} (i:aI CH CS CT H A L M):kC CS H A.t A.dt A.ml (L.map fun a=>V.ref a.th):=⟨i.t,i.ml⟩
theorem rf.of {CH CS CT:Addr} {H H1:Hp} {A:Ad} {L:List Ta} {M:Hs} {f:Nat} {t0:Th} {a0:Ta} {nm kd ow mi re tx:Str} {Q:VK} (s:ai H H1) (m:rf CH CS CT A L M f t0 a0 nm kd ow mi re tx H Q):rf CH CS CT A L M f t0 a0 nm kd ow mi re tx H1 Q:=fun a H' i k=>m a H' i ((Kp.of s).trans k)
structure zd (CH CS CT CX CN CD:Addr) (H:Hp) (A:Ad) (L:List Ta) (M:Hs) (z:Str) (t:List Nat) (kd mi re tx:Str) (Q:VK) (E:XK):Prop where
 i:aI CH CS CT H A L M
 p:fW t
 hz:(aN (sD M.ro) (.inr z)).isSome=true
 j6:mi∈gE
 jS:re∈gE
 hL:L.length≤400
 hl:∀ (f:Nat) t0,M.ts[f]?=some t0→t0.aZ.length≤400
 r:∃ r,lH M L z t r∧(∀ x,r=.inl x→ed CX CN CD H E x)∧∀ f nm a0 t0,r=.inr (f,nm)→L[f]?=some a0→M.ts[f]?=some t0→rf CH CS CT A L M f t0 a0 (Tx.S nm) kd z mi re tx H Q
def Vq (CH CS CT CX CN CD:Addr):Sp:=yq fun h z pt mi re H Q E=>∃ A L M t,pt=Tx.S t∧zd CH CS CT CX CN CD H A L M z t "folder" mi re "" Q E∧A.a=h
def Ri (CH CS CT CX CN CD:Addr):Sp:=HA fun h z pt tx mi re H Q E=>∃ A L M t,pt=Tx.S t∧zd CH CS CT CX CN CD H A L M z t "file" mi re tx Q E∧A.a=h∧tx.length≤60
theorem Ul (T:Tx K mg):aA P w K mg base (cB P w) 13 T.Bx T.si ["house", "asker", "path", "mine", "rest"] (Vq T.au T.aE T.aG T.bD T.dw T.dU):=by
 refine T.tm.dF C1 (fun vs H Q E h=>?_) (fun az A outer s H vs Q E hr h=>?_)
 ·exact tR h fun _ _ _ _ _ _=>rfl
 ·refine tR h fun hh z pt mi re h=>?_;obtain ⟨AA,L,M,t,rfl,pr,rfl⟩:=h;obtain ⟨mz,gc,gh,mf,ff⟩:=pr.i.h;obtain ⟨r,gz,q1,q2⟩:=pr.r;refine bC (b:=aU oq) ((Dv.cut (Dv.aX (Dv.dE T.aL T.dY.h (kW T) (hr.mono (by decide)) T.dY.b .nil du (Dv.v 0) (Dv.aa (Dv.v 1) Dv.ag)))
  (Dv.cut (Dv.aX (Dv.call (m8 T) (hr.mono (by decide)) T.da.m T.da.F.kp T.da.b .nil aw (Dv.aa (Dv.v 2) Dv.ag)))
  (Dv.cut (Dv.aX (Dv.call (nK T) (hr.mono (by decide)) T.c8.m T.c8.F.kp T.c8.b .nil aw (Dv.aa (Dv.v 3) Dv.ag)))
  (Dv.cut (Dv.aX (Dv.call (nK T) (hr.mono (by decide)) T.c8.m T.c8.F.kp T.c8.b .nil aw (Dv.aa (Dv.v 4) Dv.ag)))
  (Dv.cut (Dv.aS 5 C1.nd (Dv.ee (GZ T) (hr.mono (by decide)) T.iU.m T.iU.F.kp T.iU.b .nil du (Dv.aa (Dv.v 0) (Dv.aa (Dv.v 1) (Dv.aa (Dv.v 2) Dv.ag)))))
  (Dv.aj (Dv.aP (Dv.call (GL T) (hr.mono (by decide)) T.jl.m T.jl.F.kp T.jl.b .nil aw (Dv.aa (Dv.v 0) (Dv.aa (Dv.v 5) (Dv.aa (Dv.bh T.b9 T.lL.h (Dc T) (hr.mono (by decide)) T.lL.b .nil aw (Dv.fld T.aL T.f9 (Dv.v 0)) (Dv.aa (Dv.v 1) (Dv.aa (Dv.v 3) (Dv.aa (Dv.v 4) Dv.ag)))) Dv.ag)))))))))))) ?_
  refine stI [some (V.ref AA.a),some (V.str z),some (V.str (Tx.S t)),some (V.str mi),some (V.str re),none] ?_;refine ao ?_;walk_at "w";refine ⟨AA.a,_,_,rfl,gh,(ff _).trans rfl,oX pr.i pr.hz (ao ?_)⟩;walk_at "w";refine ⟨t,rfl,pr.p.l1,pr.p.l2,pr.p.all,fun H1 l p s1 _ hl hp=>ao ?_⟩;walk_at "w";refine ⟨pr.j6,ao ?_⟩;walk_at "w";refine ⟨pr.jS,ao ?_⟩;walk_at "w";refine ⟨AA,L,M,t,r,rfl,pr.p,pr.i.same s1,rfl,pr.hz,gz,fun x e=>(q1 x e).of s1,fun f nm e x dx H2 fx s2 hx=>?_⟩;walk_at "w";have i2:=pr.i.same (s1.trans s2);obtain ⟨JT,Il,oY,Je,o8⟩:=i2.h;obtain ⟨gs,c2,ht,dH,sg⟩:=i2.t;obtain ⟨_,_,mC,_⟩:=(pr.i.same s1).t;subst e;cases gz with
  | free g hn jM iO hw hv =>
   refine ⟨AA.a,_,_,_,rfl,oY,(o8 _).trans rfl,AA.t,_,_,rfl,ht,(sg _).trans rfl,AA.dt,AA.ml,_,FD i2,by rw [List.length_map]; have:=pr.hL; omega,Fm i2 jM iO hx hv (pr.hl _ _ iO) (Ne.symm (aF mC fx)) ((q2 _ _ _ _ rfl jM iO).of (s1.trans s2))⟩
theorem J9 (T:Tx K mg):aA P w K mg base (cB P w) 13 T.BP T.r6 ["house", "asker", "path", "text", "mine", "rest"] (Ri T.au T.aE T.aG T.bD T.dw T.dU):=by
 refine T.uV.dF E8 (fun vs H Q E h=>?_) (fun az A outer s H vs Q E hr h=>?_)
 ·exact Dy h fun _ _ _ _ _ _ _=>rfl
 ·refine Dy h fun hh z pt tx mi re h=>?_;obtain ⟨AA,L,M,t,rfl,pr,rfl,BG⟩:=h;obtain ⟨mz,gc,gh,mf,ff⟩:=pr.i.h;obtain ⟨r,gz,q1,q2⟩:=pr.r;refine bC (b:=aU nq) ((Dv.cut (Dv.aX (Dv.dE T.aL T.dY.h (kW T) (hr.mono (by decide)) T.dY.b .nil du (Dv.v 0) (Dv.aa (Dv.v 1) Dv.ag)))
  (Dv.cut (Dv.aX (Dv.call (m8 T) (hr.mono (by decide)) T.da.m T.da.F.kp T.da.b .nil aw (Dv.aa (Dv.v 2) Dv.ag)))
  (Dv.cut (Dv.aX (Dv.call (nK T) (hr.mono (by decide)) T.c8.m T.c8.F.kp T.c8.b .nil aw (Dv.aa (Dv.v 4) Dv.ag)))
  (Dv.cut (Dv.aX (Dv.call (nK T) (hr.mono (by decide)) T.c8.m T.c8.F.kp T.c8.b .nil aw (Dv.aa (Dv.v 5) Dv.ag)))
  (Dv.cut (Dv.aX (Dv.call (Rk T) (hr.mono (by decide)) T.ot.m T.ot.F.kp T.ot.b .nil aw (Dv.aa (Dv.v 3) Dv.ag)))
  (Dv.cut (Dv.aS 6 E8.nd (Dv.ee (GZ T) (hr.mono (by decide)) T.iU.m T.iU.F.kp T.iU.b .nil du (Dv.aa (Dv.v 0) (Dv.aa (Dv.v 1) (Dv.aa (Dv.v 2) Dv.ag)))))
  (Dv.aj (Dv.aP (Dv.call (GL T) (hr.mono (by decide)) T.jl.m T.jl.F.kp T.jl.b .nil aw (Dv.aa (Dv.v 0) (Dv.aa (Dv.v 6) (Dv.aa (Dv.bh T.b9 T.qJ.h (S3 T) (hr.mono (by decide)) T.qJ.b .nil aw (Dv.fld T.aL T.f9 (Dv.v 0)) (Dv.aa (Dv.v 1) (Dv.aa (Dv.v 3) (Dv.aa (Dv.v 4) (Dv.aa (Dv.v 5) Dv.ag))))) Dv.ag))))))))))))) ?_
  refine stI [some (V.ref AA.a),some (V.str z),some (V.str (Tx.S t)),some (V.str tx),some (V.str mi),some (V.str re),none] ?_;refine ao ?_;walk_at "w";refine ⟨AA.a,_,_,rfl,gh,(ff _).trans rfl,oX pr.i pr.hz (ao ?_)⟩;walk_at "w";refine ⟨t,rfl,pr.p.l1,pr.p.l2,pr.p.all,fun H1 l p s1 _ hl hp=>ao ?_⟩;walk_at "w";refine ⟨pr.j6,ao ?_⟩;walk_at "w";refine ⟨pr.jS,ao ?_⟩;walk_at "w";refine ⟨BG,ao ?_⟩;walk_at "w";refine ⟨AA,L,M,t,r,rfl,pr.p,pr.i.same s1,rfl,pr.hz,gz,fun x e=>(q1 x e).of s1,fun f nm e x dx H2 fx s2 hx=>?_⟩;walk_at "w";have i2:=pr.i.same (s1.trans s2);obtain ⟨JT,Il,oY,Je,o8⟩:=i2.h;obtain ⟨gs,c2,ht,dH,sg⟩:=i2.t;obtain ⟨_,_,mC,_⟩:=(pr.i.same s1).t;subst e;cases gz with
  | free g hn jM iO hw hv =>
   refine ⟨AA.a,_,_,_,rfl,oY,(o8 _).trans rfl,AA.t,_,_,rfl,ht,(sg _).trans rfl,AA.dt,AA.ml,_,FD i2,by rw [List.length_map]; have:=pr.hL; omega,Fm i2 jM iO hx hv (pr.hl _ _ iO) (Ne.symm (aF mC fx)) ((q2 _ _ _ _ rfl jM iO).of (s1.trans s2))⟩
inductive pI (M:Hs) (L:List Ta) (z:Str) (t:List Nat):Sum Rf Nat→Prop
 | way {e k y}:eM M L z t e→e.res=.inr (k,y)→pI M L z t (.inl (.way k y))
 | file {e k ns a th}:eM M L z t e→e.res=.inl (k,ns)→L[k]?=some a→M.ts[k]?=some th→th.kd≠("folder" : Str)→pI M L z t (.inl (.fz "file"))
 | ok {e k ns a th}:eM M L z t e→e.res=.inl (k,ns)→L[k]?=some a→M.ts[k]?=some th→th.kd=("folder" : Str)→pI M L z t (.inr k)
def LY (CH CS CT CX CN CD:Addr):Sp:=lP fun x z pt H Q E=>∃ A L M t r,pt=Tx.S t∧aI CH CS CT H A L M∧A.a=x∧pI M L z t r∧M.st.length≤40∧(∀ x,r=.inl x→ed CX CN CD H E x)∧∀ k,r=.inr k→∀ H',aI CH CS CT H' A L { M with st:=j7 M.st z k }→Kp [A.a,A.st] H H'→Q .ax H'
theorem OU (T:Tx K mg):aA P w K mg base (cB P w) 15 T.nH.f T.nH.d ["house", "asker", "path"] (LY T.au T.aE T.aG T.bD T.dw T.dU):=by
 refine T.nH.F.dF TR (fun vs H Q E h=>?_) (fun az A outer s H vs Q E hr h=>?_)
 ·exact gg h fun _ _ _ _=>rfl
 ·refine gg h fun x z pt h=>?_;obtain ⟨AA,L,M,t,r,rfl,i,rfl,gz,hl,q1,q2⟩:=h;obtain ⟨fs,c,hx,aV,sf⟩:=i.h;refine bC (b:=aU vQ) ((Dv.aj (Dv.aX (Dv.bh T.aL T.i0.h (RA T) (hr.mono (by decide)) T.i0.b .nil aw (Dv.v 0) (Dv.aa (Dv.v 1) (Dv.aa (Dv.ee (Vg T) (hr.mono (by decide)) T.oN.m T.oN.F.kp T.oN.b .nil du (Dv.aa (Dv.v 0) (Dv.aa (Dv.v 1) (Dv.aa (Dv.v 2) Dv.ag)))) Dv.ag)))))) ?_;refine stI [some (V.ref AA.a),some (V.str z),some (V.str (Tx.S t))] ?_;walk_at "w";have hq:∃ e,eM M L z t e∧(∀ k y,e.res=.inr (k,y)→r=.inl (.way k y))∧∀ k ns,e.res=.inl (k,ns)→∃ a th,L[k]?=some a∧M.ts[k]?=some th∧(th.kd=("folder" : Str)→r=.inr k)∧(th.kd≠("folder" : Str)→r=.inl (.fz "file")):=by
   cases gz with
   | way h1 h2=>exact ⟨_,h1,fun k y e=>(by rw [h2] at e; cases e; rfl),fun k ns e=>by rw [h2] at e; cases e⟩
   | file h1 h2 h3 h4 h5=>exact ⟨_,h1,fun k y e=>(by rw [h2] at e; cases e),fun k ns e=>by rw [h2] at e; cases e; exact ⟨_,_,h3,h4,fun z=>absurd z h5,fun _=>rfl⟩⟩
   | ok h1 h2 h3 h4 h5=>exact ⟨_,h1,fun k y e=>(by rw [h2] at e; cases e),fun k ns e=>by rw [h2] at e; cases e; exact ⟨_,_,h3,h4,fun _=>rfl,fun z=>absurd h5 z⟩⟩
  obtain ⟨e,pg,g1,g2⟩:=hq;refine ⟨AA.a,_,_,rfl,hx,(sf _).trans rfl,AA,L,M,t,e,rfl,i,rfl,pg,fun k ns he=>?_,fun k y he fd aJ d H1 s1 hf hd=>?_⟩
  ·obtain ⟨a,th,ha,aO,r1,r2⟩:=g2 k ns he;exact ⟨a,th,ha,aO,fun hk H1 s1=>⟨AA,L,M,k,i.same s1,rfl,rfl,hl,fun H' i' k'=>q2 _ (r1 hk) H' i' ((Kp.of s1).trans k')⟩,fun hk d H1 s1 hd=>(q1 _ (r2 hk)).raise s1 hd⟩
  ·exact q1 _ (g1 k y he) fd aJ d _ (s1.trans (ai.upd hd)) (by rw [ah (aF hf hd)]; exact hf) ay
def PF (CH CS CT:Addr):Sp:=yq fun h z pt m r H Q _=>∃ A L M t e a th,∃ k:Nat,∃ ns,pt=Tx.S t∧aI CH CS CT H A L M∧A.a=h∧eM M L z t e∧e.res=.inl (k,ns)∧m∈gE∧r∈gE∧L[k]?=some a∧M.ts[k]?=some th∧th.ow=z ∧
   ∀ H',aI CH CS CT H' A L { M with ts:=M.ts.set k { th with mi:=m,re:=r } }→Kp [A.t,a.th] H H'→Q .ax H'
theorem Ql (T:Tx K mg):aA P w K mg base aM 14 T.oH.f T.oH.d ["house", "asker", "path", "mine", "rest"] (PF T.au T.aE T.aG):=by
 refine T.oH.F.ok GX (fun vs H Q E h=>?_) (fun az A outer s H vs Q E hr h=>?_)
 ·exact tR h fun _ _ _ _ _ _=>rfl
 ·refine tR h fun hh z pt m r h=>?_;obtain ⟨AA,L,M,tt,e,a,t,k,ns,rfl,i,rfl,pa,he,hm,hr',ha,ht,how,q⟩:=h;obtain ⟨mz,gc,gh,mf,ff⟩:=i.h;refine bC (b:=aU xC) ((Dv.cut (Dv.aX (Dv.dE T.aL T.dY.h (kW T) (hr.mono (by decide)) T.dY.b .nil eV (Dv.v 0) (Dv.aa (Dv.v 1) Dv.ag)))
  (Dv.cut (Dv.aX (Dv.call (m8 T) (hr.mono (by decide)) T.da.m T.da.F.kp T.da.b .nil aw (Dv.aa (Dv.v 2) Dv.ag)))
  (Dv.cut (Dv.aX (Dv.call (nK T) (hr.mono (by decide)) T.c8.m T.c8.F.kp T.c8.b .nil aw (Dv.aa (Dv.v 3) Dv.ag)))
  (Dv.cut (Dv.aX (Dv.call (nK T) (hr.mono (by decide)) T.c8.m T.c8.F.kp T.c8.b .nil aw (Dv.aa (Dv.v 4) Dv.ag)))
  (Dv.cut (Dv.aS 5 GX.nd (Dv.ee (Ga T) (hr.mono (by decide)) T.jo.m T.jo.F.kp T.jo.b .nil eV (Dv.aa (Dv.v 0) (Dv.aa (Dv.v 1) (Dv.aa (Dv.v 2) Dv.ag)))))
  (Dv.cut (Dv.aW (Dv.aY kE (Dv.bh T.aL T.qe.h (UT T) (hr.mono (by decide)) T.qe.b .nil aw (Dv.v 0) (Dv.aa (Dv.v 5) Dv.ag)) (Dv.v 1)) (Dv.aj Dv.cK) Dv.nil)
  (Dv.aj (Dv.aX (Dv.bh T.b9 T.qc.h (So T) (hr.mono (by decide)) T.qc.b .nil aw (Dv.fld T.aL T.f9 (Dv.v 0)) (Dv.aa (Dv.v 5) (Dv.aa (Dv.v 3) (Dv.aa (Dv.v 4) Dv.ag))))))))))))) ?_
  refine stI [some (V.ref AA.a),some (V.str z),some (V.str (Tx.S tt)),some (V.str m),some (V.str r),none] ?_;refine ao ?_;walk_at "w";refine ⟨AA.a,_,_,rfl,gh,(ff _).trans rfl,oX i pa.hz (ao ?_)⟩;walk_at "w";refine ⟨tt,rfl,pa.l1,pa.l2,pa.all,fun H1 l p s1 _ hl hp=>ao ?_⟩;walk_at "w";refine ⟨hm,ao ?_⟩;walk_at "w";refine ⟨hr',ao ?_⟩;walk_at "w";refine ⟨AA,L,M,tt,e,rfl,i.same s1,rfl,pa,fun k' ns' he' H2 s2=>?_,fun k' y he'=>by rw [he] at he'; cases he'⟩;rw [he] at he';cases he';refine ao ?_;walk_at "w";have i2:=i.same (s1.trans s2);obtain ⟨JT,Il,oY,Je,o8⟩:=i2.h;obtain ⟨gs,c2,hts,dH,sg⟩:=i2.t;refine ⟨AA.a,_,_,rfl,oY,(o8 _).trans rfl,AA,L,M,k,a,t,i2,rfl,rfl,ha,ht,?_⟩;show (if (!decide (t.ow=z))=true then _ else _);rw [how];rw [decide_eq_true rfl];exact bb ⟨AA.a,_,_,_,rfl,oY,(o8 _).trans rfl,AA.t,_,_,rfl,hts,(sg _).trans rfl,AA,L,M,k,a,t,i2,rfl,rfl,ha,ht,fun H3 i3 k3=>q H3 i3 ((Kp.of (s1.trans s2)).trans k3)⟩
def AS:List Str:=["ann", "bo", "cy"]
structure zW (M:Hs) (k:Nat) (t:Th):Prop where
 nl:t.aZ.length≤M.ts.length
 kd:t.kd=("folder" : Str)∨t.kd=("file" : Str)
 pl:k=0∧t.c7=[]∨∃ (f:Nat) (nm:Str) (tf:Th),f < k∧t.c7=[(f,nm)]∧nm.length≤8∧M.ts[f]?=some tf∧tf.kd=("folder" : Str)
 ch:∀ z v,aN (sD t.aZ) (.inr z)=some v→∃ (c:Nat) (tc:Th),v=.int (c:Int)∧M.ts[c]?=some tc
structure Gd (M:Hs):Prop where
 tr:M.tr=[(("main" : Str),0)]
 ov:M.ov=[]
 un:M.un=[]
 ro:∀ z∈AS,aN (sD M.ro) (.inr z)=some (.int ((0:Nat):Int))
 st:∀ z∈AS,∃ (k:Nat) (t:Th),aN (sD M.st) (.inr z)=some (.int (k:Int))∧M.ts[k]?=some t∧t.kd=("folder" : Str)
 sl:M.st.length≤3
 t0:∃ t,M.ts[0]?=some t∧t.kd=("folder" : Str)
 th:∀ k t,M.ts[k]?=some t→zW M k t
def Val (M:Hs) (S:Ws):Prop:=∃ t,M.ts[S.here]?=some t∧(t.kd=("folder" : Str)∨t.kd=("file" : Str)∧∃ (f:Nat) (nm:Str) (tf:Th),S.place=some (f,nm)∧nm.length≤8∧M.ts[f]?=some tf)
def jT (p:Str):Prop:=p=("." : Str)∨p=(".." : Str)∨dR (.str p)=true∧p.length≤8
theorem RG {wd:List Nat} (h:bZ wd=true):jT (Tx.S wd):=by
 unfold bZ at h;simp only [Bool.or_eq_true,decide_eq_true_eq] at h;rcases h with (rfl | rfl) | h
 ·exact .inl (by decide +kernel)
 ·exact .inr (.inl (by decide +kernel))
 ·exact .inr (.inr ⟨xj h,by rw [Tx.bX]; exact (uR h).2.2.2⟩)
section
variable {M:Hs} {L:List Ta} {z:Str}
theorem adr (hL:L.length=M.ts.length) {k:Nat} {t:Th} (h:M.ts[k]?=some t):∃ a,L[k]?=some a :=
 ⟨_,List.getElem?_eq_getElem (by rw [hL]; exact (List.getElem?_eq_some_iff.mp h).1)⟩
theorem Gd.cH (g:Gd M) (k:Nat):de M k k [] :=
 ⟨⟨0,by unfold oh; rw [g.un]; exact ⟨rfl,rfl⟩⟩,0,by unfold lU; rw [g.ov]; exact ⟨rfl,rfl⟩,Nat.zero_le _⟩
theorem jq {k:Nat}:fk 0 [k]=decide (k=0):=by
 unfold fk;by_cases h:k=0
 ·simp [h]
 ·simp [h]
theorem Gd.seen (g:Gd M) (hL:L.length=M.ts.length):∀ (n k:Nat) (t:Th),k≤n→M.ts[k]?=some t→ir M L 0 n k true
 | n,k,t,hk,ht=>by
  obtain ⟨a,ha⟩:=adr hL ht;unfold ir;refine ⟨k,[],a,t,ha,ht,g.cH k,?_⟩;rw [if_pos (show k=cM k [] from rfl),jq];by_cases h0:k=0
  ·rw [if_pos (decide_eq_true h0)]
  ·rw [if_neg (by rw [decide_eq_false h0]; nofun)];rcases (g.th k t ht).pl with ⟨e,_⟩ | ⟨f,nm,tf,hf,hp,_,bA,_⟩
   ·exact absurd e h0
   ·refine ⟨a,t,ha,ht,.inr ⟨f,nm,hp,?_⟩⟩
    match n,hk with
    | 0,hk=>exact absurd (Nat.le_zero.mp hk) h0
    | n+1,hk=>exact g.seen hL n f tf (by omega) bA
theorem Gd.nm (g:Gd M) (hL:L.length=M.ts.length):∀ (n k:Nat) (t:Th),k≤n→M.ts[k]?=some t→∃ ns,fU M L 0 n k ns∧ns.length≤k∧∀ s∈ns,s.length≤8
 | n,k,t,hk,ht=>by
  obtain ⟨a,ha⟩:=adr hL ht;by_cases h0:k=0
  ·refine ⟨[],?_,Nat.zero_le _,fun _ h=>by cases h⟩;unfold fU;exact ⟨k,[],a,t,ha,ht,g.cH k,by rw [jq,if_pos (decide_eq_true h0)]⟩
  ·rcases (g.th k t ht).pl with ⟨e,_⟩ | ⟨f,nm,tf,hf,hp,hl,bA,_⟩
   ·exact absurd e h0
   ·match n,hk with
    | 0,hk=>exact absurd (Nat.le_zero.mp hk) h0
    | n+1,hk =>
     obtain ⟨ns,h1,h2,h3⟩:=g.nm hL n f tf (by omega) bA;refine ⟨ns++[nm],?_,by rw [List.length_append]; simp; omega,fun s hs=>?_⟩
     ·unfold fU;refine ⟨k,[],a,t,ha,ht,g.cH k,?_⟩;rw [jq,if_neg (by rw [decide_eq_false h0]; nofun)];exact ⟨a,t,f,nm,ha,ht,hp,ns,rfl,h1⟩
     ·rcases List.mem_append.mp hs with hs | hs
      ·exact h3 s hs
      ·rw [List.mem_singleton.mp hs]; exact hl
theorem Ej:dR (.str ("." : Str))=false∧dR (.str (".." : Str))=false:=by decide +kernel
theorem RI (g:Gd M) (hL:L.length=M.ts.length) {S:Ws} {p:Str} (v:Val M S) (hp:jT p):∃ S' o,dq M L z 0 S p S' o∧(o=none→Val M S'):=by
 obtain ⟨t,ht,hk⟩:=v;obtain ⟨a,ha⟩:=adr hL ht;by_cases bK:t.kd=("folder" : Str)
 ·cases hm:cW ("g" : Str) (cJ t z) with
  | false=>exact ⟨_,_,.n6 ha ht bK hm,nofun⟩
  | true =>
   rcases hp with hp | hp | ⟨hp,hp8⟩
   ·exact ⟨_,_,.dot ha ht bK hm hp,fun _=>⟨t,ht,.inl bK⟩⟩
   ·by_cases h0:S.here=0
    ·exact ⟨_,_,.dZ ha ht bK hm hp (g.cH _) (by rw [jq]; exact decide_eq_true h0),fun _=>⟨t,ht,.inl bK⟩⟩
    ·rcases (g.th _ t ht).pl with ⟨e,_⟩ | ⟨f,nm,tf,hf,bg,hl,bA,eL⟩
     ·exact absurd e h0
     ·obtain ⟨af,fK⟩:=adr hL bA;exact ⟨_,_,.up ha ht bK hm hp (g.cH _) (by rw [jq]; exact decide_eq_false h0) ha ht bg fK bA (g.cH f),fun _=>⟨tf,bA,.inl eL⟩⟩
   ·have n1:p≠(".." : Str):=fun e=>by rw [e,Ej.2] at hp; cases hp
    have n2:p≠("." : Str):=fun e=>by rw [e,Ej.1] at hp; cases hp
    cases hv:aN (sD t.aZ) (.inr p) with
    | none=>exact ⟨_,_,.no ha ht bK hm n1 n2 hp (by omega) hv,nofun⟩
    | some w =>
     obtain ⟨c,tc,rfl,fg⟩:=(g.th _ t ht).ch _ _ hv;obtain ⟨ac,fZ⟩:=adr hL fg;rcases (g.th _ tc fg).kd with gu | gu
     ·exact ⟨_,_,.folder ha ht bK hm n1 n2 hp (by omega) hv fZ fg gu (g.cH c),fun _=>⟨tc,fg,.inl gu⟩⟩
     ·exact ⟨_,_,.file ha ht bK hm n1 n2 hp (by omega) hv fZ fg gu,fun _=>⟨tc,fg,.inr ⟨gu,_,_,t,rfl,hp8,ht⟩⟩⟩
 ·exact ⟨_,_,.flat ha ht bK,nofun⟩
theorem HL (g:Gd M) (hL:L.length=M.ts.length):∀ {ps:List Str} {S:Ws},Val M S→(∀ p∈ps,jT p)→∃ S' o,fS M L z 0 S ps S' o∧(o=none→Val M S')
 | [],S,v,_=>⟨S,none,.done S,fun _=>v⟩
 | p::ps,S,v,hp=>by
  obtain ⟨S1,o,h1,h2⟩:=RI (z:=z) g hL (S:={ S with left:=gm ps }) (p:=p) v (hp p (by simp));cases o with
  | some y=>exact ⟨S1,some y,.fail h1,nofun⟩
  | none =>
   obtain ⟨S',o,h3,h4⟩:=HL g hL (ps:=ps) (h2 rfl) fun q hq=>hp q (by simp [hq]);exact ⟨S',o,.step h1 h3,h4⟩
theorem D3:∀ {ps:List Str} {S S':Ws},fS M L z 0 S (ps++[("." : Str)]) S' none→∃ t,M.ts[S'.here]?=some t∧t.kd=("folder" : Str)
 | [],S,S',h=>by
  cases h with
  | step h1 h2 =>
   cases h2;cases h1 with
   | dot a1 a2 a3 a4 a5=>exact ⟨_,a2,a3⟩
   | dZ a1 a2 a3 a4 a5=>exact absurd a5 (by decide +kernel)
   | up a1 a2 a3 a4 a5=>exact absurd a5 (by decide +kernel)
   | folder a1 a2 a3 a4 a5 a6=>exact absurd rfl a6
   | file a1 a2 a3 a4 a5 a6=>exact absurd rfl a6
 | p::ps,S,S',h=>by
  cases h with
  | step h1 h2=>exact D3 h2
theorem LR (g:Gd M) (hL:L.length=M.ts.length) (hn:M.ts.length≤90) {S:Ws} (v:Val M S):∃ ns bE,z6 M L 0 S ns bE:=by
 obtain ⟨t,ht,hk⟩:=v;obtain ⟨a,ha⟩:=adr hL ht;by_cases bK:t.kd=("folder" : Str)
 ·obtain ⟨ns,h1,h2,h3⟩:=g.nm hL S.here S.here t (Nat.le_refl _) ht;have:=(List.getElem?_eq_some_iff.mp ht).1;exact ⟨ns,[],S.here,a,t,ha,ht,.inl ⟨bK,rfl,rfl⟩,⟨_,h1⟩,by omega,h3⟩
 ·rcases hk with hk | ⟨_,f,nm,tf,hp,h8,bA⟩
  ·exact absurd hk bK
  ·obtain ⟨ns,h1,h2,h3⟩:=g.nm hL f f tf (Nat.le_refl _) bA;have:=(List.getElem?_eq_some_iff.mp bA).1;exact ⟨ns,[nm],f,a,t,ha,ht,.inr ⟨bK,nm,hp,rfl,h8⟩,⟨_,h1⟩,by omega,h3⟩
def Eg (M:Hs) (e:End):Prop:=∀ k ns,e.res=.inl (k,ns)→∃ t,M.ts[k]?=some t
theorem FO (g:Gd M) (hL:L.length=M.ts.length) (hn:M.ts.length≤90) (hz:z∈AS) {fr:Bool} {ps:List Str} (cX:∀ p∈ps,jT p) (hl:ps.length≤500) :
  ∃ e,oS M L z fr ps e∧Eg M e∧∀ qs,ps=qs++[("." : Str)]→∀ k ns,e.res=.inl (k,ns)→∃ t,M.ts[k]?=some t∧t.kd=("folder" : Str):=by
 obtain ⟨st,t,aQ,ht,bK⟩:∃ (st:Nat) (t:Th),(fr=true∧st=0∨fr=false∧aN (sD M.st) (.inr z)=some (.int (st:Int)))∧M.ts[st]?=some t∧t.kd=("folder" : Str):=by
  cases fr with
  | true=>obtain ⟨t,h1,h2⟩:=g.t0; exact ⟨0,t,.inl ⟨rfl,rfl⟩,h1,h2⟩
  | false=>obtain ⟨k,t,h1,h2,h3⟩:=g.st z hz; exact ⟨k,t,.inr ⟨rfl,h1⟩,h2,h3⟩
 obtain ⟨a,ha⟩:=adr hL ht;obtain ⟨S',o,hr,hv⟩:=HL (z:=z) g hL (ps:=ps) (S:=⟨st,none,0,[],gm ps,[],0,0⟩) ⟨t,ht,.inl bK⟩ cX;have kS:∃ m,ir M L 0 m (cM st []) true:=⟨st,g.seen hL st st t (Nat.le_refl _) ht⟩;cases o with
 | some y=>exact ⟨⟨S'.asked,.inr (S'.step,y)⟩,⟨⟨0,st,st,[],a,t,S',some y,g.ro z hz,aQ,ha,ht,g.cH st,kS,hr,rfl,fun y' e=>(by cases e; rfl),nofun⟩,hl⟩,(fun k ns e=>by cases e),fun qs _ k ns e=>by cases e⟩
 | none =>
  obtain ⟨ns,bE,cR⟩:=LR g hL hn (hv rfl);refine ⟨⟨S'.asked,.inl (S'.here,ns++bE)⟩,⟨⟨0,st,st,[],a,t,S',none,g.ro z hz,aQ,ha,ht,g.cH st,kS,hr,rfl,nofun,fun _=>⟨ns,bE,cR,rfl⟩⟩,hl⟩,fun k ns' e=>?_,fun qs hq k ns' e=>?_⟩
  ·cases e;obtain ⟨t',h,_⟩:=hv rfl;exact ⟨t',h⟩
  ·cases e;rw [hq] at hr;exact D3 hr
theorem xt {W:List (List Nat)} (h:W.all bZ=true):∀ p∈W.map Tx.S,jT p:=fun p hp=>by
 obtain ⟨x,hx,rfl⟩:=List.mem_map.mp hp;exact RG (List.all_eq_true.mp h x hx)
theorem rL (g:Gd M) (hL:L.length=M.ts.length) (hn:M.ts.length≤90) (hz:z∈AS) {t:List Nat} (p:fW t) (hl:(Tx.words 47 t).length≤400):∃ e,eM M L z t e∧Eg M e:=by
 have hw:=@Gm (Tx.words 47 t) t;obtain ⟨e,h1,h2,_⟩:=FO g hL hn hz (fr:=dG t) (xt (uJ (t:=t) p.all)) (by rw [List.length_map]; omega);exact ⟨e,⟨p.l1,p.l2,p.all,h1⟩,h2⟩
theorem Od {ps:List (List Nat)} (h:ps.all bZ=true):∃ r,iu ps r:=by
 rcases List.eq_nil_or_concat ps with e | ⟨q,nm,e⟩
 ·exact ⟨none,.nil e⟩
 ·rw [List.concat_eq_append] at e;cases hn:isNm nm with
  | true=>exact ⟨_,.FL e hn⟩
  | false=>exact ⟨none,.pR e hn (nJ (List.all_eq_true.mp h nm (by rw [e]; simp))).2.2⟩
theorem UG (g:Gd M) (hL:L.length=M.ts.length) (hn:M.ts.length≤90) (hz:z∈AS) {t:List Nat} (p:fW t) (hl:(Tx.words 47 t).length≤300) :
  ∃ r,lH M L z t r∧∀ f nm,r=.inr (f,nm)→∃ tf,M.ts[f]?=some tf∧tf.kd=("folder" : Str)∧isNm nm=true∧aN (sD tf.aZ) (.inr (Tx.S nm))=none:=by
 have hw:=@Gm (Tx.words 47 t) t;obtain ⟨r,hr⟩:=Od (uJ (t:=t) p.all);cases r with
 | none=>exact ⟨_,.no (.pR hr),fun f nm e=>by cases e⟩
 | some qn =>
  obtain ⟨q,nm⟩:=qn;have he:told (Tx.words 47 t) t=q++[nm]:=by cases hr; assumption
  have bJ:isNm nm=true:=by cases hr; assumption
  have jA:=uJ (t:=t) p.all;rw [he,List.all_append,Bool.and_eq_true] at jA;have hq:q.length≤400:=by rw [he,List.length_append] at hw; omega
  obtain ⟨e,h1,h2,h3⟩:=FO g hL hn hz (fr:=dG t) (ps:=q.map Tx.S++[("." : Str)]) (fun x hx=>by
   rcases List.mem_append.mp hx with hx | hx
   ·exact xt jA.1 x hx
   ·exact .inl (List.mem_singleton.mp hx)) (by simp; omega)
  cases iN:e.res with
  | inr ky=>exact ⟨_,.no (.way hr hq h1 (k:=ky.1) (y:=ky.2) (by rw [iN])),fun f nm e=>by cases e⟩
  | inl fn =>
   obtain ⟨f,ns⟩:=fn;have hs:jf M L z t (.inr (f,nm)):=.CP hr hq h1 iN;obtain ⟨tf,bA,eL⟩:=h3 _ rfl f ns iN;obtain ⟨a,ha⟩:=adr hL bA;cases hm:cW ("w" : Str) (cJ tf z) with
   | false=>exact ⟨_,.kept hs bA hm,fun f nm e=>by cases e⟩
   | true =>
    cases hv:aN (sD tf.aZ) (.inr (Tx.S nm)) with
    | some v =>
     obtain ⟨c,rfl⟩:=Cv hv;exact ⟨_,.there hs bJ ha bA hm hv,fun f nm e=>by cases e⟩
    | none=>exact ⟨_,.free hs bJ ha bA hm hv,fun f' nm' e=>by cases e; exact ⟨tf,bA,eL,bJ,hv⟩⟩
theorem Rm (g:Gd M) (hL:L.length=M.ts.length) (hn:M.ts.length≤90) (hz:z∈AS) {t:List Nat} (p:fW t) (hl:(Tx.words 47 t).length≤300) :
  ∃ r,pI M L z t r∧∀ k,r=.inr k→∃ tf,M.ts[k]?=some tf∧tf.kd=("folder" : Str):=by
 obtain ⟨e,h1,h2⟩:=rL g hL hn hz p (by omega);cases iN:e.res with
 | inr ky=>exact ⟨_,.way h1 (k:=ky.1) (y:=ky.2) (by rw [iN]),fun f e=>by cases e⟩
 | inl fn =>
  obtain ⟨f,ns⟩:=fn;obtain ⟨tf,bA⟩:=h2 f ns iN;obtain ⟨a,ha⟩:=adr hL bA;by_cases hk:tf.kd=("folder" : Str)
  ·exact ⟨_,.ok h1 iN ha bA hk,fun k e=>by cases e; exact ⟨tf,bA,hk⟩⟩
  ·exact ⟨_,.file h1 iN ha bA hk,fun f e=>by cases e⟩
theorem Gd.make (g:Gd M) {f:Nat} {tf:Th} {nm kd mi re tx:Str} (bA:M.ts[f]?=some tf) (eL:tf.kd=("folder" : Str)) (bJ:nm.length≤8) (hvf:aN (sD tf.aZ) (.inr nm)=none) (hk:kd=("folder" : Str)∨kd=("file" : Str)) :
  Gd { M with ts:=M.ts.set f { tf with aZ:=tf.aZ++[(nm,M.ts.length)] }++[⟨kd,z,mi,re,tx,[],[(f,nm)]⟩] }:=by
 have hf:=(List.getElem?_eq_some_iff.mp bA).1;have hlen:(M.ts.set f { tf with aZ:=tf.aZ++[(nm,M.ts.length)] }).length=M.ts.length:=List.length_set;have old:∀ (k:Nat) (t:Th),M.ts[k]?=some t→∃ t':Th,(M.ts.set f { tf with aZ:=tf.aZ++[(nm,M.ts.length)] }++[(⟨kd,z,mi,re,tx,[],[(f,nm)]⟩:Th)])[k]?=some t'∧t'.kd=t.kd:=fun k t ht=>by
  have hk:=(List.getElem?_eq_some_iff.mp ht).1;rw [List.getElem?_append_left (by rw [hlen]; exact hk)];by_cases e:k=f
  ·subst e;rw [List.getElem?_set_self hk];rw [bA] at ht; cases ht;exact ⟨_,rfl,rfl⟩
  ·rw [List.getElem?_set_ne (Ne.symm e)];exact ⟨t,ht,rfl⟩
 have new:(M.ts.set f { tf with aZ:=tf.aZ++[(nm,M.ts.length)] }++[(⟨kd,z,mi,re,tx,[],[(f,nm)]⟩:Th)])[M.ts.length]?=some ⟨kd,z,mi,re,tx,[],[(f,nm)]⟩:=by
  rw [List.getElem?_append_right (by rw [hlen]; exact Nat.le_refl _),hlen,Nat.sub_self]; rfl
 have lift:∀ (k:Nat) (t:Th),zW M k t→zW { M with ts:=M.ts.set f { tf with aZ:=tf.aZ++[(nm,M.ts.length)] }++[⟨kd,z,mi,re,tx,[],[(f,nm)]⟩] } k t:=fun k t h=>⟨by
   show t.aZ.length≤_;rw [List.length_append,hlen]; have:=h.nl; omega,h.kd,by
   rcases h.pl with h | ⟨f',nm',tf',h1,h2,h3,h4,h5⟩
   ·exact .inl h
   ·obtain ⟨t',e1,e2⟩:=old _ _ h4;exact .inr ⟨f',nm',t',h1,h2,h3,e1,e2.trans h5⟩,fun y v hv=>by
   obtain ⟨c,tc,h1,h2⟩:=h.ch y v hv;obtain ⟨t',e1,e2⟩:=old _ _ h2;exact ⟨c,t',h1,e1⟩⟩
 refine ⟨g.tr,g.ov,g.un,g.ro,fun y hy=>?_,g.sl,?_,fun k t ht=>?_⟩
 ·obtain ⟨k,t,h1,h2,h3⟩:=g.st y hy;obtain ⟨t',e1,e2⟩:=old _ _ h2;exact ⟨k,t',h1,e1,e2.trans h3⟩
 ·obtain ⟨t,h1,h2⟩:=g.t0;obtain ⟨t',e1,e2⟩:=old _ _ h1;exact ⟨t',e1,e2.trans h2⟩
 ·have ht':(M.ts.set f { tf with aZ:=tf.aZ++[(nm,M.ts.length)] }++[(⟨kd,z,mi,re,tx,[],[(f,nm)]⟩:Th)])[k]?=some t:=ht;by_cases hk':k < M.ts.length
  ·rw [List.getElem?_append_left (by rw [hlen]; exact hk')] at ht';by_cases e:k=f
   ·subst e;rw [List.getElem?_set_self hk'] at ht';cases ht';have h:=lift k tf (g.th k tf bA);have h0:=g.th k tf bA;refine ⟨by show (tf.aZ++[(nm,M.ts.length)]).length≤_; rw [List.length_append,List.length_append,hlen]; have:=h0.nl; simp; omega,h.kd,h.pl,fun y v hv=>?_⟩;have e:sD (tf.aZ++[(nm,M.ts.length)])=sD tf.aZ++[(.inr nm,.int ((M.ts.length:Nat):Int))]:=by unfold sD; rw [List.map_append]; rfl
    have hv':aN (sD (tf.aZ++[(nm,M.ts.length)])) (.inr y)=some v:=hv;rw [e,y1 _ _ _ _ hvf] at hv';split at hv'
    ·cases hv'; exact ⟨M.ts.length,_,rfl,new⟩
    ·exact h.ch y v hv'
   ·rw [List.getElem?_set_ne (Ne.symm e)] at ht';exact lift k t (g.th k t ht')
  ·have Bj:k < M.ts.length+1:=by
    have:=(List.getElem?_eq_some_iff.mp ht').1;rw [List.length_append,hlen] at this; exact this
   have:k=M.ts.length:=by omega
   subst this;rw [new] at ht';cases ht';obtain ⟨t',e1,e2⟩:=old _ _ bA;exact ⟨by show 0≤_; exact Nat.zero_le _,hk,.inr ⟨f,nm,t',hf,rfl,bJ,e1,e2.trans eL⟩,fun y v hv=>by cases hv⟩
theorem Gd.Tq (g:Gd M) {k:Nat} {t:Th} (ht:M.ts[k]?=some t) (hk:t.kd=("folder" : Str)) (hz:z∈AS):Gd { M with st:=j7 M.st z k }:=by
 refine ⟨g.tr,g.ov,g.un,g.ro,fun y hy=>?_,?_,g.t0,fun k t ht=>⟨(g.th k t ht).nl,(g.th k t ht).kd,(g.th k t ht).pl,(g.th k t ht).ch⟩⟩
 ·show ∃ (k':Nat) (t':Th),aN (sD (j7 M.st z k)) (.inr y)=some (.int (k':Int))∧M.ts[k']?=some t'∧t'.kd=("folder" : Str);rw [← Eu,Pn];by_cases e:y=z
  ·subst e; rw [if_pos rfl]; exact ⟨k,t,rfl,ht,hk⟩
  ·rw [if_neg (fun z=>e (Sum.inr.inj z))]; exact g.st y hy
 ·obtain ⟨k0,t0,h,_⟩:=g.st z hz;show (j7 M.st z k).length≤3;unfold j7;rw [if_pos (by rw [h]; rfl),List.length_map];exact g.sl
end
theorem fO (T:Tx K mg):aA P w K mg base aM 1 T.bI.f T.bI.d ["_law_state", "_law_base"] qU:=by
 refine T.bI.F.ok uv (fun vs H Q E h=>?_) (fun az A outer s H vs Q E hr h=>?_)
 ·unfold qU at h;split at h
  ·rfl
  ·exact h.elim
 ·unfold qU at h;split at h
  ·rename_i st b;obtain ⟨zs,hz,hl,mF,vc,q⟩:=h;refine ⟨_,((Dv.cut (Dv.aW (Dv.aY cv (Dv.cD (kb (K:=K) rfl) T.iS PySem.boot_len (Dv.aa (Dv.v 0) Dv.ag)) Dv.int) (Dv.aj (Dv.aX (Dv.iA PySem.F.slot_list_extend PySem.F.type_list_extend MC (Dv.v 0) (Dv.aa (Dv.lst (Dv.aa (Dv.op j0 (Dv.ix (bq (K:=K) rfl) (Dv.v 0) Dv.int) Dv.int) (Dv.aa Dv.int Dv.ag))) Dv.ag)))) Dv.nil)
   (Dv.cut (Dv.aW (Dv.aY uD (Dv.ix (bq (K:=K) rfl) (Dv.v 0) Dv.int) Dv.int) (Dv.cut (Dv.aS 2 uv.nd (Dv.op j0 (Dv.ix (bq (K:=K) rfl) (Dv.v 0) Dv.int) (Dv.v 1)))
   (Dv.cut (Dv.pV (Dv.op xW (Dv.ix (bq (K:=K) rfl) (Dv.v 0) Dv.int) (Dv.v 1)) (Dv.Gi (Dv.v 0) Dv.int Hb))
   (Dv.aj (Dv.aP (Dv.v 2))))) Dv.nil)
   (Dv.cut (Dv.pV (Dv.op dQ (Dv.ix (bq (K:=K) rfl) (Dv.v 0) Dv.int) Dv.int) (Dv.Gi (Dv.v 0) Dv.int Hb))
   (Dv.cut (Dv.aS 3 uv.nd (Dv.op j0 (Dv.op uW (Dv.op dQ (Dv.op dQ (Dv.ix (bq (K:=K) rfl) (Dv.v 0) Dv.int) (Dv.op uW Dv.int (Dv.ix (bq (K:=K) rfl) (Dv.v 0) Dv.int))) Dv.int) Dv.int) Dv.int))
   (Dv.cut (Dv.aS 3 uv.nd (Dv.op j0 (Dv.op uW (Dv.v 3) (Dv.op dQ (Dv.op xW (Dv.v 3) Dv.int) Dv.int)) Dv.int))
   (Dv.aj (Dv.aP (Dv.op j0 (Dv.op j0 (Dv.op uW (Dv.v 3) (Dv.op dQ (Dv.op xW (Dv.v 3) Dv.int) Dv.int)) Dv.int) (Dv.v 1)))))))))).h,?_⟩
   refine stI [some (.ref st),some (.int b),none,none] ?_;refine en (fun σ' H'=>σ'=[some (.ref st),some (.int b),none,none]∧∃ x y z,H' st=some (.lst [.int x,.int y,.int z])∧cj st H H') ?_ ?_
   ·have hc:(∃ a,zs=[a])∨∃ a b c,zs=[a,b,c]:=by
     rcases hl with hl | hl
     ·match zs,hl with
      | [a],_=>exact .inl ⟨a,rfl⟩
     ·match zs,hl with
      | [a,b,c],_=>exact .inr ⟨a,b,c,rfl⟩
    walk_at "rd";rcases hc with ⟨a,rfl⟩ | ⟨a,b',c,rfl⟩
    ·simp only [List.map] at hz;simp only [bG,hz,cU];refine bM ⟨by decide,fits (by simp),fun p hp=>?_⟩;simp only [En hz hp,ay];refine ⟨fits (by simp),by trivial,_,_,_,rfl,?_⟩;exact (ai.upd hp).keep st |>.trans cj.upd
    ·simp only [List.map] at hz;simp only [bG,hz,cU];exact bb ⟨by trivial,_,_,_,rfl,fun c o _ e=>e⟩
   ·rintro σ' H1 ⟨rfl,x,y,z,h1,k1⟩;refine ao ?_;walk_at "rd";simp only [bG,h1,cU];refine jk (fun _=>?_) (fun _=>?_)
    ·refine ao ?_;walk_at "rd";simp only [bG,h1,cU];refine ⟨mF,ao ?_⟩;walk_at "rd";simp only [bG,h1,cU,List.length_cons,QJ,List.set_cons_zero];refine ⟨⟨mF,vc⟩,?_⟩;exact q _ [_,_,_] _ (Int.emod_nonneg _ (by omega)) (Int.emod_lt_of_pos _ mF) rfl ay (k1.trans cj.upd)
    ·refine ao ?_;walk_at "rd";simp only [bG,h1,CO,List.length_cons,List.length_nil,ND,List.set_cons_zero,List.set_cons_succ];refine ao ?_;walk_at "rd";simp only [bG,ay,wF,CO];refine ⟨.inl ⟨by decide,by decide⟩,.inr ⟨by decide,by decide⟩,by decide,ao ?_⟩;walk_at "rd";generalize hm:(y+7919 * (z+1)+1) * 48271 % 2147483647=m;have m0:0≤m:=by rw [← hm]; exact Int.emod_nonneg _ (by decide)
     have m1:m < 2147483647:=by rw [← hm]; exact Int.emod_lt_of_pos _ (by decide)
     refine ⟨⟨by decide,by decide⟩,.inl ⟨by omega,by omega⟩,by decide,?_⟩;generalize hn:m * (m / 1009+69621) % 2147483647=n;have n0:0≤n:=by rw [← hn]; exact Int.emod_nonneg _ (by decide)
     have n1:n < 2147483647:=by rw [← hn]; exact Int.emod_lt_of_pos _ (by decide)
     refine ⟨⟨by decide,by decide⟩,.inl ⟨by omega,by omega⟩,by decide,mF,?_⟩;exact q _ [_,_,_] _ (Int.emod_nonneg _ (by omega)) (Int.emod_lt_of_pos _ mF) rfl ay (k1.trans cj.upd)
  ·exact h.elim
def Dr (st:Addr) (H:Hp):Prop:=∃ zs:List Int,H st=some (.lst (zs.map V.int))∧(zs.length=1∨zs.length=3)
theorem Dr.same {st:Addr} {H H':Hp} (h:Dr st H) (s:ai H H'):Dr st H':=let ⟨zs,e,l⟩:=h; ⟨zs,s _ _ e,l⟩
theorem Dr.ne {st p:Addr} {H:Hp} (h:Dr st H) (hp:H p=none):p≠st:=let ⟨zs,e,l⟩:=h; fun z=>by rw [z,e] at hp; cases hp
theorem nk {st:Addr} {b:Int} {H:Hp} {Q:VK} {E:XK} (h:Dr st H) (mF:0 < b) (vc:b≤1000) (q:∀ d H',0≤d→d < b→Dr st H'→cj st H H'→Q (.int d) H'):qU [.ref st,.int b] H Q E:=by
 obtain ⟨zs,e,l⟩:=h;exact ⟨zs,e,l,mF,by omega,fun d zs' H' d0 d1 l' e' k=>q d H' d0 d1 ⟨zs',e',.inr l'⟩ k⟩
theorem pick {xs:List V} {d:Int} (h0:0≤d) (h1:d < xs.length):∃ v∈xs,cq xs d=some v:=by
 obtain ⟨n,rfl⟩:=Int.eq_ofNat_of_zero_le h0;have hn:n < xs.length:=by omega
 exact ⟨xs[n],List.getElem_mem hn,gH (List.getElem?_eq_getElem hn)⟩
theorem kj {H:Hp} {st:Addr} {xs:List V} {Q:VK} {E:XK} {b:Int} (h:Dr st H) (hb:b=xs.length) (hn:xs.length≤1000) (h0:0 < xs.length) (q:∀ v H',v∈xs→Dr st H'→cj st H H'→Q v H') :
  xs.length≤sizeLine∧∀ p,H p=none→qU [.ref st,.int b] (upd H p (.lst xs)) (fun y H2=>lO K (.ref p) y H2 Q) E:=by
 refine ⟨fits hn,fun p hp=>?_⟩;have s1:=ai.upd (o:=.lst xs) hp;have b1:upd H p (.lst xs) p=some (.lst xs):=ay;have np:=h.ne hp;generalize upd H p (.lst xs)=H1 at s1 b1 ⊢;refine nk (h.same s1) (by omega) (by omega) fun d H2 d0 d1 h2 k2=>?_;obtain ⟨v,hv,e⟩:=pick (xs:=xs) d0 (by omega);simp only [lO,bG,k2 _ _ np b1,e];exact q v H2 hv h2 ((s1.keep st).trans k2)
def Tn:Sp:=iw fun st H Q _=>Dr st H∧∀ nm H',isNm nm=true→Dr st H'→cj st H H'→Q (.str (Tx.S nm)) H'
theorem Vy (T:Tx K mg):aA P w K mg base aM 2 T.nZ.f T.nZ.d ["_law_state"] Tn:=by
 refine T.nZ.F.ok UR (fun vs H Q E h=>?_) (fun az A outer s H vs Q E hr h=>?_)
 ·exact dP h fun _ _=>rfl
 ·refine dP h fun st h=>?_;obtain ⟨aQ,q⟩:=h;refine bC (b:=aU yu) ((Dv.aj (Dv.aP (Dv.ix (bq (K:=K) rfl) (Dv.lst (Dv.aa Dv.str (Dv.aa Dv.str (Dv.aa Dv.str (Dv.aa Dv.str (Dv.aa Dv.str (Dv.aa Dv.str Dv.ag))))))) (Dv.call (fO T) (hr.mono (by decide)) T.bI.m T.bI.F.kp T.bI.b .nil aw (Dv.aa (Dv.v 0) (Dv.aa Dv.int Dv.ag))))))) ?_;refine stI [some (V.ref st)] ?_;walk_at "w";refine kj aQ rfl (by simp) (by simp) fun v H1 hv h1 k1=>?_;obtain ⟨nm,hn,rfl⟩:∃ nm,isNm nm=true∧v=V.str (Tx.S nm):=by
   simp only [List.mem_cons,List.not_mem_nil,or_false] at hv;rcases hv with rfl | rfl | rfl | rfl | rfl | rfl
   ·exact ⟨[97],by decide +kernel,by decide +kernel⟩
   ·exact ⟨[98],by decide +kernel,by decide +kernel⟩
   ·exact ⟨[97,98],by decide +kernel,by decide +kernel⟩
   ·exact ⟨[98,97],by decide +kernel,by decide +kernel⟩
   ·exact ⟨[99],by decide +kernel,by decide +kernel⟩
   ·exact ⟨[108,101,97,100],by decide +kernel,by decide +kernel⟩
  exact q nm H1 hn h1 k1
def Ni:Sp:=iw fun st H Q _=>Dr st H∧∀ z H',z∈gE→Dr st H'→cj st H H'→Q (.str z) H'
theorem uL (T:Tx K mg):aA P w K mg base aM 2 T.eP.f T.eP.d ["_law_state"] Ni:=by
 refine T.eP.F.ok VY (fun vs H Q E h=>?_) (fun az A outer s H vs Q E hr h=>?_)
 ·exact dP h fun _ _=>rfl
 ·refine dP h fun st h=>?_;obtain ⟨aQ,q⟩:=h;refine bC (b:=aU yO) ((Dv.aj (Dv.aP (Dv.ix (bq (K:=K) rfl) (Dv.lst (Dv.aa Dv.str (Dv.aa Dv.str (Dv.aa Dv.str (Dv.aa Dv.str (Dv.aa Dv.str (Dv.aa Dv.str (Dv.aa Dv.str (Dv.aa Dv.str Dv.ag))))))))) (Dv.call (fO T) (hr.mono (by decide)) T.bI.m T.bI.F.kp T.bI.b .nil aw (Dv.aa (Dv.v 0) (Dv.aa Dv.int Dv.ag))))))) ?_;refine stI [some (V.ref st)] ?_;walk_at "w";refine kj aQ rfl (by simp) (by simp) fun v H1 hv h1 k1=>?_;obtain ⟨z,hn,rfl⟩:∃ z,z∈gE∧v=V.str z:=by
   simp only [List.mem_cons,List.not_mem_nil,or_false] at hv;rcases hv with rfl | rfl | rfl | rfl | rfl | rfl | rfl | rfl
   all_goals exact ⟨_,by decide +kernel,rfl⟩
  exact q z H1 hn h1 k1
def joinR (n:Nat):List (List Nat)→List Nat
 | []=>[]
 | [x]=>x
 | x::y::r=>x++List.replicate n 47++joinR n (y::r)
theorem FE (n:Nat):∀ ps:List (List Nat),Str.join (Tx.S (List.replicate n 47)) (ps.map Tx.S)=Tx.S (joinR n ps)
 | []=>rfl
 | [x]=>rfl
 | x::y::r=>by
  have ih:=FE n (y::r);show Tx.S x++Tx.S (List.replicate n 47)++Str.join (Tx.S (List.replicate n 47)) ((y::r).map Tx.S)=Tx.S (x++List.replicate n 47++joinR n (y::r));rw [ih,Tx.oG,Tx.oG]
theorem wO (n:Nat):∀ ps:List (List Nat),(∀ w∈ps,47 ∉ w∧w≠[])→Tx.words 47 (joinR (n+1) ps)=ps
 | [],_=>rfl
 | [x],h=>Tx.DL 47 x (h x (by simp)).1 (h x (by simp)).2
 | x::y::r,h=>by
  have ih:=wO n (y::r) (fun w hw=>h w (List.mem_cons_of_mem _ hw));show Tx.words 47 (x++List.replicate (n+1) 47++joinR (n+1) (y::r))=_;rw [List.replicate_succ,List.append_assoc,List.cons_append,Tx.yY,Tx.EO,ih,Tx.DL 47 x (h x (by simp)).1 (h x (by simp)).2];rfl
theorem Hy (n k:Nat):∀ ps:List (List Nat),(∀ w∈ps,w.length≤k)→(joinR n ps).length≤ps.length * (k+n)
 | [],_=>Nat.zero_le _
 | [x],h=>by
  have:=h x (by simp);show x.length≤1 * (k+n);omega
 | x::y::r,h=>by
  have ih:=Hy n k (y::r) (fun w hw=>h w (List.mem_cons_of_mem _ hw));have:=h x (by simp);show (x++List.replicate n 47++joinR n (y::r)).length≤((y::r).length+1) * (k+n);rw [List.length_append,List.length_append,List.length_replicate,Nat.add_mul,Nat.one_mul];omega
structure uw (t:List Nat):Prop where
 l1:1≤t.length
 l2:t.length≤80
 all:(Tx.words 47 t).all bZ=true
 n:(Tx.words 47 t).length≤6
def QQ:Sp:=je fun st n H Q _=>Dr st H∧0≤n∧n≤6∧∀ t H',uw t→Dr st H'→cj st H H'→Q (.str (Tx.S t)) H'
structure Sg (st l:Addr) (n:Int) (ps:List (List Nat)) (H:Hp) (σ:L2.St) (H':Hp):Prop where
 k:cj st H H'
 d:Dr st H'
 e:∃ (tx:List Nat) (t1 t2:Option V),σ=[some (V.ref st),some (V.int n),some (V.ref l),t1,t2,some (V.str (Tx.S tx))]∧Tx.words 47 tx=ps∧tx.length≤62
theorem Cq (T:Tx K mg):aA P w K mg base aM 3 T.i7.f T.i7.d ["_law_state", "_law_most"] QQ:=by
 refine T.i7.F.ok ni (fun vs H Q E h=>?_) (fun az A outer s H vs Q E hr h=>?_)
 ·exact cx h fun _ _ _=>rfl
 ·refine cx h fun st n h=>?_;obtain ⟨aQ,hn0,Jw,q⟩:=h;refine bC (b:=aU zj) ((Dv.cut (Dv.aS 2 ni.nd (Dv.lst Dv.ag))
  (Dv.cut (Dv.nN PassesOwn.never rfl (Dv.Pk T.Px (Dv.aa (Dv.call (fO T) (hr.mono (by decide)) T.bI.m T.bI.F.kp T.bI.b .nil aw (Dv.aa (Dv.v 0) (Dv.aa (Dv.op dQ (Dv.v 1) Dv.int) Dv.ag))) Dv.ag)) (Dv.dA 3 ni.nd) (Dv.cut (Dv.aS 4 ni.nd (Dv.call (Vy T) (hr.mono (by decide)) T.nZ.m T.nZ.F.kp T.nZ.b .nil aw (Dv.aa (Dv.v 0) Dv.ag)))
  (Dv.aj (Dv.aX (Dv.iA PySem.F.slot_list_append PySem.F.type_list_append jX (Dv.v 2) (Dv.aa (Dv.ix (bq (K:=K) rfl) (Dv.lst (Dv.aa (Dv.v 4) (Dv.aa (Dv.v 4) (Dv.aa (Dv.v 4) (Dv.aa (Dv.v 4) (Dv.aa (Dv.v 4) (Dv.aa Dv.str (Dv.aa Dv.str Dv.ag)))))))) (Dv.call (fO T) (hr.mono (by decide)) T.bI.m T.bI.F.kp T.bI.b .nil aw (Dv.aa (Dv.v 0) (Dv.aa Dv.int Dv.ag)))) Dv.ag))))))
  (Dv.cut (Dv.aS 5 ni.nd (Dv.op dQ (Dv.ix (bq (K:=K) rfl) (Dv.lst (Dv.aa Dv.str (Dv.aa Dv.str Dv.ag))) (Dv.call (fO T) (hr.mono (by decide)) T.bI.m T.bI.F.kp T.bI.b .nil aw (Dv.aa (Dv.v 0) (Dv.aa Dv.int Dv.ag)))) (Dv.l8 PySem.F.slot_str_join PySem.F.type_str_join (wz (K:=K) rfl) (Dv.ix (bq (K:=K) rfl) (Dv.lst (Dv.aa Dv.str (Dv.aa Dv.str (Dv.aa Dv.str Dv.ag)))) (Dv.call (fO T) (hr.mono (by decide)) T.bI.m T.bI.F.kp T.bI.b .nil aw (Dv.aa (Dv.v 0) (Dv.aa Dv.int Dv.ag)))) (Dv.aa (Dv.v 2) Dv.ag))))
  (Dv.cut (Dv.aW (Dv.dv (Dv.w_and (Dv.aY (sO hr.fV) (Dv.v 2) (Dv.lst Dv.ag)) (Dv.iz (Dv.aY cv (Dv.call (fO T) (hr.mono (by decide)) T.bI.m T.bI.F.kp T.bI.b .nil aw (Dv.aa (Dv.v 0) (Dv.aa Dv.int Dv.ag))) Dv.int)))) (Dv.aj (Dv.aS 5 ni.nd (Dv.op dQ (Dv.v 5) Dv.str))) Dv.nil)
  (Dv.aj (Dv.aP (Dv.ix (bq (K:=K) rfl) (Dv.lst (Dv.aa (Dv.v 5) (Dv.aa Dv.str Dv.ag))) (Dv.oE sT T.p8 qN (Dv.aa (Dv.cmp cv (Dv.v 5) Dv.str) Dv.ag)))))))))) ?_
  refine stI [some (V.ref st),some (V.int n),none,none,none,none] ?_;refine ao ?_;walk_at "w";refine ⟨fits (by simp),fun l hl=>?_⟩;have s1:=ai.upd (o:=.lst []) hl;have b1:upd H l (.lst []) l=some (.lst (PV [])):=ay;have nl:=aQ.ne hl;generalize upd H l (.lst [])=H1 at s1 b1 ⊢;refine en (fun σ' H'=>cj st H H'∧Dr st H'∧∃ (ps:List (List Nat)) (t1 t2:Option V),σ'=[some (V.ref st),some (V.int n),some (V.ref l),t1,t2,none]∧ps.all bZ=true∧ps.length≤6∧H' l=some (.lst (PV ps))) ?_ ?_
  ·walk_at "w";refine nk (aQ.same s1) (by omega) (by omega) fun d H2 d0 d1 h2 k2=>?_;obtain ⟨m,rfl⟩:=Int.eq_ofNat_of_zero_le d0;refine ⟨⟨by omega,by omega⟩,?_⟩;refine O3 (fun i σ' H'=>cj st H H'∧Dr st H'∧∃ (ps:List (List Nat)) (t1 t2:Option V),σ'=[some (V.ref st),some (V.int n),some (V.ref l),t1,t2,none]∧ps.all bZ=true∧ps.length=i∧H' l=some (.lst (PV ps))) ⟨(s1.keep st).trans k2,h2,[],_,_,rfl,rfl,rfl,k2 _ _ nl b1⟩ ?_ ?_
   ·rintro i σ' H3 hi ⟨k3,h3,ps,t1,t2,rfl,cX,bg,b3⟩;refine ao ?_;walk_at "w";refine ⟨h3,fun nm H4 bJ h4 k4=>?_⟩;walk_at "w";have b4:=k4 _ _ nl b3;simp only [b4];refine kj h4 rfl (by simp) (by simp) fun v H5 hv h5 k5=>?_;obtain ⟨wd,hwd,rfl⟩:∃ wd,bZ wd=true∧v=V.str (Tx.S wd):=by
     simp only [List.mem_cons,List.not_mem_nil,or_false] at hv;have hp:bZ nm=true:=by unfold bZ; rw [bJ]; simp
     rcases hv with rfl | rfl | rfl | rfl | rfl | rfl | rfl
     ·exact ⟨nm,hp,rfl⟩
     ·exact ⟨nm,hp,rfl⟩
     ·exact ⟨nm,hp,rfl⟩
     ·exact ⟨nm,hp,rfl⟩
     ·exact ⟨nm,hp,rfl⟩
     ·exact ⟨[46],by decide +kernel,by decide +kernel⟩
     ·exact ⟨[46,46],by decide +kernel,by decide +kernel⟩
    have b5:=k5 _ _ nl b4;simp only [b5];have hil:i < m:=by simpa using hi
    refine ⟨gN (by simp [PV]; omega),fun c o hc e=>?_,?_,ps++[wd],_,_,rfl,by rw [List.all_append,cX]; simp [hwd],by rw [List.length_append,bg]; rfl,by rw [ay]; simp [PV]⟩
    ·have ncl:c≠l:=fun z=>by rw [z,hl] at e; cases e
     rw [ah ncl];exact ((k3.trans k4).trans k5) c o hc e
    ·obtain ⟨zs,e,h⟩:=h5;exact ⟨zs,by rw [ah (Ne.symm nl)]; exact e,h⟩
   ·rintro σ' H3 ⟨k3,h3,ps,t1,t2,rfl,cX,bg,b3⟩;exact ⟨k3,h3,ps,t1,t2,rfl,cX,by rw [bg]; simp; omega,b3⟩
  ·rintro σ' H2 ⟨k2,d2,ps,t1,t2,rfl,cX,bg,b2⟩;have pA:Str.ofString "/" = Tx.S [47]:=by decide +kernel
   have e0:Str.ofString "" = Tx.S []:=by decide +kernel
   have hw:∀ w'∈ps,47 ∉ w'∧w'≠[]:=fun w' hw'=>let q:=nJ (List.all_eq_true.mp cX w' hw'); ⟨q.1,q.2.1⟩
   have h8:∀ w'∈ps,w'.length≤8:=fun w' hw'=>(nJ (List.all_eq_true.mp cX w' hw')).2.2;refine ao ?_;walk_at "w";refine kj d2 rfl (by simp) (by simp) fun v H3 hv d3 k3=>?_;obtain ⟨pre,iQ,rfl⟩:∃ pre:List Nat,(pre=[]∨pre=[47])∧v=V.str (Tx.S pre):=by
    simp only [List.mem_cons,List.not_mem_nil,or_false] at hv;rcases hv with rfl | rfl
    ·exact ⟨[],.inl rfl,by decide +kernel⟩
    ·exact ⟨[47],.inr rfl,by decide +kernel⟩
   have b3:=k3 _ _ nl b2;refine kj d3 rfl (by simp) (by simp) fun v H4 hv d4 k4=>?_;obtain ⟨m,hm,rfl⟩:∃ m:Nat,m≤1∧v=V.str (Tx.S (List.replicate (m+1) 47)):=by
    simp only [List.mem_cons,List.not_mem_nil,or_false] at hv;rcases hv with rfl | rfl | rfl
    ·exact ⟨0,by decide,by decide +kernel⟩
    ·exact ⟨0,by decide,by decide +kernel⟩
    ·exact ⟨1,by decide,by decide +kernel⟩
   have b4:=k4 _ _ nl b3;have IV:=(k2.trans k3).trans k4;have Br:=Hy (m+1) 8 ps h8;have hjb:(joinR (m+1) ps).length≤60:=Nat.le_trans Br (by have:ps.length * (8+(m+1))≤6 * 10:=Nat.mul_le_mul bg (by omega); exact this);have vh:pre.length≤1:=by rcases iQ with rfl | rfl <;> simp
   refine ⟨_,aK.of b4,ps.map Tx.S,rfl,?_,?_⟩
   ·have:=wk (Tx.S (List.replicate (m+1) 47)).length (ps.map Tx.S) 0 (fun s hs=>by
     obtain ⟨x,hx,rfl⟩:=List.mem_map.mp hs;rw [Tx.bX]; exact h8 x hx)
    refine fits (Nat.le_trans this ?_);rw [Tx.bX,List.length_replicate,List.length_map];have:(8+(m+1)) * ps.length≤10 * 6:=Nat.mul_le_mul (by omega) bg;omega
   rw [FE];simp only [Tx.oG];have ve:Tx.words 47 (pre++joinR (m+1) ps)=ps:=by
    rcases iQ with rfl | rfl
    ·exact wO m ps hw
    ·exact (Tx.y6 47 _).trans (wO m ps hw)
   refine ⟨fits (by rw [Tx.bX,Tx.bX]; omega),?_⟩;generalize BG:pre++joinR (m+1) ps=tx at ve ⊢;have htl:tx.length≤61:=by rw [← BG,List.length_append]; omega
   refine en (Sg st l n ps H) ?_ ?_
   ·walk_at "w";refine ⟨fits (by simp),fun p hp=>?_⟩;have s5:=ai.upd (o:=.lst []) hp;have b5:upd H4 p (.lst []) p=some (.lst []):=ay;generalize upd H4 p (.lst [])=H5 at s5 b5 ⊢;refine ⟨ps.map Tx.S,[],s5 _ _ b4,b5,?_⟩;by_cases hps0:ps=[]
    ·refine bT (by rw [decide_eq_true (by rw [hps0]; rfl)]; rfl) (bb ⟨IV.trans (s5.keep st),d4.same s5,_,_,_,rfl,ve,by omega⟩)
    ·refine cb (by rw [decide_eq_false (fun e=>hps0 (List.map_eq_nil_iff.mp e))]; rfl) ?_;refine nk (d4.same s5) (by decide) (by decide) fun d H6 _ _ d6 k6=>?_;have k6':=(IV.trans (s5.keep st)).trans k6;refine jk (fun _=>?_) (fun _=>⟨k6',d6,_,_,_,rfl,ve,by omega⟩);rw [pA,Tx.oG];exact ⟨fits (by rw [Tx.bX,Tx.bX]; show tx.length+1≤1000; omega),k6',d6,_,_,_,rfl,(Tx.yY 47 tx []).trans (by rw [ve]; exact List.append_nil _),by rw [List.length_append]; show tx.length+1≤62; omega⟩
   ·rintro σ' H5 ⟨k5,d5,tx,t1,t2,rfl,IL,pz⟩;walk_at "w";refine ⟨fits (by simp),fun p hp=>?_⟩;simp only [bG,ay];have k6:=k5.trans ((ai.upd (o:=.lst [V.str (Tx.S tx),V.str (Str.ofString ".")]) hp).keep st);have d6:=d5.same (ai.upd (o:=.lst [V.str (Tx.S tx),V.str (Str.ofString ".")]) hp);by_cases htx0:tx=[]
    ·rw [decide_eq_true (by rw [htx0,e0]),if_pos rfl];rw [show cq [V.str (Tx.S tx),V.str (Str.ofString ".")] 1=some (V.str (Str.ofString ".")) from gH (j:=1) rfl,show Str.ofString "." = Tx.S [46] by decide +kernel];rw [show Str.ofString "." = Tx.S [46] by decide +kernel] at k6 d6;exact q [46] _ ⟨by decide,by decide,by decide +kernel,by decide⟩ d6 k6
    ·rw [decide_eq_false (fun e=>htx0 (Tx.rg (e.trans e0))),if_neg (by nofun)];rw [show cq [V.str (Tx.S tx),V.str (Str.ofString ".")] 0=some (V.str (Tx.S tx)) from gH (j:=0) rfl];exact q tx _ ⟨by have:tx.length≠0:=fun e=>htx0 (List.length_eq_zero_iff.mp e); omega,by omega,by rw [IL]; exact cX,by rw [IL]; exact bg⟩ d6 k6
def Te (K:PySem.W.Frag):Sp:=je fun a k H Q _=>(∃ ns:List Int,aK K H a (ns.map V.int))∧0≤k∧∀ c:Int,Q (.int c) H
theorem Uj (T:Tx K mg):aA P w K mg base aM 1 T.m5.f T.m5.d ["_law_script", "_law_k"] (Te K):=by
 refine T.m5.F.ok PY (fun vs H Q E h=>?_) (fun az A outer s H vs Q E hr h=>?_)
 ·exact cx h fun _ _ _=>rfl
 ·refine cx h fun a k h=>?_;obtain ⟨⟨ns,hS⟩,hk,q⟩:=h;obtain ⟨k,rfl⟩:=Int.eq_ofNat_of_zero_le hk;refine ⟨_,((Dv.cut (Dv.aW (Dv.aY Ek (Dv.v 1) (Dv.cD (NC (K:=K) rfl) T.iS PySem.boot_len (Dv.aa (Dv.v 0) Dv.ag))) (Dv.aj (Dv.aP (Dv.ix (La (K:=K) rfl) (Dv.v 0) (Dv.v 1)))) Dv.nil)
  (Dv.aj (Dv.aP Dv.int)))).h,?_⟩
  refine stI [some (.ref a),some (.int (k:Nat))] ?_;refine ao ?_;walk_at "w";refine ⟨_,hS,?_⟩;refine jk (fun hd=>?_) (fun _=>q _);have hl:k < ns.length:=by have:=of_decide_eq_true hd; rw [List.length_map] at this; omega
  refine ⟨_,.int ns[k],hS,?_,q _⟩;refine gH (j:=k) ?_;rw [List.getElem?_map,List.getElem?_eq_getElem hl]; rfl
def MB (CH CS CT:Addr):Sp:=je fun x n H Q _=>∃ A L M,∃ k:Nat,aI CH CS CT H A L M∧A.a=x∧n=(k:Int)∧M.tr=[(("main" : Str),0)]∧M.un=[]∧∀ H',ai H H'→Q (.int (k:Int)) H'
theorem zZ {M:Hs} (h:M.tr=[(("main" : Str),0)]):xX M=[("main" : Str)]:=by
 unfold xX;rw [h];exact PD _
theorem mX (T:Tx K mg):aA P w K mg base aM 4 T.c9.f T.c9.d ["_law_house_here", "_law_folder"] (MB T.au T.aE T.aG):=by
 refine T.c9.F.ok Gh (fun vs H Q E h=>?_) (fun az A outer s H vs Q E hr h=>?_)
 ·exact cx h fun _ _ _=>rfl
 ·refine cx h fun x n h=>?_;obtain ⟨AA,L,M,k,i,rfl,rfl,cR,fL,q⟩:=h;obtain ⟨fs,c,hx,aV,sf⟩:=i.h;refine bC (b:=aU zy) ((Dv.cut (Dv.nN PassesOwn.never rfl (Dv.gX (K:=K) rfl (Dv.nB T.aL T.jh.h (y3 T) (hr.mono (by decide)) T.jh.b .nil aw (Dv.v 0))) (Dv.dA 2 Gh.nd) (Dv.aj (Dv.aW (Dv.aY cv (Dv.bh T.aL T.l6.h (DY T) (hr.mono (by decide)) T.l6.b .nil aw (Dv.v 0) (Dv.aa (Dv.v 2) Dv.ag)) (Dv.v 1)) (Dv.aj Dv.cK) Dv.nil)))
  (Dv.aj (Dv.aP (Dv.v 1))))) ?_
  refine stI [some (V.ref AA.a),some (V.int (k:Int)),none] ?_;refine ao ?_;walk_at "w";refine ⟨AA.a,_,_,rfl,hx,(sf _).trans rfl,AA,L,M,i,rfl,by rw [cR]; simp,fun l hl=>?_⟩;rw [zZ cR];have s1:=ai.upd (o:=.lst ([("main" : Str)].map V.str)) hl;have b1:upd H l (.lst ([("main" : Str)].map V.str)) l=some (.lst ([("main" : Str)].map V.str)):=ay;generalize upd H l (.lst ([("main" : Str)].map V.str))=H1 at s1 b1 ⊢;have i1:=i.same s1;obtain ⟨iJ,c1,bu,jC,cf⟩:=i1.h;refine ⟨⟨_,aK.of b1⟩,qH (xs:=[("main" : Str)].map V.str) (fun jj σ' H'=>H'=H1∧∃ t,σ'=[some (V.ref AA.a),some (V.int (k:Int)),t]) ⟨rfl,_,rfl⟩ (fun jj σ' H' _ h=>by rw [h.1]; exact aK.of b1) ?_ (fun σ' H' h=>?_)⟩
  ·rintro jj v σ' H' hv ⟨rfl,t,rfl⟩;obtain rfl:v=V.str ("main" : Str):=by
    have:=List.mem_of_getElem? hv
    simpa using this
   walk_at "w";refine ⟨AA.a,_,_,rfl,bu,(cf _).trans rfl,AA,L,M,0,i1,rfl,by rw [cR]; rfl,?_⟩;rw [fL];exact ⟨rfl,bT (decide_eq_false (by nofun)) ⟨rfl,_,rfl⟩⟩
  ·obtain ⟨rfl,t,rfl⟩:=h;walk_at "w";exact q _ s1
def SH (CH CS CT:Addr):Sp:=je fun x n H Q _=>∃ A L M,∃ k:Nat,aI CH CS CT H A L M∧A.a=x∧n=(k:Int)∧M.tr=[(("main" : Str),0)]∧M.un=[]∧∀ l H',ai H H'→H' l=some (.lst [.int (k:Int)])→Q (.ref l) H'
theorem uA (T:Tx K mg):aA P w K mg base aM 5 T.eQ.f T.eQ.d ["_law_house_here", "_law_folder"] (SH T.au T.aE T.aG):=by
 refine T.eQ.F.ok um (fun vs H Q E h=>?_) (fun az A outer s H vs Q E hr h=>?_)
 ·exact cx h fun _ _ _=>rfl
 ·refine cx h fun x n h=>?_;obtain ⟨AA,L,M,k,i,rfl,rfl,cR,fL,q⟩:=h;refine bC (b:=aU yW) ((Dv.cut (Dv.aS 2 um.nd (Dv.lst (Dv.aa (Dv.v 1) Dv.ag)))
  (Dv.cut (Dv.nN PassesOwn.never rfl (Dv.gX (K:=K) rfl (Dv.nB T.aL T.jh.h (y3 T) (hr.mono (by decide)) T.jh.b .nil aw (Dv.v 0))) (Dv.dA 3 um.nd) (Dv.aj (Dv.nN PassesOwn.never rfl (Dv.gX (K:=K) rfl (Dv.nB T.aL T.jh.h (y3 T) (hr.mono (by decide)) T.jh.b .nil aw (Dv.v 0))) (Dv.dA 4 um.nd) (Dv.aj (Dv.aW (Dv.dv (Dv.w_and (Dv.aY cv (Dv.bh T.aL T.lh.h (BZ T) (hr.mono (by decide)) T.lh.b .nil aw (Dv.v 0) (Dv.aa (Dv.v 4) Dv.ag)) (Dv.ix (bq (K:=K) rfl) (Dv.v 2) Dv.int)) (Dv.iz (Dv.aY lV (Dv.bh T.aL T.l6.h (DY T) (hr.mono (by decide)) T.l6.b .nil aw (Dv.v 0) (Dv.aa (Dv.v 4) Dv.ag)) Dv.ax)))) (Dv.aj Dv.cK) Dv.nil)))))
  (Dv.cut (Dv.iY PassesOwn.never (Dv.aY kE (Dv.call (mX T) (hr.mono (by decide)) T.c9.m T.c9.F.kp T.c9.b .nil aw (Dv.aa (Dv.v 0) (Dv.aa (Dv.ix (bq (K:=K) rfl) (Dv.v 2) (Dv.un ie Dv.int)) Dv.ag))) (Dv.ix (bq (K:=K) rfl) (Dv.v 2) (Dv.un ie Dv.int))) (Dv.aj Dv.cK))
  (Dv.aj (Dv.aP (Dv.v 2))))))) ?_
  refine stI [some (V.ref AA.a),some (V.int (k:Int)),none,none,none] ?_;refine ao ?_;walk_at "w";refine ⟨fits (by simp),fun lf hlf=>?_⟩;have s0:=ai.upd (o:=.lst [V.int (k:Int)]) hlf;have b0:upd H lf (.lst [V.int (k:Int)]) lf=some (.lst [V.int (k:Int)]):=ay;generalize upd H lf (.lst [V.int (k:Int)])=H0 at s0 b0 ⊢;refine en (fun σ' H'=>ai H0 H'∧∃ t1 t2,σ'=[some (V.ref AA.a),some (V.int (k:Int)),some (V.ref lf),t1,t2]) ?_ ?_
  ·have i1:=i.same s0;obtain ⟨iJ,c1,bu,jC,cf⟩:=i1.h;walk_at "w";refine ⟨AA.a,_,_,rfl,bu,(cf _).trans rfl,AA,L,M,i1,rfl,by rw [cR]; simp,fun l hl=>?_⟩;rw [zZ cR];have s1:=ai.upd (o:=.lst ([("main" : Str)].map V.str)) hl;have b1:upd H0 l (.lst ([("main" : Str)].map V.str)) l=some (.lst ([("main" : Str)].map V.str)):=ay;generalize upd H0 l (.lst ([("main" : Str)].map V.str))=H1 at s1 b1 ⊢;refine ⟨⟨_,aK.of b1⟩,qH (xs:=[("main" : Str)].map V.str) (fun jj σ' H'=>ai H1 H'∧∃ t1 t2,σ'=[some (V.ref AA.a),some (V.int (k:Int)),some (V.ref lf),t1,t2]) ⟨fun _ _ e=>e,_,_,rfl⟩ (fun jj σ' H' _ h=>aK.of (h.1 _ _ b1)) ?_ (fun σ' H' h=>⟨s1.trans h.1,h.2⟩)⟩;rintro jj v σ' H2 hv ⟨s2,t1,t2,rfl⟩;have i2:=i.same ((s0.trans s1).trans s2);obtain ⟨iL,c2,bN,iK,bS⟩:=i2.h;walk_at "w";refine ⟨AA.a,_,_,rfl,bN,(bS _).trans rfl,AA,L,M,i2,rfl,by rw [cR]; simp,fun l3 gI=>?_⟩;rw [zZ cR];have s3:=ai.upd (o:=.lst ([("main" : Str)].map V.str)) gI;have b3:upd H2 l3 (.lst ([("main" : Str)].map V.str)) l3=some (.lst ([("main" : Str)].map V.str)):=ay;generalize upd H2 l3 (.lst ([("main" : Str)].map V.str))=H3 at s3 b3 ⊢;have HQ:=s1.trans (s2.trans s3);have i3:=i.same (s0.trans HQ);obtain ⟨gU,c3,cQ,gP,fi⟩:=i3.h;have b03:=HQ _ _ b0;refine ⟨⟨_,aK.of b3⟩,qH (xs:=[("main" : Str)].map V.str) (fun jj σ' H'=>H'=H3∧∃ t1 t2,σ'=[some (V.ref AA.a),some (V.int (k:Int)),some (V.ref lf),t1,t2]) ⟨rfl,_,_,rfl⟩ (fun jj σ' H' _ h=>by rw [h.1]; exact aK.of b3) ?_ (fun σ' H' h=>by rw [h.1]; exact ⟨s2.trans s3,h.2⟩)⟩;rintro jj v σ' H' hv ⟨rfl,t1,t2,rfl⟩;obtain rfl:v=V.str ("main" : Str):=by
    have:=List.mem_of_getElem? hv
    simpa using this
   walk_at "w";refine ⟨AA.a,_,_,rfl,cQ,(fi _).trans rfl,AA,L,M,0,i3,rfl,by rw [cR]; rfl,?_⟩;simp only [bG,b03,cU];refine jk (fun _=>?_) (fun _=>bb ⟨by trivial,_,_,rfl⟩);refine ⟨AA.a,_,_,rfl,cQ,(fi _).trans rfl,AA,L,M,0,i3,rfl,by rw [cR]; rfl,?_⟩;rw [fL];exact ⟨by trivial,bT (congrArg not (decide_eq_true rfl)) ⟨rfl,_,_,rfl⟩⟩
  ·rintro σ' H1 ⟨s1,t1,t2,rfl⟩;have i1:=i.same (s0.trans s1);have b1:=s1 _ _ b0;have e1:([V.int (k:Int)]:List V)=[]++[V.int (k:Int)]:=rfl;refine ao ⟨fun m σ' H'=>σ'=[some (V.ref AA.a),some (V.int (k:Int)),some (V.ref lf),t1,t2]∧H'=H1,⟨0,rfl,rfl⟩,?_⟩;rintro m σ' H' ⟨rfl,rfl⟩;walk_at "w";rw [e1] at b1;simp only [bG,b1,jr];refine ⟨AA,L,M,k,i1,rfl,rfl,cR,fL,fun H2 s2=>?_⟩;simp only [s2 _ _ b1,jr];refine bT (by simp) ?_;walk_at "w";exact q lf H2 ((s0.trans s1).trans s2) (s2 _ _ b1)
def Qo (CH CS CT:Addr):Sp:=km fun x z n H Q _=>∃ A L M,∃ k t,aI CH CS CT H A L M∧A.a=x∧n=((k:Nat):Int)∧z∈AS∧Gd M∧M.ts[k]?=some t∧∀ H',ai H H'→Q (.bl true) H'
theorem Ve (T:Tx K mg):aA P w K mg base aM 6 T.nA.f T.nA.d ["_law_house_here", "_law_asker", "_law_folder"] (Qo T.au T.aE T.aG):=by
 refine T.nA.F.ok rl (fun vs H Q E h=>?_) (fun az A outer s H vs Q E hr h=>?_)
 ·exact fc h fun _ _ _ _=>rfl
 ·refine fc h fun x z n h=>?_;obtain ⟨AA,L,M,k,t,i,rfl,rfl,hz,g,ht,q⟩:=h;refine bC (b:=aU zA) ((Dv.cut (Dv.iY PassesOwn.never (Dv.dv (Dv.w_and (Dv.aY lV (Dv.v 2) Dv.ax) (Dv.iz (Dv.aY cv (Dv.call (mX T) (hr.mono (by decide)) T.c9.m T.c9.F.kp T.c9.b .nil aw (Dv.aa (Dv.v 0) (Dv.aa (Dv.v 2) Dv.ag))) (Dv.v 2))))) (Dv.cut (Dv.aS 3 rl.nd (Dv.call (uA T) (hr.mono (by decide)) T.eQ.m T.eQ.F.kp T.eQ.b .nil aw (Dv.aa (Dv.v 0) (Dv.aa (Dv.v 2) Dv.ag))))
  (Dv.cut (Dv.aW (Dv.aY (mU (K:=K) rfl) (Dv.bh T.aL T.ef.h (lb T) (hr.mono (by decide)) T.ef.b .nil aw (Dv.v 0) (Dv.aa (Dv.v 1) Dv.ag)) (Dv.v 3)) (Dv.aj (Dv.aP Dv.bl)) Dv.nil)
  (Dv.cut (Dv.aS 4 rl.nd (Dv.bh T.aL T.fb.h (ou T) (hr.mono (by decide)) T.fb.b .nil aw (Dv.v 0) (Dv.aa (Dv.ix (bq (K:=K) rfl) (Dv.v 3) Dv.int) Dv.ag)))
  (Dv.cut (Dv.aS 2 rl.nd Dv.ax)
  (Dv.aj (Dv.aW (Dv.aY lV (Dv.v 4) Dv.ax) (Dv.aj (Dv.aS 2 rl.nd (Dv.ix (bq (K:=K) rfl) (Dv.v 4) Dv.int))) Dv.nil)))))))
  (Dv.aj (Dv.aP Dv.bl)))) ?_
  refine stI [some (V.ref AA.a),some (V.str z),some (V.int (k:Int)),none,none] ?_;refine ao ⟨fun m σ' H'=>ai H H'∧∃ t t1 t2,M.ts[m]?=some t∧σ'=[some (V.ref AA.a),some (V.str z),some (V.int (m:Int)),t1,t2],⟨k,fun _ _ e=>e,t,_,_,ht,rfl⟩,?_⟩;clear ht;rintro m σ' H1 ⟨s1,t,t1,t2,ht,rfl⟩;have i1:=i.same s1;obtain ⟨a,ha⟩:=adr i1.len ht;walk_at "w";refine ⟨by trivial,cb (congrArg not (decide_eq_false (by nofun))) ?_⟩;refine ⟨AA,L,M,m,i1,rfl,rfl,g.tr,g.un,fun H2 s2=>cb (decide_eq_true rfl) ⟨_,fun _ _ h=>h,ao ?_⟩⟩;have i2:=i1.same s2;walk_at "w";refine ⟨AA,L,M,m,i2,rfl,rfl,g.tr,g.un,fun l H3 s3 hl=>ao ?_⟩;have i3:=i2.same s3;obtain ⟨fs,c,hx,aV,sf⟩:=i3.h;walk_at "w";refine ⟨AA.a,_,_,rfl,hx,(sf _).trans rfl,AA,L,M,0,i3,rfl,g.ro z hz,?_⟩;simp only [bG,hl];refine ⟨rfl,by simp [cm],?_⟩;rw [show ([V.int (m:Int)]:List V)=nV [m] from rfl,lR,jq];by_cases h0:m=0
  ·rw [decide_eq_true h0];exact bM (q _ ((s1.trans s2).trans s3))
  ·rw [decide_eq_false h0];refine bb (ao ?_);rcases (g.th m t ht).pl with ⟨e,_⟩ | ⟨f,nm,tf,hf,hp,_,bA,_⟩
   ·exact absurd e h0
   walk_at "w";simp only [bG,hl,cU];refine ⟨AA.a,_,_,rfl,hx,(sf _).trans rfl,AA,L,M,m,a,t,i3,rfl,rfl,ha,ht,.inr ⟨f,nm,hp,fun p px=>ao ?_⟩⟩;walk_at "w";refine ⟨by trivial,cb (congrArg not (decide_eq_false (by nofun))) ?_⟩;simp only [bG,px,cU];exact ⟨f,hf,(s1.trans s2).trans s3,tf,_,_,bA,rfl⟩
theorem Gd.la {M:Hs} (g:Gd M) {k b:Nat} {r:List Nat} (h:de M k b r):b=k∧r=[]:=by
 obtain ⟨⟨n,h1⟩,n2,h2,_⟩:=h;refine ⟨?_,?_⟩
 ·cases n with
  | zero=>exact h1.2
  | succ n=>obtain ⟨k',e,_⟩:=h1; rw [g.un] at e; cases e
 ·cases n2 with
  | zero=>exact h2.2
  | succ n=>obtain ⟨k',r,e,_⟩:=h2; rw [g.ov] at e; cases e
def MD (CH CS CT:Addr):Sp:=EA fun x z n nv H Q _=>∃ A L M,∃ k t ns bE,aI CH CS CT H A L M∧A.a=x∧n=((k:Nat):Int)∧z∈AS∧Gd M∧M.ts.length≤90∧M.ts[k]?=some t∧(nv=.ax∧bE=[]∨∃ nm:Str,nv=.str nm∧bE=[nm]∧nm.length≤8)∧(∃ m,fU M L 0 m k ns)∧ns.length≤99∧(∀ s∈ns,s.length≤8)∧∀ H',ai H H'→Q (.str (gi (ns++bE))) H'
theorem N4 (T:Tx K mg):aA P w K mg base aM 6 T.mT.f T.mT.d ["_law_house_here", "_law_asker", "_law_folder", "_law_name"] (MD T.au T.aE T.aG):=by
 refine T.mT.F.ok qC (fun vs H Q E h=>?_) (fun az A outer s H vs Q E hr h=>?_)
 ·exact GR h fun _ _ _ _ _=>rfl
 ·refine GR h fun x z n nv h=>?_;obtain ⟨AA,L,M,k,t,ns,bE,i,rfl,rfl,hz,g,hn,ht,Bb,bJ,hl99,h8,q⟩:=h;refine bC (b:=aU xo) ((Dv.cut (Dv.aS 4 qC.nd (Dv.slice (xM (K:=K) rfl) (Dv.lst (Dv.aa (Dv.v 3) Dv.ag)) Dv.tE (Dv.nG (Dv.oE sT T.p8 qN (Dv.aa (Dv.cmp lV (Dv.v 3) Dv.ax) Dv.ag)))))
  (Dv.cut (Dv.iY PassesOwn.never (Dv.aY (ur (K:=K) rfl) (Dv.bh T.aL T.ef.h (lb T) (hr.mono (by decide)) T.ef.b .nil aw (Dv.v 0) (Dv.aa (Dv.v 1) Dv.ag)) (Dv.call (uA T) (hr.mono (by decide)) T.eQ.m T.eQ.F.kp T.eQ.b .nil aw (Dv.aa (Dv.v 0) (Dv.aa (Dv.v 2) Dv.ag)))) (Dv.cut (Dv.pV (Dv.bh T.aL T.fb.h (ou T) (hr.mono (by decide)) T.fb.b .nil aw (Dv.v 0) (Dv.aa (Dv.ix (bq (K:=K) rfl) (Dv.call (uA T) (hr.mono (by decide)) T.eQ.m T.eQ.F.kp T.eQ.b .nil aw (Dv.aa (Dv.v 0) (Dv.aa (Dv.v 2) Dv.ag))) Dv.int) Dv.ag)) (Dv.tG (K:=K) (n:=2) rfl rfl (Dv.ka (Dv.dA 2 qC.nd) (Dv.ka (Dv.dA 5 qC.nd) Dv.uS))))
  (Dv.aj (Dv.aS 4 qC.nd (Dv.op dQ (Dv.lst (Dv.aa (Dv.v 5) Dv.ag)) (Dv.v 4))))))
  (Dv.aj (Dv.aP (Dv.op dQ Dv.str (Dv.l8 PySem.F.slot_str_join PySem.F.type_str_join (wz (K:=K) rfl) Dv.str (Dv.aa (Dv.v 4) Dv.ag)))))))) ?_
  refine stI [some (V.ref AA.a),some (V.str z),some (V.int (k:Int)),some nv,none,none] ?_;refine en (fun σ' H'=>ai H H'∧∃ l,σ'=[some (V.ref AA.a),some (V.str z),some (V.int (k:Int)),some nv,some (V.ref l),none]∧H' l=some (.lst (bE.map V.str))) ?_ ?_
  ·walk_at "w";refine ⟨fits (by simp),fun p hp=>⟨by trivial,_,aK.of ay,fun p1 mx=>⟨(ai.upd hp).trans (ai.upd mx),p1,rfl,?_⟩⟩⟩;rw [ay];rcases Bb with ⟨rfl,rfl⟩ | ⟨nm,rfl,rfl,_⟩
   ·rw [decide_eq_true rfl]; rfl
   ·rw [decide_eq_false (by nofun)]; rfl
  rintro σ' H1 ⟨s1,l,rfl,b1⟩;obtain ⟨m0,bJ⟩:=bJ;have rj:bE.length≤1:=by rcases Bb with ⟨_,rfl⟩ | ⟨nm,_,rfl,_⟩ <;> simp
  refine ao ⟨fun m σ' H'=>ai H H'∧∃ (j:Nat) (t':Th) (pre su:List Str) (l':Addr) (o:Option V),σ'=[some (V.ref AA.a),some (V.str z),some (V.int (j:Int)),some nv,some (V.ref l'),o]∧H' l'=some (.lst (su.map V.str))∧M.ts[j]?=some t'∧fU M L 0 m j pre∧pre++su=ns++bE,⟨m0,s1,k,t,ns,bE,l,none,rfl,b1,ht,bJ,rfl⟩,?_⟩;clear s1 b1 ht bJ;rintro m σ' H1 ⟨s1,j,t',pre,su,l',o,rfl,b1,ht,bJ,cX⟩;have i1:=i.same s1;obtain ⟨a,ha⟩:=adr i1.len ht;obtain ⟨fs,c,hx,aV,sf⟩:=i1.h;have hlen:pre.length+su.length≤100:=by
   have:=congrArg List.length cX;rw [List.length_append,List.length_append] at this;omega
  obtain ⟨b',r',a',t'',ha',ht',jw,mP⟩:=(by unfold fU at bJ; exact bJ:∃ b r a t,L[j]?=some a∧M.ts[j]?=some t∧de M j b r∧_);obtain ⟨rfl,rfl⟩:=g.la jw;rw [ht] at ht'; cases ht';walk_at "w";refine ⟨AA.a,_,_,rfl,hx,(sf _).trans rfl,AA,L,M,0,i1,rfl,g.ro z hz,AA,L,M,b',i1,rfl,rfl,g.tr,g.un,fun l2 H2 s2 ck=>?_⟩;have i2:=i1.same s2;obtain ⟨iL,c2,bN,iK,bS⟩:=i2.h;have b2:=s2 _ _ b1;refine ⟨_,.inl (aK.of ck),rfl,by simp [cm],?_⟩;rw [show ([V.int (b':Int)]:List V)=nV [b'] from rfl,lR];rw [jq] at mP ⊢;by_cases h0:b'=0
  ·rw [decide_eq_true h0] at mP ⊢;rw [if_pos rfl] at mP;rw [mP,List.nil_append] at cX;subst cX;have hn8':∀ s∈ns++bE,s.length≤8:=fun s hs=>by
    rcases List.mem_append.mp hs with hs | hs
    ·exact h8 s hs
    ·rcases Bb with ⟨_,rfl⟩ | ⟨nm,_,rfl,h⟩
     ·cases hs
     ·rw [List.mem_singleton.mp hs]; exact h
   obtain ⟨vc,hb2⟩:=EF hn8' (by rw [List.length_append]; omega);have lj:(Str.ofString "/").length=1:=by decide +kernel
   exact bb ⟨_,aK.of b2,_,rfl,fits (by omega),fits (by omega),q _ (s1.trans s2)⟩
  ·rw [decide_eq_false h0] at mP ⊢;rw [if_neg (by nofun)] at mP;obtain ⟨ab,tb,f,zz,eK,kI,bg,hm⟩:=mP;rw [ht] at kI; cases kI;cases m with
   | zero=>exact hm.elim
   | succ m =>
    obtain ⟨ns',rfl,hm⟩:=hm;obtain ⟨f',nm',tf,_,hp',_,bA,_⟩:∃ (f:Nat) (nm:Str) (tf:Th),f < b'∧t'.c7=[(f,nm)]∧nm.length≤8∧M.ts[f]?=some tf∧tf.kd=("folder" : Str):=by
     rcases (g.th b' t' ht).pl with ⟨e,_⟩ | h
     ·exact absurd e h0
     ·exact h
    rw [bg] at hp'; cases hp';refine bM ⟨_,fun _ _ h=>h,ao ?_⟩;walk_at "w";refine ⟨AA.a,_,_,rfl,bN,(bS _).trans rfl,AA,L,M,b',i2,rfl,rfl,g.tr,g.un,fun l3 H3 s3 gI=>?_⟩;have i3:=i2.same s3;obtain ⟨gU,c3,cQ,gP,fi⟩:=i3.h;have b3:=s3 _ _ b2;simp only [bG,gI,cU];refine ⟨AA,L,M,b',a,t',i3,rfl,rfl,ha,ht,.inr ⟨f,zz,bg,fun p hp=>⟨p,_,rfl,bV.of hp,rfl,_,_,rfl,_,_,rfl,rfl,fits (by simp),fun p4 kH=>?_⟩⟩⟩;have s4:=ai.upd (o:=.lst [V.str zz]) kH;have b4:=s4 _ _ b3;have c4:upd H3 p4 (.lst [V.str zz]) p4=some (.lst [V.str zz]):=ay;generalize upd H3 p4 (.lst [V.str zz])=H4 at s4 b4 c4 ⊢;simp only [b4,c4];refine ⟨fits (by rw [List.length_append] at hlen; simp at hlen ⊢; omega),fun p5 Bc=>⟨m,Nat.lt_succ_self m,(((s1.trans s2).trans s3).trans s4).trans (ai.upd Bc),f,tf,ns',zz::su,p5,_,rfl,ay,bA,hm,by rw [← cX]; simp⟩⟩
def UY:Sp:=jd fun pt H Q _=>∃ t,pt=Tx.S t∧fW t∧t.length≤400∧∀ l H',ai H H'→H' l=some (.lst (PV (told (Tx.words 47 t) t)))→Q (.ref l) H'
theorem SX (T:Tx K mg):aA P w K mg base aM 1 T.ny.f T.ny.d ["_law_path_here"] UY:=by
 refine T.ny.F.ok Cw (fun vs H Q E h=>?_) (fun az A outer s H vs Q E hr h=>?_)
 ·exact eB h fun _ _=>rfl
 ·refine eB h fun pt h=>?_;obtain ⟨t,rfl,pt,hl,q⟩:=h;refine bC (b:=aU wj) ((Dv.cut (Dv.zR 1 rfl Cw.nd (x:=("_law_part" : Str)) (Dv.gX (K:=K) rfl (Dv.l8 PySem.F.slot_str_split PySem.F.type_str_split E7 (Dv.v 0) (Dv.aa Dv.str Dv.ag))) (fun _ _ _ _=>by exact (Dv.EV (Dv.aY kE (Dv.v 0) Dv.str))) (fun _ _ _ _=>by exact (Dv.dA 0 (show List.Nodup (["_law_part"]:List Str) by decide))) (fun _ _ _ _=>by exact (Dv.v 0)) (.of rfl (by exact trivial) (by (repeat (first | exact trivial | (refine ⟨fun z=>(by first | exact ⟨_,rfl⟩ | (rcases z with z | z <;> cases z)),?_⟩)))) rfl (by exact trivial)))
  (Dv.cut (Dv.aW (Dv.dv (Dv.w_and (Dv.aY (sO hr.fV) (Dv.v 1) (Dv.lst Dv.ag)) (Dv.iz (Dv.aY cv (Dv.ix (bq (K:=K) rfl) (Dv.v 0) (Dv.un ie Dv.int)) Dv.str)))) (Dv.aj (Dv.aX (Dv.iA PySem.F.slot_list_append PySem.F.type_list_append jX (Dv.v 1) (Dv.aa Dv.str Dv.ag)))) Dv.nil)
  (Dv.aj (Dv.aP (Dv.v 1)))))) ?_
  refine stI [some (V.str (Tx.S t)),none] ?_;have pA:Str.ofString "/" = Tx.S [47]:=by decide +kernel
  have e0:Str.ofString "" = Tx.S []:=by decide +kernel
  obtain ⟨IG,c,ht⟩:∃ IG c,t=IG++[c]:=⟨_,_,(List.dropLast_concat_getLast (l:=t) (fun e=>by have:=pt.l1; rw [e] at this; simp at this)).symm⟩;refine ao ?_;walk_at "w";have o9:=Tx.uN 47 t;simp only [pA,e0];refine ⟨rfl,by rw [Tx.bX]; exact fits (by omega),?_,?_⟩
  ·rw [Tx.yK,Tx.jR,Tx.yP,Tx.pY,List.length_map];exact fits (by omega)
  intro l hl;rw [Tx.B6 t 47 (by decide)];have s1:=ai.upd (o:=.lst (((Tx.cut 47 t).map Tx.S).map V.str)) hl;have b1:upd H l (.lst (((Tx.cut 47 t).map Tx.S).map V.str)) l=some (.lst (((Tx.cut 47 t).map Tx.S).map V.str)):=ay;generalize upd H l (.lst (((Tx.cut 47 t).map Tx.S).map V.str))=H1 at s1 b1 ⊢;refine ⟨⟨_,aK.of b1⟩,vN (fun x=>match x with | .str z=>!decide (z=Tx.S []) | _=>false) id (aK.of b1) (by rw [List.length_map,List.length_map]; exact fits (by omega)) ?_ ?_ ?_⟩
  ·intro x hx H2 _ R hR;obtain ⟨z,_,rfl⟩:=List.mem_map.mp hx;walk_at "w";exact hR H2 (ai.refl H2)
  ·intro x hx _ H2 _ R hR;walk_at "w";exact hR H2 (ai.refl H2)
  intro H2 s2 l2 ck;have ew:((((Tx.cut 47 t).map Tx.S).map V.str).filter (fun x=>match x with | .str z=>!decide (z=Tx.S []) | _=>false)).map id=PV (Tx.words 47 t):=by
   rw [List.map_id,List.filter_map];show ((((Tx.cut 47 t).map Tx.S)).filter _).map V.str=_
   congr 1
   rw [← Tx.D0];refine List.filter_congr fun z _=>?_;show (!decide (z=Tx.S []))=decide (z≠Tx.S []);by_cases h:z=Tx.S [] <;> simp [h]
  rw [ew];have s3:=ai.upd (o:=.lst (PV (Tx.words 47 t))) ck;have b3:upd H2 l2 (.lst (PV (Tx.words 47 t))) l2=some (.lst (PV (Tx.words 47 t))):=ay;have gO:H l2=none:=tS (s1.trans s2) ck;generalize upd H2 l2 (.lst (PV (Tx.words 47 t)))=H3 at s3 b3 ⊢;have iE:ai H H3:=(s1.trans s2).trans s3;have mj:(Tx.words 47 t).length≤401:=Nat.le_trans (List.length_filter_le _ _) (by omega);have HZ:t.getLast?=some c:=by rw [ht]; simp
  refine en (fun σ' H'=>ai H H'∧σ'=[some (V.str (Tx.S t)),some (V.ref l2)]∧H' l2=some (.lst (PV (told (Tx.words 47 t) t)))) ?_ ?_
  ·walk_at "w";refine ⟨fits (by simp),fun p hp=>?_⟩;have s4:=ai.upd (o:=.lst []) hp;have b4:upd H3 p (.lst []) p=some (.lst []):=ay;generalize upd H3 p (.lst [])=H4 at s4 b4 ⊢;have u3:=s4 _ _ b3;refine ⟨(Tx.words 47 t).map Tx.S,[],u3,b4,?_⟩;by_cases h0:Tx.words 47 t=[]
   ·refine bT (by rw [decide_eq_true (by rw [h0]; rfl)]; rfl) (bb ⟨iE.trans s4,by trivial,?_⟩);unfold told;rw [if_neg (fun z=>z.1 h0)];exact u3
   ·refine cb (by rw [decide_eq_false (fun e=>h0 (List.map_eq_nil_iff.mp e))]; rfl) ⟨by rw [Tx.bX]; exact fits (by omega),?_⟩;rw [Tx.hV];rw [show cq t (-1)=some c by rw [ht]; exact jr _ _];by_cases hc:c=47
    ·refine cb (decide_eq_true (by rw [hc]; rfl)) ?_;simp only [u3];refine ⟨gN (by simp [PV]; omega),fun x o e=>?_,by trivial,?_⟩
     ·rw [ah (fun z=>by rw [z,gO] at e; cases e)];exact (iE.trans s4) x o e
     ·rw [ay];unfold told;rw [if_pos ⟨h0,by rw [HZ,hc]⟩,show Str.ofString "." = Tx.S [46] by decide +kernel];simp [PV]
    ·refine bT (decide_eq_false (fun e=>hc ?_)) ⟨iE.trans s4,by trivial,?_⟩
     ·have:=Tx.rg (a:=[c]) (b:=[47]) e;injection this
     ·unfold told;rw [if_neg (fun z=>hc (by rw [HZ] at z; exact Option.some.inj z.2))];exact u3
  ·rintro σ' H4 ⟨s4,rfl,b4⟩;walk_at "w";exact q l2 H4 s4 b4
def N9 (CH CS CT:Addr):Sp:=G2 fun x z pt n H Q _=>∃ A L M t,∃ k:Nat,pt=Tx.S t∧fW t∧aI CH CS CT H A L M∧A.a=x∧n=(k:Int)∧z∈AS∧Gd M∧∀ H',ai H H'→Q (.int ((if dG t=true then 0 else k:Nat):Int)) H'
theorem Vi (T:Tx K mg):aA P w K mg base aM 5 T.nU.f T.nU.d ["_law_house_here", "_law_asker", "_law_path_here", "_law_here"] (N9 T.au T.aE T.aG):=by
 refine T.nU.F.ok RW (fun vs H Q E h=>?_) (fun az A outer s H vs Q E hr h=>?_)
 ·exact Ds h fun _ _ _ _ _=>rfl
 ·refine Ds h fun x z pt n h=>?_;obtain ⟨AA,L,M,t,k,rfl,hp,i,rfl,rfl,hz,g,q⟩:=h;refine bC (b:=aU zL) ((Dv.cut (Dv.aW (Dv.aY cv (Dv.ix (bq (K:=K) rfl) (Dv.v 2) Dv.int) Dv.str) (Dv.aj (Dv.aP (Dv.call (mX T) (hr.mono (by decide)) T.c9.m T.c9.F.kp T.c9.b .nil aw (Dv.aa (Dv.v 0) (Dv.aa (Dv.bh T.aL T.ef.h (lb T) (hr.mono (by decide)) T.ef.b .nil aw (Dv.v 0) (Dv.aa (Dv.v 1) Dv.ag)) Dv.ag))))) Dv.nil)
  (Dv.aj (Dv.aP (Dv.v 3))))) ?_
  refine stI [some (V.ref AA.a),some (V.str z),some (V.str (Tx.S t)),some (V.int (k:Int))] ?_;obtain ⟨c,r,ht⟩:∃ c r,t=c::r:=by
   cases t with
   | nil=>exact absurd hp.l1 (by simp)
   | cons c r=>exact ⟨c,r,rfl⟩
  obtain ⟨fs,cc,hx,aV,sf⟩:=i.h;refine ao ?_;walk_at "w";refine ⟨by rw [Tx.bX]; exact Nat.le_trans hp.l2 (by decide),?_⟩;rw [Tx.hV,show cq t 0=some c by rw [ht]; exact gH (j:=0) rfl];have hh:dG t=decide (c=47):=by unfold dG; rw [ht]; simp
  rw [hh] at q;by_cases hc:c=47
  ·rw [if_pos (decide_eq_true hc)] at q;exact cb (decide_eq_true (by rw [hc]; decide +kernel)) ⟨AA.a,_,_,rfl,hx,(sf _).trans rfl,AA,L,M,0,i,rfl,g.ro z hz,AA,L,M,0,i,rfl,rfl,g.tr,g.un,q⟩
  ·rw [if_neg (by rw [decide_eq_false hc]; nofun)] at q;refine bT (decide_eq_false (fun e=>hc ?_)) (q _ fun _ _ e=>e);have:=Tx.rg (a:=[c]) (b:=[47]) (e.trans (by decide +kernel));injection this
def nS (t:Th) (k:Nat):Nat:=match t.c7 with
 | (f,_)::_=>f
 | []=>k
def OG (CH CS CT:Addr):Sp:=km fun x z n H Q _=>∃ A L M t,∃ k:Nat,aI CH CS CT H A L M∧A.a=x∧n=(k:Int)∧z∈AS∧Gd M∧M.ts[k]?=some t∧∀ H',ai H H'→Q (.int ((nS t k:Nat):Int)) H'
theorem Lz (T:Tx K mg):aA P w K mg base aM 6 T.m6.f T.m6.d ["_law_house_here", "_law_asker", "_law_here"] (OG T.au T.aE T.aG):=by
 refine T.m6.F.ok C3 (fun vs H Q E h=>?_) (fun az A outer s H vs Q E hr h=>?_)
 ·exact fc h fun _ _ _ _=>rfl
 ·refine fc h fun x z n h=>?_;obtain ⟨AA,L,M,t,k,i,rfl,rfl,hz,g,ht,q⟩:=h;obtain ⟨a,ha⟩:=adr i.len ht;refine bC (b:=aU xx) ((Dv.cut (Dv.aS 3 C3.nd (Dv.call (uA T) (hr.mono (by decide)) T.eQ.m T.eQ.F.kp T.eQ.b .nil aw (Dv.aa (Dv.v 0) (Dv.aa (Dv.v 2) Dv.ag))))
  (Dv.cut (Dv.aW (Dv.aY (mU (K:=K) rfl) (Dv.bh T.aL T.ef.h (lb T) (hr.mono (by decide)) T.ef.b .nil aw (Dv.v 0) (Dv.aa (Dv.v 1) Dv.ag)) (Dv.v 3)) (Dv.aj (Dv.aP (Dv.v 2))) Dv.nil)
  (Dv.aj (Dv.aP (Dv.call (mX T) (hr.mono (by decide)) T.c9.m T.c9.F.kp T.c9.b .nil aw (Dv.aa (Dv.v 0) (Dv.aa (Dv.ix (bq (K:=K) rfl) (Dv.bh T.aL T.fb.h (ou T) (hr.mono (by decide)) T.fb.b .nil aw (Dv.v 0) (Dv.aa (Dv.ix (bq (K:=K) rfl) (Dv.v 3) Dv.int) Dv.ag)) Dv.int) Dv.ag)))))))) ?_
  refine stI [some (V.ref AA.a),some (V.str z),some (V.int (k:Int)),none] ?_;refine ao ?_;walk_at "w";refine ⟨AA,L,M,k,i,rfl,rfl,g.tr,g.un,fun l H1 s1 hl=>ao ?_⟩;have i1:=i.same s1;obtain ⟨fs,c,hx,aV,sf⟩:=i1.h;walk_at "w";refine ⟨AA.a,_,_,rfl,hx,(sf _).trans rfl,AA,L,M,0,i1,rfl,g.ro z hz,?_⟩;simp only [bG,hl];refine ⟨rfl,by simp [cm],?_⟩;rw [show ([V.int (k:Int)]:List V)=nV [k] from rfl,lR,jq];rcases (g.th k t ht).pl with ⟨rfl,hp⟩ | ⟨f,nm,tf,hf,hp,_,bA,_⟩
  ·rw [decide_eq_true rfl];have:=q H1 s1;unfold nS at this;rw [hp] at this;exact bM this
  ·rw [decide_eq_false (by omega)];have q':=q;unfold nS at q';rw [hp] at q';refine bb ?_;simp only [nV,List.map_cons,List.map_nil,cU];refine ⟨AA.a,_,_,rfl,hx,(sf _).trans rfl,AA,L,M,k,a,t,i1,rfl,rfl,ha,ht,.inr ⟨f,nm,hp,fun p px=>?_⟩⟩;simp only [px,cU];exact ⟨AA,L,M,f,i1,rfl,rfl,g.tr,g.un,fun H2 s2=>q' _ (s1.trans s2)⟩
def gW (t:Th) (k:Nat) (p:Str):V:=if p=(".." : Str) then .int (nS t k:Nat) else if p=("." : Str) then .int (k:Nat) else (aN (sD t.aZ) (.inr p)).getD .ax
def KP (CH CS CT:Addr):Sp:=Fh fun x z n p H Q _=>∃ A L M t,∃ k:Nat,aI CH CS CT H A L M∧A.a=x∧n=(k:Int)∧z∈AS∧Gd M∧M.ts[k]?=some t∧jT p∧∀ H',ai H H'→Q (gW t k p) H'
theorem QF (T:Tx K mg):aA P w K mg base aM 7 T.nE.f T.nE.d ["_law_house_here", "_law_asker", "_law_here", "_law_part"] (KP T.au T.aE T.aG):=by
 refine T.nE.F.ok U8 (fun vs H Q E h=>?_) (fun az A outer s H vs Q E hr h=>?_)
 ·exact GQ h fun _ _ _ _ _=>rfl
 ·refine GQ h fun x z n p h=>?_;obtain ⟨AA,L,M,t,k,i,rfl,rfl,hz,g,ht,hp,q⟩:=h;obtain ⟨a,ha⟩:=adr i.len ht;obtain ⟨fs,c,hx,aV,sf⟩:=i.h;refine bC (b:=aU wQ) ((Dv.cut (Dv.aW (Dv.aY cv (Dv.v 3) Dv.str) (Dv.aj (Dv.aP (Dv.call (Lz T) (hr.mono (by decide)) T.m6.m T.m6.F.kp T.m6.b .nil aw (Dv.aa (Dv.v 0) (Dv.aa (Dv.v 1) (Dv.aa (Dv.v 2) Dv.ag)))))) Dv.nil)
  (Dv.cut (Dv.aW (Dv.aY cv (Dv.v 3) Dv.str) (Dv.aj (Dv.aP (Dv.v 2))) Dv.nil)
  (Dv.aj (Dv.aP (Dv.bh T.aL T.iR.h (xB T) (hr.mono (by decide)) T.iR.b .nil aw (Dv.v 0) (Dv.aa (Dv.v 2) (Dv.aa (Dv.v 3) Dv.ag)))))))) ?_
  refine stI [some (V.ref AA.a),some (V.str z),some (V.int (k:Int)),some (V.str p)] ?_;refine ao ?_;walk_at "w";unfold gW at q;by_cases h1:p=(".." : Str)
  ·rw [if_pos h1] at q;exact cb (decide_eq_true h1) ⟨AA,L,M,t,k,i,rfl,rfl,hz,g,ht,q⟩
  ·rw [if_neg h1] at q;refine bT (decide_eq_false h1) (ao ?_);walk_at "w";by_cases h2:p=("." : Str)
   ·rw [if_pos h2] at q;exact cb (decide_eq_true h2) (q _ fun _ _ e=>e)
   ·rw [if_neg h2] at q;rcases hp with hp | hp | ⟨hp,h8⟩
    ·exact absurd hp h2
    ·exact absurd hp h1
    exact bT (decide_eq_false h2) ⟨AA.a,_,_,rfl,hx,(sf _).trans rfl,AA,L,M,k,a,t,i,rfl,rfl,ha,ht,hp,by omega,q⟩
def sU:Sum (Nat×List Str) (Nat×Str)→List V
 | .inl (k,ns)=>[.str "found",.int (k:Int),.str (gi ns)]
 | .inr (k,y)=>[.str "failed",.int (k:Int),.str y]
def Sv (CH CS CT:Addr):Sp:=ox fun x z pt fin H Q _=>∃ A L M t e,pt=Tx.S t∧aI CH CS CT H A L M∧A.a=x∧z∈AS∧Gd M∧M.ts.length≤90∧t.length≤400∧eM M L z t e ∧
   ∀ p d av H',ai H H'→H' p=some (.tup [.ref d,.ref av])→H' d=some (.tup (sU e.res))→H' av=some (.lst (nV e.asked))→Q (.ref p) H'
def Toks (H:Hp):List V→List Str→Prop
 | [],[]=>True
 | v::vs,p::ps=>(∃ a c,v=.ref a∧H a=some (.tup [.str p,c]))∧Toks H vs ps
 | _,_=>False
theorem Toks.same {H H':Hp} (s:ai H H'):∀ {vs:List V} {ps:List Str},Toks H vs ps→Toks H' vs ps
 | [],[],_=>trivial
 | v::vs,p::ps,h=>⟨let ⟨a,c,e,x⟩:=h.1; ⟨a,c,e,s _ _ x⟩,Toks.same s h.2⟩
 | [],_::_,h=>h.elim
 | _::_,[],h=>h.elim
theorem Toks.snoc {H:Hp} {v:V} {p:Str} (hv:∃ a c,v=.ref a∧H a=some (.tup [.str p,c])):∀ {vs:List V} {ps:List Str},Toks H vs ps→Toks H (vs++[v]) (ps++[p])
 | [],[],_=>⟨hv,by trivial⟩
 | w::vs,q::ps,h=>⟨h.1,Toks.snoc hv h.2⟩
 | [],_::_,h=>h.elim
 | _::_,[],h=>h.elim
theorem Toks.len {H:Hp}:∀ {vs:List V} {ps:List Str},Toks H vs ps→vs.length=ps.length
 | [],[],_=>rfl
 | v::vs,p::ps,h=>by rw [List.length_cons,List.length_cons,Toks.len h.2]
 | [],_::_,h=>h.elim
 | _::_,[],h=>h.elim
theorem Toks.upd {H:Hp} {tk:Addr} {xs:List V} {o:HO} (hk:H tk=some (.lst xs)):∀ {vs:List V} {ps:List Str},Toks H vs ps→Toks (upd H tk o) vs ps
 | [],[],_=>trivial
 | v::vs,p::ps,h=>⟨let ⟨a,c,e,x⟩:=h.1; ⟨a,c,e,by rw [ah (bL x hk (by nofun))]; exact x⟩,Toks.upd hk h.2⟩
 | [],_::_,h=>h.elim
 | _::_,[],h=>h.elim
def Qu (M:Hs) (S:Ws) (k:Nat) (nv tv:V):Prop:=∃ t,M.ts[S.here]?=some t∧(t.kd=("folder" : Str)∧k=S.here∧nv=.ax∨t.kd≠("folder" : Str)∧∃ (nm:Str) (tf:Th),S.place=some (k,nm)∧nv=.str nm∧nm.length≤8∧tv=.int (S.here:Int)∧M.ts[k]?=some tf)
def VS (H:Hp) (a:Addr) (L:List Ta) (M:Hs) (z pt:Str) (fin:Bool) (av tk:Addr) (S':Ws) (o:Option Str) (m:Nat) (σ:L2.St) (H':Hp):Prop :=
 ∃ (S:Ws) (ps:List Str) (vs:List V) (k:Nat) (nv tv:V) (o1 o2 o3:Option V),m=ps.length∧ai H H'∧σ=[some (.ref a),some (.str z),some (.str pt),some (.bl fin),some (.ref av),some (.int (k:Int)),some (.ref tk),some nv,some tv,some (.int (S.step:Int)),some (.int 0),o1,o2,o3] ∧
  H' av=some (.lst (nV S.asked))∧H' tk=some (.lst vs)∧Toks H' vs ps∧(∀ p∈ps,jT p)∧S.asked.length+ps.length≤600∧fS M L z 0 S ps S' o∧Qu M S k nv tv
theorem S7 {M:Hs} {L:List Ta} {z:Str} {S S':Ws} {p:Str} {ps:List Str} {o:Option Str} (h:fS M L z 0 S (p::ps) S' o):∃ S1 o1,dq M L z 0 { S with left:=gm ps } p S1 o1∧((o1=none∧fS M L z 0 S1 ps S' o)∨∃ y,o1=some y∧o=some y∧S'=S1):=by
 cases h with
 | step h1 h2=>exact ⟨_,_,h1,.inl ⟨rfl,h2⟩⟩
 | fail h1=>exact ⟨_,_,h1,.inr ⟨_,rfl,rfl,rfl⟩⟩
theorem Lq {M:Hs} {L:List Ta} {z:Str} {S S1:Ws} {p:Str} {o1:Option Str} {t:Th} (h:dq M L z 0 S p S1 o1) (ht:M.ts[S.here]?=some t) (hk:t.kd≠("folder" : Str)):o1=some "flat" ∧ S1.step=S.step+1∧S1.asked=S.asked:=by
 cases h with
 | flat h1 h2 h3=>exact ⟨rfl,rfl,rfl⟩
 | n6 h1 h2 h3=>rw [ht] at h2; cases h2; exact absurd h3 hk
 | dot h1 h2 h3=>rw [ht] at h2; cases h2; exact absurd h3 hk
 | dZ h1 h2 h3=>rw [ht] at h2; cases h2; exact absurd h3 hk
 | up h1 h2 h3=>rw [ht] at h2; cases h2; exact absurd h3 hk
 | no h1 h2 h3=>rw [ht] at h2; cases h2; exact absurd h3 hk
 | folder h1 h2 h3=>rw [ht] at h2; cases h2; exact absurd h3 hk
 | file h1 h2 h3=>rw [ht] at h2; cases h2; exact absurd h3 hk
theorem Tt {M:Hs} {L:List Ta} {z:Str} {S S1:Ws} {p:Str} {o1:Option Str} {t:Th} (h:dq M L z 0 S p S1 o1) (ht:M.ts[S.here]?=some t) (hk:t.kd=("folder" : Str)) (hm:cW ("g" : Str) (cJ t z)=false):o1=some "shut" ∧ S1.step=S.step+1∧S1.asked=S.asked++[S.here]:=by
 cases h with
 | flat h1 h2 h3=>rw [ht] at h2; cases h2; exact absurd hk h3
 | n6 h1 h2 h3 h4=>exact ⟨rfl,rfl,rfl⟩
 | dot h1 h2 h3 h4=>rw [ht] at h2; cases h2; rw [hm] at h4; cases h4
 | dZ h1 h2 h3 h4=>rw [ht] at h2; cases h2; rw [hm] at h4; cases h4
 | up h1 h2 h3 h4=>rw [ht] at h2; cases h2; rw [hm] at h4; cases h4
 | no h1 h2 h3 h4=>rw [ht] at h2; cases h2; rw [hm] at h4; cases h4
 | folder h1 h2 h3 h4=>rw [ht] at h2; cases h2; rw [hm] at h4; cases h4
 | file h1 h2 h3 h4=>rw [ht] at h2; cases h2; rw [hm] at h4; cases h4
theorem toStep {M:Hs} {L:List Ta} {z:Str} {S S1:Ws} {p:Str} {o1:Option Str} {t:Th} (g:Gd M) (h:dq M L z 0 S p S1 o1) (ht:M.ts[S.here]?=some t) (hk:t.kd=("folder" : Str)) (hm:cW ("g" : Str) (cJ t z)=true) (hp:jT p) :
  S1.step=S.step+1∧S1.asked=S.asked++[S.here]∧((gW t S.here p=.ax∧o1=some "none")∨∃ (c:Nat) (tc:Th),gW t S.here p=.int (c:Int)∧M.ts[c]?=some tc∧o1=none∧S1.here=c∧(tc.kd=("folder" : Str)∨tc.kd=("file" : Str)∧S1.place=some (S.here,p)∧p.length≤8)):=by
 have h8:p≠(".." : Str)→p≠("." : Str)→p.length≤8:=fun n1 n2=>by
  rcases hp with e | e | e
  ·exact absurd e n2
  ·exact absurd e n1
  ·exact e.2
 cases h with
 | flat h1 h2 h3=>rw [ht] at h2; cases h2; exact absurd hk h3
 | n6 h1 h2 h3 h4=>rw [ht] at h2; cases h2; rw [hm] at h4; cases h4
 | dot h1 h2 h3 h4 h5 =>
  refine ⟨rfl,rfl,.inr ⟨S.here,t,?_,ht,rfl,rfl,.inl hk⟩⟩;unfold gW;rw [if_neg (by rw [h5]; decide +kernel),if_pos h5]
 | dZ h1 h2 h3 h4 h5 h6 h7 =>
  refine ⟨rfl,rfl,.inr ⟨S.here,t,?_,ht,rfl,rfl,.inl hk⟩⟩;obtain ⟨rfl,rfl⟩:=g.la h6;rw [jq] at h7;have h0:=of_decide_eq_true h7;unfold gW nS;rw [if_pos h5];rcases (g.th _ t ht).pl with ⟨_,hp⟩ | ⟨f,nm,tf,hf,_⟩
  ·rw [hp]
  ·omega
 | up h1 h2 h3 h4 h5 h6 h7 h8 h9 dI eJ dj fF =>
  obtain ⟨rfl,rfl⟩:=g.la h6;obtain ⟨rfl,rfl⟩:=g.la fF;rw [ht] at h9; cases h9;refine ⟨rfl,rfl,.inr ⟨_,_,?_,dj,rfl,rfl,?_⟩⟩
  ·unfold gW nS;rw [if_pos h5,dI]
  ·rcases (g.th _ t ht).pl with ⟨_,hp⟩ | ⟨f,nm,tf,hf,hp,_,bA,eL⟩
   ·rw [hp] at dI; cases dI
   ·rw [hp] at dI; cases dI;rw [bA] at dj; cases dj;exact .inl eL
 | no h1 h2 h3 h4 h5 h6 h7 h8 h9 =>
  rw [ht] at h2; cases h2;refine ⟨rfl,rfl,.inl ⟨?_,rfl⟩⟩;unfold gW;rw [if_neg h5,if_neg h6,h9]; rfl
 | folder h1 h2 h3 h4 h5 h6 h7 h8 h9 dI eJ dj fF =>
  rw [ht] at h2; cases h2;obtain ⟨rfl,rfl⟩:=g.la fF;refine ⟨rfl,rfl,.inr ⟨_,_,?_,eJ,rfl,rfl,.inl dj⟩⟩;unfold gW;rw [if_neg h5,if_neg h6,h9]; rfl
 | file h1 h2 h3 h4 h5 h6 h7 h8' h9 dI eJ dj =>
  rw [ht] at h2; cases h2;refine ⟨rfl,rfl,.inr ⟨_,_,?_,eJ,rfl,rfl,.inr ⟨dj,rfl,h8 h5 h6⟩⟩⟩;unfold gW;rw [if_neg h5,if_neg h6,h9]; rfl
theorem MU {lp:Addr} {ps:List Str} {Q:VK} {H:Hp} (fj:aK K H lp (ps.map V.str)) (hz:ps.length≤500) (q:∀ tk vs H',ai H H'→H tk=none→H' tk=some (.lst vs)→Toks H' vs ps→Q (.ref tk) H') :
  m4 (ij K lp) g7 (pU (gL (kZ 0) (gL (pU gn) gn))) Q H:=by
 have hl:(ps.map V.str).length=ps.length:=List.length_map _;refine ⟨fun i ys m H1=>ai H H1∧Toks H1 ys (ps.take i)∧i≤ps.length∧m=ps.length - i,⟨_,ai.refl H,by trivial,Nat.zero_le _,rfl⟩,?_⟩;rintro i ys m H1 ⟨s1,hy,hi,rfl⟩;have hlen:=hy.len;rw [List.length_take] at hlen;refine ⟨fits (by omega),?_⟩;by_cases h:i < ps.length
 ·have hx:(ps.map V.str)[i]?=some (.str ps[i]):=by rw [List.getElem?_map,List.getElem?_eq_getElem h]; rfl
  refine .inr ⟨⟨_,_,s1.seq fj,hx⟩,gN (by omega),?_⟩;rintro y H' ⟨rfl,hy'⟩;have kQ:(ps.map V.str)[i]?=some y:=hy' _ (s1.seq fj);rw [hx] at kQ;cases kQ;unfold g7;refine cb rfl ?_;walk_at "w";refine ⟨fits (by simp),fun p hp=>⟨fits (by simp),fun p2 ej=>⟨_,?_,?_,?_,h,rfl⟩⟩⟩
  ·omega
  ·exact (s1.trans (ai.upd hp)).trans (ai.upd ej)
  ·rw [List.take_add_one,List.getElem?_eq_getElem h];exact Toks.snoc ⟨p2,_,rfl,ay⟩ (hy.same ((ai.upd hp).trans (ai.upd ej)))
 ·refine .inl ⟨?_,fun l hl=>?_⟩
  ·exact ⟨_,s1.seq fj,by rw [hl]; omega⟩
  ·have e:ps.take i=ps:=List.take_of_length_le (by omega);rw [e] at hy;exact q l ys _ (s1.trans (ai.upd hl)) (tS s1 hl) ay (hy.same (ai.upd hl))
theorem tN {H3:Hp} {vs:List V} {av:Addr} {xs:List V} {Q:VK} (hv:vs.length≤10) (ha:H3 av=some (.lst xs)) (q:∀ p d H',ai H3 H'→H' p=some (.tup [.ref d,.ref av])→H' d=some (.tup vs)→H' av=some (.lst xs)→Q (.ref p) H') :
  vs.length≤sizeLine∧∀ d,H3 d=none→[V.ref d,V.ref av].length≤sizeLine∧∀ p,upd H3 d (.tup vs) p=none→Q (.ref p) (upd (upd H3 d (.tup vs)) p (.tup [.ref d,.ref av])):=by
 refine ⟨fits (by omega),fun d hd=>⟨fits (by simp),fun p hp=>?_⟩⟩;have s:=(ai.upd (o:=.tup vs) hd).trans (ai.upd (o:=.tup [.ref d,.ref av]) hp);exact q p d _ s ay (ai.upd hp _ _ ay) (s _ _ ha)
theorem eE {A B:TS} {D:Ends} {σ:L2.St} {H:Hp} (h:∀ N:L2.St→Hp→Prop,(∀ σ' H',B D σ' H'→N σ' H')→A { D with nx:=N } σ H):qh A B D σ H:=ao (h _ fun _ _ x=>x)
theorem Kf {A:TS} {D:Ends} {σ:L2.St} {H:Hp} (h:∀ D':Ends,(∀ σ' H',D.nx σ' H'→D'.nx σ' H')→(∀ v H',D.rt v H'→D'.rt v H')→A D' σ H):A D σ H:=h D (fun _ _ x=>x) fun _ _ x=>x
theorem N8 (T:Tx K mg):aA P w K mg base aM 8 T.oB.f T.oB.d ["_law_house_here", "_law_asker", "_law_path_here", "_law_final"] (Sv T.au T.aE T.aG):=by
 refine T.oB.F.ok eT (fun vs H Q E h=>?_) (fun az A outer s H vs Q E hr h=>?_)
 ·exact iD h fun _ _ _ _ _=>rfl
 ·refine iD h fun x z pt fin h=>?_;obtain ⟨AA,L,M,t,e,rfl,i,rfl,hz,g,hn,hl,pw,q⟩:=h;refine bC (b:=aU zD) ((Dv.cut (Dv.aS 4 eT.nd (Dv.lst Dv.ag))
  (Dv.cut (Dv.aS 5 eT.nd (Dv.call (Vi T) (hr.mono (by decide)) T.nU.m T.nU.F.kp T.nU.b .nil aw (Dv.aa (Dv.v 0) (Dv.aa (Dv.v 1) (Dv.aa (Dv.v 2) (Dv.aa (Dv.call (mX T) (hr.mono (by decide)) T.c9.m T.c9.F.kp T.c9.b .nil aw (Dv.aa (Dv.v 0) (Dv.aa (Dv.bh T.aL T.lD.h (EW T) (hr.mono (by decide)) T.lD.b .nil aw (Dv.v 0) (Dv.aa (Dv.v 1) Dv.ag)) Dv.ag))) Dv.ag))))))
  (Dv.cut (Dv.aW (Dv.cw (Dv.cg (Dv.call (Ve T) (hr.mono (by decide)) T.nA.m T.nA.F.kp T.nA.b .nil aw (Dv.aa (Dv.v 0) (Dv.aa (Dv.v 1) (Dv.aa (Dv.v 5) Dv.ag)))))) (Dv.aj Dv.cK) Dv.nil)
  (Dv.cut (Dv.zR 6 rfl eT.nd (x:=("_law_part" : Str)) (Dv.gX (K:=K) rfl (Dv.call (SX T) (hr.mono (by decide)) T.ny.m T.ny.F.kp T.ny.b .nil aw (Dv.aa (Dv.v 2) Dv.ag))) (fun _ _ _ _=>by exact Dv.tL) (fun _ _ _ _=>by exact (Dv.dA 0 (show List.Nodup (["_law_part"]:List Str) by decide))) (fun _ _ _ _=>by exact (Dv.tup (Dv.aa (Dv.v 0) (Dv.aa (Dv.tup Dv.ag) Dv.ag)))) (.of rfl (by exact trivial) (by (repeat (first | exact trivial | (refine ⟨fun z=>(by first | exact ⟨_,rfl⟩ | (rcases z with z | z <;> cases z)),?_⟩)))) rfl (by exact trivial)))
  (Dv.cut (Dv.aS 7 eT.nd Dv.ax)
  (Dv.cut (Dv.aS 8 eT.nd Dv.ax)
  (Dv.cut (Dv.aS 9 eT.nd Dv.int)
  (Dv.cut (Dv.aS 10 eT.nd Dv.int)
  (Dv.cut (Dv.iY PassesOwn.never (Dv.aY (QD (K:=K) rfl hr.fV) (Dv.v 6) (Dv.lst Dv.ag)) (Dv.cut (Dv.pV (Dv.iA PySem.F.slot_list_pop PySem.F.type_list_pop Om (Dv.v 6) (Dv.aa Dv.int Dv.ag)) (Dv.tG (K:=K) (n:=2) rfl rfl (Dv.ka (Dv.dA 11 eT.nd) (Dv.ka (Dv.dA 12 eT.nd) Dv.uS))))
  (Dv.cut (Dv.aS 9 eT.nd (Dv.op dQ (Dv.v 9) Dv.int))
  (Dv.cut (Dv.aW (Dv.aY lV (Dv.v 7) Dv.ax) (Dv.aj (Dv.aP (Dv.tup (Dv.aa (Dv.tup (Dv.aa Dv.str (Dv.aa (Dv.v 9) (Dv.aa Dv.str Dv.ag)))) (Dv.aa (Dv.v 4) Dv.ag))))) Dv.nil)
  (Dv.cut (Dv.aX (Dv.iA PySem.F.slot_list_append PySem.F.type_list_append jX (Dv.v 4) (Dv.aa (Dv.v 5) Dv.ag)))
  (Dv.cut (Dv.aS 13 eT.nd (Dv.call (QF T) (hr.mono (by decide)) T.nE.m T.nE.F.kp T.nE.b .nil aw (Dv.aa (Dv.v 0) (Dv.aa (Dv.v 1) (Dv.aa (Dv.v 5) (Dv.aa (Dv.v 11) Dv.ag))))))
  (Dv.cut (Dv.aW (Dv.cw (Dv.cg (Dv.dE T.aL T.jc.h (wI T) (hr.mono (by decide)) T.jc.b .nil eV (Dv.v 0) (Dv.aa (Dv.v 1) (Dv.aa (Dv.v 5) (Dv.aa Dv.str Dv.ag)))))) (Dv.aj (Dv.aP (Dv.tup (Dv.aa (Dv.tup (Dv.aa Dv.str (Dv.aa (Dv.v 9) (Dv.aa Dv.str Dv.ag)))) (Dv.aa (Dv.v 4) Dv.ag))))) Dv.nil)
  (Dv.cut (Dv.aW (Dv.aY oy (Dv.v 13) Dv.ax) (Dv.aj (Dv.aP (Dv.tup (Dv.aa (Dv.tup (Dv.aa Dv.str (Dv.aa (Dv.v 9) (Dv.aa Dv.str Dv.ag)))) (Dv.aa (Dv.v 4) Dv.ag))))) Dv.nil)
  (Dv.aj (Dv.aW (Dv.aY cv (Dv.bh T.aL T.eX.h (mZ T) (hr.mono (by decide)) T.eX.b .nil aw (Dv.v 0) (Dv.aa (Dv.v 13) Dv.ag)) Dv.str) (Dv.aj (Dv.aS 5 eT.nd (Dv.call (mX T) (hr.mono (by decide)) T.c9.m T.c9.F.kp T.c9.b .nil aw (Dv.aa (Dv.v 0) (Dv.aa (Dv.v 13) Dv.ag))))) (Dv.aj (Dv.aW (Dv.dv (Dv.w_or (Dv.aY cv (Dv.bh T.aL T.eX.h (mZ T) (hr.mono (by decide)) T.eX.b .nil aw (Dv.v 0) (Dv.aa (Dv.v 13) Dv.ag)) Dv.str) (Dv.hZ (Dv.dv (Dv.w_and (Dv.cw (Dv.cg (Dv.v 3))) (Dv.w_and (Dv.aY (xI hr.fV) (Dv.v 6) (Dv.lst Dv.ag)) (Dv.iz (Dv.aY cv (Dv.v 12) (Dv.tup Dv.ag))))))))) (Dv.cut (Dv.aS 7 eT.nd (Dv.v 11))
  (Dv.aj (Dv.aS 8 eT.nd (Dv.v 13)))) (Dv.aj (Dv.aW (Dv.aY (mU (K:=K) rfl) (Dv.v 13) (Dv.v 12)) (Dv.aj Dv.cK) (Dv.aj (Dv.aW (Dv.aY cv (Dv.v 10) Dv.int) (Dv.aj Dv.cK) (Dv.cut Dv.cK
  (Dv.cut Dv.cK
  (Dv.aj Dv.cK)))))))))))))))))))
  (Dv.aj (Dv.aP (Dv.tup (Dv.aa (Dv.tup (Dv.aa Dv.str (Dv.aa (Dv.ix (bq (K:=K) rfl) (Dv.lst (Dv.aa (Dv.v 8) (Dv.aa (Dv.v 5) Dv.ag))) (Dv.oE sT T.p8 qN (Dv.aa (Dv.cmp oy (Dv.v 7) Dv.ax) Dv.ag))) (Dv.aa (Dv.call (N4 T) (hr.mono (by decide)) T.mT.m T.mT.F.kp T.mT.b .nil aw (Dv.aa (Dv.v 0) (Dv.aa (Dv.v 1) (Dv.aa (Dv.v 5) (Dv.aa (Dv.v 7) Dv.ag))))) Dv.ag)))) (Dv.aa (Dv.v 4) Dv.ag))))))))))))))) ?_
  obtain ⟨root,st,b,r,a,t0,S',o,se,aQ,ha,jy,jw,kS,dS,has,mB,kP⟩:=pw.g.ex;rw [g.ro z hz] at se;obtain rfl:0=root:=by injection se with se; injection se with se; omega
  obtain ⟨rfl,rfl⟩:=g.la jw;obtain ⟨eI,t2,kG,fe,Bj⟩:=g.st z hz;have hb:(if dG t=true then 0 else eI)=b:=by
   rcases aQ with ⟨e1,e2⟩ | ⟨e1,e2⟩
   ·rw [if_pos e1,e2]
   ·rw [if_neg (by rw [e1]; nofun)];rw [kG] at e2;injection e2 with e2; injection e2 with e2; omega
  have hkb:t0.kd=("folder" : Str):=by
   rcases aQ with ⟨e1,e2⟩ | ⟨e1,e2⟩
   ·obtain ⟨t',h1,h2⟩:=g.t0; rw [e2,h1] at jy; cases jy; exact h2
   ·rw [kG] at e2;obtain rfl:eI=b:=by injection e2 with e2; injection e2 with e2; omega
    rw [fe] at jy; cases jy; exact Bj
  refine stI [some (V.ref AA.a),some (V.str z),some (V.str (Tx.S t)),some (V.bl fin),none,none,none,none,none,none,none,none,none,none] ?_;refine eE fun N hN=>?_;walk_at "w";refine ⟨fits (by simp),fun av fJ=>hN _ _ (eE fun N hN=>?_)⟩;have s1:=ai.upd (o:=.lst []) fJ;have b1:upd H av (.lst []) av=some (.lst (nV [])):=ay;generalize upd H av (.lst [])=H1 at s1 b1 ⊢;have i1:=i.same s1;obtain ⟨fs,c,hx,aV,sf⟩:=i1.h;walk_at "w";refine ⟨AA.a,_,_,rfl,hx,(sf _).trans rfl,AA,L,M,eI,i1,rfl,by rw [g.ro z hz]; rfl,kG,AA,L,M,eI,i1,rfl,rfl,g.tr,g.un,fun H2 s2=>?_⟩;have i2:=i1.same s2;refine ⟨AA,L,M,t,eI,rfl,⟨pw.l1,pw.l2,pw.all⟩,i2,rfl,rfl,hz,g,fun H3 s3=>hN _ _ (eE fun N hN=>?_)⟩;rw [hb];have i3:=i2.same s3;walk_at "w";refine ⟨AA,L,M,b,t0,i3,rfl,rfl,hz,g,jy,fun H4 s4=>bT rfl (hN _ _ (eE fun N hN=>?_))⟩;have i4:=i3.same s4;walk_at "w";refine ⟨t,rfl,⟨pw.l1,pw.l2,pw.all⟩,hl,fun lp H5 s5 fj=>⟨⟨_,aK.of fj⟩,?_⟩⟩;have gp:=((s2.trans s3).trans s4).trans s5;have b5:=gp _ _ b1;have AE:=pw.g.hp;rw [Fz] at fj;have cX:=xt (uJ (t:=t) pw.all);generalize (told (Tx.words 47 t) t).map Tx.S=ps at fj dS AE cX;refine MU (aK.of fj) AE fun tk vs H6 s6 Bz dm pF=>hN _ _ (eE fun N hN=>?_);have Js:=gp.trans s6;have b6:=s6 _ _ b5;walk_at "w";refine hN _ _ (eE fun N hN=>?_);walk_at "w";refine hN _ _ (eE fun N hN=>?_);walk_at "w";refine hN _ _ (eE fun N hN=>?_);walk_at "w";have nat:av≠tk:=aF b5 Bz;have ftk':H tk=none:=tS (s1.trans gp) Bz;refine hN _ _ (eE fun N hN=>⟨VS H AA.a L M z (Tx.S t) fin av tk S' o,⟨ps.length,_,ps,vs,b,.ax,.ax,none,none,none,rfl,s1.trans Js,rfl,b6,dm,pF,cX,by simp; omega,dS,t0,jy,.inl ⟨hkb,rfl,rfl⟩⟩,?_⟩);clear pF dm b6 Js s6 Bz fj b5 gp s5 i4 s4 i3 s3 i2 s2 hx aV sf i1 b1 dS cX AE;rintro m σ' H1 ⟨S,ps,vs,k,nv,tv,o1,o2,o3,rfl,s1',rfl,b1,dm,pF,cX,hlen,dS,iG⟩;have i1:=i.same s1';obtain ⟨fs,c,hx,aV,sf⟩:=i1.h;walk_at "w";refine ⟨fits (by simp),fun pn hpn=>?_⟩;have s2:=ai.upd (o:=.lst []) hpn;have c2:upd H1 pn (.lst []) pn=some (.lst []):=ay;generalize upd H1 pn (.lst [])=H2 at s2 c2 ⊢;have i2:=i1.same s2;have b2:=s2 _ _ b1;have t2:=s2 _ _ dm;refine ⟨vs,[],aK.of t2,aK.of c2,.inl ⟨rfl,?_⟩⟩;have hto2:=pF.same s2;have JI:=s1'.trans s2;cases ps with
  | nil =>
   cases vs with
   | cons v vs=>exact pF.elim
   | nil =>
    cases dS;refine bT rfl (hN _ _ ?_);walk_at "w";obtain ⟨ns,bE,⟨f,a',t',ha',ht',hk',bJ,hn99,Bm⟩,iN⟩:=kP rfl;refine ⟨fits (by simp),fun pl bg=>⟨by trivial,?_⟩⟩;have s3:=ai.upd (o:=.lst [tv,V.int (k:Int)]) bg;have c3:upd H2 pl (.lst [tv,V.int (k:Int)]) pl=some (.lst [tv,V.int (k:Int)]):=ay;generalize upd H2 pl (.lst [tv,V.int (k:Int)])=H3 at s3 c3 ⊢;simp only [bG,c3];obtain ⟨tt,jF,iG⟩:=iG;rw [jF] at ht'; cases ht';have hq:cq [tv,V.int (k:Int)] (if decide (nv=V.ax)=true then 1 else 0)=some (V.int (S'.here:Int))∧k=f∧(nv=.ax∧bE=[]∨∃ nm:Str,nv=.str nm∧bE=[nm]∧nm.length≤8)∧∃ tk,M.ts[k]?=some tk:=by
     rcases iG with ⟨h1,rfl,rfl⟩ | ⟨h1,nm,tf,h2,rfl,h3,rfl,h4⟩
     ·rcases hk' with ⟨_,rfl,rfl⟩ | ⟨h,_⟩
      ·exact ⟨by rw [if_pos (decide_eq_true rfl)]; exact gH (j:=1) rfl,rfl,.inl ⟨rfl,rfl⟩,_,jF⟩
      ·exact absurd h1 h
     ·rcases hk' with ⟨h,_⟩ | ⟨_,nm',h5,rfl,h6⟩
      ·exact absurd h h1
      ·rw [h2] at h5; cases h5;exact ⟨by rw [if_neg (by rw [decide_eq_false (by nofun)]; nofun)]; exact gH (j:=0) rfl,rfl,.inr ⟨_,rfl,rfl,h3⟩,tf,h4⟩
    obtain ⟨e1,rfl,e2,tk',e3⟩:=hq;rw [e1];refine ⟨AA,L,M,k,tk',ns,bE,i2.same s3,rfl,rfl,hz,g,hn,e3,e2,bJ,hn99,Bm,fun H4 s4=>?_⟩;refine tN (by simp) ((s3.trans s4) _ _ b2) fun p d H' s' hp hd ha=>q p d av H' ((JI.trans (s3.trans s4)).trans s') hp (by rw [iN]; exact hd) (by rw [has]; exact ha)
  | cons p ps =>
   cases vs with
   | nil=>exact pF.elim
   | cons v vs =>
    obtain ⟨S1,o1',aQ,vj⟩:=S7 dS;obtain ⟨⟨pa,pc,rfl,IM⟩,hto3⟩:=hto2;refine cb rfl ⟨_,fun _ _ h=>h,Kf fun D hnx hrt=>eE fun N hN=>?_⟩;walk_at "w";have t3:upd H2 tk (.lst vs) tk=some (.lst vs):=ay;have J4:=hto3.upd (o:=.lst vs) t2;have HP:upd H2 tk (.lst vs) pa=some (.tup [V.str p,pc]):=by rw [ah (bL IM t2 (by nofun))]; exact IM
    have b3:upd H2 tk (.lst vs) av=some (.lst (nV S.asked)):=by rw [ah nat]; exact b2
    have iE:ai H (upd H2 tk (.lst vs)):=JI.eA ftk';simp only [t2];refine ⟨_,_,rfl,pa,_,rfl,bV.of HP,rfl,_,_,rfl,_,_,rfl,rfl,hN _ _ (eE fun N hN=>?_)⟩;generalize upd H2 tk (.lst vs)=H3 at t3 J4 HP b3 iE ⊢;walk_at "w";refine hN _ _ (eE fun N hN=>?_);have i3:=i.same iE;obtain ⟨gU,c3,cQ,gP,fi⟩:=i3.h;obtain ⟨tt,jF,iG⟩:=iG;have px:=cX p (by simp);walk_at "w";refine ⟨by trivial,?_⟩;rcases iG with ⟨eL,rfl,rfl⟩ | ⟨eL,nm,tf,bg,rfl,_⟩
    ·refine bT (congrArg not (decide_eq_true rfl)) (hN _ _ (eE fun N hN=>?_));walk_at "w";simp only [b3];refine ⟨gN (by simp at hlen ⊢; omega),hN _ _ (eE fun N hN=>?_)⟩;have b4:upd H3 av (.lst (nV S.asked++[V.int (S.here:Int)])) av=some (.lst (nV (S.asked++[S.here]))):=by rw [ay,ng]; rfl
     have t4:upd H3 av (.lst (nV S.asked++[V.int (S.here:Int)])) tk=some (.lst vs):=by rw [ah (Ne.symm nat)]; exact t3
     have Iu:=J4.upd (o:=.lst (nV S.asked++[V.int (S.here:Int)])) b3;have Al:ai H (upd H3 av (.lst (nV S.asked++[V.int (S.here:Int)]))):=iE.eA fJ;generalize upd H3 av (.lst (nV S.asked++[V.int (S.here:Int)]))=H4 at b4 t4 Iu Al ⊢;have i4:=i.same Al;walk_at "w";refine ⟨AA,L,M,tt,S.here,i4,rfl,rfl,hz,g,jF,px,fun H5 s5=>hN _ _ (eE fun N hN=>?_)⟩;have b5:=s5 _ _ b4;have t5:=s5 _ _ t4;have IF:=Iu.same s5;have jB:=Al.trans s5;have i5:=i.same jB;obtain ⟨Ju,c5,gv,hfl5,A5⟩:=i5.h;walk_at "w";refine ⟨AA.a,_,_,rfl,gv,(A5 _).trans rfl,wR i5 (by rw [g.ro z hz]; rfl) (by decide +kernel) jF ?_⟩;cases hm:cW ("g" : Str) (cJ tt z) with
     | false =>
      refine cb rfl ?_;obtain ⟨rfl,e2,e3⟩:=Tt aQ jF eL hm;rcases vj with ⟨e,_⟩ | ⟨y,e,rfl,rfl⟩
      ·cases e
      cases e;refine tN (by simp) b5 fun p d H' s' hp hd ha=>hrt _ _ (q p d av H' (jB.trans s') hp ?_ (by rw [has,e3]; exact ha));rw [mB _ rfl,e2];exact hd
     | true =>
      refine bT rfl (hN _ _ (eE fun N hN=>?_));walk_at "w";refine ⟨by trivial,?_⟩;obtain ⟨e2,e3,hto7⟩:=toStep g aQ jF eL hm px;rcases hto7 with ⟨e1,rfl⟩ | ⟨cn,tc,e1,fg,rfl,e4,e5⟩
      ·rw [e1];rcases vj with ⟨e,_⟩ | ⟨y,e,rfl,rfl⟩
       ·cases e
       cases e;refine cb (decide_eq_true rfl) ?_;refine tN (by simp) b5 fun p d H' s' hp hd ha=>hrt _ _ (q p d av H' (jB.trans s') hp ?_ (by rw [has,e3]; exact ha));rw [mB _ rfl,e2];exact hd
      ·rw [e1];have hrun':fS M L z 0 S1 ps S' o:=by
        rcases vj with ⟨_,h⟩ | ⟨y,e,_⟩
        ·exact h
        ·cases e
       refine bT (decide_eq_false (by nofun)) (hN _ _ ?_);obtain ⟨ac,fZ⟩:=adr i5.len fg;walk_at "w";refine ⟨AA.a,_,_,rfl,gv,(A5 _).trans rfl,AA,L,M,cn,ac,tc,i5,rfl,rfl,fZ,fg,?_⟩;simp only [oV];have hlen':S1.asked.length+ps.length≤600:=by rw [e3]; simp at hlen ⊢; omega
       rcases e5 with gu | ⟨gu,e6,e7⟩
       ·refine cb (decide_eq_true gu) ?_;refine ⟨AA,L,M,cn,i5,rfl,rfl,g.tr,g.un,fun H6 s6=>hnx _ _ ⟨ps.length,Nat.lt_succ_self _,S1,ps,vs,cn,.ax,tv,_,_,_,rfl,jB.trans s6,by rw [e2]; rfl,by rw [e3]; exact s6 _ _ b5,s6 _ _ t5,IF.same s6,fun p hp=>cX p (by simp [hp]),hlen',hrun',tc,by rw [e4]; exact fg,.inl ⟨gu,e4.symm,rfl⟩⟩⟩
       ·refine bT (decide_eq_false (by rw [gu]; decide +kernel)) ?_;refine ⟨AA.a,_,_,rfl,gv,(A5 _).trans rfl,AA,L,M,cn,ac,tc,i5,rfl,rfl,fZ,fg,?_⟩;refine cb (decide_eq_true gu) (ao ?_);walk_at "w";refine hnx _ _ ⟨ps.length,Nat.lt_succ_self _,S1,ps,vs,S.here,.str p,.int (cn:Int),_,_,_,rfl,jB,by rw [e2]; rfl,by rw [e3]; exact b5,t5,IF,fun p hp=>cX p (by simp [hp]),hlen',hrun',tc,by rw [e4]; exact fg,.inr ⟨by rw [gu]; decide +kernel,p,tt,e6,rfl,e7,by rw [e4],jF⟩⟩
    ·refine cb (congrArg not (decide_eq_false (by nofun))) ?_;obtain ⟨rfl,e2,e3⟩:=Lq aQ jF eL;rcases vj with ⟨e,_⟩ | ⟨y,e,rfl,rfl⟩
     ·cases e
     cases e;refine tN (by simp) b3 fun p d H' s' hp hd ha=>hrt _ _ (q p d av H' (iE.trans s') hp ?_ (by rw [has,e3]; exact ha));rw [mB _ rfl,e2];exact hd
def PQ (CF CX:Addr):Sp:=uB fun fd d H Q _=>∃ aJ e,H fd=some (.ins (uz CF CX e) aJ (tT e))∧H d=some (.tup (sU e))∧∀ H',ai H H'→Q (.bl true) H'
def Hq (w0:Str):List V:=[("found" : Str),("failed" : Str),("ring" : Str)].map fun y=>V.bl (decide (w0=y))
theorem G8 {w0:Str} {r:List V} {fd d p:Addr} {H:Hp} {xs:List V} {C Q:Hp→Prop} (hd:H d=some (.tup (.str w0::r))) (hp:H p=some (.lst xs)) (hx:xs=Hq w0) (q:∀ H',ai H H'→Q H') :
  ku [("_law_word_here" : Str)].length [1] (sQ K (uX (gL (tC (V.str (Str.ofString "found"))) (gL (tC (V.str (Str.ofString "failed"))) (gL (tC (V.str (Str.ofString "ring"))) gn))))) (eO 0) g7 (gG (nu false) (gG (lO K) (kZ 1) (tC (V.int 0))) (kZ 0))
   [some (V.ref fd),some (V.ref d),some (V.ref p)] H (fun y H2=>fR K true (.ref p) y H2 (fun v H3=>match v with | .bl b=>if b=true then C H3 else Q H3 | _=>False)):=by
 rw [zo];refine ⟨[V.ref d],⟨rfl,fun i j v h1 h2=>?_⟩,?_⟩
 ·match i,h1,h2 with
  | 0,h1,h2=>cases h1; cases h2; rfl
 walk_at "w";refine ⟨fits (by simp),fun l hl=>?_⟩;have s1:=ai.upd (o:=.lst [V.str (Str.ofString "found"),V.str (Str.ofString "failed"),V.str (Str.ofString "ring")]) hl;have b1:upd H l (.lst [V.str (Str.ofString "found"),V.str (Str.ofString "failed"),V.str (Str.ofString "ring")]) l=some (.lst [V.str (Str.ofString "found"),V.str (Str.ofString "failed"),V.str (Str.ofString "ring")]):=ay;generalize upd H l (.lst [V.str (Str.ofString "found"),V.str (Str.ofString "failed"),V.str (Str.ofString "ring")])=H1 at s1 b1 ⊢;have mr:=s1 _ _ hd;refine ⟨⟨_,aK.of b1⟩,Rj (fun x=>match x with | .str y=>V.bl (decide (w0=y)) | _=>.ax) (aK.of b1) (by simp) (fun x hx R hR=>?_) (fun l2 ck=>?_)⟩
 ·simp only [List.mem_cons,List.not_mem_nil,or_false] at hx;simp only [List.map_cons,List.map_nil];walk_at "w";simp only [bG,mr,cU];rcases hx with rfl | rfl | rfl <;> exact hR
 ·have s2:=s1.trans (ai.upd (o:=.lst ([V.str (Str.ofString "found"),V.str (Str.ofString "failed"),V.str (Str.ofString "ring")].map fun x=>match x with | .str y=>V.bl (decide (w0=y)) | _=>.ax)) ck);subst hx;refine fR.same (K:=K) (neg:=true) (Q:=fun v H3=>match v with | .bl b=>if b=true then C H3 else Q H3 | _=>False) (xs:=Hq w0) (.inl ⟨aK.of (s2 _ _ hp),aK.of ay⟩) rfl ?_;exact bT rfl (q _ s2)
theorem Cn (T:Tx K mg):aA P w K mg base aM 1 T.ji.f T.ji.d ["_law_told", "_law_due"] (PQ T.b7 T.bD):=by
 refine T.ji.F.ok C2 (fun vs H Q E h=>?_) (fun az A outer s H vs Q E hr h=>?_)
 ·exact oW h fun _ _ _=>rfl
 ·refine oW h fun fd d h=>?_;obtain ⟨aJ,e,br,hd,q⟩:=h;refine bC (b:=aU xS) ((Dv.cut (Dv.aS 2 C2.nd (Dv.lst (Dv.aa (Dv.cD (rC (K:=K) rfl) T.fv fq (Dv.aa (Dv.v 0) (Dv.aa (Dv.glob (.ref T.b7) T.zl rfl) Dv.ag))) (Dv.aa (Dv.cD (rC (K:=K) rfl) T.fv fq (Dv.aa (Dv.v 0) (Dv.aa (Dv.glob (.ref T.bD) T.Ca rfl) Dv.ag))) (Dv.aa (Dv.cD (rC (K:=K) rfl) T.fv fq (Dv.aa (Dv.v 0) (Dv.aa (Dv.glob (.ref T.vH) T.V0 rfl) Dv.ag))) Dv.ag)))))
  (Dv.cut (Dv.aW (Dv.dv (Dv.w_or (Dv.cw (Dv.cg (Dv.cD (rC (K:=K) rfl) T.fv fq (Dv.aa (Dv.v 0) (Dv.aa (Dv.glob (.ref T.u9) T.M4 rfl) Dv.ag))))) (Dv.hZ (Dv.aY (Du (K:=K) rfl hr.fV) (Dv.v 2) (Dv.D5 rfl (TN:=["_law_word_here"]) (caps:=["_law_due"]) (ix:=[1]) (Dv.gX (K:=K) rfl (Dv.lst (Dv.aa Dv.str (Dv.aa Dv.str (Dv.aa Dv.str Dv.ag))))) (fun _ _ _ _=>by exact Dv.tL) (fun _ _ _ _=>by exact (Dv.dA 0 (show List.Nodup (["_law_word_here", "_law_due"]:List Str) by decide))) (fun _ _ _ _=>by exact (Dv.cmp (cv) (Dv.ix (bq (K:=K) rfl) (Dv.v 1) Dv.int) (Dv.v 0))) (.of rfl (by exact ⟨rfl,trivial⟩) (by (repeat (first | exact trivial | (refine ⟨fun z=>(by first | exact ⟨_,rfl⟩ | (rcases z with z | z <;> cases z)),?_⟩)))) rfl (by exact ⟨⟨rfl,rfl,rfl,rfl⟩,trivial⟩))))))) (Dv.aj (Dv.aP Dv.bl)) Dv.nil)
  (Dv.cut (Dv.aW (Dv.aY cv (Dv.ix (bq (K:=K) rfl) (Dv.v 1) Dv.int) Dv.str) (Dv.aj (Dv.aP (Dv.cmp (yg (K:=K) rfl hr.fV) (Dv.tup (Dv.aa (Dv.fld T.iy T.xR (Dv.v 0)) (Dv.aa (Dv.fld T.iy T.B5 (Dv.v 0)) Dv.ag))) (Dv.slice (Ec (K:=K) rfl) (Dv.v 1) (Dv.nG Dv.int) Dv.tE)))) Dv.nil)
  (Dv.cut (Dv.aW (Dv.aY cv (Dv.ix (bq (K:=K) rfl) (Dv.v 1) Dv.int) Dv.str) (Dv.aj (Dv.aP (Dv.cmp (yg (K:=K) rfl hr.fV) (Dv.tup (Dv.aa (Dv.fld T.jt T.Df (Dv.v 0)) (Dv.aa (Dv.fld T.jt T.He (Dv.v 0)) Dv.ag))) (Dv.slice (Ec (K:=K) rfl) (Dv.v 1) (Dv.nG Dv.int) Dv.tE)))) Dv.nil)
  (Dv.aj Dv.cK)))))) ?_
  refine stI [some (V.ref fd),some (V.ref d),none] ?_;refine ao ?_;walk_at "w";rcases e with ⟨k,ns⟩ | ⟨k,y⟩
  ·refine ⟨_,_,_,.of (.ins br T.iy T.q1 T.q2 T.q3 T.q4),.cls T.q5,_,_,_,.of (.ins br T.iy T.q1 T.q2 T.q3 T.q4),.cls T.q9,_,_,_,.of (.ins br T.iy T.q1 T.q2 T.q3 T.q4),.cls T.jV,fits (by simp),fun p hp=>ao ?_⟩;have s1:=ai.upd (o:=.lst [V.bl true,V.bl false,V.bl false]) hp;have b1:upd H p (.lst [V.bl true,V.bl false,V.bl false]) p=some (.lst [V.bl true,V.bl false,V.bl false]):=ay;generalize upd H p (.lst [V.bl true,V.bl false,V.bl false])=H1 at s1 b1 ⊢;have sr:=s1 _ _ br;have mr:=s1 _ _ hd;walk_at "w";refine ⟨_,_,_,.of (.ins sr T.iy T.q1 T.q2 T.q3 T.q4),.cls T.Oi,bb ?_⟩;refine G8 (w0 := "found") (r:=[V.int (k:Int),V.str (gi ns)]) mr b1 rfl fun H2 s2=>ao ?_;walk_at "w";have hd2:=s2 _ _ mr;have rW:=s2 _ _ sr;unfold sU at hd2;simp only [bG,hd2,cU];refine cb (decide_eq_true (by trivial)) ?_;refine ⟨fd,_,_,_,rfl,rW,rfl,fd,_,_,_,rfl,rW,rfl,?_⟩;refine ⟨fits (by simp),fun p2 ej=>?_⟩;have s3:=s2.trans (ai.upd (o:=.tup [V.int (k:Int),V.str (gi ns)]) ej);have c3:upd H2 p2 (.tup [V.int (k:Int),V.str (gi ns)]) p2=some (.tup [V.int (k:Int),V.str (gi ns)]):=ay;have mO:=(ai.upd (o:=.tup [V.int (k:Int),V.str (gi ns)]) ej) _ _ hd2;generalize upd H2 p2 (.tup [V.int (k:Int),V.str (gi ns)])=H3 at s3 c3 mO ⊢;refine ⟨d,_,rfl,bV.of mO,fun z=>(by have:=z.1; simp [HT.bj] at this),fun p4 kH=>?_⟩;have s4:=ai.upd (o:=.tup [V.int (k:Int),V.str (gi ns)]) kH;exact fR.same (K:=K) (neg:=false) (xs:=[V.int (k:Int),V.str (gi ns)]) (.inr ⟨bV.of (s4 _ _ c3),bV.of ay⟩) rfl (q _ ((s1.trans s3).trans s4))
  ·refine ⟨_,_,_,.of (.ins br T.jt T.q6 T.q2 T.q3 T.q7),.cls T.q8,_,_,_,.of (.ins br T.jt T.q6 T.q2 T.q3 T.q7),.cls T.Pg,_,_,_,.of (.ins br T.jt T.q6 T.q2 T.q3 T.q7),.cls T.Kd,fits (by simp),fun p hp=>ao ?_⟩;have s1:=ai.upd (o:=.lst [V.bl false,V.bl true,V.bl false]) hp;have b1:upd H p (.lst [V.bl false,V.bl true,V.bl false]) p=some (.lst [V.bl false,V.bl true,V.bl false]):=ay;generalize upd H p (.lst [V.bl false,V.bl true,V.bl false])=H1 at s1 b1 ⊢;have sr:=s1 _ _ br;have mr:=s1 _ _ hd;walk_at "w";refine ⟨_,_,_,.of (.ins sr T.jt T.q6 T.q2 T.q3 T.q7),.cls T.Ml,bb ?_⟩;refine G8 (w0 := "failed") (r:=[V.int (k:Int),V.str y]) mr b1 rfl fun H2 s2=>ao ?_;walk_at "w";have hd2:=s2 _ _ mr;have rW:=s2 _ _ sr;unfold sU at hd2;simp only [bG,hd2,cU];refine bT (decide_eq_false (by decide +kernel)) (ao ?_);walk_at "w";simp only [bG,hd2,cU];refine cb (decide_eq_true (by trivial)) ?_;refine ⟨fd,_,_,_,rfl,rW,rfl,fd,_,_,_,rfl,rW,rfl,?_⟩;refine ⟨fits (by simp),fun p2 ej=>?_⟩;have s3:=s2.trans (ai.upd (o:=.tup [V.int (k:Int),V.str y]) ej);have c3:upd H2 p2 (.tup [V.int (k:Int),V.str y]) p2=some (.tup [V.int (k:Int),V.str y]):=ay;have mO:=(ai.upd (o:=.tup [V.int (k:Int),V.str y]) ej) _ _ hd2;generalize upd H2 p2 (.tup [V.int (k:Int),V.str y])=H3 at s3 c3 mO ⊢;refine ⟨d,_,rfl,bV.of mO,fun z=>(by have:=z.1; simp [HT.bj] at this),fun p4 kH=>?_⟩;have s4:=ai.upd (o:=.tup [V.int (k:Int),V.str y]) kH;exact fR.same (K:=K) (neg:=false) (xs:=[V.int (k:Int),V.str y]) (.inr ⟨bV.of (s4 _ _ c3),bV.of ay⟩) rfl (q _ ((s1.trans s3).trans s4))
theorem GF (l:List Nat):(nV l).all cm=true:=by
 rw [List.all_eq_true];intro x hx;obtain ⟨n,_,rfl⟩:=List.mem_map.mp hx;rfl
def KU (CH CS CT:Addr):Sp:=ox fun x z pt fin H Q _=>∃ A L M t,pt=Tx.S t∧aI CH CS CT H A L M∧A.a=x∧z∈AS∧Gd M∧M.ts.length≤90∧fW t∧t.length≤300∧∀ H',ai H H'→Q (.bl true) H'
structure qS (a:Addr) (z pt:Str) (fin:Bool) (d av:Addr) (wh:Int) (H1:Hp) (σ:L2.St) (H':Hp):Prop where
 e:σ=[some (V.ref a),some (V.str z),some (V.str pt),some (V.bl fin),some (V.ref d),some (V.ref av),some (V.int wh)]
 s:ai H1 H'
theorem Qd (T:Tx K mg):aA P w K mg base aM 13 T.nj.f T.nj.d ["_law_house_here", "_law_asker", "_law_path_here", "_law_final"] (KU T.au T.aE T.aG):=by
 refine T.nj.F.ok tX (fun vs H Q E h=>?_) (fun az A outer s H vs Q E hr h=>?_)
 ·exact iD h fun _ _ _ _ _=>rfl
 ·refine iD h fun x z pt fin h=>?_;obtain ⟨AA,L,M,t,rfl,i,rfl,hz,g,hn,hp,hl,q⟩:=h;have o9:(Tx.words 47 t).length≤400:=Nat.le_trans (List.length_filter_le _ _) (Nat.le_trans (Tx.uN 47 t) (by omega));obtain ⟨e,pw,_⟩:=rL g i.len hn hz hp o9;refine bC (b:=aU wm) ((Dv.cut (Dv.pV (Dv.call (N8 T) (hr.mono (by decide)) T.oB.m T.oB.F.kp T.oB.b .nil aw (Dv.aa (Dv.v 0) (Dv.aa (Dv.v 1) (Dv.aa (Dv.v 2) (Dv.aa (Dv.v 3) Dv.ag))))) (Dv.tG (K:=K) (n:=2) rfl rfl (Dv.ka (Dv.dA 4 tX.nd) (Dv.ka (Dv.dA 5 tX.nd) Dv.uS))))
  (Dv.cut (Dv.aS 6 tX.nd (Dv.op j0 (Dv.op dQ (Dv.cD (kb (K:=K) rfl) T.iS PySem.boot_len (Dv.aa (Dv.v 2) Dv.ag)) (Dv.oE sT T.p8 qN (Dv.aa (Dv.v 3) Dv.ag))) Dv.int))
  (Dv.cut (Dv.aW (Dv.dv (Dv.w_and (Dv.aY uD (Dv.v 6) Dv.int) (Dv.iz (Dv.aY (Du (K:=K) rfl hr.fV) (Dv.call (DF T) (hr.mono (by decide)) T.E6 T.rp.kp T.uM .nil aw (Dv.aa (Dv.v 0) (Dv.aa (Dv.v 1) (Dv.aa (Dv.v 2) (Dv.aa (Dv.v 3) Dv.ag))))) (Dv.v 5))))) (Dv.aj (Dv.aP Dv.bl)) Dv.nil)
  (Dv.cut (Dv.aW (Dv.aY cv (Dv.v 6) Dv.int) (Dv.aj (Dv.aX (Dv.call (pT T) (hr.mono (by decide)) T.qT T.i8.kp T.pW (.cons (show RelV (.bl true) _ from rfl) .nil) aw (Dv.aa (Dv.v 0) (Dv.aa Dv.str (Dv.aa Dv.str Dv.ag)))))) Dv.nil)
  (Dv.cut (Dv.aW (Dv.cw (Dv.cg (Dv.call (Cn T) (hr.mono (by decide)) T.ji.m T.ji.F.kp T.ji.b .nil aw (Dv.aa (Dv.Np (pT T) (hr.mono (by decide)) T.qT T.i8.kp (Lh T.i8 rfl (fun _ _ _ _ _ _ _ _ _ _ _=>⟨_,rfl,rfl⟩)) aw (Dv.aa (Dv.v 0) (Dv.aa (Dv.v 1) (Dv.aa (Dv.v 2) Dv.ag))) (Dv.v 3)) (Dv.aa (Dv.v 4) Dv.ag))))) (Dv.aj (Dv.aP Dv.bl)) Dv.nil)
  (Dv.cut (Dv.aW (Dv.dv (Dv.w_and (Dv.cg (Dv.v 3)) (Dv.iz (Dv.cw (Dv.cg (Dv.call (Cn T) (hr.mono (by decide)) T.ji.m T.ji.F.kp T.ji.b .nil aw (Dv.aa (Dv.call (pT T) (hr.mono (by decide)) T.qT T.i8.kp T.pW (.cons (show RelV (.bl true) _ from rfl) .nil) aw (Dv.aa (Dv.v 0) (Dv.aa (Dv.v 1) (Dv.aa (Dv.v 2) Dv.ag)))) (Dv.aa (Dv.v 4) Dv.ag)))))))) (Dv.aj (Dv.aP Dv.bl)) Dv.nil)
  (Dv.cut (Dv.aX (Dv.call (pT T) (hr.mono (by decide)) T.qT T.i8.kp T.yi .nil aw (Dv.aa (Dv.v 0) (Dv.aa Dv.str (Dv.aa Dv.str (Dv.aa Dv.bl Dv.ag))))))
  (Dv.aj (Dv.aP (Dv.cmp (yg (K:=K) rfl hr.fV) (Dv.call (DF T) (hr.mono (by decide)) T.E6 T.rp.kp T.uM .nil aw (Dv.aa (Dv.v 0) (Dv.aa (Dv.v 1) (Dv.aa (Dv.v 2) (Dv.aa (Dv.v 3) Dv.ag))))) (Dv.v 5)))))))))))) ?_
  refine stI [some (V.ref AA.a),some (V.str z),some (V.str (Tx.S t)),some (V.bl fin),none,none,none] ?_;refine ao ?_;walk_at "w";refine ⟨AA,L,M,t,e,rfl,i,rfl,hz,g,hn,by omega,pw,fun p d av H1 s1 mx hd fJ=>?_⟩;refine ⟨p,_,rfl,bV.of mx,rfl,_,_,rfl,_,_,rfl,rfl,ao ?_⟩;have i1:=i.same s1;walk_at "w";refine ⟨by rw [Tx.bX]; exact fits (by omega),by decide,?_⟩;generalize (((Tx.S t).length:Int)+if fin=true then 1 else 0) % 3=wh;refine en (qS AA.a z (Tx.S t) fin d av wh H1) ?_ ?_
  ·walk_at "w";refine jk (fun _=>?_) (fun _=>bb ⟨rfl,fun _ _ e=>e⟩);refine ⟨AA,L,M,t,e,rfl,i1,rfl,pw,fun av2 H2 s2 hav2=>?_⟩;exact fR.same (K:=K) (neg:=true) (Q:=fun v H3=>match v with | .bl b=>if b=true then Q (.bl false) H3 else qS AA.a z (Tx.S t) fin d av wh H1 _ H3 | _=>False) (.inl ⟨aK.of hav2,aK.of (s2 _ _ fJ)⟩) (GF _) (bT rfl ⟨rfl,s2⟩)
  rintro σ' H2 ⟨rfl,s2⟩;have sy:("ann" : Str)∈AS:=by decide +kernel
  refine en (qS AA.a z (Tx.S t) fin d av wh H1) ?_ ?_
  ·walk_at "w";obtain ⟨e2,pw2,_⟩:=rL (L:=L) g i1.len hn sy (t:=[47,97,47,46,46]) ⟨by decide,by decide,by decide +kernel⟩ (by decide +kernel);exact jk (fun _=>⟨AA,L,M,_,e2,by decide +kernel,i1.same s2,rfl,pw2,fun fd aJ H3 s3 _=>⟨rfl,s2.trans s3⟩⟩) (fun _=>⟨rfl,s2⟩)
  clear s2 H2;rintro σ' H2 ⟨rfl,s2⟩;refine en (qS AA.a z (Tx.S t) fin d av wh H1) ?_ ?_
  ·walk_at "w";refine ⟨AA,L,M,t,e,rfl,i1.same s2,rfl,pw,fun fd aJ H3 s3 br=>⟨aJ,e.res,br,(s2.trans s3) _ _ hd,fun H4 s4=>bT rfl ⟨rfl,(s2.trans s3).trans s4⟩⟩⟩
  clear s2 H2;rintro σ' H2 ⟨rfl,s2⟩;refine en (qS AA.a z (Tx.S t) fin d av wh H1) ?_ ?_
  ·walk_at "w";cases fin with
   | false=>exact bT rfl (bb ⟨rfl,s2⟩)
   | true =>
    refine cb rfl ?_;exact ⟨AA,L,M,t,e,rfl,i1.same s2,rfl,pw,fun fd aJ H3 s3 br=>⟨aJ,e.res,br,(s2.trans s3) _ _ hd,fun H4 s4=>bT rfl ⟨rfl,(s2.trans s3).trans s4⟩⟩⟩
  clear s2 H2;rintro σ' H2 ⟨rfl,s2⟩;refine ao ?_;walk_at "w";obtain ⟨e3,pw3,_⟩:=rL (L:=L) g i1.len hn sy (t:=[98,47,46,46,47,97]) ⟨by decide,by decide,by decide +kernel⟩ (by decide +kernel);refine ⟨AA,L,M,_,e3,by decide +kernel,i1.same s2,rfl,pw3,fun fd aJ H3 s3 _=>?_⟩;walk_at "w";refine ⟨AA,L,M,t,e,rfl,i1.same (s2.trans s3),rfl,pw,fun av2 H4 s4 hav2=>?_⟩;exact fR.same (K:=K) (neg:=false) (Q:=Q) (.inl ⟨aK.of hav2,aK.of (((s2.trans s3).trans s4) _ _ fJ)⟩) (GF _) (q _ (s1.trans ((s2.trans s3).trans s4)))
def yw (xs:List V):Prop:=∀ v∈xs,∀ a,v≠V.ref a
theorem xh (zs:List Int):yw (zs.map V.int):=fun v hv a=>by obtain ⟨z,_,rfl⟩:=List.mem_map.mp hv; nofun
theorem My (zs:List Str):yw (zs.map V.str):=fun v hv a=>by obtain ⟨z,_,rfl⟩:=List.mem_map.mp hv; nofun
def uk:HO→Prop
 | .lst xs=>yw xs
 | .dJ _ _=>True
 | _=>False
def eg (st:Addr) (H H':Hp):Prop:=∀ c o,c≠st→uk o→H c=some o→H' c=some o
def dO (H H':Hp):Prop:=∀ c o,uk o→H c=some o→H' c=some o
theorem dO.l {st:Addr} {H H':Hp} (k:dO H H'):eg st H H':=fun c o _ h e=>k c o h e
theorem eg.trans {st:Addr} {H H1 H2:Hp} (a:eg st H H1) (b:eg st H1 H2):eg st H H2:=fun c o n h e=>b c o n h (a c o n h e)
theorem dO.trans {H H1 H2:Hp} (a:dO H H1) (b:dO H1 H2):dO H H2:=fun c o h e=>b c o h (a c o h e)
theorem dO.of {H H':Hp} (s:ai H H'):dO H H':=fun c o _ e=>s _ _ e
theorem eg.of {st:Addr} {H H':Hp} (k:cj st H H'):eg st H H':=fun c o n _ e=>k _ _ n e
theorem Dr.kp {st:Addr} {H H':Hp} (d:Dr st H) (k:dO H H'):Dr st H':=let ⟨zs,e,l⟩:=d; ⟨zs,k _ _ (xh zs) e,l⟩
section
variable {CH CS CT:Addr} {H H':Hp} {A:Ad} {L:List Ta} {M:Hs}
theorem aI.G5 (i:aI CH CS CT H A L M) (h0:M.ts≠[]) {b:Addr} {o:HO} (hb:b∈A.w++L.flatMap Ta.l) (hx:uk o) (e:H b=Option.some o):False:=by
 rcases List.mem_append.mp hb with h | h
 ·simp only [Ad.w,List.mem_cons,List.not_mem_nil,or_false] at h;rcases h with rfl | rfl | rfl | rfl | rfl | rfl | rfl | rfl
  ·obtain ⟨_,_,e',_⟩:=i.h; rw [e'] at e; cases e; exact hx
  ·obtain ⟨_,_,e',_⟩:=i.t; rw [e'] at e; cases e; exact hx
  ·rw [i.ml] at e;cases e;cases L with
   | nil=>exact h0 (List.length_eq_zero_iff.mp i.len.symm)
   | cons a r=>exact hx (.ref a.th) (by simp) a.th rfl
  ·rw [i.ro] at e; cases e; exact hx
  ·rw [i.st] at e; cases e; exact hx
  ·rw [i.tr] at e; cases e; exact hx
  ·rw [i.ov] at e; cases e; exact hx
  ·rw [i.un] at e; cases e; exact hx
 ·obtain ⟨a,ha,h⟩:=List.mem_flatMap.mp h;obtain ⟨j,ha⟩:=List.getElem?_of_mem ha;have bU:j < M.ts.length:=by rw [← i.len]; exact (List.getElem?_eq_some_iff.mp ha).1
  obtain ⟨a',e1,t⟩:=i.th j _ (List.getElem?_eq_getElem bU);rw [ha] at e1; cases e1;simp only [Ta.l,List.mem_cons,List.not_mem_nil,or_false] at h;rcases h with rfl | rfl | rfl
  ·obtain ⟨_,e',_⟩:=t.o; rw [e'] at e; cases e; exact hx
  ·rw [t.nm] at e; cases e; exact hx
  ·rw [t.pl] at e; cases e; exact hx
theorem aI.off (i:aI CH CS CT H A L M) (h0:M.ts≠[]) {W:List Addr} (hW:∀ b∈W,b∈A.w++L.flatMap Ta.l) (k:Kp W H H'):dO H H':=fun c o ho e=>k c _ (fun hc=>i.G5 h0 (hW c hc) ho e) e
theorem aI.drawn {st:Addr} (i:aI CH CS CT H A L M) (h0:M.ts≠[]) (d:Dr st H) (k:cj st H H'):aI CH CS CT H' A L M:=by
 refine i.keep (W:=[st]) (fun b o hb e=>k b o (by simpa using hb) e) fun b hb hm=>?_;obtain rfl:b=st:=by simpa using hm
 obtain ⟨zs,e,_⟩:=d;exact i.G5 h0 hb (show uk (.lst (zs.map V.int)) from xh zs) e
end
def Hz (CH CS CT:Addr) (A:Ad) (n:Nat) (H:Hp):Prop:=∃ L M,aI CH CS CT H A L M∧Gd M∧M.ts.length≤n
theorem Gd.ne {M:Hs} (g:Gd M):M.ts≠[]:=fun e=>by obtain ⟨t,h,_⟩:=g.t0; rw [e] at h; cases h
def yz:List Str:=["folder", "file", "stand"]
def UQ (CH CS CT CN CD:Addr):Sp:=zO fun x z kd pt st H Q E=>∃ A t n,pt=Tx.S t∧Hz CH CS CT A n H∧A.a=x∧z∈AS∧n≤80∧uw t∧Dr st H∧kd∈yz ∧
   (∀ v H',Hz CH CS CT A (n+1) H'→Dr st H'→eg st H H'→Q v H')∧∀ C d H',C=CN∨C=CD→Hz CH CS CT A (n+1) H'→Dr st H'→eg st H H'→E (.ref C) (some d) H'
theorem ed.mk {CX CN CD:Addr} {H:Hp} {E:XK} (h:∀ C d H',C=CN∨C=CD→ai H H'→E (.ref C) (some d) H'):∀ r:Rf,ed CX CN CD H E r
 | .fz y=>fun d H' s _=>h CD d H' (.inr rfl) s
 | .way k y=>fun fd aJ d H' s _ _=>h CN d H' (.inl rfl) s
theorem DB {CH CS CT CX CN CD:Addr} {H H1:Hp} {A:Ad} {L:List Ta} {M:Hs} {n:Nat} {z kd mi re tx:Str} {t:List Nat} {st:Addr} {Q:VK} {E:XK} (i:aI CH CS CT H1 A L M) (g:Gd M) (hn:M.ts.length≤n) (rX:n≤80) (hz:z∈AS) (hp:uw t) (d:Dr st H1) (kl:eg st H H1)
  (j6:mi∈gE) (jS:re∈gE) (bK:kd=("folder" : Str)∨kd=("file" : Str)) (q1:∀ v H',Hz CH CS CT A (n+1) H'→Dr st H'→eg st H H'→Q v H') (q2:∀ C d H',C=CN∨C=CD→Hz CH CS CT A (n+1) H'→Dr st H'→eg st H H'→E (.ref C) (some d) H') :
  zd CH CS CT CX CN CD H1 A L M z t kd mi re tx Q E:=by
 have pe:fW t:=⟨hp.l1,by have:=hp.l2; omega,hp.all⟩;have hw:=hp.n;obtain ⟨r,hr,hf⟩:=UG g i.len (by omega) hz pe (by omega);refine ⟨i,pe,by rw [g.ro z hz]; rfl,j6,jS,by rw [i.len]; omega,fun f t0 h=>by have:=(g.th f t0 h).nl; omega,r,hr,fun x e=>ed.mk (fun C dd H' hC s=>q2 C dd H' hC ⟨L,M,i.same s,g,by omega⟩ (d.same s) (kl.trans (dO.of s).l)) x,fun f nm a0 t0 e jM jy a H' i' k'=>?_⟩;obtain ⟨tf,bA,eL,bJ,hv⟩:=hf f nm e;rw [jy] at bA; cases bA;have kA:=i.off g.ne (W:=[A.t,A.ml,a0.nm]) (fun b hb=>by
  simp only [List.mem_cons,List.not_mem_nil,or_false] at hb;rcases hb with rfl | rfl | rfl
  ·simp [Ad.w]
  ·simp [Ad.w]
  ·exact List.mem_append_right _ (iB jM (by simp [Ta.l]))) k'
 refine q1 _ H' ⟨_,_,i',g.make jy eL (by rw [Tx.bX]; exact (uR bJ).2.2.2) hv bK,?_⟩ (d.kp kA) (kl.trans kA.l);simp;omega
theorem R6 (m:Nat) (h:m < 100):(Str.ofString (toString (m:Int))).length≤10:=by
 have:∀ m < 100,(Str.ofString (toString ((m:Nat):Int))).length≤10:=by decide +kernel
 exact this m h
theorem QU (m:Nat) (h:m < 100):((m:Int)).natAbs.log2 < 1920:=by
 have:∀ m < 100,(((m:Nat):Int)).natAbs.log2 < 1920:=by decide +kernel
 exact this m h
theorem PL (a b:Str):(a++b).length=a.length+b.length:=by
 rw [← Tx.yM a,← Tx.yM b,Tx.oG,Tx.bX,Tx.bX,Tx.bX,List.length_append]
theorem Ue (T:Tx K mg):aA P w K mg base (cB P w) 16 T.oT.f T.oT.d ["_law_house_here", "_law_asker", "_law_kind", "_law_path_here", "_law_state"] (UQ T.au T.aE T.aG T.dw T.dU):=by
 refine T.oT.F.dF Ll (fun vs H Q E h=>?_) (fun az A outer s H vs Q E hr h=>?_)
 ·exact sW h fun _ _ _ _ _ _=>rfl
 ·refine sW h fun x z kd pt st h=>?_;obtain ⟨AA,t,n,rfl,⟨L,M,i,g,hn⟩,rfl,hz,rX,hp,d,bK,q1,q2⟩:=h;refine bC (b:=aU y4) ((Dv.aj (Dv.aW (Dv.aY cv (Dv.v 2) Dv.str) (Dv.aj (Dv.aX (Dv.ee (Ul T) (hr.mono (by decide)) T.Tp T.tm.kp T.yn .nil du (Dv.aa (Dv.v 0) (Dv.aa (Dv.v 1) (Dv.aa (Dv.v 3) (Dv.aa (Dv.call (uL T) (hr.mono (by decide)) T.eP.m T.eP.F.kp T.eP.b .nil aw (Dv.aa (Dv.v 4) Dv.ag)) (Dv.aa (Dv.call (uL T) (hr.mono (by decide)) T.eP.m T.eP.F.kp T.eP.b .nil aw (Dv.aa (Dv.v 4) Dv.ag)) Dv.ag)))))))) (Dv.aj (Dv.aW (Dv.aY cv (Dv.v 2) Dv.str) (Dv.aj (Dv.aX (Dv.ee (J9 T) (hr.mono (by decide)) T.O6 T.uV.kp T.Aa .nil du (Dv.aa (Dv.v 0) (Dv.aa (Dv.v 1) (Dv.aa (Dv.v 3) (Dv.aa (Dv.op dQ Dv.str (Dv.oE KD T.jW ko (Dv.aa (Dv.call (fO T) (hr.mono (by decide)) T.bI.m T.bI.F.kp T.bI.b .nil aw (Dv.aa (Dv.v 4) (Dv.aa Dv.int Dv.ag))) Dv.ag))) (Dv.aa (Dv.call (uL T) (hr.mono (by decide)) T.eP.m T.eP.F.kp T.eP.b .nil aw (Dv.aa (Dv.v 4) Dv.ag)) (Dv.aa (Dv.call (uL T) (hr.mono (by decide)) T.eP.m T.eP.F.kp T.eP.b .nil aw (Dv.aa (Dv.v 4) Dv.ag)) Dv.ag))))))))) (Dv.aj (Dv.aX (Dv.ee (OU T) (hr.mono (by decide)) T.nH.m T.nH.F.kp T.nH.b .nil du (Dv.aa (Dv.v 0) (Dv.aa (Dv.v 1) (Dv.aa (Dv.v 3) Dv.ag))))))))))) ?_;refine stI [some (V.ref AA.a),some (V.str z),some (V.str kd),some (V.str (Tx.S t)),some (V.ref st)] ?_;walk_at "w";by_cases h1:kd=("folder" : Str)
  ·refine cb (decide_eq_true h1) ?_;refine ⟨d,fun mi H1 j6 d1 k1=>⟨d1,fun re H2 jS d2 k2=>?_⟩⟩;have mG:=k1.trans k2;exact ⟨AA,L,M,t,rfl,DB (i.drawn g.ne d mG) g hn rX hz hp d2 (eg.of mG) j6 jS (.inl rfl) (fun v H' a b c=>q1 _ H' a b c) q2,rfl⟩
  ·refine bT (decide_eq_false h1) ?_;by_cases h2:kd=("file" : Str)
   ·refine cb (decide_eq_true h2) ?_;refine nk d (by decide) (by decide) fun dg H0 d0 d1 dr0 k0=>?_;obtain ⟨m,rfl⟩:=Int.eq_ofNat_of_zero_le d0;have hm:m < 100:=by omega
    have ht:=R6 m hm;have h5:(Str.ofString "text ").length=5:=by decide +kernel
    refine ⟨QU m hm,fits (by omega),dr0,fun mi H1 j6 d1 k1=>⟨d1,fun re H2 jS d2 k2=>?_⟩⟩;have mG:=(k0.trans k1).trans k2;exact ⟨AA,L,M,t,rfl,DB (i.drawn g.ne d mG) g hn rX hz hp d2 (eg.of mG) j6 jS (.inr rfl) (fun v H' a b c=>q1 _ H' a b c) q2,rfl,by rw [PL]; omega⟩
   ·refine bT (decide_eq_false h2) ?_;have pe:fW t:=⟨hp.l1,by have:=hp.l2; omega,hp.all⟩;have hw:=hp.n;obtain ⟨r,hr,hf⟩:=Rm g i.len (by omega) hz pe (by omega);refine ⟨AA,L,M,t,r,rfl,i,rfl,hr,by have:=g.sl; omega,fun x e=>ed.mk (fun C dd H' hC s=>q2 C dd H' hC ⟨L,M,i.same s,g,by omega⟩ (d.same s) (dO.of s).l) x,fun k e H' i' k'=>?_⟩;obtain ⟨tf,bA,eL⟩:=hf k e;have kA:=i.off g.ne (W:=[AA.a,AA.st]) (fun b hb=>by
     simp only [List.mem_cons,List.not_mem_nil,or_false] at hb;rcases hb with rfl | rfl <;> simp [Ad.w]) k'
    exact q1 _ H' ⟨L,_,i',g.Tq bA eL hz,by show M.ts.length≤n+1; omega⟩ (d.kp kA) kA.l
def Nb (CH CS CT:Addr):Sp:=zO fun x z kd pt st H Q _=>∃ A t n,pt=Tx.S t∧Hz CH CS CT A n H∧A.a=x∧z∈AS∧n≤80∧uw t∧Dr st H∧kd∈yz∧∀ b H',Hz CH CS CT A (n+1) H'→Dr st H'→eg st H H'→Q (.bl b) H'
theorem T1 (T:Tx K mg):aA P w K mg base aM 17 T.oJ.f T.oJ.d ["_law_house_here", "_law_asker", "_law_kind", "_law_path_here", "_law_state"] (Nb T.au T.aE T.aG):=by
 refine T.oJ.F.ok Qz (fun vs H Q E h=>?_) (fun az A outer s H vs Q E hr h=>?_)
 ·exact sW h fun _ _ _ _ _ _=>rfl
 ·refine sW h fun x z kd pt st h=>?_;obtain ⟨AA,t,n,rfl,hh,rfl,hz,rX,hp,d,bK,q⟩:=h;refine bC (b:=aU xc) ((Dv.cut (Dv.OX ⟨rfl,rfl,rfl⟩ (fun _ _=>by exact (Dv.aj (Dv.aX (Dv.ee (Ue T) (hr.mono (by decide)) T.oT.m T.oT.F.kp T.oT.b .nil Oh (Dv.aa (Dv.v 0) (Dv.aa (Dv.v 1) (Dv.aa (Dv.v 2) (Dv.aa (Dv.v 3) (Dv.aa (Dv.v 4) Dv.ag))))))))) (Dv.SE (K:=K) rfl T.Lr T.Kh T.Va (fun _=>by exact (Dv.aj (Dv.aP Dv.bl))) Dv.Ld))
  (Dv.aj (Dv.aP Dv.bl)))) ?_
  refine stI [some (V.ref AA.a),some (V.str z),some (V.str kd),some (V.str (Tx.S t)),some (V.ref st)] ?_;refine en (fun σ' H'=>Hz T.au T.aE T.aG AA (n+1) H'∧Dr st H'∧eg st H H') ?_ ?_
  ·refine ⟨fun σ' v od H'=>(∃ C,v=Value.ref C∧(C=T.dw∨C=T.dU))∧Hz T.au T.aE T.aG AA (n+1) H'∧Dr st H'∧eg st H H',?_,?_⟩
   ·walk_at "w";exact ⟨AA,t,n,rfl,hh,rfl,hz,rX,hp,d,bK,fun v H' a b c=>⟨a,b,c⟩,fun C dd H' hC a b c=>⟨⟨C,rfl,hC⟩,a,b,c⟩⟩
   ·rintro σ' C od H' ⟨⟨C',e,hC⟩,a,b,c⟩;cases e;refine ⟨true,?_,?_⟩
    ·rcases hC with rfl | rfl
     ·exact T.S9
     ·exact T.RM
    ·rw [if_pos rfl];walk_at "w";exact q false H' a b c
  ·rintro σ' H' ⟨a,b,c⟩;walk_at "w";exact q true H' a b c
theorem R7 {M:Hs} {L:List Ta} {z:Str} {e:End} (g:Gd M) (hz:z∈AS) (p:eM M L z [47] e):∃ ns,e.res=.inl (0,ns):=by
 obtain ⟨root,st,b,r,a,t,S',o,hr,aQ,ha,ht,jw,kS,dS,has,mB,kP⟩:=p.g.ex;rw [g.ro z hz] at hr;obtain rfl:0=root:=by injection hr with hr; injection hr with hr; omega
 have e1:(told (Tx.words 47 [47]) [47]).map Tx.S=[]:=by decide +kernel
 rw [e1] at dS;cases dS;obtain ⟨rfl,rfl⟩:=g.la jw;rcases aQ with ⟨_,rfl⟩ | ⟨e2,_⟩
 ·obtain ⟨ns,bE,_,h⟩:=kP rfl;exact ⟨_,h⟩
 ·exact absurd e2 (by decide)
def M3 (re:Str):Hs:={ ts:=[{ kd := "folder",ow := "ann",mi := "lgw",re:=re,tx := "",aZ:=[],c7:=[] }],ro:=[("ann",0),("bo",0),("cy",0)],st:=[("ann",0),("bo",0),("cy",0)],tr:=[("main",0)],ov:=[],un:=[] }
theorem B7 {re:Str}:∀ z∈AS,aN (sD (M3 re).ro) (.inr z)=some (.int ((0:Nat):Int)):=by
 intro z hz;unfold AS at hz;simp only [List.mem_cons,List.not_mem_nil,or_false] at hz;show aN (sD [(("ann" : Str),0),(("bo" : Str),0),(("cy" : Str),0)]) (.inr z)=_;rcases hz with rfl | rfl | rfl <;> decide +kernel
theorem uH {re:Str}:Gd (M3 re):=by
 refine ⟨rfl,rfl,rfl,B7,fun z hz=>⟨0,_,B7 (re:=re) z hz,rfl,rfl⟩,Nat.le_refl 3,⟨_,rfl,rfl⟩,fun k t ht=>?_⟩;cases k with
 | zero =>
  cases ht;exact ⟨Nat.zero_le _,.inl rfl,.inl ⟨rfl,rfl⟩,fun z v h=>by cases h⟩
 | succ k=>simp [M3] at ht
def LP (CH CS CT:Addr):Sp:=EH fun _ H Q _=>∀ A H',Hz CH CS CT A 1 H'→dO H H'→Q (.ref A.a) H'
theorem ME (T:Tx K mg):aA P w K mg base aM 15 T.nX.f T.nX.d ["_law_cell"] (LP T.au T.aE T.aG):=by
 refine T.nX.F.ok DK (fun vs H Q E h=>?_) (fun az A outer s H vs Q E hr h=>?_)
 ·exact BX h fun _ _=>rfl
 ·refine BX h fun c h=>?_;refine bC (b:=aU w6) ((Dv.cut (Dv.aS 1 DK.nd (Dv.make T.Vc (M9 T) (hr.mono (by decide)) T.Sk T.pN.b .nil aw (Dv.aa Dv.str Dv.ag)))
  (Dv.cut (Dv.aX (Dv.bh T.aL T.lq.h (E1 T) (hr.mono (by decide)) T.lq.b .nil aw (Dv.v 1) (Dv.aa Dv.str Dv.ag)))
  (Dv.cut (Dv.aX (Dv.bh T.aL T.lq.h (E1 T) (hr.mono (by decide)) T.lq.b .nil aw (Dv.v 1) (Dv.aa Dv.str Dv.ag)))
  (Dv.cut (Dv.aW (Dv.aY uD (Dv.op j0 (Dv.v 0) Dv.int) Dv.int) (Dv.aj (Dv.aX (Dv.call (Ql T) (hr.mono (by decide)) T.oH.m T.oH.F.kp T.oH.b .nil aw (Dv.aa (Dv.v 1) (Dv.aa Dv.str (Dv.aa Dv.str (Dv.aa Dv.str (Dv.aa Dv.str Dv.ag)))))))) Dv.nil)
  (Dv.aj (Dv.aP (Dv.v 1)))))))) ?_
  refine stI [some (V.int c),none] ?_;refine ao ?_;walk_at "w";intro x dx hx jv fh;refine ⟨⟨dx,ay⟩,by decide +kernel,by decide +kernel,fun A1 L1 H2 hA1 i2 ph gQ=>⟨rfl,?_⟩⟩;subst hA1;have k2:dO H H2:=fun b o ho e=>gQ _ _ (by rw [List.mem_singleton]; exact aF e hx) (by rw [ah (aF e hx),ah (aF e jv)]; exact e);obtain ⟨mz,gc,gh,mf,ff⟩:=i2.h;have Ji:∀ {L:List Ta},∀ b∈[A1.a,A1.ro,A1.st],b∈A1.w++L.flatMap Ta.l:=fun b hb=>by
   simp only [List.mem_cons,List.not_mem_nil,or_false] at hb;rcases hb with rfl | rfl | rfl <;> simp [Ad.w]
  refine ao ?_;walk_at "w";refine ⟨A1.a,_,_,rfl,gh,(ff _).trans rfl,A1,L1,_,i2,rfl,by decide +kernel,by decide +kernel,by decide,by decide,by decide +kernel,by decide +kernel,fun H3 i3 k3=>ao ?_⟩;have k3':=k2.trans (i2.off (by nofun) Ji k3);obtain ⟨gfs3,gc3,gh3,ghl3,gsf3⟩:=i3.h;walk_at "w";refine ⟨A1.a,_,_,rfl,gh3,(gsf3 _).trans rfl,A1,L1,_,i3,rfl,by decide +kernel,by decide +kernel,by decide,by decide,by decide +kernel,by decide +kernel,fun H4 i4 k4=>?_⟩;have k4':=k3'.trans (i3.off (by nofun) Ji k4);have i4':aI T.au T.aE T.aG H4 A1 L1 (M3 "lg"):=i4;refine en (fun σ' H'=>σ'=[some (V.int c),some (V.ref A1.a)]∧Hz T.au T.aE T.aG A1 1 H'∧dO H H') ?_ ?_
  ·walk_at "w";refine ⟨by decide,jk (fun _=>?_) (fun _=>⟨by trivial,⟨L1,_,i4',uH,by decide⟩,k4'⟩)⟩;have sy:("ann" : Str)∈AS:=by decide +kernel
   obtain ⟨e,pw,_⟩:=rL uH i4'.len (by decide) sy (t:=[47]) ⟨by decide,by decide,by decide +kernel⟩ (by decide +kernel);obtain ⟨ns,he⟩:=R7 uH sy pw;obtain ⟨a,ha⟩:=adr (k:=0) i4'.len rfl;refine ⟨A1,L1,_,[47],e,a,_,0,ns,by decide +kernel,i4',rfl,pw,he,by decide +kernel,by decide +kernel,ha,rfl,rfl,fun H5 i5 k5=>⟨by trivial,⟨L1,M3 "lgw",i5,uH,by decide⟩,k4'.trans (i4'.off (by nofun) (fun b hb=>?_) k5)⟩⟩;simp only [List.mem_cons,List.not_mem_nil,or_false] at hb;rcases hb with rfl | rfl
   ·simp [Ad.w]
   ·exact List.mem_append_right _ (iB ha (by simp [Ta.l]))
  ·rintro σ' H5 ⟨rfl,h5,k5⟩;walk_at "w";exact h A1 H5 h5 k5
def Ai (K:PySem.W.Frag):Sp:=iw fun a H Q _=>(∃ ns:List Int,aK K H a (ns.map V.int))∧qz H∧∀ H',Q (.bl true) H'
def nY (K:PySem.W.Frag) (H:Hp) (a:Addr) (ns:List Int):Prop:=(∀ J,aK K J a (ns.map V.int))∨∃ o,H a=some (.dJ o (.lst (ns.map V.int)))
theorem nY.sq {H:Hp} {a:Addr} {ns:List Int} (h:nY K H a ns):aK K H a (ns.map V.int):=by
 rcases h with h | h
 ·exact h H
 ·exact .inl (.inr h)
theorem nY.kp {H H':Hp} {a:Addr} {ns:List Int} (h:nY K H a ns) (k:dO H H'):nY K H' a ns:=by
 rcases h with h | ⟨o,h⟩
 ·exact .inl h
 ·exact .inr ⟨o,k _ _ trivial h⟩
theorem NP (xs:List V) (a b:Nat):gA xs (some (a:Int)) (some (b:Int))=(xs.drop a).take (b - a):=by
 unfold gA;rw [HT.CM,HT.CM];by_cases h:a≤xs.length
 ·rw [Nat.min_eq_left h];by_cases h2:b≤xs.length
  ·rw [Nat.min_eq_left h2]
  ·rw [Nat.min_eq_right (by omega),List.take_of_length_le (by rw [List.length_drop]; omega),List.take_of_length_le (by rw [List.length_drop]; omega)]
 ·rw [show min a xs.length=xs.length by omega,List.drop_of_length_le (Nat.le_refl _),List.drop_of_length_le (by omega),List.take_nil,List.take_nil]
def iW:List Str:=["folder", "folder", "folder", "file", "stand"]
structure DG (CH CS CT:Addr) (A:Ad) (lk ll:Addr) (zs:List Int) (i:Nat) (H':Hp):Prop where
 h:Hz CH CS CT A (1+i) H'
 k:H' lk=some (.lst (iW.map V.str))
 l:H' ll=some (.lst (zs.map V.int))
theorem Hz.same {CH CS CT:Addr} {A:Ad} {n:Nat} {H H':Hp} (h:Hz CH CS CT A n H) (s:ai H H'):Hz CH CS CT A n H':=let ⟨L,M,i,g,l⟩:=h; ⟨L,M,i.same s,g,l⟩
theorem Hz.drawn {CH CS CT:Addr} {A:Ad} {n:Nat} {H H':Hp} {st:Addr} (h:Hz CH CS CT A n H) (d:Dr st H) (k:cj st H H'):Hz CH CS CT A n H':=let ⟨L,M,i,g,l⟩:=h; ⟨L,M,i.drawn g.ne d k,g,l⟩
structure pO (CH CS CT:Addr) (A:Ad) (lk ll st:Addr) (zs:List Int) (i:Nat) (H':Hp):Prop where
 h:Hz CH CS CT A (1+i) H'
 k:H' lk=some (.lst (iW.map V.str))
 l:H' ll=some (.lst (zs.map V.int))
 d:Dr st H'
 n1:lk≠st
 n2:ll≠st
theorem pO.keep {CH CS CT:Addr} {A:Ad} {lk ll st:Addr} {zs:List Int} {i:Nat} {H H':Hp} (h:pO CH CS CT A lk ll st zs i H) (k:cj st H H') (d:Dr st H'):pO CH CS CT A lk ll st zs i H':=⟨h.h.drawn h.d k,k _ _ h.n1 h.k,k _ _ h.n2 h.l,d,h.n1,h.n2⟩
theorem Tz (T:Tx K mg):aA P w K mg base aM 18 T.rN T.vD ["_law_script"] (Ai K):=by
 refine T.sR.ok kq (fun vs H Q E h=>?_) (fun az A outer s H vs Q E hr h=>?_)
 ·exact dP h fun _ _=>rfl
 ·refine dP h fun a h=>?_;obtain ⟨⟨ns,hS⟩,hO,q⟩:=h;refine bC (b:=aU xD) ((Dv.cut (Dv.aS 1 kq.nd (Dv.call (ME T) (hr.mono (by decide)) T.nX.m T.nX.F.kp T.nX.b .nil aw (Dv.aa (Dv.call (Uj T) (hr.mono (by decide)) T.m5.m T.m5.F.kp T.m5.b .nil aw (Dv.aa (Dv.v 0) (Dv.aa Dv.int Dv.ag))) Dv.ag)))
  (Dv.cut (Dv.aS 2 kq.nd (Dv.lst (Dv.aa Dv.str (Dv.aa Dv.str (Dv.aa Dv.str (Dv.aa Dv.str (Dv.aa Dv.str Dv.ag)))))))
  (Dv.cut (Dv.nN PassesOwn.never rfl (Dv.gX (K:=K) rfl (Dv.op dQ (Dv.lst (Dv.aa Dv.int Dv.ag)) (Dv.slice (xM (K:=K) rfl) (Dv.v 0) (Dv.nG Dv.int) (Dv.nG Dv.int)))) (Dv.dA 3 kq.nd) (Dv.cut (Dv.aS 4 kq.nd (Dv.lst (Dv.aa (Dv.v 3) Dv.ag)))
  (Dv.cut (Dv.aS 5 kq.nd (Dv.ix (bq (K:=K) rfl) (Dv.lst (Dv.aa Dv.str (Dv.aa Dv.str (Dv.aa Dv.str (Dv.aa Dv.str Dv.ag))))) (Dv.call (fO T) (hr.mono (by decide)) T.bI.m T.bI.F.kp T.bI.b .nil aw (Dv.aa (Dv.v 4) (Dv.aa Dv.int Dv.ag)))))
  (Dv.cut (Dv.aX (Dv.call (T1 T) (hr.mono (by decide)) T.oJ.m T.oJ.F.kp T.oJ.b .nil aw (Dv.aa (Dv.v 1) (Dv.aa (Dv.v 5) (Dv.aa (Dv.ix (bq (K:=K) rfl) (Dv.v 2) (Dv.call (fO T) (hr.mono (by decide)) T.bI.m T.bI.F.kp T.bI.b .nil aw (Dv.aa (Dv.v 4) (Dv.aa (Dv.cD (kb (K:=K) rfl) T.iS PySem.boot_len (Dv.aa (Dv.v 2) Dv.ag)) Dv.ag)))) (Dv.aa (Dv.call (Cq T) (hr.mono (by decide)) T.i7.m T.i7.F.kp T.i7.b .nil aw (Dv.aa (Dv.v 4) (Dv.aa Dv.int Dv.ag))) (Dv.aa (Dv.v 4) Dv.ag)))))))
  (Dv.cut (Dv.aS 5 kq.nd (Dv.ix (bq (K:=K) rfl) (Dv.lst (Dv.aa Dv.str (Dv.aa Dv.str (Dv.aa Dv.str Dv.ag)))) (Dv.call (fO T) (hr.mono (by decide)) T.bI.m T.bI.F.kp T.bI.b .nil aw (Dv.aa (Dv.v 4) (Dv.aa Dv.int Dv.ag)))))
  (Dv.cut (Dv.aS 6 kq.nd (Dv.op dQ (Dv.ix (bq (K:=K) rfl) (Dv.lst (Dv.aa Dv.str (Dv.aa Dv.str (Dv.aa Dv.str Dv.ag)))) (Dv.call (fO T) (hr.mono (by decide)) T.bI.m T.bI.F.kp T.bI.b .nil aw (Dv.aa (Dv.v 4) (Dv.aa Dv.int Dv.ag)))) (Dv.call (Cq T) (hr.mono (by decide)) T.i7.m T.i7.F.kp T.i7.b .nil aw (Dv.aa (Dv.v 4) (Dv.aa Dv.int Dv.ag)))))
  (Dv.aj (Dv.aW (Dv.cw (Dv.cg (Dv.call (Qd T) (hr.mono (by decide)) T.nj.m T.nj.F.kp T.nj.b .nil aw (Dv.aa (Dv.v 1) (Dv.aa (Dv.v 5) (Dv.aa (Dv.v 6) (Dv.aa (Dv.cmp uD (Dv.call (fO T) (hr.mono (by decide)) T.bI.m T.bI.F.kp T.bI.b .nil aw (Dv.aa (Dv.v 4) (Dv.aa Dv.int Dv.ag))) Dv.int) Dv.ag))))))) (Dv.aj (Dv.aP Dv.bl)) Dv.nil))))))))
  (Dv.aj (Dv.aP Dv.bl)))))) ?_
  refine stI [some (.ref a),none,none,none,none,none,none] ?_;have sc0:nY K H a ns:=by
   rcases hS with hS | hS
   ·rcases hS with hS | hS
    ·rcases hO a with z | ⟨o,xs,z⟩
     ·rw [z] at hS; cases hS
     ·rw [z] at hS; cases hS
    ·exact .inr hS
   ·exact .inl fun J=>.inr hS
  refine ao ?_;walk_at "w";refine ⟨⟨ns,hS⟩,by decide,fun c A1 H1 h1 k1=>ao ?_⟩;have sc1:=sc0.kp k1;walk_at "w";refine ⟨fits (by simp),fun lk jN=>ao ?_⟩;have s2:=ai.upd (o:=.lst (iW.map V.str)) jN;have b2:upd H1 lk (.lst (iW.map V.str)) lk=some (.lst (iW.map V.str)):=ay;change sS _ _ _ _ _ (upd H1 lk (.lst (iW.map V.str)));generalize upd H1 lk (.lst (iW.map V.str))=H2 at s2 b2 ⊢;have h2:=h1.same s2;have sc2:=sc1.kp (dO.of s2);walk_at "w";refine ⟨fits (by simp),fun l7 hl7=>⟨_,(sc2.kp (dO.of (ai.upd hl7))).sq,fun ls sG=>?_⟩⟩;rw [show (1:Int)=((1:Nat):Int) from rfl,show (23:Int)=((23:Nat):Int) from rfl,NP,← List.map_drop,← List.map_take];have s3:=(ai.upd (o:=.lst [V.int 7]) hl7).trans (ai.upd (o:=.lst (((ns.drop 1).take (23 - 1)).map V.int)) sG);have c3:upd (upd H2 l7 (.lst [V.int 7])) ls (.lst (((ns.drop 1).take (23 - 1)).map V.int)) l7=some (.lst [V.int 7]):=ai.upd sG _ _ ay;have e3:upd (upd H2 l7 (.lst [V.int 7])) ls (.lst (((ns.drop 1).take (23 - 1)).map V.int)) ls=some (.lst (((ns.drop 1).take (23 - 1)).map V.int)):=ay;generalize upd (upd H2 l7 (.lst [V.int 7])) ls (.lst (((ns.drop 1).take (23 - 1)).map V.int))=H3 at s3 c3 e3 ⊢;have hzl:((ns.drop 1).take (23 - 1)).length≤22:=List.length_take_le _ _;generalize (ns.drop 1).take (23 - 1)=zs at hzl c3 e3 s3 ⊢;simp only [c3,e3];refine ⟨fits (by simp; omega),fun ll hll=>?_⟩;have s4:=s3.trans (ai.upd (o:=.lst ([V.int 7]++zs.map V.int)) hll);have b4:upd H3 ll (.lst ([V.int 7]++zs.map V.int)) ll=some (.lst ((7::zs).map V.int)):=ay;generalize upd H3 ll (.lst ([V.int 7]++zs.map V.int))=H4 at s4 b4 ⊢;have h4:DG T.au T.aE T.aG A1 lk ll (7::zs) 0 H4:=⟨h2.same s4,s4 _ _ b2,b4⟩;refine ⟨⟨_,aK.of b4⟩,qH (xs:=(7::zs).map V.int) (fun i σ' H'=>DG T.au T.aE T.aG A1 lk ll (7::zs) i H'∧∃ t1 t2 t3 t4,σ'=[some (V.ref a),some (V.ref A1.a),some (V.ref lk),t1,t2,t3,t4]) ⟨h4,_,_,_,_,rfl⟩ (fun i σ' H' _ h=>aK.of h.1.l) ?_ (fun σ' H' h=>?_)⟩
  ·rintro i x σ' H5 hx ⟨h5,t1,t2,t3,t4,rfl⟩;have hi:i≤22:=by
    have:=(List.getElem?_eq_some_iff.mp hx).1;simp at this; omega
   obtain ⟨cell,rfl⟩:∃ cell:Int,x=.int cell:=by
    obtain ⟨z,_,rfl⟩:=List.mem_map.mp (List.mem_of_getElem? hx);exact ⟨z,rfl⟩
   refine ao ?_;walk_at "w";refine ⟨fits (by simp),fun st aQ=>ao ?_⟩;have s6:=ai.upd (o:=.lst [V.int cell]) aQ;have d6:Dr st (upd H5 st (.lst [V.int cell])):=⟨[cell],ay,.inl rfl⟩;have h6:pO T.au T.aE T.aG A1 lk ll st (7::zs) i (upd H5 st (.lst [V.int cell])):=⟨h5.h.same s6,s6 _ _ h5.k,s6 _ _ h5.l,d6,aF h5.k aQ,aF h5.l aQ⟩;generalize upd H5 st (.lst [V.int cell])=H6 at h6 ⊢;walk_at "w";refine kj h6.d rfl (by simp) (by simp) fun v H7 hv d7 k7=>ao ?_;have h7:=h6.keep k7 d7;obtain ⟨z,hz,rfl⟩:∃ z,z∈AS∧v=V.str z:=by
    simp only [List.mem_cons,List.not_mem_nil,or_false] at hv;rcases hv with rfl | rfl | rfl | rfl <;> exact ⟨_,by decide +kernel,rfl⟩
   walk_at "w";simp only [bG,h7.k];refine nk h7.d (by decide) (by decide) fun dg H8 d0 d1 d8 k8=>?_;have h8:=h7.keep k8 d8;obtain ⟨v,hv',e8⟩:=pick (xs:=iW.map V.str) d0 d1;simp only [h8.k,e8];obtain ⟨kd,bK,rfl⟩:∃ kd,kd∈yz∧v=V.str kd:=by
    obtain ⟨y,hy,rfl⟩:=List.mem_map.mp hv';refine ⟨y,?_,rfl⟩;unfold iW at hy;simp only [List.mem_cons,List.not_mem_nil,or_false] at hy;rcases hy with rfl | rfl | rfl | rfl | rfl <;> decide +kernel
   refine ⟨h8.d,by decide,by decide,fun t H9 ht d9 k9=>?_⟩;have h9:=h8.keep k9 d9;refine ⟨A1,t,1+i,rfl,h9.h,rfl,hz,by omega,ht,d9,bK,fun b eG hz10 d10 sH=>ao ?_⟩;have dI:pO T.au T.aE T.aG A1 lk ll st (7::zs) (i+1) eG:=⟨hz10,sH _ _ h9.n1 (My _) h9.k,sH _ _ h9.n2 (xh _) h9.l,d10,h9.n1,h9.n2⟩;walk_at "w";refine kj dI.d rfl (by simp) (by simp) fun v H11 hv d11 mI=>ao ?_;have eJ:=dI.keep mI d11;obtain ⟨z2,hz2,rfl⟩:∃ z,z∈AS∧v=V.str z:=by
    simp only [List.mem_cons,List.not_mem_nil,or_false] at hv;rcases hv with rfl | rfl | rfl <;> exact ⟨_,by decide +kernel,rfl⟩
   walk_at "w";refine kj eJ.d rfl (by simp) (by simp) fun v H12 hv d12 mG=>?_;have dj:=eJ.keep mG d12;obtain ⟨pre,iQ,rfl⟩:∃ pre:List Nat,(pre=[]∨pre=[47])∧v=V.str (Tx.S pre):=by
    simp only [List.mem_cons,List.not_mem_nil,or_false] at hv;rcases hv with rfl | rfl | rfl
    ·exact ⟨[],.inl rfl,by decide +kernel⟩
    ·exact ⟨[],.inl rfl,by decide +kernel⟩
    ·exact ⟨[47],.inr rfl,by decide +kernel⟩
   refine ⟨dj.d,by decide,by decide,fun t2 H13 fe d13 k13=>?_⟩;have fF:=dj.keep k13 d13;simp only [Tx.oG];have bg:pre.length≤1:=by rcases iQ with rfl | rfl <;> simp
   have htl:=fe.l2;refine ⟨fits (by rw [Tx.bX,Tx.bX]; omega),?_⟩;have pe:fW (pre++t2):=⟨by rw [List.length_append]; have:=fe.l1; omega,by rw [List.length_append]; omega,by
    rcases iQ with rfl | rfl
    ·exact fe.all
    ·exact (congrArg (List.all · bZ) (Tx.y6 47 t2)).trans fe.all⟩
   refine nk fF.d (by decide) (by decide) fun dg2 H14 _ _ d14 k14=>?_;have u6:=fF.keep k14 d14;obtain ⟨L,M,iM,gM,lM⟩:=u6.h;refine ⟨A1,L,M,pre++t2,rfl,iM,rfl,hz2,gM,by omega,pe,by rw [List.length_append]; omega,fun H15 gp=>bT rfl ⟨?_,_,_,_,_,rfl⟩⟩;exact ⟨u6.h.same gp,gp _ _ u6.k,gp _ _ u6.l⟩
  ·walk_at "w";exact q _
end
theorem QZ {K:PySem.W.Frag} {a:Addr} {od:Option Addr} {tk:Nat} {sl:Array (Option Value)} {t0 t1:Tok} (l:K.lookup a=some ⟨.type "tuple",od,.seq ([.str "." t0,.str ".." t1]:List Value).toArray tk,sl⟩) (H:Hp):bV K H a [.str ".",.str ".."]:=.inr ⟨_,_,_,l,rfl,rfl,fits (by simp),(.cons ⟨_,rfl⟩ (.cons ⟨_,rfl⟩ .nil))⟩
theorem Pw {K:PySem.W.Frag} {a:Addr} {od:Option Addr} {tk:Nat} {sl:Array (Option Value)} {t0 t1 t2 t3 t4 t5 t6 t7:Tok} (l:K.lookup a=some ⟨.type "tuple",od,.seq ([.str "" t0,.str "l" t1,.str "g" t2,.str "w" t3,.str "lg" t4,.str "lw" t5,.str "gw" t6,.str "lgw" t7]:List Value).toArray tk,sl⟩) (H:Hp):bV K H a [.str "",.str "l",.str "g",.str "w",.str "lg",.str "lw",.str "gw",.str "lgw"]:=.inr ⟨_,_,_,l,rfl,rfl,fits (by simp),(.cons ⟨_,rfl⟩ (.cons ⟨_,rfl⟩ (.cons ⟨_,rfl⟩ (.cons ⟨_,rfl⟩ (.cons ⟨_,rfl⟩ (.cons ⟨_,rfl⟩ (.cons ⟨_,rfl⟩ (.cons ⟨_,rfl⟩ .nil))))))))⟩
theorem Vl {K:PySem.W.Frag} {a:Addr} {od:Option Addr} {tk:Nat} {sl:Array (Option Value)} {t0 t1 t2:Tok} (l:K.lookup a=some ⟨.type "tuple",od,.seq ([.str "l" t0,.str "g" t1,.str "w" t2]:List Value).toArray tk,sl⟩) (H:Hp):bV K H a [.str "l",.str "g",.str "w"]:=.inr ⟨_,_,_,l,rfl,rfl,fits (by simp),(.cons ⟨_,rfl⟩ (.cons ⟨_,rfl⟩ (.cons ⟨_,rfl⟩ .nil)))⟩
theorem Ke {K:PySem.W.Frag} {H:Hp} {a:Addr} {ns:List Int} (hO:qz H) (hS:aK K H a (ns.map V.int)):Ai K [.ref a] H (fun v _=>v=.bl true) fun _ _ _=>False:=⟨⟨ns,hS⟩,hO,fun _=>rfl⟩
theorem walk {l:PySem.W.OpenLaw} {q:Program} {loose:List Str} {XP:(Str→Option Value)→Heap→Prop} {YP:World→Heap→Prop} {d:DefRec} {K:Params→PySem.W.Frag} (hn:l.most=some 63) (sd:d.params.defaults=[]) (pE:d.name = "law")
  (hY:∀ (w:World) (h:Heap),YP w h→(K w.params).In h)
  (F:∀ (w:World) (mg:Str→Option Value) (h:Heap),(K w.params).In h→h.Ns mainGlobals mg→∃ T:Tx (K w.params) mg,T.rN=T.rN) :
  PySem.W.WalkO q loose XP YP l.row.toRowW d [] (fun f vs=>PySem.call f vs) :=
 L2.U0 (n:=63) (k:=18) (x := "_law_script") (CX:=fun _=>aM) (sp:=fun w=>Ai (K w.params)) hn (by decide) sd ⟨rfl,by decide,by decide⟩ hY
  (fun w mg fa h KX G hfa=>by
   obtain ⟨T,_⟩:=F w mg h KX G;rw [pE] at hfa;have e:=hfa.symm.trans T.Ms;cases e;exact ⟨T.vD,fun s u=>by obtain ⟨oc,od,kV,doc,pm,an,az,ct,cZ,e,_⟩:=T.sR.ex; rw [e]; exact .of_eq rfl,fun base _ _=>Tz T⟩)
  (fun _ _ a ns _ hO hS=>Ke hO hS) fun _ _ _ _ _ z=>z
end L2.bB

open PySem PySem.W PyProof.Rows
local macro_rules | `(tactic| walk_at "fa")=>`(tactic| (refine' L2.FA.mk ?n ?l ?c ?k; (case n=>k_is); (case l=>k_is); (case c=>k_is); (case k=>k_is)))
local macro_rules | `(tactic| walk_at "ma")=>`(tactic| (refine' L2.MA.mk ?n ?l ?c ?k ?t; (case n=>k_is); (case l=>k_is); (case c=>k_is); (case k=>k_is); (case t=>k_is)))
local macro_rules | `(tactic| walk_at "ar")=>`(tactic| (intro _ _ _ _ _ _; first | (refine L2.E4 ?_; exact fun _=>rfl) | (refine L2.D2 ?_; exact fun _ _=>rfl) | (refine L2.qa ?_; exact fun _ _ _=>rfl) | (refine L2.oQ ?_; exact fun _ _ _ _=>rfl) | (refine L2.ux ?_; exact fun _ _ _ _ _=>rfl) | (refine L2.xF ?_; exact fun _ _ _ _ _ _=>rfl) | (refine L2.S4 ?_; exact fun _ _ _ _ _ _ _=>rfl) | (refine L2.Fj ?_; exact rfl)))
local macro_rules | `(tactic| walk_at "mg")=>`(tactic| (refine' PySem.W.mg_of (by assumption) (by assumption) ?n; (case n=>k_is)))
local macro_rules | `(tactic| walk_at "mn")=>`(tactic| (refine' PySem.W.mg_none_of (by assumption) (by assumption) ?n; (case n=>k_is)))
local macro_rules | `(tactic| walk_at "ft")=>`(tactic| (refine' Classical.choice (L2.FA.gt (by assumption) (by assumption) ?b ?a); (case a=>walk_at "fa"); (case b=>walk_at "ar")))
local macro_rules | `(tactic| walk_at "mt")=>`(tactic| (refine' Classical.choice (L2.MA.gt ?b ?a); (case a=>walk_at "ma"); (case b=>walk_at "ar")))
local macro_rules | `(tactic| walk_at "mk")=>`(tactic| (refine' L2.Oz ?a ?b; (case a=>k_is); (case b=>k_is)))
local macro_rules | `(tactic| walk_at "xf")=>`(tactic| (refine' L2.Pd ?a ?b ?c ?d ?e ?f ?g; (case a=>kernel_rfl); (case b=>k_is); (case c=>k_is); (case d=>k_is); (case e=>k_is); (case f=>k_is); (case g=>k_is)))
local macro_rules | `(tactic| walk_at "cl")=>`(tactic| (refine' L2.cz.mk ?a ?b ?c ?d; (case a=>k_is); (case b=>k_is); (case c=>k_is); (case d=>k_is)))
local macro_rules | `(tactic| walk_at "fu")=>`(tactic| (refine' L2.x8 ?l ?c ?k; (case l=>k_is); (case c=>k_is); (case k=>k_is)))
local macro_rules | `(tactic| walk_at "fd")=>`(tactic| (refine' L2.LI ?l ?c ?k ?d ?h; (case l=>k_is); (case c=>k_is); (case k=>k_is); (case d=>k_is); (case h=>exact rfl)))
set_option maxRecDepth 100000 in
set_option maxHeartbeats 0 in
theorem PySem.Challenge.cw_leadnames_k31_walks_by_names_and_dots_holds : PySem.Challenge.rw_leadnames_k31_walks_by_names_and_dots.Holds := by
 refine L2.bB.hd0 ?_;unfold L2.bB.dW
 k_fill
 refine L2.bB.walk (l:=PySem.Challenge.rw_leadnames_k31_walks_by_names_and_dots) rfl rfl rfl (fun w h Y=>PySem.W.kIn_of (e:=fun _=>by kernel_rfl) Y) ?F
 case F =>
  intro w mg h KX G;refine' ⟨L2.bB.Tx.mk ?_ ?_ ?_ ?_ ?_ ?_ ?_ ?_ ?_ ?_ ?_ ?_ ?_ ?_ ?_ ?_ ?_ ?i8 ?_ ?yi ?pW ?rp ?_ ?uM ?ER ?_ ?_ ?_ ?_ ?_ ?_ ?_ ?_ ?_ ?_ ?_ ?_ ?tm ?_ ?yn ?FW ?B2 ?uV ?_ ?Aa ?FK ?Fq ?_ ?_ ?_ ?_ ?_ ?_ ?_ ?_ ?_ ?_ ?_ ?_ ?_ ?_ ?_ ?_ ?_ ?_ ?_ ?_ ?_ ?sR ?_ ?Fg ?_ ?vX ?_ ?_ ?_ ?_ ?_ ?_ ?_ ?_ ?_ ?_ ?_ ?_ ?_ ?_ ?_ ?_ ?_ ?xP ?_ ?_ ?Ae ?_ ?_ ?_ ?_ ?_ ?_ ?_ ?_ ?_ ?_ ?_ ?_ ?_ ?_ ?_ ?_ ?_ ?_ ?_ ?_ ?_ ?_ ?_ ?_ ?_ ?_ ?_ ?_ ?_ ?_ ?_ ?_ ?_ ?_ ?_ ?_ ?_ ?_ ?_ ?_ ?_ ?_ ?_ ?_ ?_ ?_ ?_ ?_ ?_ ?_ ?_ ?_ ?_ ?_ ?_ ?_ ?_ ?_ ?_ ?_ ?_ ?_ ?_ ?_ ?_ ?_ ?_ ?_ ?_ ?_ ?_ ?_ ?_ ?_ ?_ ?_ ?_ ?_ ?_ ?_ ?_ ?_ ?_ ?_ ?_ ?_ ?_ ?_ ?_ ?_ ?_ ?_ ?_ ?_ ?_ ?_ ?_ ?_ ?_ ?_ ?_ ?_ ?_ ?_ ?_ ?_ ?_ ?_ ?_ ?_ ?_ ?_ ?_ ?_ ?_ ?_ ?_ ?_ ?_ ?_ ?_ ?_ ?_ ?_ ?_ ?_ ?_ ?_ ?_ ?_ ?_ ?_ ?_ ?_ ?_ ?_ ?_ ?_ ?_,rfl⟩

  all_goals try (first | walk_at "mg" | walk_at "ft" | walk_at "mt" | k_is | (show PySem.W.findIn _ _ _=some none; k_is) | walk_at "mn" | kit_is | k_exc | walk_at "mk" | walk_at "cl" | walk_at "xf" | exact rfl | kernel_rfl)
  (case vX=>(refine' L2.bB.QZ ?l_DOTS; (case l_DOTS=>k_is)))
  (case xP=>(refine' L2.bB.Pw ?l_RIGHTS; (case l_RIGHTS=>k_is)))
  (case Ae=>(refine' L2.bB.Vl ?l_SINGLE_RIGHTS; (case l_SINGLE_RIGHTS=>k_is)))
  (case i8=>walk_at "fd")
  (case yi=>exact L2.ic (x := "walk") (y := "walk") (st:=L2.bB.rH) (ds:=[.bool true]) 1 (by k_is) (by exact rfl) (fun _ _ _ _ _ _ _ us hl=>by (have e:us.length=4:=(by have h:=hl; rw [List.length_append] at h; simp at h; omega)); clear hl; revert us; refine L2.oQ ?_; exact fun _ _ _ _=>⟨_,rfl,rfl⟩))
  (case pW=>exact L2.ic (x := "walk") (y := "walk") (st:=L2.bB.rH) (ds:=[.bool true]) 0 (by k_is) (by exact rfl) (fun _ _ _ _ _ _ _ us hl=>by (have e:us.length=3:=(by have h:=hl; rw [List.length_append] at h; simp at h; omega)); clear hl; revert us; refine L2.qa ?_; exact fun _ _ _=>⟨_,rfl,rfl⟩))
  (case rp=>walk_at "fd")
  (case uM=>exact L2.ic (x := "asked_of") (y := "asked_of") (st:=L2.bB.rA) (ds:=[.bool true]) 1 (by k_is) (by exact rfl) (fun _ _ _ _ _ _ _ us hl=>by (have e:us.length=4:=(by have h:=hl; rw [List.length_append] at h; simp at h; omega)); clear hl; revert us; refine L2.oQ ?_; exact fun _ _ _ _=>⟨_,rfl,rfl⟩))
  (case ER=>exact L2.ic (x := "asked_of") (y := "asked_of") (st:=L2.bB.rA) (ds:=[.bool true]) 0 (by k_is) (by exact rfl) (fun _ _ _ _ _ _ _ us hl=>by (have e:us.length=3:=(by have h:=hl; rw [List.length_append] at h; simp at h; omega)); clear hl; revert us; refine L2.qa ?_; exact fun _ _ _=>⟨_,rfl,rfl⟩))
  (case tm=>walk_at "fd")
  (case yn=>exact L2.ic (x := "make_folder") (y := "make_folder") (st:=L2.bB.oq) (ds:=[.str "lgw" _,.str "" _]) 2 (by k_is) (by exact rfl) (fun _ _ _ _ _ _ _ us hl=>by (have e:us.length=5:=(by have h:=hl; rw [List.length_append] at h; simp at h; omega)); clear hl; revert us; refine L2.ux ?_; exact fun _ _ _ _ _=>⟨_,rfl,rfl⟩))
  (case FW=>exact L2.ic (x := "make_folder") (y := "make_folder") (st:=L2.bB.oq) (ds:=[.str "lgw" _,.str "" _]) 1 (by k_is) (by exact rfl) (fun _ _ _ _ _ _ _ us hl=>by (have e:us.length=4:=(by have h:=hl; rw [List.length_append] at h; simp at h; omega)); clear hl; revert us; refine L2.oQ ?_; exact fun _ _ _ _=>⟨_,rfl,rfl⟩))
  (case B2=>exact L2.ic (x := "make_folder") (y := "make_folder") (st:=L2.bB.oq) (ds:=[.str "lgw" _,.str "" _]) 0 (by k_is) (by exact rfl) (fun _ _ _ _ _ _ _ us hl=>by (have e:us.length=3:=(by have h:=hl; rw [List.length_append] at h; simp at h; omega)); clear hl; revert us; refine L2.qa ?_; exact fun _ _ _=>⟨_,rfl,rfl⟩))
  (case uV=>walk_at "fd")
  (case Aa=>exact L2.ic (x := "make_file") (y := "make_file") (st:=L2.bB.nq) (ds:=[.str "lgw" _,.str "" _]) 2 (by k_is) (by exact rfl) (fun _ _ _ _ _ _ _ us hl=>by (have e:us.length=6:=(by have h:=hl; rw [List.length_append] at h; simp at h; omega)); clear hl; revert us; refine L2.xF ?_; exact fun _ _ _ _ _ _=>⟨_,rfl,rfl⟩))
  (case FK=>exact L2.ic (x := "make_file") (y := "make_file") (st:=L2.bB.nq) (ds:=[.str "lgw" _,.str "" _]) 1 (by k_is) (by exact rfl) (fun _ _ _ _ _ _ _ us hl=>by (have e:us.length=5:=(by have h:=hl; rw [List.length_append] at h; simp at h; omega)); clear hl; revert us; refine L2.ux ?_; exact fun _ _ _ _ _=>⟨_,rfl,rfl⟩))
  (case Fq=>exact L2.ic (x := "make_file") (y := "make_file") (st:=L2.bB.nq) (ds:=[.str "lgw" _,.str "" _]) 0 (by k_is) (by exact rfl) (fun _ _ _ _ _ _ _ us hl=>by (have e:us.length=4:=(by have h:=hl; rw [List.length_append] at h; simp at h; omega)); clear hl; revert us; refine L2.oQ ?_; exact fun _ _ _ _=>⟨_,rfl,rfl⟩))
  (case sR=>walk_at "fu")
  (case Fg=>exact L2.Binds.all (fun us hl=>match us,hl with | [_],_=>rfl))
  all_goals try (first | walk_at "mg" | walk_at "ft" | walk_at "mt" | k_is | (show PySem.W.findIn _ _ _=some none; k_is) | walk_at "mn" | kit_is | k_exc | walk_at "mk" | walk_at "cl" | walk_at "xf" | exact rfl | kernel_rfl)

