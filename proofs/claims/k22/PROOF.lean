import PyProof.Rows.All
import Wide.All
import OpenK.AllK
import Wide.FinOn
import Lean
import PyProof.EqAt
import PyProof.EqKinds
import PyProof.TupleCall
import PyProof.NsDelKeeps
import PyProof.InstStoreFacts
import KE.KRevIter
import PyProof.ZipIter
import KE.KUnpack
import PyProof.Conv_int_bool
import PySem.Challenge.RW_leadnames_k22_a_deep_house
set_option Elab.async false
set_option linter.all false
set_option maxRecDepth 100000
namespace L2
open PySem PySem.W
def jc (tb : String → Option Builtin) (p : Program) (w : World) (n₀ : Nat) (ann : Option Value) : Nat → SharedT → Thread → Option SharedT
 | 0, _, _ => none
 | n + 1, s, t => match through t with
  | true => some s
  | false => match stepOk n₀ ann t with
   | false => none
   | true => match stepT (denote tb) p w s t with
    | some (s', t') => jc tb p w n₀ ann n s' t'
    | none => none
theorem za {tb : String → Option Builtin} {p : Program} {w : World} {n₀ : Nat} {ann : Option Value} : ∀ {n : Nat} {s s' : SharedT} {t : Thread}, jc tb p w n₀ ann n s t = some s' → topRun tb p w n₀ ann n s.abs t = some s'.abs
 | 0, _, _, _, h => by cases h
 | n + 1, s, s', t, h => by
  unfold jc at h
  unfold topRun
  cases he : through t with
  | true => rw [he] at h; cases h; rfl
  | false =>
   rw [he] at h
   cases hk : stepOk n₀ ann t with
   | false => rw [hk] at h; cases h
   | true =>
    rw [hk] at h
    cases hs : stepT (denote tb) p w s t with
    | none => rw [hs] at h; cases h
    | some r => obtain ⟨s₂, t₂⟩ := r; rw [hs] at h; rw [stepT_spec hs]; exact za h
def treeOf : List Obj → Nat → BT → BT
 | [], _, t => t
 | o :: r, n, t => treeOf r (n + 1) (t.ins n o)
theorem LeftO.Il {p q : Program} {loose : List Str} {Xt : Shared → Bool} {α : Type} {Yf : Shared → α} {Ya : World → α} {N : Nat} {g0 : Bool} {H₀ : Params → Heap} {T₀ : Params → BT} {n₀ : Nat} {life : Life} {gs₀ : Array GenState} {d₀ : Drawn} {k₀ : Nat} {ann : Option Value}
  (vY : ∀ w : World, (fencedOpening treeTable p w N).map (fun s => (s.heap, s.gens, s.drawn, s.toks)) = some (H₀ w.params, gs₀, d₀, k₀))
  (tr : ∀ P : Params, absHeap (T₀ P) n₀ life = H₀ P)
  (size : ∀ P : Params, ((H₀ P).isNs mainGlobals && gs₀.size == 0, (H₀ P).objs.size, (H₀ P).nsMap mainGlobals "__annotations__") = (true, n₀, ann))
  (run : ∀ (w : World) (os : OsState), (jc treeTable p w n₀ ann N ⟨T₀ w.params, n₀, life, gs₀, d₀, k₀, os⟩ (topStub p)).map (fun s => ((staticsOk (importedModules p.main.body) (H₀ w.params) s.abs.heap && namesBound p s.abs.heap && gensDone s.abs && laidKept (H₀ w.params) s.abs.heap),
    openSeen q loose (importedModules p.main.body) Xt g0 s.abs, Yf s.abs)) = some (true, openGood q loose, Ya w)) : LeftO p q loose Xt Yf Ya N g0 := fun w => by
 obtain ⟨⟨h, gs, d, k, os⟩, e, e'⟩ := Option.map_eq_some_iff.mp (vY w)
 obtain ⟨rfl, rfl, rfl, rfl⟩ : h = H₀ w.params ∧ gs = gs₀ ∧ d = d₀ ∧ k = k₀ := by simpa using e'
 obtain ⟨z1, z2, z3⟩ : _ ∧ _ ∧ _ := by simpa only [Prod.mk.injEq] using size w.params
 obtain ⟨s₁, r1, r2⟩ := Option.map_eq_some_iff.mp (run w os)
 obtain ⟨l1, l2, l3⟩ : _ ∧ _ ∧ _ := by simpa only [Prod.mk.injEq] using r2
 have r := za r1
 have ea : SharedT.abs ⟨T₀ w.params, n₀, life, gs, d, k, os⟩ = ⟨H₀ w.params, gs, d, k, os⟩ := by
  unfold SharedT.abs
  rw [tr]
 rw [ea] at r
 have t : topFrom treeTable p w N ⟨H₀ w.params, gs, d, k, os⟩ = some s₁.abs := by
  unfold topFrom
  dsimp only
  rw [z1, z2, z3, r]
  show (match staticsOk (importedModules p.main.body) (H₀ w.params) s₁.abs.heap && namesBound p s₁.abs.heap && gensDone s₁.abs && laidKept (H₀ w.params) s₁.abs.heap with | true => _ | false => _) = _
  rw [l1]
 unfold openEnds
 rw [e]
 show (topFrom treeTable p w N _).map _ = _
 rw [t]
 exact congrArg some (Prod.ext l2 l3)
def dI (ok : Nat → Option Value → Thread → Bool) (st : SharedT → Thread → Option (SharedT × Thread)) (n₀ : Nat) (ann : Option Value) : Nat → SharedT → Thread → Option SharedT
 | 0, _, _ => none
 | n + 1, s, t => match through t with
  | true => some s
  | false => match ok n₀ ann t with
   | false => none
   | true => match st s t with
    | some (s', t') => dI ok st n₀ ann n s' t'
    | none => none
theorem xR {tb : String → Option Builtin} {p : Program} {w : World} {n₀ : Nat} {ann : Option Value} : ∀ (n : Nat) (s : SharedT) (t : Thread), dI stepOk (stepT (denote tb) p w) n₀ ann n s t = jc tb p w n₀ ann n s t
 | 0, _, _ => rfl
 | n + 1, s, t => by
  unfold dI jc
  cases through t with
  | true => rfl
  | false =>
   cases stepOk n₀ ann t with
   | false => rfl
   | true =>
    cases stepT (denote tb) p w s t with
    | none => rfl
    | some r => exact xR n r.1 r.2
theorem LeftO.FR {p q : Program} {loose : List Str} {Xt : Shared → Bool} {α : Type} {Yf : Shared → α} {Ya : World → α} {N : Nat} {g0 : Bool} {H₀ : Params → Heap} {T₀ : Params → BT} {n₀ : Nat} {life : Life} {gs₀ : Array GenState} {d₀ : Drawn} {k₀ : Nat} {ann : Option Value}
  {ok : Nat → Option Value → Thread → Bool} {st : (Code → Sem Fin) → Program → World → SharedT → Thread → Option (SharedT × Thread)} {den : (String → Option Builtin) → Code → Sem Fin} {tb : String → Option Builtin}
  (e1 : stepOk = ok) (e2 : stepT = st) (e3 : denote = den) (e4 : treeTable = tb)
  (vY : ∀ w : World, (fencedOpening treeTable p w N).map (fun s => (s.heap, s.gens, s.drawn, s.toks)) = some (H₀ w.params, gs₀, d₀, k₀))
  (tr : ∀ P : Params, absHeap (T₀ P) n₀ life = H₀ P)
  (size : ∀ P : Params, ((H₀ P).isNs mainGlobals && gs₀.size == 0, (H₀ P).objs.size, (H₀ P).nsMap mainGlobals "__annotations__") = (true, n₀, ann))
  (run : ∀ (w : World) (os : OsState), (dI ok (st (den tb) p w) n₀ ann N ⟨T₀ w.params, n₀, life, gs₀, d₀, k₀, os⟩ (topStub p)).map (fun s => ((staticsOk (importedModules p.main.body) (H₀ w.params) s.abs.heap && namesBound p s.abs.heap && gensDone s.abs && laidKept (H₀ w.params) s.abs.heap),
    openSeen q loose (importedModules p.main.body) Xt g0 s.abs, Yf s.abs)) = some (true, openGood q loose, Ya w)) : LeftO p q loose Xt Yf Ya N g0 := by
 subst e1 e2 e3 e4
 refine LeftO.Il vY tr size fun w os => ?_
 rw [← xR]
 exact run w os
noncomputable def fJ (P : Params) : BT := treeOf (boot_heap P).objs.toList 0 .nil
end L2

namespace L2
open PySem PySem.W PyProof.Rows
theorem LG {α β γ : Type} {o : Option α} {F : α → β × γ} {G : β × γ} (h1 : o.map (fun s => (F s).1) = some G.1) (h2 : o.map (fun s => (F s).2) = some G.2) : o.map F = some G := by
 cases o with
 | none => cases h1
 | some a => injection h1 with h1; injection h2 with h2; exact congrArg some (Prod.ext h1 h2)
theorem atS {α β : Type} {o : Option α} {s : α} {f : α → β} {g : β} (hs : o = some s) (h : o.map f = some g) : f s = g := by
 subst hs; exact Option.some.inj h
theorem eG {α β : Type} {a b : α} {c d : β} (h : a = b) (k : c = d) : (a, c) = (b, d) := by rw [h, k]
def F0 (p : Program) (H₀ : Heap) (s : SharedT) : Bool := staticsOk (importedModules p.main.body) H₀ s.abs.heap && namesBound p s.abs.heap && gensDone s.abs && laidKept H₀ s.abs.heap
def F3 (p q : Program) (loose : List Str) (Xt : Shared → Bool) (g0 : Bool) (s : SharedT) : Bool := s.abs.heap.keysOk (looseW q loose) ((recsOf q).map (·.name)) ((litsOf q).map (·.1)) ((clssOf q (looseW q loose)).map (·.name)) && s.abs.heap.accountedOkI (importedModules p.main.body) && s.abs.heap.isNs mainGlobals && s.abs.heap.isNs builtinsNs && tablesOk q s.abs.heap && Xt s.abs && (if g0 then s.abs.gens.size == 0 else !leftWithCleanup s.abs.gens)
def F1 (q : Program) (s : SharedT) := seen ((recsOf q).map (·.name)) (ownsOf q) [] { s.abs with gens := #[] }
theorem GV {p q : Program} {loose : List Str} {Xt : Shared → Bool} {α : Type} {Yf : Shared → α} {Ya : World → α} {g0 : Bool} {H₀ : Heap} {o : Option SharedT} {w : World}
  (q0 : o.map (F0 p H₀) = some true) (q1 : o.map (F1 q) = some (expectedOf q)) (q2 : o.map (fun s : SharedT => s.abs.heap.bltView) = some bltViewBooted)
  (q3 : o.map (F3 p q loose Xt g0) = some true) (q4 : o.map (fun s : SharedT => tabsOk q s.abs) = some true) (q5 : o.map (fun s : SharedT => pinSeenD q (drecsOf q) s.abs) = some (pinGoodD (drecsOf q)))
  (q6 : o.map (fun s : SharedT => plainSeenE q (looseW q loose) s.abs) = some (plainGoodE q (looseW q loose))) (q7 : o.map (fun s : SharedT => plainSeenD q loose s.abs) = some (plainGoodD q loose))
  (q8 : o.map (fun s : SharedT => wideSeen q s.abs) = some (wideGood q)) (q9 : o.map (fun s : SharedT => clsSeenW q loose s.abs) = some (clsGoodW q loose))
  (jK : o.map (fun s : SharedT => Yf s.abs) = some (Ya w)) :
  o.map (fun s : SharedT => (F0 p H₀ s, openSeen q loose (importedModules p.main.body) Xt g0 s.abs, Yf s.abs)) = some (true, openGood q loose, Ya w) := by
 obtain ⟨s, hs, a0⟩ := Option.map_eq_some_iff.mp q0
 have a1 := atS hs q1
 have a2 := atS hs q2
 have a3 := atS hs q3
 have a4 := atS hs q4
 have a5 := atS hs q5
 have a6 := atS hs q6
 have a7 := atS hs q7
 have a8 := atS hs q8
 have a9 := atS hs q9
 have a10 := atS hs jK
 clear q0 q1 q2 q3 q4 q5 q6 q7 q8 q9 jK
 subst hs
 show some _ = some _
 refine congrArg some (eG a0 (eG ?_ a10))
 unfold openSeen openGood
 exact eG a1 (eG a2 (eG a3 (eG a4 (eG a5 (eG a6 (eG a7 (eG a8 a9)))))))
theorem lG {α β γ : Type} {o : Option α} {f : α → β} {g : α → γ} {b : β} {c : γ} (h : o.map (fun s => (f s, g s)) = some (b, c)) : o.map f = some b := by
 cases o with
 | none => cases h
 | some a => injection h with h; exact congrArg some (congrArg Prod.fst h)
theorem d8 {α β γ : Type} {o : Option α} {f : α → β} {g : α → γ} {b : β} {c : γ} (h : o.map (fun s => (f s, g s)) = some (b, c)) : o.map g = some c := by
 cases o with
 | none => cases h
 | some a => injection h with h; exact congrArg some (congrArg Prod.snd h)
theorem Dm {α β γ : Type} {o : Option α} {l : List β} {f : α → β → γ} {g : β → γ} (n : Nat) (h1 : o.map (fun s => (l.take n).map (f s)) = some ((l.take n).map g)) (h2 : o.map (fun s => (l.drop n).map (f s)) = some ((l.drop n).map g)) : o.map (fun s => l.map (f s)) = some (l.map g) := by
 cases o with
 | none => cases h1
 | some a =>
  injection h1 with h1
  injection h2 with h2
  refine congrArg some ?_
  show l.map (f a) = l.map g
  rw [← List.take_append_drop n l, List.map_append, List.map_append]
  exact congr (congrArg _ h1) h2
theorem HD {K : Params → Frag} {as : List Addr} {e : ∀ P, as = (K P).map (·.1)} {o : Option SharedT} {w : World} (h : o.map (fun s => (K w.params).map fun p => s.abs.heap.get? p.1) = some ((K w.params).map fun p => some p.2)) :
  o.map (fun s => (kHook K as e).obs s.abs) = some ((kHook K as e).val w) := by
 show o.map (fun s : SharedT => as.map s.abs.heap.get?) = some ((K w.params).map fun p => some p.2)
 rw [e w.params]
 simp only [List.map_map]
 exact h
end L2

section
open PySem PySem.W PyProof.Rows
local macro_rules | `(tactic| o_head $H) => `(tactic| (refine (by assumption : ∀ h' : PySem.W.Hook, h' = _ → PySem.W.OpenRow.Holds _) $H ?_; rfl))
set_option maxHeartbeats 0 in
noncomputable def L2.aV.dz : (h : Hook) ×' ((∀ h' : Hook, h' = h → (PySem.Challenge.rw_leadnames_k22_a_deep_house).row.Holds) → (PySem.Challenge.rw_leadnames_k22_a_deep_house).row.Holds) := by
 refine' ⟨_, fun x => _⟩
 rotate_left
 k_head
end
section
open PySem PySem.W PyProof.Rows
namespace L2.aV
noncomputable def QV : Program := view (PySem.Challenge.rw_leadnames_k22_a_deep_house).prog [0, 2, 3, 4, 5, 6, 7, 9, 10, 11, 12, 13, 14, 15, 16, 17, 19, 20, 21, 22, 23, 24, 25, 26, 27, 28, 29, 30, 31, 32, 34, 35, 36, 37, 39, 40, 42, 43, 44, 45, 46, 47, 48, 49, 50, 51, 55, 56, 57, 58, 59, 60, 61, 62, 63, 64, 65, 66, 67, 70, 71, 72, 73, 74, 76, 77, 78, 79, 80, 81, 82]
theorem mF : ∀ w : World, (fencedOpening treeTable (PySem.Challenge.rw_leadnames_k22_a_deep_house).prog w 15146).map (fun s => (s.heap, s.gens, s.drawn, s.toks)) = some (boot_heap w.params, Array.mk [], boot_drawn, boot_toks) := boot_open rfl rfl (fun _ => rfl)
theorem cu : ∀ P : Params, absHeap (L2.fJ P) 11 {} = boot_heap P := by intro P; kernel_rfl
theorem uA : ∀ P : Params, ((boot_heap P).isNs mainGlobals && (Array.mk ([] : List GenState)).size == 0, (boot_heap P).objs.size, (boot_heap P).nsMap mainGlobals "__annotations__") = (true, 11, some (.ref 6)) := by intro P; kernel_rfl
set_option maxHeartbeats 0
theorem qL (w : World) (os : OsState) : ((dI PySem.W.Fast.tw6613529449190102663 (PySem.W.Fast.tw10156331382660048174 (PySem.W.Fast.tw11892475500146522536 PySem.W.Fast.tw14364793385576792824) (PySem.Challenge.rw_leadnames_k22_a_deep_house).prog w) 11 (some (.ref 6)) 15146 ⟨L2.fJ w.params, 11, {}, Array.mk [], boot_drawn, boot_toks, os⟩ (topStub (PySem.Challenge.rw_leadnames_k22_a_deep_house).prog))).map (fun s => (((staticsOk (importedModules (PySem.Challenge.rw_leadnames_k22_a_deep_house).prog.main.body) (boot_heap w.params) s.abs.heap && namesBound (PySem.Challenge.rw_leadnames_k22_a_deep_house).prog s.abs.heap && gensDone s.abs && laidKept (boot_heap w.params) s.abs.heap)), s.abs.heap.bltView, pinSeenD QV (drecsOf QV) s.abs, plainSeenD QV [PySem.Str.ofString "walk", PySem.Str.ofString "asked_of", PySem.Str.ofString "make_folder"] s.abs, clsSeenW QV [PySem.Str.ofString "walk", PySem.Str.ofString "asked_of", PySem.Str.ofString "make_folder"] s.abs)) = some ((true, bltViewBooted, pinGoodD (drecsOf QV), plainGoodD QV [PySem.Str.ofString "walk", PySem.Str.ofString "asked_of", PySem.Str.ofString "make_folder"], clsGoodW QV [PySem.Str.ofString "walk", PySem.Str.ofString "asked_of", PySem.Str.ofString "make_folder"])) := by kernel_rfl
theorem qM (w : World) (os : OsState) : ((dI PySem.W.Fast.tw6613529449190102663 (PySem.W.Fast.tw10156331382660048174 (PySem.W.Fast.tw11892475500146522536 PySem.W.Fast.tw14364793385576792824) (PySem.Challenge.rw_leadnames_k22_a_deep_house).prog w) 11 (some (.ref 6)) 15146 ⟨L2.fJ w.params, 11, {}, Array.mk [], boot_drawn, boot_toks, os⟩ (topStub (PySem.Challenge.rw_leadnames_k22_a_deep_house).prog))).map (fun s => (seen ((recsOf QV).map (·.name)) (ownsOf QV) [] { s.abs with gens := #[] }, wideSeen QV s.abs)) = some ((expectedOf QV, wideGood QV)) := by kernel_rfl
theorem q3 (w : World) (os : OsState) : ((dI PySem.W.Fast.tw6613529449190102663 (PySem.W.Fast.tw10156331382660048174 (PySem.W.Fast.tw11892475500146522536 PySem.W.Fast.tw14364793385576792824) (PySem.Challenge.rw_leadnames_k22_a_deep_house).prog w) 11 (some (.ref 6)) 15146 ⟨L2.fJ w.params, 11, {}, Array.mk [], boot_drawn, boot_toks, os⟩ (topStub (PySem.Challenge.rw_leadnames_k22_a_deep_house).prog))).map (fun s => (s.abs.heap.keysOk (looseW QV [PySem.Str.ofString "walk", PySem.Str.ofString "asked_of", PySem.Str.ofString "make_folder"]) ((recsOf QV).map (·.name)) ((litsOf QV).map (·.1)) ((clssOf QV (looseW QV [PySem.Str.ofString "walk", PySem.Str.ofString "asked_of", PySem.Str.ofString "make_folder"])).map (·.name)) && s.abs.heap.accountedOkI (importedModules (PySem.Challenge.rw_leadnames_k22_a_deep_house).prog.main.body) && s.abs.heap.isNs mainGlobals && s.abs.heap.isNs builtinsNs && tablesOk QV s.abs.heap && (fun s => xlAt QV [] s && recOk (RowW.records (OpenRow.toRowW (PySem.Challenge.rw_leadnames_k22_a_deep_house).row)) s) s.abs && (if true then s.abs.gens.size == 0 else !leftWithCleanup s.abs.gens))) = some (true) := by kernel_rfl
theorem q4 (w : World) (os : OsState) : ((dI PySem.W.Fast.tw6613529449190102663 (PySem.W.Fast.tw10156331382660048174 (PySem.W.Fast.tw11892475500146522536 PySem.W.Fast.tw14364793385576792824) (PySem.Challenge.rw_leadnames_k22_a_deep_house).prog w) 11 (some (.ref 6)) 15146 ⟨L2.fJ w.params, 11, {}, Array.mk [], boot_drawn, boot_toks, os⟩ (topStub (PySem.Challenge.rw_leadnames_k22_a_deep_house).prog))).map (fun s => tabsOk QV s.abs) = some (true) := by kernel_rfl
theorem q6 (w : World) (os : OsState) : ((dI PySem.W.Fast.tw6613529449190102663 (PySem.W.Fast.tw10156331382660048174 (PySem.W.Fast.tw11892475500146522536 PySem.W.Fast.tw14364793385576792824) (PySem.Challenge.rw_leadnames_k22_a_deep_house).prog w) 11 (some (.ref 6)) 15146 ⟨L2.fJ w.params, 11, {}, Array.mk [], boot_drawn, boot_toks, os⟩ (topStub (PySem.Challenge.rw_leadnames_k22_a_deep_house).prog))).map (fun s => plainSeenE QV (looseW QV [PySem.Str.ofString "walk", PySem.Str.ofString "asked_of", PySem.Str.ofString "make_folder"]) s.abs) = some (plainGoodE QV (looseW QV [PySem.Str.ofString "walk", PySem.Str.ofString "asked_of", PySem.Str.ofString "make_folder"])) := by kernel_rfl
theorem y0 (w : World) (os : OsState) : ((dI PySem.W.Fast.tw6613529449190102663 (PySem.W.Fast.tw10156331382660048174 (PySem.W.Fast.tw11892475500146522536 PySem.W.Fast.tw14364793385576792824) (PySem.Challenge.rw_leadnames_k22_a_deep_house).prog w) 11 (some (.ref 6)) 15146 ⟨L2.fJ w.params, 11, {}, Array.mk [], boot_drawn, boot_toks, os⟩ (topStub (PySem.Challenge.rw_leadnames_k22_a_deep_house).prog))).map (fun s => ((dz.heap_1 w.params).take 330).map fun p => s.abs.heap.get? p.1) = some (((dz.heap_1 w.params).take 330).map fun p => some p.2) := by kernel_rfl
theorem y1 (w : World) (os : OsState) : ((dI PySem.W.Fast.tw6613529449190102663 (PySem.W.Fast.tw10156331382660048174 (PySem.W.Fast.tw11892475500146522536 PySem.W.Fast.tw14364793385576792824) (PySem.Challenge.rw_leadnames_k22_a_deep_house).prog w) 11 (some (.ref 6)) 15146 ⟨L2.fJ w.params, 11, {}, Array.mk [], boot_drawn, boot_toks, os⟩ (topStub (PySem.Challenge.rw_leadnames_k22_a_deep_house).prog))).map (fun s => ((dz.heap_1 w.params).drop 330).map fun p => s.abs.heap.get? p.1) = some (((dz.heap_1 w.params).drop 330).map fun p => some p.2) := by kernel_rfl
theorem jK (w : World) (os : OsState) : ((dI PySem.W.Fast.tw6613529449190102663 (PySem.W.Fast.tw10156331382660048174 (PySem.W.Fast.tw11892475500146522536 PySem.W.Fast.tw14364793385576792824) (PySem.Challenge.rw_leadnames_k22_a_deep_house).prog w) 11 (some (.ref 6)) 15146 ⟨L2.fJ w.params, 11, {}, Array.mk [], boot_drawn, boot_toks, os⟩ (topStub (PySem.Challenge.rw_leadnames_k22_a_deep_house).prog))).map (fun s => Hook.obs dz.1 s.abs) = some (Hook.val dz.1 w) :=
 L2.HD (K := dz.heap_1) (e := fun _ => by kernel_rfl) (L2.Dm 330 (y0 w os) (y1 w os))
end L2.aV
local macro_rules | `(tactic| o_law) => `(tactic| refine PySem.W.holds_law (by kernel_rfl) fun said => ?_)
local macro_rules | `(tactic| k_head) => `(tactic| (
 refine holds_open (q := L2.aV.QV) (loose := [PySem.Str.ofString "walk", PySem.Str.ofString "asked_of", PySem.Str.ofString "make_folder"]) (Xt := fun s => xlAt L2.aV.QV [] s && recOk (RowW.records (OpenRow.toRowW (PySem.Challenge.rw_leadnames_k22_a_deep_house).row)) s) (XP := XL L2.aV.QV []) (Yf := Hook.obs L2.aV.dz.1) (Ya := Hook.val L2.aV.dz.1) (YP := Hook.says L2.aV.dz.1) (N := 15146) ?hl (Hook.of L2.aV.dz.1) (Hook.keeps L2.aV.dz.1) (fun s e => xl_of s (Bool.and_eq_true_iff.mp e).1) XL.keeps (by rfl) (by rfl) (by rfl) (fun s e => recFacts_of (Bool.and_eq_true_iff.mp e).2) (by rfl) (by first | assumption | decide +kernel) (by decide +kernel) ⟨rfl, rfl, rfl, rfl, rfl, by decide +kernel⟩ ?hw ?hc
 case hl =>
  refine L2.LeftO.FR PySem.W.Fast.te6613529449190102663 PySem.W.Fast.te10156331382660048174 PySem.W.Fast.te11892475500146522536 PySem.W.Fast.te14364793385576792824 L2.aV.mF L2.aV.cu L2.aV.uA (fun w os => ?_)
  exact L2.GV (L2.lG (L2.aV.qL w os)) (L2.lG (L2.aV.qM w os)) (L2.lG (L2.d8 (L2.aV.qL w os))) (L2.aV.q3 w os) (L2.aV.q4 w os) (L2.lG (L2.d8 (L2.d8 (L2.aV.qL w os)))) (L2.aV.q6 w os) (L2.lG (L2.d8 (L2.d8 (L2.d8 (L2.aV.qL w os))))) (L2.d8 (L2.aV.qM w os)) (L2.d8 (L2.d8 (L2.d8 (L2.d8 (L2.aV.qL w os))))) (L2.aV.jK w os)))
set_option maxHeartbeats 0 in
open_top L2.aV.hd0 for PySem.Challenge.rw_leadnames_k22_a_deep_house
end

namespace L2
open PySem PySem.Spec PyProof.Rows
abbrev Key := Sum Int Str
def gH : Key → Value → Bool
 | .inl k, v => Value.isInt k v
 | .inr x, v => Value.isStrOf x v
def Jc (w : World) : Key → Int
 | .inl k => hashInt k
 | .inr x => hashStr w x
theorem fN : ∀ {k : Key} {v : Value}, gH k v = true → (∃ i t, k = Sum.inl i ∧ v = Value.int i t) ∨ (∃ x t, k = Sum.inr x ∧ v = Value.str x t)
 | .inl i, v, h => by
  obtain ⟨t, e⟩ := Value.isInt_shape (k := i) (v := v) h
  exact .inl ⟨i, t, rfl, e⟩
 | .inr x, v, h => by
  obtain ⟨t, e⟩ := Value.isStrOf_shape (x := x) (v := v) h
  exact .inr ⟨x, t, rfl, e⟩
theorem IJ (i : Int) (t : Tok) : gH (.inl i) (.int i t) = true := by simp [gH, Value.isInt]
theorem FV (x : Str) (t : Tok) : gH (.inr x) (.str x t) = true := by simp [gH, Value.isStrOf]
theorem C5 (a b : Int) : decide ((Sum.inl a : Key) = Sum.inl b) = (a == b) := by
 by_cases e : a = b
 ·subst e; simp
 ·have h : ¬ (Sum.inl a : Key) = Sum.inl b := fun q => e (Sum.inl.inj q)
  rw [decide_eq_false h]
  exact (beq_eq_false_iff_ne.mpr e).symm
theorem HC (a b : Str) : decide ((Sum.inr a : Key) = Sum.inr b) = decide (a = b) := by
 by_cases e : a = b
 ·subst e; simp
 ·have h : ¬ (Sum.inr a : Key) = Sum.inr b := fun q => e (Sum.inr.inj q)
  rw [decide_eq_false h, decide_eq_false e]
theorem C7 (a : Int) (b : Str) : decide ((Sum.inl a : Key) = Sum.inr b) = false := decide_eq_false (fun q => nomatch q)
theorem DU (a : Str) (b : Int) : decide ((Sum.inr a : Key) = Sum.inl b) = false := decide_eq_false (fun q => nomatch q)
def cj (prog : Program) (w : World) : PySem.KeyKind prog w Key where
 is := gH
 hash := Jc w
 inj := fun v a b ha hb => by
  rcases fN ha with ⟨i, t, rfl, rfl⟩ | ⟨x, t, rfl, rfl⟩
  ·rcases fN hb with ⟨j, u, rfl, e⟩ | ⟨y, u, rfl, e⟩
   ·injection e with e1 _; rw [e1]
   ·exact nomatch e
  ·rcases fN hb with ⟨j, u, rfl, e⟩ | ⟨y, u, rfl, e⟩
   ·exact nomatch e
   ·injection e with e1 _; rw [e1]
 byValue := fun k v h => by
  rcases fN h with ⟨i, t, rfl, rfl⟩ | ⟨x, t, rfl, rfl⟩ <;> rfl
 pyHash := fun hv h => by
  rcases fN hv with ⟨i, t, rfl, rfl⟩ | ⟨x, t, rfl, rfl⟩
  ·exact wpAny_pyHash_int h
  ·exact wpAny_pyHash_str h
 eqBool := fun hu hv h => by
  rcases fN hu with ⟨i, t, rfl, rfl⟩ | ⟨x, t, rfl, rfl⟩
  ·rcases fN hv with ⟨j, u, rfl, rfl⟩ | ⟨y, u, rfl, rfl⟩
   ·rw [C5] at h; exact wpAny_eqBool_int h
   ·rw [C7] at h; exact SeqAt.EqAt.int_str i t y u _ _ _ _ h
  ·rcases fN hv with ⟨j, u, rfl, rfl⟩ | ⟨y, u, rfl, rfl⟩
   ·rw [DU] at h; exact SeqAt.EqAt.str_int x t j u _ _ _ _ h
   ·rw [HC] at h; exact wpAny_eqBool_str h
 «strs» := fun k x t v h => by
  rcases fN h with ⟨i, u, rfl, e⟩ | ⟨y, u, rfl, e⟩
  ·exact nomatch e
  ·injection e with e1 _
   subst e1
   cases v <;> rfl
theorem E5 (prog : Program) (w : World) (i : Int) (t : Tok) : (cj prog w).is (.inl i) (.int i t) = true := IJ i t
theorem DV (prog : Program) (w : World) (x : Str) (t : Tok) : (cj prog w).is (.inr x) (.str x t) = true := FV x t
end L2
namespace L2
open PySem PySem.Spec PyProof.Rows
inductive V where
 | aq | bl (b : Bool) | int (i : Int) | str (x : Str) | byt (b : Array UInt8) | hZ (b : UInt64) | ref (a : Addr) | ty (n : String)
 deriving DecidableEq
def RelV : V → Value → Prop
 | .aq, u => u = Value.none
 | .bl b, u => u = Value.bool b
 | .int i, u => ∃ t, u = Value.int i t
 | .str x, u => ∃ t, u = Value.str x t
 | .byt b, u => ∃ t, u = Value.bytes b t
 | .hZ b, u => ∃ t, u = Value.float b t
 | .ref a, u => u = Value.ref a
 | .ty n, u => u = Value.type n
abbrev Vals : List V → List Value → Prop := Paired RelV
theorem Vals.length {xs : List V} {us : List Value} (r : Vals xs us) : xs.length = us.length := Paired.length r
theorem Vals.get : ∀ {xs : List V} {us : List Value} {i : Nat} {x : V}, Vals xs us → xs[i]? = some x → ∃ u, us[i]? = some u ∧ RelV x u
 | _, _, _, _, .nil, e => by simp at e
 | _, _, 0, _, .cons r _, e => by simp at e; subst e; exact ⟨_, rfl, r⟩
 | _, _, i + 1, x, .cons _ t, e => by
  obtain ⟨u, h1, h2⟩ := Vals.get (i := i) (x := x) t (by simpa using e)
  exact ⟨u, by simpa using h1, h2⟩
theorem Vals.set {x : V} {u : Value} (r : RelV x u) : ∀ {xs : List V} {us : List Value} (i : Nat), Vals xs us → Vals (xs.set i x) (us.set i u)
 | _, _, _, .nil => .nil
 | _, _, 0, .cons _ t => .cons r t
 | _, _, i + 1, .cons q t => .cons q (Vals.set r i t)
theorem Vals.append : ∀ {xs ys : List V} {us ws : List Value}, Vals xs us → Vals ys ws → Vals (xs ++ ys) (us ++ ws)
 | _, _, _, _, .nil, s => s
 | _, _, _, _, .cons r t, s => .cons r (Vals.append t s)
theorem Vals.take : ∀ {xs : List V} {us : List Value} (n : Nat), Vals xs us → Vals (xs.take n) (us.take n)
 | _, _, 0, _ => .nil
 | _, _, _ + 1, .nil => .nil
 | _, _, n + 1, .cons r t => .cons r (Vals.take n t)
theorem Vals.drop : ∀ {xs : List V} {us : List Value} (n : Nat), Vals xs us → Vals (xs.drop n) (us.drop n)
 | _, _, 0, r => r
 | _, _, _ + 1, .nil => .nil
 | _, _, n + 1, .cons _ t => Vals.drop n t
def cz : Option V → Option Value → Prop
 | some v, some u => RelV v u
 | none, none => True
 | _, _ => False
def KV {κ : Type} : List (κ × V) → List (κ × Value) → Prop := Paired fun (p : κ × V) (q : κ × Value) => p.1 = q.1 ∧ RelV p.2 q.2
def kV : Key → V
 | .inl i => .int i
 | .inr x => .str x
inductive HO where
 /-- a list -/
 | lst (xs : List V)
 /-- a tuple (never changes) -/
 | tup (xs : List V)
 /-- a dict whose keys are ints and texts; one whose keys are tuples of ints and texts (the empty one is both) -/
 | dK (kvs : List (Key × V)) | dT (kvs : List (List Key × V))
 /-- a set of ints: its members, its size -/
 | set (S : Int → Bool) (n : Nat)
 /-- an instance of the class at C, its dict at dx, its attributes -/
 | ins (C dx : Addr) (fs : List (Str × V))
 /-- the dict of the instance at x -/
 | own (x : Addr)
 /-- the dict of an exception -/
 | xd (fs : List (Str × V))
 /-- a bound method, f of x -/
 | met (f x : Addr)
 /-- a range object lo, lo + 1, .. below hi -/
 | nQ (lo hi : Int)
 /-- a thing that is known to the object (the script; a dict while a loop walks it): read, never written while it is so -/
 | cE (o : Obj) (u : HO)
 /-- a code object's table -/
 | gk (ps : Array Value)
 /-- any other thing, by what is true of its one object (a def of one's own: SetO a S n := HO.ext fun h => ..) -/
 | ext (φ : Heap → Prop)
abbrev Hp := Addr → Option HO
def upd (H : Hp) (a : Addr) (o : HO) : Hp := fun b => if b = a then some o else H b
theorem az {H : Hp} {a : Addr} {o : HO} : upd H a o a = some o := by unfold upd; rw [if_pos rfl]
theorem ah {H : Hp} {a b : Addr} {o : HO} (h : b ≠ a) : upd H a o b = H b := by unfold upd; rw [if_neg h]
theorem hJ {H : Hp} {a : Addr} {o u : HO} : upd (upd H a o) a u = upd H a u := by
 funext b; unfold upd; split <;> rfl
theorem Ep {H : Hp} {a b : Addr} {o u : HO} (h : H a = some o) (h' : H b = some u) (d : o ≠ u) : a ≠ b := by
 intro e; subst e; rw [h] at h'; exact d (Option.some.inj h')
theorem du {H : Hp} {a b : Addr} {o : HO} (h : H a = some o) (h' : H b = none) : a ≠ b := by
 intro e; subst e; rw [h] at h'; cases h'
section
variable (P : Program) (w : World)
def br (H : Hp) (h : Heap) (a : Addr) : HO → Prop
 | .lst xs => xs.length ≤ sizeLine ∧ ∃ (its : List Value) (n : Nat), Vals xs its ∧ h.get? a = some { cls := .type "list", data := .seq its.toArray n }
 | .tup xs => xs.length ≤ sizeLine ∧ ∃ its : List Value, Vals xs its ∧ IsTup h a its.toArray
 | .dK kvs => kvs.length ≤ sizeLine ∧ (a == sysModules) = false ∧ ∃ vs, KV kvs vs ∧ h.DictOf (cj P w) a vs
 | .dT kvs => kvs.length ≤ sizeLine ∧ (a == sysModules) = false ∧ ∃ xs : List (List Key × Addr × Value),
   Paired (fun (p : List Key × V) (q : List Key × Addr × Value) => p.1 = q.1 ∧ H q.2.1 = some (.tup (p.1.map kV)) ∧ RelV p.2 q.2.2) kvs xs ∧
   ∃ o es ep, h.get? a = some o ∧ o.ExactDict ∧ o.data = .dict es ep ∧ es.toList = xs.map (entryOfKey (tupleKind (cj P w))) ∧ (xs.map (·.1)).Nodup
 | .set S n => h.SetOf (intKind P w) a S n
 | .ins C dx fs => H dx = some (.own a) ∧ fs.length ≤ 1000 ∧ dx ≠ a ∧ h.get? a = some (PySem.W.instObj C dx) ∧
   ∃ mA, h.Ns1 dx mA ∧ (∀ f, cz (fs.lookup f) (mA f)) ∧ PySem.Within mA (fs.map (·.1))
 | .own _ => ∃ o, h.get? a = some o
 | .xd fs => ∃ mA, h.Ns1 a mA ∧ ∀ f, cz (fs.lookup f) (mA f)
 | .nQ lo hi => ∃ t u v, h.get? a = some { cls := .type "range", data := .fields #[.int lo t, .int hi u, .int 1 v] }
 | .cE o u => h.get? a = some o ∧ br H h a u
 | .gk ps => h.get? a = some { cls := .none, data := .fields ps }
 | .met f x => h.get? a = some (PySem.W.methodObj (.ref f) (.ref x))
 | .ext φ => φ h ∧ (∃ o, h.get? a = some o) ∧ ∀ h1 h2 : Heap, φ h1 → (∀ o, h1.get? a = some o → h2.get? a = some o) → φ h2
def bt (H : Hp) (h : Heap) : Prop := ∀ a o, H a = some o → br P w H h a o
end
section
variable {P : Program} {w : World} {H H' : Hp} {h h' : Heap} {a : Addr} {o : HO}
theorem br.lt (x : br P w H h a o) : a < h.objs.size := by
 cases o with
 | lst xs => obtain ⟨_, _, _, _, e⟩ := x; exact Heap.lt_size e
 | tup xs => obtain ⟨_, _, _, p⟩ := x; exact p.lt
 | dK kvs => obtain ⟨_, _, _, _, o, _, _, e, _⟩ := x; exact Heap.lt_size e
 | dT kvs => obtain ⟨_, _, _, _, o, _, _, e, _⟩ := x; exact Heap.lt_size e
 | set S n => obtain ⟨o, _, _, _, e, _⟩ := x; exact Heap.lt_size e
 | ins C dx fs => obtain ⟨_, _, _, e, _⟩ := x; exact Heap.lt_size e
 | own y => obtain ⟨_, e⟩ := x; exact Heap.lt_size e
 | xd fs => obtain ⟨_, ⟨_, _, _, e, _⟩, _⟩ := x; exact Heap.lt_size e
 | nQ lo hi => obtain ⟨_, _, _, e⟩ := x; exact Heap.lt_size e
 | cE ob u => obtain ⟨e, _⟩ := x; exact Heap.lt_size e
 | gk ps => exact Heap.lt_size (show h.get? a = some _ from x)
 | met f y => exact Heap.lt_size (show h.get? a = some _ from x)
 | ext φ => obtain ⟨_, ⟨_, e⟩, _⟩ := x; exact Heap.lt_size e
theorem Paired.tW {α β : Type} {F G : α → β → Prop} : ∀ {l₁ : List α} {l₂ : List β}, Paired F l₁ l₂ → (∀ a b, F a b → G a b) → Paired G l₁ l₂
 | _, _, .nil, _ => .nil
 | _, _, .cons r t, f => .cons (f _ _ r) (Paired.tW t f)
theorem br.ia (x : br P w H h a o) (k : ∀ b u, (b = a ∨ H b = some (.own a)) → h.get? b = some u → h'.get? b = some u)
  (ho : ∀ b, H b = some (.own a) → H' b = some (.own a)) (ht : ∀ b xs, H b = some (.tup xs) → H' b = some (.tup xs)) : br P w H' h' a o := by
 induction o with
 | lst xs => obtain ⟨z, its, n, r, e⟩ := x; exact ⟨z, its, n, r, k _ _ (.inl rfl) e⟩
 | tup xs => obtain ⟨z, its, r, ob, e, c⟩ := x; exact ⟨z, its, r, ob, k _ _ (.inl rfl) e, c⟩
 | dK kvs => obtain ⟨z, y, vs, r, ob, es, ep, e, c⟩ := x; exact ⟨z, y, vs, r, ob, es, ep, k _ _ (.inl rfl) e, c⟩
 | dT kvs =>
  obtain ⟨z, y, xs, r, ob, es, ep, e, c⟩ := x
  exact ⟨z, y, xs, Paired.tW r fun p q z => ⟨z.1, ht _ _ z.2.1, z.2.2⟩, ob, es, ep, k _ _ (.inl rfl) e, c⟩
 | set S n => obtain ⟨ob, es, ep, t, e, c⟩ := x; exact ⟨ob, es, ep, t, k _ _ (.inl rfl) e, c⟩
 | ins C dx fs =>
  obtain ⟨d, z, ne, e, mA, ⟨od, es, ep, e2, c⟩, r⟩ := x
  exact ⟨ho _ d, z, ne, k _ _ (.inl rfl) e, mA, ⟨od, es, ep, k _ _ (.inr d) e2, c⟩, r⟩
 | own y => obtain ⟨ob, e⟩ := x; exact ⟨ob, k _ _ (.inl rfl) e⟩
 | xd fs => obtain ⟨mA, ⟨od, es, ep, e, c⟩, r⟩ := x; exact ⟨mA, ⟨od, es, ep, k _ _ (.inl rfl) e, c⟩, r⟩
 | nQ lo hi => obtain ⟨t, u, v, e⟩ := x; exact ⟨t, u, v, k _ _ (.inl rfl) e⟩
 | cE ob u ih => obtain ⟨e, q⟩ := x; exact ⟨k _ _ (.inl rfl) e, ih q⟩
 | gk ps =>
  have e : h.get? a = some { cls := .none, data := .fields ps } := x
  show h'.get? a = some { cls := .none, data := .fields ps }
  exact k a _ (.inl rfl) e
 | met f y =>
  have e : h.get? a = some (PySem.W.methodObj (.ref f) (.ref y)) := x
  show h'.get? a = some (PySem.W.methodObj (.ref f) (.ref y))
  exact k a _ (.inl rfl) e
 | ext φ => obtain ⟨p, ⟨o, e⟩, st⟩ := x; exact ⟨st _ _ p fun o q => k _ _ (.inl rfl) q, ⟨o, k _ _ (.inl rfl) e⟩, st⟩
theorem bt.lt (x : bt P w H h) (e : H a = some o) : a < h.objs.size := (x a o e).lt
theorem bt.fresh (x : bt P w H h) (e : h.objs.size ≤ a) : H a = none := by
 cases q : H a with
 | none => rfl
 | some u => exact absurd (Nat.lt_of_lt_of_le (x.lt q) e) (Nat.lt_irrefl _)
theorem bt.kept (x : bt P w H h) (k : ∀ b u, h.get? b = some u → h'.get? b = some u) : bt P w H h' := fun a o e =>
 (x a o e).ia (fun b u _ q => k b u q) (fun _ q => q) fun _ _ q => q
theorem bt.laid (x : bt P w H h) (k : ∀ b u, h.get? b = some u → h'.get? b = some u) (hp : h.objs.size ≤ a) (new : br P w (upd H a o) h' a o) : bt P w (upd H a o) h' := fun b u e => by
 have hn := x.fresh hp
 by_cases hb : b = a
 ·subst hb; rw [az] at e; cases e; exact new
 ·rw [ah hb] at e
  exact (x b u e).ia (fun c v _ q => k c v q) (fun c q => by rw [ah (du q hn)]; exact q) fun c xs q => by rw [ah (du q hn)]; exact q
end
def Rd (H : Hp) (a : Addr) (u : HO) : Prop := H a = some u ∨ ∃ o, H a = some (.cE o u)
theorem Rd.of {H : Hp} {a : Addr} {u : HO} (h : H a = some u) : Rd H a u := .inl h
theorem Rd.ok {P : Program} {w : World} {H : Hp} {h : Heap} {a : Addr} {u : HO} (r : Rd H a u) (x : bt P w H h) : br P w H h a u := by
 rcases r with r | ⟨o, r⟩
 ·exact x a u r
 ·obtain ⟨_, q⟩ := x a _ r
  exact q
def lE : Option HO → Prop
 | some (.lst _) => True
 | some (.dK _) => True
 | some (.dT _) => True
 | some (.set _ _) => True
 | some (.ins _ _ _) => True
 | some (.ext _) => True
 | _ => False
section
variable {P : Program} {w : World} {H : Hp} {h h' : Heap} {x e : Addr} {o' : HO}
theorem bt.write (ok : bt P w H h) (mu : lE (H x)) (he : e = x ∨ H e = some (.own x)) (k : ∀ b u, b ≠ e → h.get? b = some u → h'.get? b = some u) (heo : ∃ u, h'.get? e = some u)
  (new : br P w (upd H x o') h' x o') : bt P w (upd H x o') h' := fun b u q => by
 have BI : ∀ c y, H c = some (.own y) → c ≠ x := fun c y r z => by subst z; rw [r] at mu; exact mu
 have ntup : ∀ c xs, H c = some (.tup xs) → c ≠ x := fun c xs r z => by subst z; rw [r] at mu; exact mu
 by_cases hb : b = x
 ·subst hb; rw [az] at q; cases q; exact new
 ·rw [ah hb] at q
  by_cases hbe : b = e
  ·have q' : H b = some (.own x) := by
    rcases he with z | z
    ·exact absurd (hbe.trans z) hb
    ·rw [hbe]; exact z
   rw [q] at q'; cases q'
   obtain ⟨v, hv⟩ := heo
   exact ⟨v, by rw [hbe]; exact hv⟩
  ·refine (ok b u q).ia (fun c v hc r => k c v ?_ r) (fun c r => by rw [ah (BI c b r)]; exact r) fun c xs r => by rw [ah (ntup c xs r)]; exact r
   rcases hc with rfl | hc
   ·exact hbe
   ·rintro rfl
    rcases he with z | z
    ·exact BI c b hc z
    ·rw [hc] at z; cases z; exact hb rfl
end
structure Un (fs ex : List Addr) (H H' : Hp) (h h' : Heap) : Prop where
 keep : ∀ b o, h.get? b = some o → H b = none → b ∉ fs → b ∉ ex → h'.get? b = some o
 slot : ∀ b o, h.get? b = some o → H b = none → b ∈ fs → b ∉ ex → ∃ sl, h'.get? b = some { o with slots := sl }
 free : ∀ b o, h.get? b = some o → H b = none → b ∉ ex → H' b = none
 there : ∀ b o, h.get? b = some o → b ∉ ex → ∃ o', h'.get? b = some o'
 dU : ∀ b xs, H b = some (.tup xs) → H' b = some (.tup xs)
 dv : ∀ b o u, H b = some (.cE o u) → H' b = some (.cE o u)
 dO : ∀ b ps, H b = some (.gk ps) → ∃ more, H' b = some (.gk (ps ++ more))
section
variable {fs fs' ex ex' : List Addr} {H H1 H2 : Hp} {h h1 h2 h' : Heap} {a x e : Addr} {o : HO}
theorem Un.any (u : Un fs ex H H1 h h1) {b : Addr} {ob : Obj} (q : h.get? b = some ob) (n : H b = none) (hx : b ∉ ex) : ∃ sl, h1.get? b = some { ob with slots := sl } := by
 by_cases hb : b ∈ fs
 ·exact u.slot b ob q n hb hx
 ·exact ⟨ob.slots, u.keep b ob q n hb hx⟩
theorem Un.kept (k : ∀ b u, h.get? b = some u → h'.get? b = some u) : Un fs ex H H h h' :=
 ⟨fun b ob q _ _ _ => k b ob q, fun b ob q _ _ _ => ⟨ob.slots, k b ob q⟩, fun _ _ _ n _ => n, fun b ob q _ => ⟨ob, k b ob q⟩, fun _ _ q => q, fun _ _ _ q => q, fun _ ps q => ⟨#[], by rw [q]; simp⟩⟩
theorem Un.refl : Un fs ex H H h h := Un.kept fun _ _ q => q
theorem Un.laid (k : ∀ b u, h.get? b = some u → h'.get? b = some u) (hp : h.objs.size ≤ a) (hn : H a = none) : Un fs ex H (upd H a o) h h' where
 keep := fun b u q _ _ _ => k b u q
 slot := fun b u q _ _ _ => ⟨u.slots, k b u q⟩
 free := fun b u q n _ => by rw [ah (Nat.ne_of_lt (Nat.lt_of_lt_of_le (Heap.lt_size q) hp))]; exact n
 there := fun b u q _ => ⟨u, k b u q⟩
 dU := fun b xs q => by rw [ah (du q hn)]; exact q
 dv := fun b u xs q => by rw [ah (du q hn)]; exact q
 dO := fun b ps q => ⟨#[], by rw [ah (du q hn), q]; simp⟩
theorem Un.write (mu : lE (H x)) (he : e = x ∨ H e = some (.own x)) (k : ∀ b u, b ≠ e → h.get? b = some u → h'.get? b = some u) (heo : ∃ u, h'.get? e = some u) : Un fs ex H (upd H x o) h h' := by
 have hx : ∀ b, H b = none → b ≠ x := fun b n z => by subst z; rw [n] at mu; exact mu
 have hb : ∀ b, H b = none → b ≠ e := fun b n z => by
  subst z
  rcases he with r | r
  ·exact hx b n r
  ·rw [n] at r; cases r
 have hm : ∀ b u, H b = some u → ¬ lE (some u) → b ≠ x := fun b u q nm z => by subst z; rw [q] at mu; exact nm mu
 refine ⟨fun b u q n _ _ => k b u (hb b n) q, fun b u q n _ _ => ⟨u.slots, k b u (hb b n) q⟩, fun b u q n _ => by rw [ah (hx b n)]; exact n, fun b u q _ => ?_,
  fun b xs q => by rw [ah (hm b _ q fun z => z)]; exact q, fun b u xs q => by rw [ah (hm b _ q fun z => z)]; exact q, fun b ps q => ⟨#[], by rw [ah (hm b _ q fun z => z), q]; simp⟩⟩
 by_cases hbe : b = e
 ·subst hbe; exact heo
 ·exact ⟨u, k b u hbe q⟩
end
def oG (h : Heap) (H : Hp) : List Addr := (List.range h.objs.size).filter fun a => (H a).isSome
def fE (h : Heap) (H : Hp) : Heap := PySem.W.hideAll h (oG h H)
theorem Hg (h : Heap) (H : Hp) : (fE h H).objs.size = h.objs.size := PySem.W.hideAll_size _ _
theorem Cf {h : Heap} {H : Hp} {b : Addr} {o : Obj} (e : h.get? b = some o) (n : H b = none) : (fE h H).get? b = some o :=
 PySem.W.hideAll_get _ e fun hm => by
  have q : (H b).isSome = true := (List.mem_filter.mp hm).2
  rw [n] at q; simp at q
theorem JF {h : Heap} {H : Hp} {b : Addr} {o : Obj} (e : (fE h H).get? b = some o) : h.get? b = some o ∧ H b = none := by
 have e' : h.get? b = some o := PySem.W.of_hideAll (oG h H) e
 refine ⟨e', ?_⟩
 cases q : H b with
 | none => rfl
 | some x =>
  have hm : b ∈ oG h H := List.mem_filter.mpr ⟨List.mem_range.mpr (Heap.lt_size e'), by simp [q]⟩
  have z : (fE h H).get? b = none := PySem.W.hideAll_none (oG h H) hm
  rw [z] at e; cases e
def GQ (g h : Heap) (L : Addr) : List (Addr × Obj) := (List.range h.objs.size).filterMap fun a => if a = L ∨ (g.get? a).isSome = true then none else (h.get? a).map fun o => (a, o)
def rest (g h : Heap) (L d : Addr) : List (Addr × Obj) := (GQ g h L).filter fun p => decide (p.1 ≠ d)
end L2
namespace L2
open PySem PySem.Spec PyProof.Rows
structure Mod (K : PySem.W.Frag) (mg : Str → Option Value) (base : Heap) : Prop where
 gp : K.In base
 glob : base.Ns mainGlobals mg
 blt : ∃ mb, base.Ns builtinsNs mb ∧ ∀ x : Str, x ≠ "__name__" → mb x = bootBuiltins x
 nolimit : base.NoLimit
structure Cx where
 prog : Program
 w : World
 K : PySem.W.Frag
 mg : Str → Option Value
 base : Heap
 A : Around
 N : List Str
 s₀ : Shared
 H₀ : Hp
 env : Env
 outer : List Env
 stack : List Env
 ex : List Addr
 fn : Str → Bool
 calm : Bool
 pn : List (Addr × Obj)
 xe : Value → Shared → Prop
def bC (l : List Env) : List Addr := l.filterMap (·.frame)
abbrev Cx.fs (X : Cx) : List Addr := bC X.outer
def j9 (sc : Scope) (x : Str) : Prop := sc.names.lookup x = some .local ∨ sc.names.lookup x = some .cell ∨ sc.names.lookup x = some .free
def Loc (sc : Scope) (x : Str) : Prop := sc.names.lookup x = some .local ∨ sc.names.lookup x = some .cell
def Look (env : Env) (h : Heap) (m : Str → Option Value) (x : Str) (u : Value) : Prop :=
 (env.kindOf x = some .local ∧ m x = some u) ∨ ((env.kindOf x = some .cell ∨ env.kindOf x = some .free) ∧ ∃ c, env.cells.lookup x = some c ∧ h.IsCell c (some u))
structure Cx.Ok (X : Cx) : Prop where
 mod : Mod X.K X.mg X.base
 kind : X.env.scope.kind = .function
 glob : X.env.globals = mainGlobals
 blt : X.env.builtins = builtinsNs
 above : X.s₀.heap.objs.size ≤ X.env.locals
 inj : ∀ x y c, X.env.cells.lookup x = some c → X.env.cells.lookup y = some c → x = y
 has : ∀ x, (X.env.kindOf x = some .cell ∨ X.env.kindOf x = some .free) → ∃ c, X.env.cells.lookup x = some c
 kF : ∀ x c, X.fn x = true → X.env.cells.lookup x = some c → X.s₀.heap.objs.size ≤ c
 hd : X.calm = true → X.A.handled = none
 frames : X.A.frames = some X.stack
 gq : X.stack = X.outer ∨ (X.stack = X.env :: X.outer ∧ X.env.frame = some X.env.locals)
 yA : ∀ b ∈ X.ex, b ≠ X.env.locals ∧ ∀ x c, X.env.cells.lookup x = some c → c ≠ b
 bs : ∀ b o, X.base.get? b = some o → X.s₀.heap.get? b = some o ∧ X.H₀ b = none
 fm : X.base.objs.size ≤ X.s₀.heap.objs.size
 lR : ∀ b o, X.base.get? b = some o → b ∉ X.ex
 kb : ∀ b ∈ X.ex, b ∉ X.fs
 dF : X.s₀.heap.FunFrames X.base X.outer
 ig : ∀ b ∈ X.fs, X.H₀ b = none
structure Inv (X : Cx) (pins : List (Addr × Obj)) (σ : List (Option V)) (H : Hp) (s : Shared) : Prop where
 ok : X.Ok
 os : s.os = X.s₀.os
 bare : AllBare s.gens
 base : Un X.fs X.ex X.H₀ H X.s₀.heap s.heap
 loc : ∃ m, s.heap.Ns X.env.locals m ∧ ∀ (i : Nat) (x : Str) (v : V), X.N[i]? = some x → σ[i]? = some (some v) → j9 X.env.scope x → ∃ u, RelV v u ∧ Look X.env s.heap m x u
 cell : ∀ x c, X.env.cells.lookup x = some c → ∃ v, s.heap.IsCell c v
 free : H X.env.locals = none
 fo : ∀ x c, X.env.cells.lookup x = some c → H c = none
 pin : ∀ p ∈ X.pn ++ pins, s.heap.get? p.1 = some p.2 ∧ H p.1 = none ∧ p.1 ≠ X.env.locals ∧ p.1 ∉ X.fs ∧ ∀ v, p.2.data ≠ .cell v
 aD : bt X.prog X.w H s.heap
 len : σ.length = X.N.length
section
variable {X : Cx} {pins : List (Addr × Obj)} {σ : List (Option V)} {H H' : Hp} {s : Shared} {h' : Heap}
theorem Cx.Ok.Gz (ok : X.Ok) {b : Addr} {o : Obj} (e : X.base.get? b = some o) : b ∉ X.fs := fun hb => by
 have := (ok.dF.mem hb).1
 rw [e] at this; cases this
theorem Inv.bs (I : Inv X pins σ H s) : ∀ b o, X.base.get? b = some o → s.heap.get? b = some o ∧ H b = none := fun b o e =>
 ⟨I.base.keep b o (I.ok.bs b o e).1 (I.ok.bs b o e).2 (I.ok.Gz e) (I.ok.lR b o e), I.base.free b o (I.ok.bs b o e).1 (I.ok.bs b o e).2 (I.ok.lR b o e)⟩
theorem Inv.bk (I : Inv X pins σ H s) : ∀ b o, X.base.get? b = some o → s.heap.get? b = some o := fun b o e => (I.bs b o e).1
theorem Inv.mod (I : Inv X pins σ H s) : Mod X.K X.mg X.base := I.ok.mod
theorem Inv.bx (I : Inv X pins σ H s) : X.K.In s.heap := I.ok.mod.gp.keeps I.bk
theorem Inv.lt (I : Inv X pins σ H s) : X.env.locals < s.heap.objs.size := let ⟨_, hn, _⟩ := I.loc; hn.lt
theorem Inv.sz (I : Inv X pins σ H s) : X.s₀.heap.objs.size ≤ s.heap.objs.size := Nat.le_trans I.ok.above (Nat.le_of_lt I.lt)
theorem Inv.Az (I : Inv X pins σ H s) {a : Addr} (h : s.heap.objs.size ≤ a) : a ∉ X.fs := fun hb => by
 obtain ⟨_, o, ho, _⟩ := I.ok.dF.mem hb
 exact absurd (Nat.lt_of_lt_of_le (Heap.lt_size ho) (Nat.le_trans I.sz h)) (Nat.lt_irrefl _)
theorem Inv.gO (I : Inv X pins σ H s) : ∀ x c, X.env.cells.lookup x = some c → c ≠ X.env.locals := fun x c e z => by
 obtain ⟨v, o, ho, hd⟩ := I.cell x c e
 obtain ⟨m, ⟨o', es, ep, ho', hd', _⟩, _⟩ := I.loc
 rw [z, ho'] at ho; cases ho; rw [hd'] at hd; cases hd
theorem Inv.dF (I : Inv X pins σ H s) : s.heap.FunFrames X.base X.outer := by
 have all : ∀ (l : List Env), (∀ b ∈ bC l, b ∈ X.fs) → X.s₀.heap.FunFrames X.base l → s.heap.FunFrames X.base l := by
  intro l
  induction l with
  | nil => intro _ _; trivial
  | cons env r ih =>
   intro hs hl
   obtain ⟨hk, ⟨L, o, hf, hn, ho, hd⟩, hr⟩ := hl
   have hL : L ∈ X.fs := hs L (by unfold bC; rw [List.filterMap_cons, hf]; exact List.mem_cons_self)
   obtain ⟨sl, e⟩ := I.base.slot L o ho (I.ok.ig L hL) hL fun z => I.ok.kb L z hL
   exact ⟨hk, ⟨L, _, hf, hn, e, hd⟩, ih (fun b hb => hs b (by unfold bC; rw [List.filterMap_cons, hf]; exact List.mem_cons_of_mem _ hb)) hr⟩
 exact all X.outer (fun _ hb => hb) I.ok.dF
theorem Inv.stack (I : Inv X pins σ H s) : s.heap.FunFrames X.base X.stack := by
 rcases I.ok.gq with e | ⟨e, hf⟩
 ·rw [e]; exact I.dF
 ·rw [e]
  obtain ⟨m, hn, _⟩ := I.loc
  refine .cons (by rw [I.ok.kind]; decide) hf hn ?_ I.dF
  exact Heap.get?_none_of_le (Nat.le_trans I.ok.fm I.ok.above)
theorem Inv.ny (I : Inv X pins σ H s) : ∀ b ∈ bC X.stack, b ∈ X.env.locals :: X.fs := fun b hb => by
 rcases I.ok.gq with e | ⟨e, hf⟩
 ·rw [e] at hb; exact List.mem_cons_of_mem _ hb
 ·rw [e] at hb
  unfold bC at hb
  rw [List.filterMap_cons, hf] at hb
  exact hb
theorem Inv.pN (I : Inv X pins σ H s) : ∀ b ∈ bC X.stack, H b = none := fun b hb => by
 rcases List.mem_cons.mp (I.ny b hb) with e | hb
 ·rw [e]; exact I.free
 ·obtain ⟨_, o, ho, _⟩ := I.ok.dF.mem hb
  exact I.base.free b o ho (I.ok.ig b hb) fun z => I.ok.kb b z hb
theorem Inv.step {g' : Array GenState} {t' : Nat} {d' : Drawn} {ch : List Addr} (I : Inv X pins σ H s)
  (hch : ∀ b ∈ ch, (b ∈ X.ex ∨ X.s₀.heap.objs.size ≤ b) ∧ b ≠ X.env.locals ∧ (∀ x c, X.env.cells.lookup x = some c → c ≠ b) ∧ ∀ p ∈ X.pn ++ pins, p.1 ≠ b)
  (keep : ∀ b o, b ≠ X.env.locals → b ∉ X.fs → b ∉ ch → s.heap.get? b = some o → H b = none → h'.get? b = some o)
  (slot : ∀ b o, b ≠ X.env.locals → b ∈ X.fs → b ∉ ch → s.heap.get? b = some o → H b = none → ∃ sl, h'.get? b = some { o with slots := sl }) (free : ∀ b o, b ∉ ch → s.heap.get? b = some o → H b = none → H' b = none)
  (there : ∀ b o, b ∉ ch → s.heap.get? b = some o → ∃ o', h'.get? b = some o')
  (dU : ∀ b xs, H b = some (.tup xs) → H' b = some (.tup xs)) (dv : ∀ b o u, H b = some (.cE o u) → H' b = some (.cE o u)) (dO : ∀ b ps, H b = some (.gk ps) → ∃ more, H' b = some (.gk (ps ++ more)))
  (ns : ∀ m, s.heap.Ns X.env.locals m → h'.Ns X.env.locals m) (aD : bt X.prog X.w H' h') (hg : AllBare g') :
  Inv X pins σ H' { s with heap := h', gens := g', drawn := d', toks := t' } := by
 have neL : ∀ b o, X.s₀.heap.get? b = some o → b ≠ X.env.locals := fun b o e => Nat.ne_of_lt (Nat.lt_of_lt_of_le (Heap.lt_size e) I.ok.above)
 have neC : ∀ b o, X.s₀.heap.get? b = some o → b ∉ X.ex → b ∉ ch := fun b o e hx hb => by
  rcases (hch b hb).1 with z | z
  ·exact hx z
  ·exact absurd (Nat.lt_of_lt_of_le (Heap.lt_size e) z) (Nat.lt_irrefl _)
 have cellK : ∀ x c, X.env.cells.lookup x = some c → ∀ v, s.heap.IsCell c v → h'.IsCell c v := fun x c e v ⟨o, ho, hd⟩ => by
  have nch : c ∉ ch := fun z => (hch c z).2.2.1 x c e rfl
  by_cases hc : c ∈ X.fs
  ·obtain ⟨sl, q⟩ := slot c o (I.gO x c e) hc nch ho (I.fo x c e)
   exact ⟨_, q, hd⟩
  ·exact ⟨o, keep c o (I.gO x c e) hc nch ho (I.fo x c e), hd⟩
 refine ⟨I.ok, I.os, hg, ⟨fun b o e n hb hx => ?_, fun b o e n hb hx => ?_, fun b o e n hx => ?_, fun b o e hx => ?_, fun b xs e => dU b xs (I.base.dU b xs e), fun b o xs e => dv b o xs (I.base.dv b o xs e), fun b ps e => ?_⟩, ?_, fun x c e => ?_, ?_, fun x c e => ?_, fun p hp => ?_, aD, I.len⟩
 ·exact keep b o (neL b o e) hb (neC b o e hx) (I.base.keep b o e n hb hx) (I.base.free b o e n hx)
 ·obtain ⟨sl, e1⟩ := I.base.slot b o e n hb hx
  obtain ⟨sl', e2⟩ := slot b _ (neL b o e) hb (neC b o e hx) e1 (I.base.free b o e n hx)
  exact ⟨sl', e2⟩
 ·obtain ⟨o', e1⟩ := I.base.there b o e hx
  exact free b o' (neC b o e hx) e1 (I.base.free b o e n hx)
 ·obtain ⟨o', e1⟩ := I.base.there b o e hx
  exact there b o' (neC b o e hx) e1
 ·obtain ⟨m1, e1⟩ := I.base.dO b ps e
  obtain ⟨m2, e2⟩ := dO b _ e1
  exact ⟨m1 ++ m2, by rw [e2, Array.append_assoc]⟩
 ·obtain ⟨m, hn, hl⟩ := I.loc
  refine ⟨m, ns m hn, fun i x v e1 e2 e3 => ?_⟩
  obtain ⟨u, r, l⟩ := hl i x v e1 e2 e3
  refine ⟨u, r, ?_⟩
  rcases l with l | ⟨k, c, e, z⟩
  ·exact .inl l
  ·exact .inr ⟨k, c, e, cellK x c e _ z⟩
 ·obtain ⟨v, z⟩ := I.cell x c e
  exact ⟨v, cellK x c e v z⟩
 ·obtain ⟨m, ⟨o, _, _, ho, _⟩, _⟩ := I.loc
  exact free _ o (fun z => (hch _ z).2.1 rfl) ho I.free
 ·obtain ⟨v, o, ho, hd⟩ := I.cell x c e
  exact free c o (fun z => (hch c z).2.2.1 x c e rfl) ho (I.fo x c e)
 ·obtain ⟨e, n, ne, nf, d⟩ := I.pin p hp
  have nch : p.1 ∉ ch := fun z => (hch p.1 z).2.2.2 p hp rfl
  exact ⟨keep p.1 p.2 ne nf nch e n, free p.1 p.2 nch e n, ne, nf, d⟩
theorem Inv.un {t' : Nat} (I : Inv X pins σ H s) (u : Un X.fs [] H H' s.heap h') (aD : bt X.prog X.w H' h') : Inv X pins σ H' { s with heap := h', toks := t' } := by
 obtain ⟨m, ⟨o, es, ep, ho, r⟩, _⟩ := id I.loc
 obtain ⟨sl, hL⟩ := u.any ho I.free (by simp)
 exact I.step (g' := s.gens) (d' := s.drawn) (ch := []) (fun _ z => nomatch z) (fun b o _ hb _ e n => u.keep b o e n hb (by simp)) (fun b o _ hb _ e n => u.slot b o e n hb (by simp)) (fun b o _ e n => u.free b o e n (by simp)) (fun b o _ e => u.there b o e (by simp)) u.dU u.dv u.dO (fun m' hm => by
  obtain ⟨o', es', ep', ho', r'⟩ := hm
  rw [ho] at ho'; cases ho'
  exact ⟨_, es', ep', hL, r'⟩) aD I.bare
theorem Inv.call {g' : Array GenState} {t' : Nat} {d' : Drawn} {ch : List Addr} (I : Inv X pins σ H s) (u : Un (bC X.stack) ch H H' s.heap h') (aD : bt X.prog X.w H' h') (hg : AllBare g')
  (hch : ∀ b ∈ ch, (b ∈ X.ex ∨ X.s₀.heap.objs.size ≤ b) ∧ b ≠ X.env.locals ∧ (∀ x c, X.env.cells.lookup x = some c → c ≠ b) ∧ ∀ p ∈ X.pn ++ pins, p.1 ≠ b) :
  Inv X pins σ H' { s with heap := h', gens := g', drawn := d', toks := t' } := by
 obtain ⟨m, ⟨o, es, ep, ho, r⟩, _⟩ := id I.loc
 obtain ⟨sl, hL⟩ := u.any ho I.free fun z => (hch _ z).2.1 rfl
 exact I.step (ch := ch) hch (fun b o hL hb hc e n => u.keep b o e n (fun z => (List.mem_cons.mp (I.ny b z)).elim hL hb) hc) (fun b o _ _ hc e n => u.any e n hc) (fun b o hc e n => u.free b o e n hc) (fun b o hc e => u.there b o e hc) u.dU u.dv u.dO (fun m' hm => by
  obtain ⟨o', es', ep', ho', r'⟩ := hm
  rw [ho] at ho'; cases ho'
  exact ⟨_, es', ep', hL, r'⟩) aD hg
theorem Inv.turned {t' : Nat} {it : Addr} (I : Inv X pins σ H s) (k : ∀ b o, b ≠ it → s.heap.get? b = some o → h'.get? b = some o) (hn : H it = none) (hL : it ≠ X.env.locals)
  (h1 : it ∈ X.ex ∨ X.s₀.heap.objs.size ≤ it) (h2 : ∀ x c, X.env.cells.lookup x = some c → c ≠ it) (h3 : ∀ p ∈ X.pn ++ pins, p.1 ≠ it) : Inv X pins σ H { s with heap := h', toks := t' } := by
 have nit : ∀ b u, H b = some u → b ≠ it := fun b u e z => by rw [z, hn] at e; cases e
 refine I.step (g' := s.gens) (d' := s.drawn) (ch := [it]) (fun b hb => ?_) (fun b o _ _ hc e _ => k b o (fun z => hc (by simp [z])) e) (fun b o _ _ hc e _ => ⟨o.slots, k b o (fun z => hc (by simp [z])) e⟩) (fun _ _ _ _ n => n)
  (fun b o hc e => ⟨o, k b o (fun z => hc (by simp [z])) e⟩) (fun _ _ e => e) (fun _ _ _ e => e) (fun b ps e => ⟨#[], by rw [e]; simp⟩) (fun m hm => ?_) (fun b u e => ?_) I.bare
 ·have e : b = it := by simpa using hb
  subst e
  exact ⟨h1, hL, h2, h3⟩
 ·obtain ⟨o, es, ep, ho, r⟩ := hm
  exact ⟨o, es, ep, k _ o (Ne.symm hL) ho, r⟩
 ·refine (I.aD b u e).ia (fun c v hc q => k c v ?_ q) (fun _ q => q) fun _ _ q => q
  rcases hc with z | z
  ·rw [z]; exact nit b u e
  ·exact nit c _ z
theorem Inv.tok (I : Inv X pins σ H s) (t : Nat) : Inv X pins σ H { s with toks := t } := I.un (h' := s.heap) (t' := t) Un.refl I.aD
theorem Inv.kept {t' : Nat} (I : Inv X pins σ H s) (k : ∀ b u, s.heap.get? b = some u → h'.get? b = some u) : Inv X pins σ H { s with heap := h', toks := t' } := I.un (Un.kept k) (I.aD.kept k)
theorem Inv.laid {a : Addr} {o : HO} {t' : Nat} (I : Inv X pins σ H s) (k : ∀ b u, s.heap.get? b = some u → h'.get? b = some u) (hp : s.heap.objs.size ≤ a) (new : br X.prog X.w (upd H a o) h' a o) :
  Inv X pins σ (upd H a o) { s with heap := h', toks := t' } := I.un (Un.laid k hp (I.aD.fresh hp)) (I.aD.laid k hp new)
theorem Inv.write {x e : Addr} {o : HO} {t' : Nat} (I : Inv X pins σ H s) (mu : lE (H x)) (he : e = x ∨ H e = some (.own x)) (k : ∀ b u, b ≠ e → s.heap.get? b = some u → h'.get? b = some u) (heo : ∃ u, h'.get? e = some u)
  (new : br X.prog X.w (upd H x o) h' x o) : Inv X pins σ (upd H x o) { s with heap := h', toks := t' } := I.un (Un.write mu he k heo) (I.aD.write mu he k heo new)
theorem Inv.kN {pins' : List (Addr × Obj)} (I : Inv X pins σ H s) (h : ∀ p ∈ pins', s.heap.get? p.1 = some p.2 ∧ H p.1 = none ∧ p.1 ≠ X.env.locals ∧ p.1 ∉ X.fs ∧ ∀ v, p.2.data ≠ .cell v) : Inv X pins' σ H s :=
 ⟨I.ok, I.os, I.bare, I.base, I.loc, I.cell, I.free, I.fo, fun p hp => (List.mem_append.mp hp).elim (fun z => I.pin p (List.mem_append_left _ z)) (h p), I.aD, I.len⟩
theorem xw {N : List Str} (hN : N.Nodup) {i j : Nat} {x : Str} (a : N[i]? = some x) (b : N[j]? = some x) : i = j := by
 obtain ⟨h1, e1⟩ := List.getElem?_eq_some_iff.mp a
 obtain ⟨h2, e2⟩ := List.getElem?_eq_some_iff.mp b
 exact (List.getElem_inj hN).mp (e1.trans e2.symm)
theorem xG {M : Model} {A : Around} {E : Value → Shared → Prop} {i : Nat} {x : Str} {v : V} {u : Value} {Q : Unit → Shared → Prop} (I : Inv X pins σ H s) (hN : X.N.Nodup) (hi : X.N[i]? = some x) (hx : Loc X.env.scope x) (r : RelV v u)
  (h : ∀ s', Inv X pins (σ.set i (some v)) H s' → (∃ a, Heap.SameBut a s.heap s'.heap ∧ (a = X.env.locals ∨ X.env.cells.lookup x = some a)) → Q () s') (hf : X.fn x = true ∨ X.env.scope.names.lookup x = some .local := by first | exact .inl rfl | exact .inr rfl | assumption) : wpAny M A (storeName X.env x u) Q E s := by
 obtain ⟨m, hn, hl⟩ := id I.loc
 have hcls : (X.env.scope.kind == .class || (X.env.scope.kind == .module && X.env.locals != X.env.globals)) = false := by rw [I.ok.kind]; rfl
 have hiσ : i < σ.length := by rw [I.len]; exact (List.getElem?_eq_some_iff.mp hi).1
 have gO := I.gO
 have tracked : ∀ {a : Addr} {h' : Heap}, (∃ o, s.heap.get? a = some o ∧ H a = none) → Heap.SameBut a s.heap h' → bt X.prog X.w H h' := fun {a h'} ha hs b ob e => by
  obtain ⟨_, _, oT⟩ := ha
  refine (I.aD b ob e).ia (fun c w' hc q => (hs.2 c ?_).trans q) (fun _ q => q) fun _ _ q => q
  rintro rfl
  rcases hc with rfl | hc
  ·rw [oT] at e; cases e
  ·rw [oT] at hc; cases hc
 rcases hx with hk | hk
 ·refine wpAny_storeName_local hk hn (fun h' hn' hs => ?_) hcls
  obtain ⟨oL, _, _, hoL, _⟩ := id hn
  refine h _ ⟨I.ok, I.os, I.bare, ⟨fun b o e n hb hx => ?_, fun b o e n hb hx => ?_, I.base.free, fun b o e hx => ?_, I.base.dU, I.base.dv, I.base.dO⟩, ⟨_, hn', fun j y v' e1 e2 e3 => ?_⟩, fun y c e => ?_, I.free, I.fo, fun p hp => ?_, tracked ⟨oL, hoL, I.free⟩ hs, by simpa using I.len⟩ ⟨_, hs, .inl rfl⟩
  ·exact (hs.2 b (Nat.ne_of_lt (Nat.lt_of_lt_of_le (Heap.lt_size e) I.ok.above))).trans (I.base.keep b o e n hb hx)
  ·obtain ⟨sl, e1⟩ := I.base.slot b o e n hb hx
   exact ⟨sl, (hs.2 b (Nat.ne_of_lt (Nat.lt_of_lt_of_le (Heap.lt_size e) I.ok.above))).trans e1⟩
  ·obtain ⟨o', e1⟩ := I.base.there b o e hx
   exact ⟨o', (hs.2 b (Nat.ne_of_lt (Nat.lt_of_lt_of_le (Heap.lt_size e) I.ok.above))).trans e1⟩
  ·by_cases hj : j = i
   ·subst hj
    rw [hi] at e1; cases e1
    rw [List.getElem?_set_self hiσ] at e2
    cases e2
    exact ⟨u, r, .inl ⟨hk, by simp⟩⟩
   ·rw [List.getElem?_set_ne (Ne.symm hj)] at e2
    obtain ⟨u', r', q⟩ := hl j y v' e1 e2 e3
    refine ⟨u', r', ?_⟩
    rcases q with ⟨k, e⟩ | ⟨k, c, e, z⟩
    ·refine .inl ⟨k, ?_⟩
     have : y ≠ x := fun e => hj (xw hN e1 (e ▸ hi))
     simp [this, e]
    ·exact .inr ⟨k, c, e, z.sameBut hs (gO y c e)⟩
  ·obtain ⟨w', z⟩ := I.cell y c e
   exact ⟨w', z.sameBut hs (gO y c e)⟩
  ·obtain ⟨e, n, ne, nf, d⟩ := I.pin p hp
   exact ⟨(hs.2 p.1 ne).trans e, n, ne, nf, d⟩
 ·have hfn : X.fn x = true := by
   rcases hf with z | z
   ·exact z
   ·rw [z] at hk; cases hk
  obtain ⟨c, hc⟩ := I.ok.has x (.inl hk)
  obtain ⟨w', z⟩ := I.cell x c hc
  refine wpAny_storeName_cell I.ok.kind hk hc z (fun h' hc' hs => ?_)
  obtain ⟨oc, hoc, hocd⟩ := id z
  refine h { s with heap := h' } ⟨I.ok, I.os, I.bare, ⟨fun b o e n hb hx => ?_, fun b o e n hb hx => ?_, I.base.free, fun b o e hx => ?_, I.base.dU, I.base.dv, I.base.dO⟩, ⟨m, hn.sameBut hs (Ne.symm (gO x c hc)), fun j y v' e1 e2 e3 => ?_⟩, fun y c' e => ?_, I.free, I.fo, fun p hp => ?_, tracked ⟨oc, hoc, I.fo x c hc⟩ hs, by simpa using I.len⟩ ⟨c, hs, .inr hc⟩
  ·exact (hs.2 b (Nat.ne_of_lt (Nat.lt_of_lt_of_le (Heap.lt_size e) (I.ok.kF x c hfn hc)))).trans (I.base.keep b o e n hb hx)
  ·obtain ⟨sl, e1⟩ := I.base.slot b o e n hb hx
   exact ⟨sl, (hs.2 b (Nat.ne_of_lt (Nat.lt_of_lt_of_le (Heap.lt_size e) (I.ok.kF x c hfn hc)))).trans e1⟩
  ·obtain ⟨o', e1⟩ := I.base.there b o e hx
   exact ⟨o', (hs.2 b (Nat.ne_of_lt (Nat.lt_of_lt_of_le (Heap.lt_size e) (I.ok.kF x c hfn hc)))).trans e1⟩
  ·by_cases hj : j = i
   ·subst hj
    rw [hi] at e1; cases e1
    rw [List.getElem?_set_self hiσ] at e2
    cases e2
    exact ⟨u, r, .inr ⟨.inl hk, c, hc, hc'⟩⟩
   ·rw [List.getElem?_set_ne (Ne.symm hj)] at e2
    obtain ⟨u', r', q⟩ := hl j y v' e1 e2 e3
    refine ⟨u', r', ?_⟩
    rcases q with q | ⟨k, c', e, z'⟩
    ·exact .inl q
    ·refine .inr ⟨k, c', e, z'.sameBut hs ?_⟩
     rintro rfl
     exact hj (xw hN e1 (I.ok.inj _ _ _ e hc ▸ hi))
  ·by_cases hcc : c' = c
   ·subst hcc; exact ⟨_, hc'⟩
   ·obtain ⟨w2, z2⟩ := I.cell y c' e
    exact ⟨w2, z2.sameBut hs hcc⟩
  ·obtain ⟨e, n, ne, nf, d⟩ := I.pin p hp
   refine ⟨(hs.2 p.1 ?_).trans e, n, ne, nf, d⟩
   intro q
   rw [q, hoc] at e
   have q' : oc = p.2 := Option.some.inj e
   exact d w' (by rw [← q']; exact hocd)
theorem yU {M : Model} {A : Around} {E : Value → Shared → Prop} {i : Nat} {x : Str} {v : V} {u : Value} {Q : Unit → Shared → Prop} (I : Inv X pins σ H s) (hN : X.N.Nodup) (hi : X.N[i]? = some x) (hx : Loc X.env.scope x) (r : RelV v u)
  (h : ∀ s', Inv X pins (σ.set i (some v)) H s' → Q () s') (hf : X.fn x = true ∨ X.env.scope.names.lookup x = some .local := by first | exact .inl rfl | exact .inr rfl | assumption) : wpAny M A (storeName X.env x u) Q E s :=
 xG I hN hi hx r (fun s' I' _ => h s' I') hf
theorem Inv.Dn {s' : Shared} {ch : List Addr} (I : Inv X pins σ H s) (ho : s'.os = s.os) (u : Un (bC X.stack) ch H H' s.heap s'.heap) (aD : bt X.prog X.w H' s'.heap) (hg : AllBare s'.gens)
  (hch : ∀ b ∈ ch, (b ∈ X.ex ∨ X.s₀.heap.objs.size ≤ b) ∧ b ≠ X.env.locals ∧ (∀ x c, X.env.cells.lookup x = some c → c ≠ b) ∧ ∀ p ∈ X.pn ++ pins, p.1 ≠ b) : Inv X pins σ H' s' := by
 obtain ⟨h', g', d', t', o'⟩ := s'
 have e : o' = s.os := ho
 subst e
 exact I.call (g' := g') (t' := t') (d' := d') u aD hg hch
end
abbrev XK := Value → Option Addr → Hp → Prop
abbrev St := List (Option V)
abbrev VK := V → Hp → Prop
abbrev TE := St → Hp → VK → Prop
abbrev TT := St → Hp → (Bool → Hp → Prop) → Prop
abbrev TA := St → Hp → (List V → Hp → Prop) → Prop
structure Ends where
 nx : St → Hp → Prop
 rt : VK
 bk : St → Hp → Prop := fun _ _ => False
 ct : St → Hp → Prop := fun _ _ => False
abbrev TS := Ends → St → Hp → Prop
def EP (X : Cx) (pins : List (Addr × Obj)) (σ : St) (Q : VK) (u : Value) (s' : Shared) : Prop := ∃ v H', Inv X pins σ H' s' ∧ RelV v u ∧ Q v H'
def TP (X : Cx) (pins : List (Addr × Obj)) (σ : St) (Q : Bool → Hp → Prop) (b : Bool) (s' : Shared) : Prop := ∃ H', Inv X pins σ H' s' ∧ Q b H'
def AP (X : Cx) (pins : List (Addr × Obj)) (σ : St) (Q : List V → Hp → Prop) (us : List Value) (s' : Shared) : Prop := ∃ vs H', Inv X pins σ H' s' ∧ Vals vs us ∧ Q vs H'
def SP (X : Cx) (pins : List (Addr × Obj)) (D : Ends) (f : Flow) (s' : Shared) : Prop :=
 match f with
 | .next => ∃ σ' H', Inv X pins σ' H' s' ∧ D.nx σ' H'
 | .brk => ∃ σ' H', Inv X pins σ' H' s' ∧ D.bk σ' H'
 | .cont => ∃ σ' H', Inv X pins σ' H' s' ∧ D.ct σ' H'
 | .ret u => ∃ v σ' H', Inv X pins σ' H' s' ∧ RelV v u ∧ D.rt v H'
def PE (X : Cx) (e : Expr) (t : TE) : Prop :=
 ∀ (pins : List (Addr × Obj)) (s : Shared) (σ : St) (H : Hp) (Q : VK), Inv X pins σ H s → t σ H Q → wpAny (model X.prog X.w) X.A (eval e X.env) (EP X pins σ Q) X.xe s
def PT (X : Cx) (e : Expr) (t : TT) : Prop :=
 ∀ (pins : List (Addr × Obj)) (s : Shared) (σ : St) (H : Hp) (Q : Bool → Hp → Prop), Inv X pins σ H s → t σ H Q → wpAny (model X.prog X.w) X.A (isTrue e X.env (eval e X.env)) (TP X pins σ Q) X.xe s
def PW (X : Cx) (e : Expr) (t : TT) : Prop :=
 ∀ (whole : Sem Value) (pins : List (Addr × Obj)) (s : Shared) (σ : St) (H : Hp) (Q : Bool → Hp → Prop), Inv X pins σ H s → t σ H Q → wpAny (model X.prog X.w) X.A (isTrue e X.env whole) (TP X pins σ Q) X.xe s
theorem PW.pt {X : Cx} {e : Expr} {t : TT} (h : PW X e t) : PT X e t := h _
def PA (X : Cx) (es : List Expr) (t : TA) : Prop :=
 ∀ (pos : Pos) (pins : List (Addr × Obj)) (s : Shared) (σ : St) (H : Hp) (Q : List V → Hp → Prop), Inv X pins σ H s → t σ H Q → wpAny (model X.prog X.w) X.A (spliced (backTo pos (starEach es X.env))) (AP X pins σ Q) X.xe s
def PS (X : Cx) (st : Stmt) (t : TS) : Prop :=
 ∀ (pins : List (Addr × Obj)) (s : Shared) (σ : St) (H : Hp) (D : Ends), Inv X pins σ H s → t D σ H → wpAny (model X.prog X.w) X.A (exec st X.env) (SP X pins D) X.xe s
def bV (X : Cx) (st : List Stmt) (t : TS) : Prop :=
 ∀ (pins : List (Addr × Obj)) (s : Shared) (σ : St) (H : Hp) (D : Ends), Inv X pins σ H s → t D σ H → wpAny (model X.prog X.w) X.A (execs st X.env) (SP X pins D) X.xe s
theorem aE {α : Type} {t : Sem α} {Q Q' : α → Shared → Prop} {M : Model} {A : Around} {E : Value → Shared → Prop} {s : Shared} (h : wpAny M A t Q E s) (hQ : ∀ a s, Q a s → Q' a s) : wpAny M A t Q' E s := wpAny_mono h hQ fun _ _ x => x
end L2
namespace L2
open PySem PySem.Spec PyProof.Rows
section
variable {X : Cx}
def xn (i : Nat) : TE := fun σ H Q => ∃ v, σ[i]? = some (some v) ∧ Q v H
def tC (v : V) : TE := fun _ H Q => Q v H
theorem A6 {i : Nat} {x : Str} {pos : Pos} (hN : X.N[i]? = some x) (hv : j9 X.env.scope x) (hd : (x == ("__debug__" : Str)) = false := by decide) (hcd : (x == ("__classdict__" : Str)) = false := by decide) : PE X (.Name x pos) (xn i) := by
 intro pins s σ H Q I h
 obtain ⟨v, e, h⟩ := h
 obtain ⟨m, hn, hl⟩ := I.loc
 obtain ⟨u, r, l⟩ := hl i x v hN e hv
 have fin : EP X pins σ Q u s := ⟨v, H, I, r, h⟩
 rcases l with ⟨hk, hm⟩ | ⟨hk, c, hc, B5⟩
 ·exact wpAny_Name (wpAny_loadName_local I.ok.kind hk hn hm fin) hd
 ·rcases hk with hk | hk
  ·exact wpAny_Name (wpAny_loadName_cell I.ok.kind hk hc B5 fin) hd
  ·exact wpAny_Name (wpAny_loadName_free I.ok.kind hk hc B5 fin hcd) hd
theorem Kx {i j pos} : PE X (.Constant (.int i) j pos) (tC (.int i)) := fun _ _ _ H _ I h => wpAny_Constant_int ⟨.int i, H, I.tok _, ⟨_, rfl⟩, h⟩
theorem Cq {b j pos} : PE X (.Constant (.bool b) j pos) (tC (.bl b)) := fun _ _ _ H _ I h => Constant_bool ⟨.bl b, H, I, rfl, h⟩
theorem Fd {j pos} : PE X (.Constant .none j pos) (tC .aq) := fun _ _ _ H _ I h => Constant_none ⟨.aq, H, I, rfl, h⟩
theorem HN {x j pos} : PE X (.Constant (.str x) j pos) (tC (.str x)) := fun _ _ _ H _ I h => Calls.Constant_str ⟨.str x, H, I.tok _, ⟨_, rfl⟩, h⟩
def Gl (X : Cx) (x : Str) : Prop := X.env.kindOf x = some .globalImplicit
theorem jD {E : Value → Shared → Prop} {pins : List (Addr × Obj)} {s : Shared} {σ : St} {H : Hp} {x : Str} {u : Value} {pos : Pos} {Q : Value → Shared → Prop} (I : Inv X pins σ H s) (hg : Gl X x) (hm : X.mg x = some u) (h : Q u s)
  (hd : (x == ("__debug__" : Str)) = false := by decide) : wpAny (model X.prog X.w) X.A (eval (.Name x pos) X.env) Q E s :=
 Calls.Name_function_global I.ok.kind hg (Calls.loadGlobal_global (by rw [I.ok.glob]; exact I.mod.glob.keeps I.bk) hm h) hd
theorem gm {E : Value → Shared → Prop} {pins : List (Addr × Obj)} {s : Shared} {σ : St} {H : Hp} {x : Str} {u : Value} {pos : Pos} {Q : Value → Shared → Prop} (I : Inv X pins σ H s) (hg : Gl X x) (hm : X.mg x = none) (hv : bootBuiltins x = some u) (h : Q u s)
  (hn : x ≠ "__name__" := by decide) (hd : (x == ("__debug__" : Str)) = false := by decide) : wpAny (model X.prog X.w) X.A (eval (.Name x pos) X.env) Q E s := by
 obtain ⟨mb, h1, h2⟩ := I.mod.blt
 exact Calls.Name_function_global I.ok.kind hg (Calls.loadGlobal_builtin (by rw [I.ok.glob]; exact I.mod.glob.keeps I.bk) hm (by rw [I.ok.blt]; exact h1.keeps I.bk) ((h2 x hn).trans hv) h) hd
theorem Kw {x : Str} {v : V} {u : Value} {pos : Pos} (hg : Gl X x) (hm : X.mg x = some u) (r : RelV v u) (hd : (x == ("__debug__" : Str)) = false := by decide) : PE X (.Name x pos) (tC v) :=
 fun _ _ _ H _ I h => jD I hg hm ⟨v, H, I, r, h⟩ hd
theorem IX {x : Str} {v : V} {u : Value} {pos : Pos} (hg : Gl X x) (hm : X.mg x = none) (hv : bootBuiltins x = some u) (r : RelV v u) (hn : x ≠ "__name__" := by decide) (hd : (x == ("__debug__" : Str)) = false := by decide) : PE X (.Name x pos) (tC v) :=
 fun _ _ _ H _ I h => gm I hg hm hv ⟨v, H, I, r, h⟩ hn hd
def FI (ta tb : TE) (k : Int → Int → Hp → Prop) : St → Hp → Prop := fun σ H => ta σ H fun x H1 => tb σ H1 fun y H2 => ∃ i j, x = .int i ∧ y = .int j ∧ k i j H2
variable {a b : Expr} {ta tb : TE} {pos : Pos}
def PC (X : Cx) (op : CmpOp) (a b : Expr) (t : TE) : Prop :=
 ∀ (pins : List (Addr × Obj)) (s : Shared) (σ : St) (H : Hp) (Q : VK), Inv X pins σ H s → t σ H Q →
  wpAny (model X.prog X.w) X.A (eval a X.env) (fun v s₁ => wpAny (model X.prog X.w) X.A (eval b X.env) (fun u s₂ => wpAny (model X.prog X.w) X.A (compareOp op v u) (EP X pins σ Q) X.xe s₂) X.xe s₁) X.xe s
theorem nH (b : Expr) {op : CmpOp} (h : op ≠ .In) (h2 : op ≠ .NotIn) : behindInMarks op b = false := by
 have e1 : (op == CmpOp.In) = false := by cases op <;> first | rfl | exact absurd rfl h
 have e2 : (op == CmpOp.NotIn) = false := by cases op <;> first | rfl | exact absurd rfl h2
 cases b <;> simp [behindInMarks, e1, e2]
def je (p : Int → Int → Bool) (ta tb : TE) : TE := fun σ H Q => FI ta tb (fun i j H2 => Q (.bl (p i j)) H2) σ H
abbrev LD : TE → TE → TE := je fun i j => decide (i < j)
abbrev Lm : TE → TE → TE := je fun i j => decide (i ≤ j)
abbrev Ll : TE → TE → TE := je fun i j => decide (j < i)
abbrev Lq : TE → TE → TE := je fun i j => decide (j ≤ i)
abbrev LI : TE → TE → TE := je fun i j => decide (i = j)
abbrev Lp : TE → TE → TE := je fun i j => !decide (i = j)
def F2 (ta : TE) : TE := fun σ H Q => ta σ H fun x H1 => Q (.bl (decide (x = .aq))) H1
def tB (t : TE) : TT := fun σ H Q => t σ H fun x H1 => ∃ c, x = .bl c ∧ Q c H1
variable {tA tB' : TT} {rest : List Expr}
def u7 (t u : TT) : TT := fun σ H Q => t σ H fun c H1 => if c = true then u σ H1 Q else Q false H1
def rS (t u : TT) : TT := fun σ H Q => t σ H fun c H1 => if c = true then Q true H1 else u σ H1 Q
def sV (t : TT) : TT := fun σ H Q => t σ H fun c H1 => Q (!c) H1
theorem EX (ha : PT X a tA) : PW X (.BoolOp .And [a] pos) tA := by
 intro wh pins s σ H Q I h
 refine isTrue_and (aE (ha pins s σ H Q I h) fun c s1 e => ?_)
 cases c with
 | true => exact isTrue_and_nil e
 | false => exact e
theorem F6 (ha : PT X a tA) : PW X (.BoolOp .Or [a] pos) tA := by
 intro wh pins s σ H Q I h
 refine isTrue_or (aE (ha pins s σ H Q I h) fun c s1 e => ?_)
 cases c with
 | false => exact isTrue_or_nil e
 | true => exact e
theorem Jk (ha : PT X a tA) (hb : PW X (.BoolOp .And (b :: rest) pos) tB') : PW X (.BoolOp .And (a :: b :: rest) pos) (u7 tA tB') := by
 intro wh pins s σ H Q I h
 refine isTrue_and (aE (ha pins s σ H _ I h) fun c s1 ⟨H1, I1, q1⟩ => ?_)
 cases c with
 | true => exact hb wh pins s1 σ H1 Q I1 q1
 | false => exact ⟨H1, I1, q1⟩
theorem JH (ha : PT X a tA) (hb : PW X (.BoolOp .Or (b :: rest) pos) tB') : PW X (.BoolOp .Or (a :: b :: rest) pos) (rS tA tB') := by
 intro wh pins s σ H Q I h
 refine isTrue_or (aE (ha pins s σ H _ I h) fun c s1 ⟨H1, I1, q1⟩ => ?_)
 cases c with
 | true => exact ⟨H1, I1, q1⟩
 | false => exact hb wh pins s1 σ H1 Q I1 q1
theorem Dl (ha : PT X a tA) : PT X (.UnaryOp .Not a pos) (sV tA) := by
 intro pins s σ H Q I h
 exact isTrue_not (ha pins s σ H (fun c H1 => Q (!c) H1) I h)
theorem Fh {op} {t : TE} (h : PE X a t) : PE X (.BoolOp op [a] pos) t := fun pins s σ H Q I hw => BoolOp_one (h pins s σ H Q I hw)
def o8 (t : TT) (ta tb : TE) : TE := fun σ H Q => t σ H fun c H1 => if c = true then ta σ H1 Q else tb σ H1 Q
theorem Li {c : Expr} (hc : PT X c tA) (ha : PE X a ta) (hb : PE X b tb) : PE X (.IfExp c a b pos) (o8 tA ta tb) := by
 intro pins s σ H Q I h
 refine wpAny_IfExp (aE (hc pins s σ H _ I h) fun d s1 ⟨H1, I1, q1⟩ => ?_)
 cases d with
 | true => exact ha pins s1 σ H1 Q I1 q1
 | false => exact hb pins s1 σ H1 Q I1 q1
end
end L2
namespace L2
open PySem PySem.Spec PyProof.Rows
def aL (K : PySem.W.Frag) (H : Hp) (a : Addr) (xs : List V) : Prop :=
 Rd H a (.lst xs) ∨
  ∃ (o : Obj) (its : Array Value) (n : Nat), K.lookup a = some o ∧ o.cls = .type "list" ∧ o.dict = none ∧ o.data = .seq its n ∧ its.size ≤ sizeLine ∧ Vals xs its.toList
def bY (K : PySem.W.Frag) (H : Hp) (a : Addr) (xs : List V) : Prop :=
 Rd H a (.tup xs) ∨
  ∃ (o : Obj) (its : Array Value) (n : Nat), K.lookup a = some o ∧ o.cls = .type "tuple" ∧ o.data = .seq its n ∧ its.size ≤ sizeLine ∧ Vals xs its.toList
def Fi : Value → Option V
 | .none => some .aq
 | .bool b => some (.bl b)
 | .int i _ => some (.int i)
 | .str x _ => some (.str x)
 | .bytes b _ => some (.byt b)
 | .float b _ => some (.hZ b)
 | .ref a => some (.ref a)
 | .type n => some (.ty n)
 | _ => none
theorem RelV.abs {x : V} {u : Value} (r : RelV x u) : Fi u = some x := by
 cases x with
 | aq => cases r; rfl
 | bl _ => cases r; rfl
 | int _ => obtain ⟨t, rfl⟩ := r; rfl
 | str _ => obtain ⟨t, rfl⟩ := r; rfl
 | byt _ => obtain ⟨t, rfl⟩ := r; rfl
 | hZ _ => obtain ⟨t, rfl⟩ := r; rfl
 | ref _ => cases r; rfl
 | ty _ => cases r; rfl
theorem RelV.inj {x y : V} {u : Value} (r : RelV x u) (q : RelV y u) : x = y := Option.some.inj (r.abs.symm.trans q.abs)
theorem Vals.inj : ∀ {xs ys : List V} {us : List Value}, Vals xs us → Vals ys us → xs = ys
 | _, _, _, .nil, .nil => rfl
 | _, _, _, .cons r t, .cons r' t' => by rw [r.inj r', Vals.inj t t']
section
variable {X : Cx} {pins : List (Addr × Obj)} {σ : St} {H : Hp} {s : Shared} {a : Addr} {xs ys : List V}
theorem aL.of {K : PySem.W.Frag} (h : H a = some (.lst xs)) : aL K H a xs := .inl (.inl h)
theorem bY.of {K : PySem.W.Frag} (h : H a = some (.tup xs)) : bY K H a xs := .inl (.inl h)
theorem Inv.list (I : Inv X pins σ H s) (h : aL X.K H a xs) : ∃ its : List Value, Vals xs its ∧ PlainL s.heap a its.toArray ∧ xs.length ≤ sizeLine := by
 rcases h with h | ⟨o, its, n, hk, hc, hd, hs, hz, r⟩
 ·obtain ⟨z, its, n, r, e⟩ := h.ok I.aD
  exact ⟨its, r, ⟨_, n, e, rfl, rfl, rfl⟩, z⟩
 ·refine ⟨its.toList, r, ⟨o, n, I.bx a o hk, hc, hd, by simpa using hs⟩, ?_⟩
  have e := r.length
  simp only [Array.length_toList] at e
  omega
theorem Inv.tuple (I : Inv X pins σ H s) (h : bY X.K H a xs) : ∃ its : List Value, Vals xs its ∧ IsTup s.heap a its.toArray ∧ xs.length ≤ sizeLine := by
 rcases h with h | ⟨o, its, n, hk, hc, hs, hz, r⟩
 ·obtain ⟨z, its, r, p⟩ := h.ok I.aD
  exact ⟨its, r, p, z⟩
 ·refine ⟨its.toList, r, ⟨o, I.bx a o hk, hc, n, by simpa using hs⟩, ?_⟩
  have e := r.length
  simp only [Array.length_toList] at e
  omega
theorem Inv.DY (I : Inv X pins σ H s) (h : aL X.K H a xs) (h' : aL X.K H a ys) : xs = ys := by
 obtain ⟨its, r, ⟨o, n, e, _, _, d⟩, _⟩ := I.list h
 obtain ⟨its', r', ⟨o', n', e', _, _, d'⟩, _⟩ := I.list h'
 rw [e] at e'; cases e'
 rw [d] at d'
 injection d' with d1 _
 have : its = its' := by simpa using congrArg Array.toList d1
 subst this
 exact r.inj r'
end
abbrev Cx.eE (X : Cx) (E : Value → Shared → Prop) : Cx := { X with xe := E }
abbrev Cx.iN (X : Cx) : Cx := X.eE fun _ _ => False
theorem Cx.Ok.eE {X : Cx} (ok : X.Ok) (E : Value → Shared → Prop) : (X.eE E).Ok :=
 ⟨ok.mod, ok.kind, ok.glob, ok.blt, ok.above, ok.inj, ok.has, ok.kF, ok.hd, ok.frames, ok.gq, ok.yA, ok.bs, ok.fm, ok.lR, ok.kb, ok.dF, ok.ig⟩
theorem Cx.Ok.gi {X : Cx} {E : Value → Shared → Prop} (ok : (X.eE E).Ok) : X.Ok :=
 ⟨ok.mod, ok.kind, ok.glob, ok.blt, ok.above, ok.inj, ok.has, ok.kF, ok.hd, ok.frames, ok.gq, ok.yA, ok.bs, ok.fm, ok.lR, ok.kb, ok.dF, ok.ig⟩
section
variable {X : Cx} {pins : List (Addr × Obj)} {σ : St} {H : Hp} {s : Shared} {E : Value → Shared → Prop}
theorem Inv.eE (I : Inv X pins σ H s) (E : Value → Shared → Prop) : Inv (X.eE E) pins σ H s := ⟨I.ok.eE E, I.os, I.bare, I.base, I.loc, I.cell, I.free, I.fo, I.pin, I.aD, I.len⟩
theorem Inv.gi (I : Inv (X.eE E) pins σ H s) : Inv X pins σ H s := ⟨I.ok.gi, I.os, I.bare, I.base, I.loc, I.cell, I.free, I.fo, I.pin, I.aD, I.len⟩
theorem SP.gi {D : Ends} {f : Flow} {s' : Shared} (h : SP (X.eE E) pins D f s') : SP X pins D f s' := by
 cases f with
 | next => obtain ⟨σ', H', I, q⟩ := h; exact ⟨σ', H', I.gi, q⟩
 | brk => obtain ⟨σ', H', I, q⟩ := h; exact ⟨σ', H', I.gi, q⟩
 | cont => obtain ⟨σ', H', I, q⟩ := h; exact ⟨σ', H', I.gi, q⟩
 | ret u => obtain ⟨v, σ', H', I, r, q⟩ := h; exact ⟨v, σ', H', I.gi, r, q⟩
theorem bV.iN {st : List Stmt} {t : TS} (h : bV X.iN st t) : bV X st t := fun pins s σ H D I hw =>
 wpAny_mono (h pins s σ H D (I.eE _) hw) (fun _ _ q => q.gi) fun _ _ z => False.elim z
end
section
variable {X : Cx} {st : Stmt} {rest : List Stmt} {t u : TS} {e : Expr} {te : TE} {pos : Pos}
def uW : TS := fun D σ H => D.nx σ H
def EW (t u : TS) : TS := fun D σ H => t { D with nx := u D } σ H
theorem JI : bV X [] uW := fun _ _ σ H _ I h => wpAny_execs_nil ⟨σ, H, I, h⟩
theorem JL (h1 : PS X st t) (h2 : bV X rest u) : bV X (st :: rest) (EW t u) := by
 intro pins s σ H D I h
 refine wpAny_execs_cons (aE (h1 pins s σ H { D with nx := u D } I h) fun f s1 q => ?_)
 cases f with
 | next =>
  obtain ⟨σ', H', I', q⟩ := q
  exact h2 pins s1 σ' H' D I' q
 | ret v => exact q
 | brk => exact q
 | cont => exact q
theorem Eh (h1 : PS X st t) : bV X [st] t := by
 intro pins s σ H D I h
 refine wpAny_execs_cons (aE (h1 pins s σ H D I h) fun f s1 q => ?_)
 cases f with
 | next => exact wpAny_execs_nil q
 | ret v => exact q
 | brk => exact q
 | cont => exact q
theorem Inv.quiet {pins : List (Addr × Obj)} {σ : St} {H : Hp} {s : Shared} (I : Inv X pins σ H s) : interactive X.env = false := by simp [interactive, I.ok.kind]
def qu (te : TE) : TS := fun D σ H => te σ H fun _ H1 => D.nx σ H1
theorem GN (he : PE X e te) (hs : swapsWith e none pos.line X.env = pure false := by rfl) : PS X (.Expr e pos) (qu te) := by
 intro pins s σ H D I h
 exact wpAny_Expr_any (aE (he pins s σ H _ I h) fun v s1 ⟨x, H1, I1, r1, q1⟩ => ⟨σ, H1, I1, q1⟩) I.quiet hs
def qJ (te : TE) : TS := fun D σ H => te σ H D.rt
theorem G8 (he : PE X e te) : PS X (.Return (some e) pos) (qJ te) := by
 intro pins s σ H D I h
 exact wpAny_Return_some (aE (he pins s σ H _ I h) fun v s1 ⟨x, H1, I1, r1, q1⟩ => ⟨x, σ, H1, I1, r1, q1⟩)
def KW : TS := fun D _ H => D.rt .aq H
def qm (c : TT) (t u : TS) : TS := fun D σ H => c σ H fun b H1 => if b = true then t D σ H1 else u D σ H1
theorem Es {c : Expr} {a b : List Stmt} {tc : TT} (hc : PT X c tc) (ha : bV X a t) (hb : bV X b u) : PS X (.If c a b pos) (qm tc t u) := by
 intro pins s σ H D I h
 refine wpAny_If (aE (hc pins s σ H _ I h) fun d s1 ⟨H1, I1, q1⟩ => ?_)
 cases d with
 | true => exact ha pins s1 σ H1 D I1 q1
 | false => exact hb pins s1 σ H1 D I1 q1
def tX : TS := fun _ _ _ => False
theorem HU : PS X st tX := fun _ _ _ _ _ _ h => h.elim
end
abbrev TG := V → St → Hp → (St → Hp → Prop) → Prop
abbrev d9 := List V → St → Hp → (St → Hp → Prop) → Prop
def PG (X : Cx) (target : Expr) (t : TG) : Prop :=
 ∀ (pins : List (Addr × Obj)) (s : Shared) (σ : St) (H : Hp) (v : V) (u : Value) (Q : St → Hp → Prop), Inv X pins σ H s → RelV v u → t v σ H Q →
  wpAny (model X.prog X.w) X.A (assign target X.env u) (fun _ s' => ∃ σ' H', Inv X pins σ' H' s' ∧ Q σ' H') X.xe s
def ku (X : Cx) (ts : List Expr) (t : d9) : Prop :=
 ∀ (pins : List (Addr × Obj)) (s : Shared) (σ : St) (H : Hp) (vs : List V) (us : List Value) (Q : St → Hp → Prop), Inv X pins σ H s → Vals vs us → t vs σ H Q →
  wpAny (model X.prog X.w) X.A (assignInOrder ((assignEach ts X.env).map (·.2)) us) (fun _ s' => ∃ σ' H', Inv X pins σ' H' s' ∧ Q σ' H') X.xe s
abbrev kK := V → V → V → Hp → (Hp → Prop) → Prop
def mx (X : Cx) (t : kK) : Prop :=
 ∀ (pins : List (Addr × Obj)) (s : Shared) (σ : St) (H : Hp) (o i v : V) (ov iv u : Value) (Q : Hp → Prop), Inv X pins σ H s → RelV o ov → RelV i iv → RelV v u → t o i v H Q →
  wpAny (model X.prog X.w) X.A (setItem ov iv u) (fun _ s' => ∃ H', Inv X pins σ H' s' ∧ Q H') X.xe s
abbrev LC := V → V → Hp → VK → Prop
section
variable {X : Cx} {pos : Pos}
def gj (i : Nat) : TG := fun v σ H Q => Q (σ.set i (some v)) H
theorem yy {i : Nat} {x : Str} (hN : X.N.Nodup) (hi : X.N[i]? = some x) (hx : Loc X.env.scope x) (hf : X.fn x = true ∨ X.env.scope.names.lookup x = some .local := by first | exact .inl rfl | exact .inr rfl | assumption) : PG X (.Name x pos) (gj i) := by
 intro pins s σ H v u Q I r h
 exact wpAny_assign_Name (yU I hN hi hx r (fun s' I' => ⟨_, H, I', h⟩) hf)
def pB : d9 := fun vs σ H Q => vs = [] ∧ Q σ H
def tS (t : TG) (u : d9) : d9 := fun vs σ H Q => ∃ v r, vs = v :: r ∧ t v σ H fun σ' H' => u r σ' H' Q
theorem CD : ku X [] pB := by
 intro pins s σ H vs us Q I r h
 obtain ⟨e, h⟩ := h
 subst e
 cases r
 exact assignInOrder_nil ⟨σ, H, I, h⟩
theorem ET {e : Expr} {es : List Expr} {t : TG} {u : d9} (h1 : PG X e t) (h2 : ku X es u)
  (hs : (assignEach (e :: es) X.env).map (·.2) = assign e X.env :: (assignEach es X.env).map (·.2) := by rfl) : ku X (e :: es) (tS t u) := by
 intro pins s σ H vs us Q I r h
 obtain ⟨v, vr, e1, h⟩ := h
 subst e1
 cases r with
 | cons r rr =>
  rw [hs]
  refine assignInOrder_cons (aE (h1 pins s σ H _ _ _ I r h) fun _ s1 ⟨σ1, H1, I1, q1⟩ => ?_)
  exact h2 pins s1 σ1 H1 _ _ Q I1 rr q1
def sF (K : PySem.W.Frag) (n : Nat) (t : d9) : TG := fun v σ H Q => ∃ a xs, v = .ref a ∧ bY K H a xs ∧ xs.length = n ∧ t xs σ H Q
theorem De {es : List Expr} {k : Nat} {t : d9} {n : Nat} (hc : X.calm = true) (h : ku X es t)
  (hn : (assignEach es X.env).length = n := by rfl) (hst : (assignEach es X.env).findIdx? (·.1) = none := by rfl) : PG X (.Tuple es k pos) (sF X.K n t) := by
 intro pins s σ H v u Q I r hw
 obtain ⟨a, xs, e1, hq, hl, hw⟩ := hw
 subst e1
 cases r
 obtain ⟨its, rv, ht, hz⟩ := I.tuple hq
 refine assign_Tuple_tuple (I.ok.hd hc) ht (by simp [hn, ← hl, rv.length]) hst fun h' hx => ?_
 have I1 : Inv X pins σ H { s with heap := h' } := I.kept (t' := s.toks) fun b o e => hx b o (Nat.ne_of_lt (Heap.lt_size e)) e
 exact h pins _ σ H xs _ Q I1 (by simpa using rv) hw
def sR (to ti : TE) (t : kK) : TG := fun v σ H Q => to σ H fun o H1 => ti σ H1 fun i H2 => t o i v H2 fun H3 => Q σ H3
theorem D2 {o i : Expr} {to ti : TE} {t : kK} (ho : PE X o to) (hi : PE X i ti) (hs : mx X t)
  (ha : ∀ v, assign (.Subscript o i pos) X.env v = (do
   let ov ← holding [v] (eval o X.env)
   let iv ← holding [v, ov] (eval i X.env)
   standAt pos
   holding [v, ov, iv] (setItem ov iv v)
   release [v, ov, iv] []) := by intro _; rfl) : PG X (.Subscript o i pos) (sR to ti t) := by
 intro pins s σ H v u Q I r h
 rw [ha]
 refine wpAny_bind (wpAny_holding (aE (ho pins s σ H _ I h) fun ov s1 ⟨x, H1, I1, r1, q1⟩ => ?_))
 refine wpAny_bind (wpAny_holding (aE (hi pins s1 σ H1 _ I1 q1) fun iv s2 ⟨y, H2, I2, r2, q2⟩ => ?_))
 refine wpAny_bind (wpAny_standAt (wpAny_bind (wpAny_holding (aE (hs pins s2 σ H2 x y v ov iv u _ I2 r1 r2 r q2) fun _ s3 ⟨H3, I3, q3⟩ => ?_))))
 exact wpAny_release ⟨σ, H3, I3, q3⟩
def gL (te : TE) (g : TG) : TS := fun D σ H => te σ H fun x H1 => g x σ H1 D.nx
theorem GZ {tg e : Expr} {te : TE} {g : TG} (he : PE X e te) (hg : PG X tg g) (hs : swapsWithSole [tg] e pos.line X.env = pure false := by rfl) (hw : swappedStores [tg] e X.env = pure none := by rfl)
  (h1 : (assignEach [tg] X.env).map (·.2) = [assign tg X.env] := by rfl) : PS X (.Assign [tg] e pos) (gL te g) := by
 intro pins s σ H D I h
 refine wpAny_Assign_stores (aE (he pins s σ H _ I h) fun v s1 ⟨x, H1, I1, r1, q1⟩ => ?_) hs hw
 rw [h1]
 exact aE (hg pins s1 σ H1 x v _ I1 r1 q1) fun _ s2 q => q
theorem Kj {i : Nat} {x : Str} {e : Expr} {te : TE} {pos' : Pos} (hN : X.N.Nodup) (hi : X.N[i]? = some x) (hx : Loc X.env.scope x) (he : PE X e te) (hs : swapsWith e (some (.Name x pos')) pos.line X.env = pure false := by rfl) (hf : X.fn x = true ∨ X.env.scope.names.lookup x = some .local := by first | exact .inl rfl | exact .inr rfl | assumption) :
  PS X (.Assign [.Name x pos'] e pos) (gL te (gj i)) := by
 intro pins s σ H D I h
 refine wpAny_Assign_Name (aE (he pins s σ H _ I h) fun v s1 ⟨y, H1, I1, r1, q1⟩ => ?_) hs
 exact yU I1 hN hi hx r1 (fun s2 I2 => ⟨_, H1, I2, q1⟩) hf
end
section
variable {X : Cx} {pos : Pos}
def xc (c : TT) (tb : TS) : TS := fun D σ H => ∃ W : Nat → St → Hp → Prop, (∃ m, W m σ H) ∧ ∀ m σ H, W m σ H →
 c σ H fun b H1 => if b = true then ∃ N : St → Hp → Prop, (∀ σ' H', N σ' H' → ∃ m', m' < m ∧ W m' σ' H') ∧ tb { D with nx := N, ct := N, bk := D.nx } σ H1 else D.nx σ H1
theorem J7 {c : Expr} {body : List Stmt} {tc : TT} {tb : TS} (hp : PassesOwn (model X.prog X.w) X.A X.env X.xe) (hc : PT X c tc) (hb : bV X body tb) : PS X (.While c body [] pos) (xc tc tb) := by
 intro pins s σ H D I h
 obtain ⟨W, ⟨m0, w0⟩, turn⟩ := h
 refine wpAny_While (codeAny_whileLoop (fun n s' => ∃ σ' H', Inv X pins σ' H' s' ∧ W n σ' H') ?_ m0 ⟨σ, H, I, w0⟩)
 rintro n s1 ⟨σ1, H1, I1, w1⟩
 refine wpAny_passesOwn hp (aE (hc pins s1 σ1 H1 _ I1 (turn n σ1 H1 w1)) fun b s2 ⟨H2, I2, q2⟩ => ?_)
 cases b with
 | true =>
  obtain ⟨N, hN, q2⟩ := q2
  rw [if_pos rfl]
  refine wpAny_passesOwn hp (aE (hb pins s2 σ1 H2 _ I2 q2) fun f s3 q3 => ?_)
  cases f with
  | next =>
   obtain ⟨σ3, H3, I3, n3⟩ := q3
   obtain ⟨m', hm, w3⟩ := hN σ3 H3 n3
   exact ⟨m', hm, σ3, H3, I3, w3⟩
  | cont =>
   obtain ⟨σ3, H3, I3, n3⟩ := q3
   obtain ⟨m', hm, w3⟩ := hN σ3 H3 n3
   exact ⟨m', hm, σ3, H3, I3, w3⟩
  | brk => exact q3
  | ret v => exact q3
 | false =>
  rw [if_neg Bool.false_ne_true]
  exact wpAny_execs_nil ⟨σ1, H2, I2, q2⟩
end
structure It where
 go : Nat → Hp → Prop
 g9 : Nat → Hp → V → Hp → Prop
 stop : Nat → Hp → Prop
def fq (X : Cx) (pins : List (Addr × Obj)) (H : Hp) (b : Addr) : Prop :=
 H b = none ∧ b ≠ X.env.locals ∧ b ∉ X.fs ∧ (b ∈ X.ex ∨ X.s₀.heap.objs.size ≤ b) ∧ (∀ x c, X.env.cells.lookup x = some c → c ≠ b) ∧ ∀ p ∈ X.pn ++ pins, p.1 ≠ b
theorem Inv.mM {X : Cx} {pins : List (Addr × Obj)} {σ : St} {H H' : Hp} {s : Shared} {b : Addr} (I : Inv X pins σ H s) (hb : s.heap.objs.size ≤ b) (hn : H' b = none) : fq X pins H' b := by
 refine ⟨hn, Nat.ne_of_gt (Nat.lt_of_lt_of_le I.lt hb), I.Az hb, .inr (Nat.le_trans I.sz hb), fun x c e z => ?_, fun p hp z => ?_⟩
 ·obtain ⟨v, q⟩ := I.cell x c e
  exact absurd (Nat.lt_of_lt_of_le q.lt (by rw [z]; exact hb)) (Nat.lt_irrefl _)
 ·exact absurd (Nat.lt_of_lt_of_le (Heap.lt_size (I.pin p hp).1) (by rw [z]; exact hb)) (Nat.lt_irrefl _)
structure Turn (P : Program) (w : World) (K : PySem.W.Frag) (tg : Expr) (J : It) (fp : List Addr) (it : Addr) (tn : Nat → Heap → Prop) : Prop where
 mem : it ∈ fp
 obj : ∀ i h, tn i h → ∀ b ∈ fp, ∃ o, h.get? b = some o ∧ ∀ v, o.data ≠ .cell v
 keep : ∀ i h h', tn i h → (∀ b ∈ fp, ∀ o, h.get? b = some o → h'.get? b = some o) → tn i h'
 item : ∀ (X : Cx), X.prog = P → X.w = w → X.K = K → X.calm = true → ∀ (i : Nat) (pins : List (Addr × Obj)) (s : Shared) (σ : St) (H : Hp) (E : Value → Shared → Prop), Inv X pins σ H s → (∀ b ∈ fp, fq X pins H b) → tn i s.heap → J.go i H →
  wpAny (model P w) X.A (pyNext (.ref it)) (fun r s1 => ∃ u, r = some u ∧
   wpAny (model P w) X.A (letOwnedTupleGo tg (.ref it) u) (fun _ s2 => ∃ x H', Inv X pins σ H' s2 ∧ RelV x u ∧ J.g9 i H x H' ∧ tn (i + 1) s2.heap ∧ ∀ b ∈ fp, H' b = none) E s1) E s
 done : ∀ (X : Cx), X.prog = P → X.w = w → X.K = K → X.calm = true → ∀ (i : Nat) (pins : List (Addr × Obj)) (s : Shared) (σ : St) (H : Hp) (E : Value → Shared → Prop), Inv X pins σ H s → (∀ b ∈ fp, fq X pins H b) → tn i s.heap → J.stop i H →
  wpAny (model P w) X.A (pyNext (.ref it)) (fun r s1 => r = none ∧ Inv X pins σ H s1) E s
 self : ∀ (A : Around) (i : Nat) (s : Shared) (Q : Value → Shared → Prop) (E : Value → Shared → Prop), tn i s.heap → Q (.ref it) s → wpAny (model P w) A (pyIter (.ref it)) Q E s
abbrev TI := St → Hp → (It → Hp → Prop) → Prop
def rN (X : Cx) (pins : List (Addr × Obj)) (σ : St) (tg : Expr) (R : It → Hp → Prop) (itv : Value) (s2 : Shared) : Prop :=
 ∃ (it : Addr) (fp : List Addr) (tn : Nat → Heap → Prop) (J : It) (H' : Hp), itv = .ref it ∧ Inv X pins σ H' s2 ∧ Turn X.prog X.w X.K tg J fp it tn ∧ tn 0 s2.heap ∧ (∀ b ∈ fp, fq X pins H' b) ∧ R J H'
def PI (X : Cx) (tg iter : Expr) (wi : TI) : Prop :=
 ∀ (pins : List (Addr × Obj)) (s : Shared) (σ : St) (H : Hp) (R : It → Hp → Prop), Inv X pins σ H s → wi σ H R →
  wpAny (model X.prog X.w) X.A (eval iter X.env) (fun v s1 => wpAny (model X.prog X.w) X.A (pyIter v) (rN X pins σ tg R) X.xe s1) X.xe s
theorem mz {M : Model} {A : Around} {E : Value → Shared → Prop} {s : Shared} {tg : Expr} {it : Addr} {u : Value} {o : Obj} {n : String} {vs : Array Value} {Q : Unit → Shared → Prop} (ho : s.heap.get? it = some o) (hc : o.cls = .type n) (hd : o.data = .fields vs)
  (hn : ["enumerate", "zip", "dict_itemiterator", "dict_reverseitemiterator", "odict_iterator", "itertools.zip_longest", "itertools.pairwise"].contains n = false) (hQ : Q () s) : wpAny M A (letOwnedTupleGo tg (.ref it) u) Q E s := by
 unfold letOwnedTupleGo
 cases tg <;> first
  | exact wpAny_pure hQ
  | (cases u <;> first
    | exact wpAny_pure hQ
    | (refine wpAny_bind (wpAny_load ho ?_)
       rw [hc, hd]
       show wpAny M A (if (["enumerate", "zip", "dict_itemiterator", "dict_reverseitemiterator", "odict_iterator", "itertools.zip_longest", "itertools.pairwise"].contains n && vs[0]? == some (rawInt _)) = true then _ else _) Q E s
       rw [if_neg (by intro h; rw [hn, Bool.false_and] at h; cases h)]
       exact wpAny_pure hQ))
def gn (K : PySem.W.Frag) (a : Addr) : It :=
 ⟨fun i H => ∃ xs x, aL K H a xs ∧ xs[i]? = some x, fun i H x H' => H' = H ∧ ∀ xs, aL K H a xs → xs[i]? = some x, fun i H => ∃ xs, aL K H a xs ∧ xs.length ≤ i⟩
def gd (lo : Int) (n : Nat) : It := ⟨fun i _ => i < n, fun i H x H' => H' = H ∧ x = .int (lo + i), fun i _ => n ≤ i⟩
theorem El {P : Program} {w : World} {K : PySem.W.Frag} {tg : Expr} (a it : Addr) : Turn P w K tg (gn K a) [it] it (fun i h => h.IsListIter it a i) where
 mem := by simp
 obj := fun i h st b hb => by
  have e : b = it := by simpa using hb
  subst e
  obtain ⟨o, e, c, d⟩ := st
  exact ⟨o, e, fun v z => by rw [d] at z; cases z⟩
 keep := fun i h h' st k => st.at fun o e => k it (by simp) o e
 item := by
  intro X hP hw hK hc i pins s σ H E I hf st hg
  subst hP hw hK
  obtain ⟨xs, x, hq, hx⟩ := hg
  obtain ⟨its, rv, p, hz⟩ := I.list hq
  obtain ⟨u, hu, ru⟩ := rv.get hx
  obtain ⟨f0, f1, f2, f3, f4, f5⟩ := hf it (by simp)
  refine wpAny_pyNext_list_item st p.isList (x := u) (by simpa using hu) fun h' st' sb => ?_
  have I1 : Inv X pins σ H { s with heap := h' } := I.turned (t' := s.toks) (fun b o hb e => (sb.2 b hb).trans e) f0 f1 f3 f4 f5
  obtain ⟨o, e, c, d⟩ := id st'
  exact ⟨u, rfl, mz (s := { s with heap := h' }) e c d (by decide) ⟨x, H, I1, ru, ⟨rfl, fun ys hy => by rw [I.DY hy hq]; exact hx⟩, st', fun b hb => (hf b hb).1⟩⟩
 done := by
  intro X hP hw hK hc i pins s σ H E I hf st hg
  subst hP hw hK
  obtain ⟨xs, hq, hx⟩ := hg
  obtain ⟨its, rv, p, hz⟩ := I.list hq
  obtain ⟨f0, f1, f2, f3, f4, f5⟩ := hf it (by simp)
  have hl := rv.length
  exact wpAny_pyNext_list_end (I.ok.hd hc) st p.isList (by simp; omega) fun h' eb => ⟨rfl, I.turned (t' := s.toks) (fun b o hb e => eb b o hb e) f0 f1 f3 f4 f5⟩
 self := fun _ _ _ _ _ st h => wpAny_pyIter_listiter st h
theorem Iu {P : Program} {w : World} {K : PySem.W.Frag} {tg : Expr} (it : Addr) (lo : Int) (n : Nat) : Turn P w K tg (gd lo n) [it] it (fun i h => IsRangeIter h it (lo + (i : Nat) * 1) ((n : Int) - (i : Nat)) 1) where
 mem := by simp
 obj := fun i h st b hb => by
  have e : b = it := by simpa using hb
  subst e
  exact ⟨_, st, fun v z => by
   have z' : Data.fields _ = Data.cell v := z
   cases z'⟩
 keep := fun i h h' st k => k it (by simp) _ st
 item := by
  intro X hP hw hK hc i pins s σ H E I hf st hg
  subst hP hw hK
  obtain ⟨f0, f1, f2, f3, f4, f5⟩ := hf it (by simp)
  have W := Walks.range (prog := X.prog) (w := X.w) (I.ok.hd hc) it lo 1 n
  refine W.item i s _ _ hg st fun v h' tk hv st' kk => ?_
  obtain ⟨t, rfl⟩ := hv
  have I1 : Inv X pins σ H { s with heap := h', toks := tk } := I.turned (fun b o hb e => kk b o (by simpa using hb) e) f0 f1 f3 f4 f5
  refine ⟨_, rfl, mz (s := { s with heap := h', toks := tk }) (n := "range_iterator") st' rfl rfl (by decide) ⟨.int (lo + i), H, I1, ⟨t, ?_⟩, ⟨rfl, rfl⟩, st', fun b hb => (hf b hb).1⟩⟩
  rw [Int.mul_one]
 done := by
  intro X hP hw hK hc i pins s σ H E I hf st hg
  subst hP hw hK
  obtain ⟨f0, f1, f2, f3, f4, f5⟩ := hf it (by simp)
  exact wpAny_pyNext_range_end (I.ok.hd hc) st (by have : n ≤ i := hg; omega) fun h' eb => ⟨rfl, I.turned (t' := s.toks) (fun b o hb e => eb b o hb e) f0 f1 f3 f4 f5⟩
 self := fun _ _ _ _ _ st h => wpAny_pyIter_rangeiter st h
end L2
namespace L2
open PySem PySem.Spec PyProof.Rows
section
variable {X : Cx} {tg : Expr}
def Cw (K : PySem.W.Frag) (tl : TE) : TI := fun σ H R => tl σ H fun x H1 => ∃ a, x = .ref a ∧ (∃ xs, aL K H1 a xs) ∧ R (gn K a) H1
theorem EC {l : Expr} {tl : TE} (hl : PE X l tl) : PI X tg l (Cw X.K tl) := by
 intro pins s σ H R I h
 refine aE (hl pins s σ H _ I h) fun v s1 ⟨x, H1, I1, r1, q1⟩ => ?_
 obtain ⟨a, e, ⟨xs, hq⟩, q⟩ := q1
 subst e
 cases r1
 obtain ⟨its, rv, p, hz⟩ := I1.list hq
 refine wpAny_pyIter_list p.isList ?_
 refine ⟨s1.heap.objs.size, [s1.heap.objs.size], _, _, H1, rfl, I1.kept (t' := s1.toks) fun b o e => Heap.get?_push_of_some _ e, El a _, ⟨_, Heap.get?_push_size _ rfl, rfl, rfl⟩, fun b hb => ?_, q⟩
 have e : b = s1.heap.objs.size := by simpa using hb
 subst e
 exact I1.mM (Nat.le_refl _) (I1.aD.fresh (Nat.le_refl _))
theorem IM {pins : List (Addr × Obj)} {σ : St} {H : Hp} {s : Shared} {R : It → Hp → Prop} {E : Value → Shared → Prop} {lo hi : Int} {t u v : Tok} {tk : Nat} (I : Inv X pins σ H s) (h1 : -(2 ^ 62) ≤ lo) (h2 : lo < 2 ^ 62) (h3 : -(2 ^ 62) ≤ hi) (h4 : hi < 2 ^ 62)
  (q : R (gd lo (hi - lo).toNat) H) : wpAny (model X.prog X.w) X.A (pyIter (.ref s.heap.objs.size)) (rN X pins σ tg R) E { s with heap := s.heap.push { cls := .type "range", data := .fields #[.int lo t, .int hi u, .int 1 v] }, toks := tk } := by
 refine wpAny_pyIter_range (IsRange.new ..) (small_one h1 h2 h3 h4) ?_
 have I1 : Inv X pins σ H { s with heap := s.heap.push { cls := .type "range", data := .fields #[.int lo t, .int hi u, .int 1 v] }, toks := tk } := I.kept fun b o e => Heap.get?_push_of_some _ e
 refine ⟨(s.heap.push { cls := .type "range", data := .fields #[.int lo t, .int hi u, .int 1 v] }).objs.size, [(s.heap.push { cls := .type "range", data := .fields #[.int lo t, .int hi u, .int 1 v] }).objs.size], _, _, H, rfl,
  I1.kept (t' := tk) fun b o e => Heap.get?_push_of_some _ e, Iu _ lo (hi - lo).toNat, ?_, fun b hb => ?_, q⟩
 ·have e1 : lo + ((0 : Nat) : Int) * 1 = lo := by simp
  have e2 : (((hi - lo).toNat : Nat) : Int) - ((0 : Nat) : Int) = Builtin.Range.rangeSize lo hi 1 := by rw [rangeSize_one]; split <;> omega
  show IsRangeIter _ _ (lo + ((0 : Nat) : Int) * 1) ((((hi - lo).toNat : Nat) : Int) - ((0 : Nat) : Int)) 1
  rw [e1, e2]
  exact Heap.get?_push_size _ rfl
 ·have e : b = (s.heap.push { cls := .type "range", data := .fields #[.int lo t, .int hi u, .int 1 v] }).objs.size := by simpa using hb
  subst e
  exact I1.mM (Nat.le_refl _) (I1.aD.fresh (Nat.le_refl _))
def EM (ta : TA) : TI := fun σ H R => ta σ H fun vs H1 => ∃ j : Int, vs = [.int j] ∧ -(2 ^ 62) ≤ j ∧ j < 2 ^ 62 ∧ R (gd 0 j.toNat) H1
theorem Ik {a : Expr} {ta : TA} {p pos : Pos} (hg : Gl X "range") (hm : X.mg "range" = none) (ha : PA X [a] ta) (hs : starEach [a] X.env = [(false, eval a X.env)] := by rfl) : PI X tg (.Call (.Name "range" p) [a] [] pos) (EM ta) := by
 intro pins s σ H R I h
 refine Call_ (gm I hg hm boot_range (PyProof.Rows.callWith_type1 (aE (ha pos pins s σ H _ I h) fun us s1 ⟨vs, H1, I1, r1, q1⟩ => ?_) hs rfl))
 obtain ⟨j, e, q1, q2, q⟩ := q1
 subst e
 cases r1 with
 | cons r rr =>
  cases rr
  obtain ⟨t, rfl⟩ := r
  exact call_range_1 (IM I1 (by omega) (by omega) q1 q2 (by simpa using q))
def sA (wi : TI) (g : TG) (tb : TS) : TS := fun D σ H => wi σ H fun J H1 => ∃ W : Nat → Nat → St → Hp → Prop, (∃ m, W 0 m σ H1) ∧ ∀ i m σ H, W i m σ H →
 (J.stop i H ∧ D.nx σ H) ∨ (J.go i H ∧ ∃ N : St → Hp → Prop, (∀ σ' H', N σ' H' → ∃ m', m' < m ∧ W (i + 1) m' σ' H') ∧ ∀ x H', J.g9 i H x H' → g x σ H' fun σ2 H2 => tb { D with nx := N, ct := N, bk := D.nx } σ2 H2)
def la (fp : List Addr) (h : Heap) : List (Addr × Obj) := fp.filterMap fun b => (h.get? b).map fun o => (b, o)
theorem nB {fp : List Addr} {h : Heap} {b : Addr} {o : Obj} (hb : b ∈ fp) (e : h.get? b = some o) : (b, o) ∈ la fp h := List.mem_filterMap.mpr ⟨b, hb, by rw [e]; rfl⟩
theorem HJ {fp : List Addr} {h : Heap} {p : Addr × Obj} (hp : p ∈ la fp h) : p.1 ∈ fp ∧ h.get? p.1 = some p.2 := by
 obtain ⟨b, hb, e⟩ := List.mem_filterMap.mp hp
 cases q : h.get? b with
 | none => rw [q] at e; cases e
 | some o =>
  rw [q] at e
  have e' : (b, o) = p := Option.some.inj e
  subst e'
  exact ⟨hb, q⟩
theorem Inv.pinned {pins : List (Addr × Obj)} {σ : St} {H : Hp} {s : Shared} {fp : List Addr} (I : Inv X pins σ H s) (hf : ∀ b ∈ fp, fq X pins H b) (ho : ∀ b ∈ fp, ∃ o, s.heap.get? b = some o ∧ ∀ v, o.data ≠ .cell v) : Inv X (pins ++ la fp s.heap) σ H s :=
 I.kN fun p hp => (List.mem_append.mp hp).elim (fun z => I.pin p (List.mem_append_right _ z)) fun z => by
  obtain ⟨hb, e⟩ := HJ z
  obtain ⟨f0, f1, f2, _⟩ := hf p.1 hb
  obtain ⟨o, e', d⟩ := ho p.1 hb
  rw [e] at e'; cases e'
  exact ⟨e, f0, f1, f2, d⟩
theorem Inv.tU {pins pl : List (Addr × Obj)} {σ : St} {H : Hp} {s : Shared} (I : Inv X (pins ++ pl) σ H s) : Inv X pins σ H s := I.kN fun p hp => I.pin p (List.mem_append_right _ (List.mem_append_left _ hp))
theorem DQ {iter : Expr} {body : List Stmt} {wi : TI} {g : TG} {tb : TS} {pos : Pos} (hp : PassesOwn (model X.prog X.w) X.A X.env X.xe) (hc : X.calm = true) (hi : PI X tg iter wi) (hg : PG X tg g) (hb : bV X body tb)
  (hs : ∀ x, foldedSetIterable iter X.env x = pure x := by intro _; rfl) : PS X (.For tg iter body [] pos) (sA wi g tb) := by
 intro pins s σ H D I h
 refine wpAny_For (aE (hi pins s σ H _ I h) fun v s1 h1 => aE h1 fun itv s2 h2 => ?_) hs
 obtain ⟨it, fp, tn, J, H2, e, I2, T, st2, f2, W, ⟨m0, w0⟩, turn⟩ := h2
 subst e
 -- what stays true of the iterator's objects through the loop
 have vG : ∀ {H' : Hp}, (∀ b ∈ fp, H' b = none) → ∀ b ∈ fp, fq X pins H' b := fun hn b hb => ⟨hn b hb, (f2 b hb).2⟩
 refine codeAny_forLoop_any (fun n s' => ∃ i σ' H', Inv X pins σ' H' s' ∧ tn i s'.heap ∧ (∀ b ∈ fp, H' b = none) ∧ W i n σ' H') ?_ m0 ⟨0, σ, H2, I2, st2, fun b hb => (f2 b hb).1, w0⟩
 rintro n s3 ⟨i, σ3, H3, I3, st3, fr3, w3⟩
 rcases turn i n σ3 H3 w3 with ⟨stop, qn⟩ | ⟨go, N, hN, step⟩
 ·refine wpAny_passesOwn hp (aE (T.done X rfl rfl rfl hc i pins s3 σ3 H3 X.xe I3 (vG fr3) st3 stop) fun r s4 ⟨hr, I4⟩ => ?_)
  subst hr
  exact wpAny_execs_nil ⟨σ3, H3, I4, qn⟩
 ·refine wpAny_passesOwn hp (aE (T.item X rfl rfl rfl hc i pins s3 σ3 H3 X.xe I3 (vG fr3) st3 go) fun r s4 ⟨u, hr, h4⟩ => ?_)
  subst hr
  refine wpAny_passesOwn hp (aE h4 fun _ s5 ⟨x, H5, I5, r5, y5, st5, fr5⟩ => ?_)
  have I5' := I5.pinned (vG fr5) (T.obj _ _ st5)
  refine wpAny_passesOwn hp (aE (hg _ s5 σ3 H5 x u _ I5' r5 (step x H5 y5)) fun _ s6 ⟨σ6, H6, I6, q6⟩ => ?_)
  refine wpAny_passesOwn hp (aE (hb _ s6 σ6 H6 _ I6 q6) fun f s7 q7 => ?_)
  have again : ∀ {σ7 : St} {H7 : Hp}, Inv X (pins ++ la fp s5.heap) σ7 H7 s7 → N σ7 H7 → ∃ m, m < n ∧ ∃ i σ' H', Inv X pins σ' H' s7 ∧ tn i s7.heap ∧ (∀ b ∈ fp, H' b = none) ∧ W i m σ' H' := fun {σ7 H7} I7 n7 => by
   obtain ⟨m', hm, w7⟩ := hN σ7 H7 n7
   refine ⟨m', hm, i + 1, σ7, H7, I7.tU, T.keep _ _ _ st5 fun b hb o e => (I7.pin (b, o) (List.mem_append_right _ (List.mem_append_right _ (nB hb e)))).1, fun b hb => ?_, w7⟩
   obtain ⟨o, e, d⟩ := T.obj _ _ st5 b hb
   exact (I7.pin (b, o) (List.mem_append_right _ (List.mem_append_right _ (nB hb e)))).2.1
  cases f with
  | next => obtain ⟨σ7, H7, I7, n7⟩ := q7; exact again I7 n7
  | cont => obtain ⟨σ7, H7, I7, n7⟩ := q7; exact again I7 n7
  | brk => obtain ⟨σ7, H7, I7, q7⟩ := q7; exact ⟨σ7, H7, I7.tU, q7⟩
  | ret v => obtain ⟨x7, σ7, H7, I7, r7, q7⟩ := q7; exact ⟨x7, σ7, H7, I7.tU, r7, q7⟩
end
theorem E2 {K : PySem.W.Frag} {a : Addr} {xs : List V} {g : TG} {tb : TS} {D : Ends} {σ : St} {H : Hp} (Pv : Nat → St → Hp → Prop) (h0 : Pv 0 σ H) (hl : ∀ i σ H, i ≤ xs.length → Pv i σ H → aL K H a xs)
  (hs : ∀ i x σ H, xs[i]? = some x → Pv i σ H → g x σ H fun σ2 H2 => tb { D with nx := Pv (i + 1), ct := Pv (i + 1), bk := D.nx } σ2 H2) (hd : ∀ σ H, Pv xs.length σ H → D.nx σ H) :
  ∃ W : Nat → Nat → St → Hp → Prop, (∃ m, W 0 m σ H) ∧ ∀ i m σ H, W i m σ H →
   ((gn K a).stop i H ∧ D.nx σ H) ∨ ((gn K a).go i H ∧ ∃ N : St → Hp → Prop, (∀ σ' H', N σ' H' → ∃ m', m' < m ∧ W (i + 1) m' σ' H') ∧ ∀ x H', (gn K a).g9 i H x H' → g x σ H' fun σ2 H2 => tb { D with nx := N, ct := N, bk := D.nx } σ2 H2) := by
 refine ⟨fun i m σ H => m = xs.length - i ∧ i ≤ xs.length ∧ Pv i σ H, ⟨xs.length, by simp, Nat.zero_le _, h0⟩, ?_⟩
 rintro i m σ H ⟨rfl, hi, p⟩
 have q := hl i σ H hi p
 by_cases hlt : i < xs.length
 ·refine .inr ⟨⟨xs, xs[i], q, by simp [hlt]⟩, Pv (i + 1), fun σ' H' p' => ⟨xs.length - (i + 1), by omega, rfl, hlt, p'⟩, fun x H' y => ?_⟩
  obtain ⟨e, y⟩ := y
  subst e
  exact hs i x σ _ (y xs q) p
 ·have e : i = xs.length := by omega
  subst e
  exact .inl ⟨⟨xs, q, Nat.le_refl _⟩, hd σ H p⟩
theorem IL {lo : Int} {n : Nat} {g : TG} {tb : TS} {D : Ends} {σ : St} {H : Hp} (Pv : Nat → St → Hp → Prop) (h0 : Pv 0 σ H)
  (hs : ∀ i σ H, i < n → Pv i σ H → g (.int (lo + i)) σ H fun σ2 H2 => tb { D with nx := Pv (i + 1), ct := Pv (i + 1), bk := D.nx } σ2 H2) (hd : ∀ σ H, Pv n σ H → D.nx σ H) :
  ∃ W : Nat → Nat → St → Hp → Prop, (∃ m, W 0 m σ H) ∧ ∀ i m σ H, W i m σ H →
   ((gd lo n).stop i H ∧ D.nx σ H) ∨ ((gd lo n).go i H ∧ ∃ N : St → Hp → Prop, (∀ σ' H', N σ' H' → ∃ m', m' < m ∧ W (i + 1) m' σ' H') ∧ ∀ x H', (gd lo n).g9 i H x H' → g x σ H' fun σ2 H2 => tb { D with nx := N, ct := N, bk := D.nx } σ2 H2) := by
 refine ⟨fun i m σ H => m = n - i ∧ i ≤ n ∧ Pv i σ H, ⟨n, by simp, Nat.zero_le _, h0⟩, ?_⟩
 rintro i m σ H ⟨rfl, hi, p⟩
 by_cases hlt : i < n
 ·refine .inr ⟨hlt, Pv (i + 1), fun σ' H' p' => ⟨n - (i + 1), by omega, rfl, hlt, p'⟩, fun x H' y => ?_⟩
  obtain ⟨e, y⟩ := y
  subst e y
  exact hs i σ _ hlt p
 ·have e : i = n := by omega
  subst e
  exact .inl ⟨Nat.le_refl _, hd σ H p⟩
end L2
namespace L2
open PySem PySem.Spec PyProof.Rows
abbrev R2 := V → V → Hp → VK → Prop
def aQ (X : Cx) (f : Value → Value → Sem Value) (r : R2) : Prop :=
 ∀ (pins : List (Addr × Obj)) (s : Shared) (σ : St) (H : Hp) (x y : V) (v u : Value) (Q : VK), Inv X pins σ H s → RelV x v → RelV y u → r x y H Q →
  wpAny (model X.prog X.w) X.A (f v u) (EP X pins σ Q) X.xe s
def ko (X : Cx) (f : Value → Sem Value) (r : V → Hp → VK → Prop) : Prop :=
 ∀ (pins : List (Addr × Obj)) (s : Shared) (σ : St) (H : Hp) (x : V) (v : Value) (Q : VK), Inv X pins σ H s → RelV x v → r x H Q →
  wpAny (model X.prog X.w) X.A (f v) (EP X pins σ Q) X.xe s
def bM (X : Cx) (f : Value) (r : List V → Hp → VK → Prop) : Prop :=
 ∀ (pins : List (Addr × Obj)) (s : Shared) (σ : St) (H : Hp) (xs : List V) (us : List Value) (Q : VK), Inv X pins σ H s → Vals xs us → r xs H Q →
  wpAny (model X.prog X.w) X.A (call f us) (EP X pins σ Q) X.xe s
def fO (r : R2) (ta tb : TE) : TE := fun σ H Q => ta σ H fun x H1 => tb σ H1 fun y H2 => r x y H2 Q
def o1 (r : V → Hp → VK → Prop) (ta : TE) : TE := fun σ H Q => ta σ H fun x H1 => r x H1 Q
def rI (C : Int → Int → Prop) (g : Int → Int → V) : R2 := fun x y H Q => ∃ i j, x = .int i ∧ y = .int j ∧ C i j ∧ Q (g i j) H
def fz (g : Int → Int → V) : R2 := fun x y H Q => ∃ i j, x = .int i ∧ y = .int j ∧ Q (g i j) H
def rU (g : Int → V) : V → Hp → VK → Prop := fun x H Q => ∃ i, x = .int i ∧ Q (g i) H
section
variable {X : Cx} {a b c : Expr} {ta tb tc : TE} {pos : Pos}
theorem ua (ha : PE X a ta) (hb : PE X b tb) {pins : List (Addr × Obj)} {s : Shared} {σ : St} {H : Hp} {R : V → V → Hp → Prop} (I : Inv X pins σ H s)
  (h : ta σ H fun x H1 => tb σ H1 fun y H2 => R x y H2) {Q : Value → Shared → Prop} {f : Value → Value → Sem Value}
  (hf : ∀ v u s2 x y H2, Inv X pins σ H2 s2 → RelV x v → RelV y u → R x y H2 → wpAny (model X.prog X.w) X.A (f v u) Q X.xe s2) :
  wpAny (model X.prog X.w) X.A (eval a X.env) (fun v s₁ => wpAny (model X.prog X.w) X.A (eval b X.env) (fun u s₂ => wpAny (model X.prog X.w) X.A (f v u) Q X.xe s₂) X.xe s₁) X.xe s := by
 refine aE (ha pins s σ H _ I h) fun v s1 ⟨x, H1, I1, r1, q1⟩ => ?_
 refine aE (hb pins s1 σ H1 _ I1 q1) fun u s2 ⟨y, H2, I2, r2, q2⟩ => ?_
 exact hf v u s2 x y H2 I2 r1 r2 q2
theorem Ga {op : Operator} {r : R2} (ho : aQ X (binaryOp op) r) (ha : PE X a ta) (hb : PE X b tb) : PE X (.BinOp a op b pos) (fO r ta tb) := by
 intro pins s σ H Q I h
 exact wpAny_BinOp (ua ha hb I h fun v u s2 x y H2 I2 rx ry q => ho pins s2 σ H2 x y v u Q I2 rx ry q)
theorem Cm {op : UnaryOp} {r : V → Hp → VK → Prop} (ho : ko X (unaryOp op) r) (ha : PE X a ta) : PE X (.UnaryOp op a pos) (o1 r ta) := by
 intro pins s σ H Q I h
 exact UnaryOp_ (aE (ha pins s σ H _ I h) fun v s1 ⟨x, H1, I1, r1, q1⟩ => ho pins s1 σ H1 x v Q I1 r1 q1)
theorem rJ {f : Value → Value → Sem Value} {C : Int → Int → Prop} {g : Int → Int → Int}
  (rule : ∀ (i j : Int) (t u : Tok) (s : Shared) (Q : Value → Shared → Prop) (E : Value → Shared → Prop), C i j → Q (.int (g i j) s.toks) { s with toks := s.toks + 1 } → wpAny (model X.prog X.w) X.A (f (.int i t) (.int j u)) Q E s) :
  aQ X f (rI C fun i j => .int (g i j)) := by
 intro pins s σ H x y v u Q I rx ry h
 obtain ⟨i, j, rfl, rfl, hc, q⟩ := h
 obtain ⟨t, rfl⟩ := rx
 obtain ⟨t', rfl⟩ := ry
 exact rule i j t t' s _ _ hc ⟨.int (g i j), H, I.tok _, ⟨_, rfl⟩, q⟩
theorem wZ {f : Value → Value → Sem Value} {g : Int → Int → Int}
  (rule : ∀ (i j : Int) (t u : Tok) (s : Shared) (Q : Value → Shared → Prop) (E : Value → Shared → Prop), Q (.int (g i j) s.toks) { s with toks := s.toks + 1 } → wpAny (model X.prog X.w) X.A (f (.int i t) (.int j u)) Q E s) :
  aQ X f (fz fun i j => .int (g i j)) := by
 intro pins s σ H x y v u Q I rx ry h
 obtain ⟨i, j, rfl, rfl, q⟩ := h
 obtain ⟨t, rfl⟩ := rx
 obtain ⟨t', rfl⟩ := ry
 exact rule i j t t' s _ _ ⟨.int (g i j), H, I.tok _, ⟨_, rfl⟩, q⟩
theorem og {f : Value → Value → Sem Value} {g : Int → Int → Bool}
  (rule : ∀ (i j : Int) (t u : Tok) (s : Shared) (Q : Value → Shared → Prop) (E : Value → Shared → Prop), Q (.bool (g i j)) s → wpAny (model X.prog X.w) X.A (f (.int i t) (.int j u)) Q E s) :
  aQ X f (fz fun i j => .bl (g i j)) := by
 intro pins s σ H x y v u Q I rx ry h
 obtain ⟨i, j, rfl, rfl, q⟩ := h
 obtain ⟨t, rfl⟩ := rx
 obtain ⟨t', rfl⟩ := ry
 exact rule i j t t' s _ _ ⟨.bl (g i j), H, I, rfl, q⟩
def zH (i j : Int) : Prop := 0 < j ∧ j < 1073741824
def jJ (i j : Int) : Prop := (-(2 ^ 64) < i ∧ i < 2 ^ 64) ∨ (-(2 ^ 64) < j ∧ j < 2 ^ 64)
theorem jJ.ok {i j : Int} (h : jJ i j) : IntMulOk i j := by
 rcases h with ⟨h1, h2⟩ | ⟨h1, h2⟩
 ·exact .of_left (intBits_le_64 h1 h2)
 ·exact .of_right (intBits_le_64 h1 h2)
theorem EU : aQ X (binaryOp .Add) (fz fun i j => .int (i + j)) := wZ fun _ _ _ _ _ _ _ q => add_int q
theorem Kg : aQ X (binaryOp .Sub) (fz fun i j => .int (i - j)) := wZ fun _ _ _ _ _ _ _ q => sub_int q
theorem CK : aQ X (binaryOp .Mult) (rI jJ fun i j => .int (i * j)) := rJ fun _ _ _ _ _ _ _ hc q => mul_int q hc.ok
theorem KG : aQ X (binaryOp .FloorDiv) (rI zH fun i j => .int (i / j)) := rJ fun i j _ _ _ _ _ hc q => by
 have h1 : (0 : Int) < j := hc.1
 have h2 : j < 1073741824 := hc.2
 exact floordiv_int (by omega) (by rw [Int.fdiv_eq_ediv_of_nonneg i (by omega)]; exact q) (.inl (PyProof.noPylong_small (by omega)))
theorem II : aQ X (binaryOp .Mod) (rI (fun _ j => 0 < j) fun i j => .int (i % j)) := rJ fun i j _ _ _ _ _ hc q => by
 have h1 : (0 : Int) < j := hc
 exact mod_int' (by omega) (by rw [Int.fmod_eq_emod_of_nonneg i (by omega)]; exact q)
theorem JP {f : Value → Sem Value} {g : Int → Int}
  (rule : ∀ (i : Int) (t : Tok) (s : Shared) (Q : Value → Shared → Prop) (E : Value → Shared → Prop), Q (.int (g i) s.toks) { s with toks := s.toks + 1 } → wpAny (model X.prog X.w) X.A (f (.int i t)) Q E s) :
  ko X f (rU fun i => .int (g i)) := by
 intro pins s σ H x v Q I rx h
 obtain ⟨i, rfl, q⟩ := h
 obtain ⟨t, rfl⟩ := rx
 exact rule i t s _ _ ⟨.int (g i), H, I.tok _, ⟨_, rfl⟩, q⟩
theorem Ii : ko X (unaryOp .USub) (rU fun i => .int (-i)) := JP fun _ _ _ _ _ q => neg_int q
end
def uD : V → V → Bool
 | .aq, .aq => true | .aq, .int _ => true | .int _, .aq => true | .aq, .bl _ => true | .bl _, .aq => true | .aq, .str _ => true | .str _, .aq => true
 | .int _, .int _ => true | .bl _, .bl _ => true | .str _, .str _ => true | .byt _, .byt _ => true
 | .int _, .str _ => true | .str _, .int _ => true | .bl _, .str _ => true | .str _, .bl _ => true
 | _, _ => false
def FG : R2 := fun x y H Q => uD x y = true ∧ Q (.bl (decide (x = y))) H
def JE : R2 := fun x y H Q => uD x y = true ∧ Q (.bl (!decide (x = y))) H
theorem AR {i j : Int} : decide (V.int i = V.int j) = (i == j) := by
 rw [Bool.eq_iff_iff]
 simp
theorem Ay {i j : Bool} : decide (V.bl i = V.bl j) = (i == j) := by
 rw [Bool.eq_iff_iff]
 simp
theorem yw {i j : Str} : decide (V.str i = V.str j) = (i == j) := by
 rw [Bool.eq_iff_iff]
 simp
theorem xf {i j : Array UInt8} : decide (V.byt i = V.byt j) = (i.toList == j.toList) := by
 rw [Bool.eq_iff_iff]
 cases i
 cases j
 simp
section
variable {X : Cx} {a b c : Expr} {ta tb tc : TE} {pos : Pos}
theorem bw {pins : List (Addr × Obj)} {σ : St} {H : Hp} {s : Shared} {Q : VK} {k k' : Bool} (I : Inv X pins σ H s) (q : Q (.bl k) H) (e : k = k') : EP X pins σ Q (.bool k') s := by
 subst e
 exact ⟨.bl k, H, I, rfl, q⟩
theorem IH : aQ X (compareOp .Eq) FG := by
 intro pins s σ H x y v u Q I rx ry h
 obtain ⟨hs, q⟩ := h
 cases x with
 | aq =>
  cases rx
  cases y with
  | aq => cases ry; exact PySem.EqNone.eq_none_none (bw I q (by simp))
  | bl j => cases ry; exact PySem.EqNone.eq_none_bool (bw I q (by simp))
  | int j => obtain ⟨t', rfl⟩ := ry; exact PySem.EqNone.eq_none_int (bw I q (by simp))
  | str j => obtain ⟨t', rfl⟩ := ry; exact PySem.EqNone.eq_none_str (bw I q (by simp))
  | _ => exact absurd (show false = true from hs) Bool.false_ne_true
 | bl i =>
  cases rx
  cases y with
  | aq => cases ry; exact PySem.EqNone.eq_bool_none (bw I q (by simp))
  | bl j => cases ry; exact eq_bool (bw I q Ay)
  | str j => obtain ⟨t', rfl⟩ := ry; exact PySem.EqMixed.eq_bool_str (bw I q (by simp))
  | _ => exact absurd (show false = true from hs) Bool.false_ne_true
 | int i =>
  obtain ⟨t, rfl⟩ := rx
  cases y with
  | aq => cases ry; exact PySem.EqNone.eq_int_none (bw I q (by simp))
  | int j => obtain ⟨t', rfl⟩ := ry; exact eq_int (bw I q AR)
  | str j => obtain ⟨t', rfl⟩ := ry; exact PySem.EqMixed.eq_int_str (bw I q (by simp))
  | _ => exact absurd (show false = true from hs) Bool.false_ne_true
 | str i =>
  obtain ⟨t, rfl⟩ := rx
  cases y with
  | aq => cases ry; exact PySem.EqNone.eq_str_none (bw I q (by simp))
  | bl j => cases ry; exact PySem.EqMixed.eq_str_bool (bw I q (by simp))
  | int j => obtain ⟨t', rfl⟩ := ry; exact PySem.EqMixed.eq_str_int (bw I q (by simp))
  | str j => obtain ⟨t', rfl⟩ := ry; exact eq_str (bw I q yw)
  | _ => exact absurd (show false = true from hs) Bool.false_ne_true
 | byt i =>
  obtain ⟨t, rfl⟩ := rx
  cases y with
  | byt j => obtain ⟨t', rfl⟩ := ry; exact PySem.W.eq_bytes (bw I q xf)
  | _ => exact absurd (show false = true from hs) Bool.false_ne_true
 | _ => cases y <;> exact absurd (show false = true from hs) Bool.false_ne_true
theorem Lk : aQ X (compareOp .NotEq) JE := by
 intro pins s σ H x y v u Q I rx ry h
 obtain ⟨hs, q⟩ := h
 cases x with
 | aq =>
  cases rx
  cases y with
  | aq => cases ry; exact PySem.EqNone.ne_none_none (bw I q (by simp))
  | bl j => cases ry; exact PySem.EqNone.ne_none_bool (bw I q (by simp))
  | int j => obtain ⟨t', rfl⟩ := ry; exact PySem.EqNone.ne_none_int (bw I q (by simp))
  | str j => obtain ⟨t', rfl⟩ := ry; exact PySem.EqNone.ne_none_str (bw I q (by simp))
  | _ => exact absurd (show false = true from hs) Bool.false_ne_true
 | bl i =>
  cases rx
  cases y with
  | aq => cases ry; exact PySem.EqNone.ne_bool_none (bw I q (by simp))
  | bl j => cases ry; exact ne_bool (bw I q (congrArg not Ay))
  | str j => obtain ⟨t', rfl⟩ := ry; exact PySem.EqMixed.ne_bool_str (bw I q (by simp))
  | _ => exact absurd (show false = true from hs) Bool.false_ne_true
 | int i =>
  obtain ⟨t, rfl⟩ := rx
  cases y with
  | aq => cases ry; exact PySem.EqNone.ne_int_none (bw I q (by simp))
  | int j => obtain ⟨t', rfl⟩ := ry; exact ne_int (bw I q (congrArg not AR))
  | str j => obtain ⟨t', rfl⟩ := ry; exact PySem.EqMixed.ne_int_str (bw I q (by simp))
  | _ => exact absurd (show false = true from hs) Bool.false_ne_true
 | str i =>
  obtain ⟨t, rfl⟩ := rx
  cases y with
  | aq => cases ry; exact PySem.EqNone.ne_str_none (bw I q (by simp))
  | bl j => cases ry; exact PySem.EqMixed.ne_str_bool (bw I q (by simp))
  | int j => obtain ⟨t', rfl⟩ := ry; exact PySem.EqMixed.ne_str_int (bw I q (by simp))
  | str j => obtain ⟨t', rfl⟩ := ry; exact ne_str (bw I q (congrArg not yw))
  | _ => exact absurd (show false = true from hs) Bool.false_ne_true
 | byt i =>
  obtain ⟨t, rfl⟩ := rx
  cases y with
  | byt j => obtain ⟨t', rfl⟩ := ry; exact PySem.W.ne_bytes (bw I q (congrArg not xf))
  | _ => exact absurd (show false = true from hs) Bool.false_ne_true
 | _ => cases y <;> exact absurd (show false = true from hs) Bool.false_ne_true
theorem KZ : aQ X (compareOp .Lt) (fz fun i j => .bl (decide (i < j))) := og fun _ _ _ _ _ _ _ q => lt_int q
theorem Kq : aQ X (compareOp .LtE) (fz fun i j => .bl (decide (i ≤ j))) := og fun _ _ _ _ _ _ _ q => le_int q
theorem IC : aQ X (compareOp .Gt) (fz fun i j => .bl (decide (j < i))) := og fun _ _ _ _ _ _ _ q => gt_int q
theorem HA : aQ X (compareOp .GtE) (fz fun i j => .bl (decide (j ≤ i))) := og fun _ _ _ _ _ _ _ q => ge_int q
theorem Gw : aQ X (compareOp .In) (fun x y H Q => ∃ i j, x = .str i ∧ y = .str j ∧ Q (.bl (!(Builtin.Str.occurrences j i 0 j.length 1).isEmpty)) H) := by
 intro pins s σ H x y v u Q I rx ry h
 obtain ⟨i, j, rfl, rfl, q⟩ := h
 obtain ⟨t, rfl⟩ := rx
 obtain ⟨t', rfl⟩ := ry
 exact in_str (bw I q rfl)
theorem iP : aQ X (compareOp .Is) (fun x y H Q => y = .aq ∧ Q (.bl (decide (x = .aq))) H) := by
 intro pins s σ H x y v u Q I rx ry h
 obtain ⟨rfl, q⟩ := h
 cases ry
 refine is_none_gen (bw I q ?_)
 cases x <;> first
  | (cases rx; rfl)
  | (obtain ⟨t, rfl⟩ := rx; rfl)
theorem mC : aQ X (compareOp .IsNot) (fun x y H Q => y = .aq ∧ Q (.bl (!decide (x = .aq))) H) := by
 intro pins s σ H x y v u Q I rx ry h
 obtain ⟨rfl, q⟩ := h
 cases ry
 refine isnot_none_gen (bw I q ?_)
 cases x <;> first
  | (cases rx; rfl)
  | (obtain ⟨t, rfl⟩ := rx; rfl)
theorem aQ.or {f : Value → Value → Sem Value} {r r' : R2} (h : aQ X f r) (h' : aQ X f r') : aQ X f (fun x y H Q => r x y H Q ∨ r' x y H Q) := by
 intro pins s σ H x y v u Q I rx ry q
 rcases q with q | q
 ·exact h pins s σ H x y v u Q I rx ry q
 ·exact h' pins s σ H x y v u Q I rx ry q
theorem HX {op : CmpOp} {r : R2} (ho : aQ X (compareOp op) r) (ha : PE X a ta) (hb : PE X b tb) (hm : behindInMarks op b = false) : PE X (.Compare a [op] [b] pos) (fO r ta tb) := by
 intro pins s σ H Q I h
 exact wpAny_Compare1 (ua ha hb I h fun v u s2 x y H2 I2 rx ry q => ho pins s2 σ H2 x y v u Q I2 rx ry q) hm
theorem kH : (sizeLine : Nat) < 2 ^ 63 := by rw [sizeLine_eq]; decide
theorem Ho : aQ X (binaryOp .Add) (fun x y H Q => ∃ i j, x = .str i ∧ y = .str j ∧ i.length + j.length ≤ sizeLine ∧ Q (.str (i ++ j)) H) := by
 intro pins s σ H x y v u Q I rx ry h
 obtain ⟨i, j, rfl, rfl, hz, q⟩ := h
 obtain ⟨t, rfl⟩ := rx
 obtain ⟨t', rfl⟩ := ry
 exact add_str (fun t' tk => ⟨.str (i ++ j), H, I.tok _, ⟨_, rfl⟩, q⟩) hz
theorem vals1 {x : V} {us : List Value} (r : Vals [x] us) : ∃ u, us = [u] ∧ RelV x u := by
 cases r with
 | cons r1 r2 => cases r2; exact ⟨_, rfl, r1⟩
theorem vals2 {x y : V} {us : List Value} (r : Vals [x, y] us) : ∃ u w', us = [u, w'] ∧ RelV x u ∧ RelV y w' := by
 cases r with
 | cons r1 r2 =>
  cases r2 with
  | cons r3 r4 => cases r4; exact ⟨_, _, rfl, r1, r3⟩
def C9 (K : PySem.W.Frag) (x : V) (H : Hp) (n : Nat) : Prop :=
 match x with
 | .str y => y.length ≤ sizeLine ∧ n = y.length
 | .byt y => y.size ≤ sizeLine ∧ n = y.size
 | .ref p => (∃ xs, aL K H p xs ∧ n = xs.length) ∨ ∃ xs, bY K H p xs ∧ n = xs.length
 | _ => False
theorem Ab : bM X (.builtin "len") (fun xs H Q => ∃ x n, xs = [x] ∧ C9 X.K x H n ∧ Q (.int n) H) := by
 intro pins s σ H xs us Q I r h
 obtain ⟨x, n, rfl, e, q⟩ := h
 obtain ⟨u, rfl, rx⟩ := vals1 r
 have hl := kH
 have hs : sizeLine = 16777216 := sizeLine_eq
 cases x with
 | str y =>
  obtain ⟨t, rfl⟩ := rx
  obtain ⟨hy, e'⟩ : y.length ≤ sizeLine ∧ n = y.length := e
  subst e'
  exact len_str (by omega) ⟨.int _, H, I.tok _, ⟨_, rfl⟩, q⟩
 | byt y =>
  obtain ⟨t, rfl⟩ := rx
  obtain ⟨hy, e'⟩ : y.size ≤ sizeLine ∧ n = y.size := e
  subst e'
  exact PySem.W.len_bytes (by omega) ⟨.int _, H, I.tok _, ⟨_, rfl⟩, q⟩
 | ref p =>
  cases rx
  have e' : (∃ xs, aL X.K H p xs ∧ n = xs.length) ∨ ∃ xs, bY X.K H p xs ∧ n = xs.length := e
  rcases e' with ⟨xs, hx, e'⟩ | ⟨xs, hx, e'⟩
  ·subst e'
   obtain ⟨its, r', pl, hz⟩ := I.list hx
   have hlen := r'.length
   exact Calls.call_len_list pl.isList (by simp only [List.size_toArray]; omega) ⟨.int xs.length, H, I.tok _, ⟨_, by simp only [List.size_toArray]; rw [hlen]⟩, q⟩
  ·subst e'
   obtain ⟨its, r', pl, hz⟩ := I.tuple hx
   have hlen := r'.length
   exact len_tuple pl (by simp only [List.size_toArray]; omega) ⟨.int xs.length, H, I.tok _, ⟨_, by simp only [List.size_toArray]; rw [hlen]⟩, q⟩
 | _ => exact (show False from e).elim
end
end L2
namespace L2
open PySem PySem.Spec PyProof.Rows
structure gJ (h : Heap) (x dx C : Addr) (mA : Str → Option Value) : Prop where
 obj : h.get? x = some (PySem.W.instObj C dx)
 ns : h.Ns1 dx mA
 ne : dx ≠ x
theorem KH {h : Heap} {dx : Addr} {mA : Str → Option Value} (n : h.Ns1 dx mA) : ∃ od, h.get? dx = some od ∧ ∀ name, PySem.W.lookIn name od = some (mA name) := by
 obtain ⟨o, es, ep, ho, hd, hk, _, hm⟩ := n
 refine ⟨o, ho, fun name => ?_⟩
 have e := hm name
 unfold nsFind findBy at e
 rw [← Array.find?_toList] at e
 unfold PySem.W.lookIn
 rw [hd]
 dsimp only
 split
 ·rename_i y q
  rw [q] at e
  exact congrArg some e
 ·rename_i q
  rw [q] at e
  have a : es.toList.any (·.refKey) = false := by
   rw [List.any_eq_false]
   intro y hy
   obtain ⟨z, t, hkey⟩ := hk y (Array.mem_toList_iff.mp hy)
   simp [DictEntry.refKey, hkey]
  have a' : ¬ es.toList.any (·.refKey) = true := by rw [a]; exact Bool.false_ne_true
  rw [if_neg a']
  exact congrArg some e
theorem gJ.look {h : Heap} {x dx C : Addr} {mA : Str → Option Value} (I : gJ h x dx C mA) : ∃ od, PySem.W.InstAt h x (PySem.W.instObj C dx) C (some od) ∧ ∀ name, PySem.W.lookIn name od = some (mA name) :=
 let ⟨od, ho, hl⟩ := KH I.ns
 ⟨od, ⟨I.obj, rfl, rfl, ho⟩, hl⟩
section
variable {prog : Program} {w : World} {A : Around} {E : Value → Shared → Prop} {s : Shared} {K : PySem.W.Frag} {x dx C f : Addr} {mA : Str → Option Value} {name : Str} {v : Value}
theorem get_map {expr : Bool} {Q : Value → Shared → Prop} (X : K.In s.heap) (I : gJ s.heap x dx C mA) (hg : PySem.W.plainGet K C name = true) (hh : PySem.W.hasDictIn K C = true)
  (ha : PySem.W.findIn K (.ref C) name = some none) (hv : mA name = some v) (hv' : PySem.W.handedIn v = true) (h : Q v { s with toks := s.toks + 1 }) :
  wpAny (model prog w) A (getAttr (.ref x) name expr) Q E s := by
 obtain ⟨od, J, hl⟩ := I.look
 exact PySem.W.get_value X J (PySem.W.plainGet_of hg).1 (PySem.W.findObj_own hh ha rfl (by rw [hl, hv])) hv' h
theorem Lh {pl : Sem Bool} {Q : Value × List Value → Shared → Prop} (X : K.In s.heap) (I : gJ s.heap x dx C mA) (hg : PySem.W.plainGet K C name = true)
  (hf : PySem.W.findIn K (.ref C) name = some (some (.ref f))) (ht : PySem.W.isFn K (.ref f) = true) (hv : mA name = none) (h : Q (.ref f, [.ref x]) s) :
  wpAny (model prog w) A (getMethod (.ref x) name pl) Q E s := by
 obtain ⟨od, J, hl⟩ := I.look
 exact PySem.W.method_fn X J (PySem.W.plainGet_of hg).1 (PySem.W.plainGet_of hg).2 hf (beq_iff_eq.mp ht) (by show (PySem.W.lookIn name od).map (·.isSome) = some false; rw [hl, hv]; rfl) h
theorem DZ {ns : List Str} {Q : Unit → Shared → Prop} (X : K.In s.heap) (I : gJ s.heap x dx C mA)
  (hs : PySem.W.findIn K (.ref C) "__setattr__" = some (some (.builtin "object.__setattr__"))) (hp : PySem.W.plainOver K C = true) (ht : PySem.W.takerIn K C name = some none) (hh : PySem.W.hasDictIn K C = true)
  (hw : PySem.Within mA ns) (hsz : ns.length ≤ sizeLine)
  (h : ∀ h', gJ h' x dx C (fun y => if y = name then some v else mA y) → Heap.SameBut dx s.heap h' → Q () { s with heap := h', toks := s.toks + 2 }) :
  wpAny (model prog w) A (setAttr (.ref x) name v) Q E s := by
 obtain ⟨od, J, hl⟩ := I.look
 refine PySem.W.set_plain X J hs (PySem.W.osa_open (s := { s with toks := s.toks + 1 }) (r := none) X J hp ht fun b => ?_)
 obtain ⟨cd, hc, hd'⟩ := PySem.W.any_some hh
 have hx : s.heap.get? x = some ⟨.ref C, some dx, .plain, #[]⟩ := I.obj
 refine wpAny_bind (wpAny_pure (wpAny_bind (wpAny_bind (wpAny_loadPart hx (wpAny_bind (PySem.W.Looks.here (s := { s with toks := s.toks + 1 }) (PySem.W.looks_clsIn X hc) ?_))))))
 rw [hd']
 refine wpAny_pure (a := some dx) (wpAny_bind (wpAny_pure (wpAny_bind ?_)))
 refine wpAny_nsSet1 (s := { s with toks := s.toks + 1 }) I.ns fun h' hn2 hs2 => ?_
 obtain ⟨oD, esD, epD, hoD, hdD, hcD⟩ := hn2.count (PySem.Within.cons name v hw)
 refine wpAny_bind (wpAny_lookBehind hoD (by rw [hdD]; exact pastItsLine_dict (Nat.le_trans hcD (by rw [List.length_cons]; omega))) ?_)
 exact wpAny_pure (h _ ⟨(hs2.2 _ (Ne.symm I.ne)).trans I.obj, hn2, I.ne⟩ hs2)
theorem Fs {R : Result → Shared → Prop} {vs : List Value} {kw : List (Str × Value)} (X : K.In s.heap) (hm : PySem.W.makesIn K C = true)
  (hi : PySem.W.findIn K (.ref C) "__init__" = some (some (.ref f))) (hf : PySem.W.typeIn K (.ref f) = some (.type "function"))
  (h : codeAny (model prog w) (A.under (.builtin "type.__call__" ⟨.ref C :: vs, kw⟩)) (.call (.ref f) ⟨.ref (s.heap.objs.size + 1) :: vs, kw⟩) (PySem.W.InitBack (s.heap.objs.size + 1) R)
   { s with heap := (s.heap.push PySem.W.emptyDict).push (PySem.W.instObj C s.heap.objs.size) }) :
  codeAny (model prog w) A (.call (.ref C) ⟨vs, kw⟩) R s := by
 obtain ⟨hh, g, d, t, os⟩ := s
 exact PySem.W.make_core (PySem.W.makes_of X hm) (PySem.W.looks_findIn X hi) (fun self => PySem.W.bind_fn X self hf) (.inl rfl) h
end
def aa (f : Str) (v : V) : List (Str × V) → List (Str × V)
 | [] => [(f, v)]
 | (g, x) :: r => if g = f then (g, v) :: r else (g, x) :: aa f v r
theorem bS (f g : Str) (v : V) : ∀ fs : List (Str × V), (aa f v fs).lookup g = if g = f then some v else fs.lookup g
 | [] => by
  show List.lookup g [(f, v)] = _
  by_cases h : g = f
  ·have hb : (g == f) = true := beq_iff_eq.mpr h
   simp only [List.lookup, hb, if_pos h]
  ·have hb : (g == f) = false := beq_eq_false_iff_ne.mpr h
   simp only [List.lookup, hb, if_neg h]
 | (k, x) :: r => by
  have ih := bS f g v r
  rw [show aa f v ((k, x) :: r) = (if k = f then (k, v) :: r else (k, x) :: aa f v r) from rfl]
  by_cases hk : k = f
  ·rw [if_pos hk]
   by_cases h : g = k
   ·have hb : (g == k) = true := beq_iff_eq.mpr h
    simp only [List.lookup, hb, if_pos (h.trans hk)]
   ·have hb : (g == k) = false := beq_eq_false_iff_ne.mpr h
    simp only [List.lookup, hb, if_neg (fun e : g = f => h (e.trans hk.symm))]
  ·rw [if_neg hk]
   by_cases h : g = k
   ·have hb : (g == k) = true := beq_iff_eq.mpr h
    simp only [List.lookup, hb, if_neg (fun e : g = f => hk (h.symm.trans e))]
   ·have hb : (g == k) = false := beq_eq_false_iff_ne.mpr h
    simp only [List.lookup, hb]
    exact ih
theorem tV (f : Str) (v : V) : ∀ fs : List (Str × V), f ∈ (aa f v fs).map (·.1) ∧ ∀ g, g ∈ fs.map (·.1) → g ∈ (aa f v fs).map (·.1)
 | [] => ⟨by simp [aa], fun g h => by simp at h⟩
 | (k, x) :: r => by
  obtain ⟨i1, i2⟩ := tV f v r
  rw [show aa f v ((k, x) :: r) = (if k = f then (k, v) :: r else (k, x) :: aa f v r) from rfl]
  by_cases hk : k = f
  ·rw [if_pos hk]
   subst hk
   exact ⟨by simp, fun g h => by simpa using h⟩
  ·rw [if_neg hk]
   refine ⟨?_, fun g h => ?_⟩
   ·rw [List.map_cons]
    exact List.mem_cons_of_mem _ i1
   ·rw [List.map_cons] at h ⊢
    rcases List.mem_cons.mp h with e | e
    ·exact List.mem_cons.mpr (.inl e)
    ·exact List.mem_cons_of_mem _ (i2 g e)
theorem u5 (f : Str) (v : V) : ∀ fs : List (Str × V), (aa f v fs).length ≤ fs.length + 1
 | [] => by simp [aa]
 | (k, x) :: r => by
  have ih := u5 f v r
  rw [show aa f v ((k, x) :: r) = (if k = f then (k, v) :: r else (k, x) :: aa f v r) from rfl]
  by_cases hk : k = f
  ·rw [if_pos hk, List.length_cons, List.length_cons]; omega
  ·rw [if_neg hk, List.length_cons, List.length_cons]; omega
theorem cz.some_of {v : V} {o : Option Value} (r : cz (some v) o) : ∃ u, o = some u ∧ RelV v u := by
 cases o with
 | none => exact (show False from r).elim
 | some u => exact ⟨u, rfl, r⟩
theorem cz.none_of {o : Option Value} (r : cz none o) : o = none := by
 cases o with
 | none => rfl
 | some u => exact (show False from r).elim
theorem IQ {v : V} {u : Value} (r : RelV v u) : PySem.W.handedIn u = true := by
 cases v with
 | aq => cases (show u = Value.none from r); rfl
 | bl b => cases (show u = Value.bool b from r); rfl
 | int i => obtain ⟨t, e⟩ := (show ∃ t, u = Value.int i t from r); cases e; rfl
 | str x => obtain ⟨t, e⟩ := (show ∃ t, u = Value.str x t from r); cases e; rfl
 | byt b => obtain ⟨t, e⟩ := (show ∃ t, u = Value.bytes b t from r); cases e; rfl
 | hZ b => obtain ⟨t, e⟩ := (show ∃ t, u = Value.float b t from r); cases e; rfl
 | ref a => cases (show u = Value.ref a from r); rfl
 | ty n => cases (show u = Value.type n from r); rfl
section
variable {P : Program} {w : World} {H H' : Hp} {h h' : Heap} {a C dx : Addr} {fs fs' : List (Str × V)}
theorem mK (aD : bt P w H h) (e : H a = some (.ins C dx fs)) : ∃ mA, gJ h a dx C mA ∧ (∀ f, cz (fs.lookup f) (mA f)) ∧ PySem.Within mA (fs.map (·.1)) ∧ fs.length ≤ 1000 ∧ H dx = some (.own a) := by
 obtain ⟨d, z, ne, ob, mA, n, r, q⟩ := (show br P w H h a (.ins C dx fs) from aD a _ e)
 exact ⟨mA, ⟨ob, n, ne⟩, r, q, z, d⟩
end
structure bK (K : PySem.W.Frag) (C : Addr) : Prop where
 pg : PySem.W.plainGet K C Str.empty = true
 hd : PySem.W.hasDictIn K C = true
 po : PySem.W.plainOver K C = true
 sa : PySem.W.findIn K (.ref C) "__setattr__" = some (some (.builtin "object.__setattr__"))
theorem bK.get {K : PySem.W.Frag} {C : Addr} (c : bK K C) (f : Str) : PySem.W.plainGet K C f = true := c.pg
def aZ (K : PySem.W.Frag) (C : Addr) (f : Str) : Prop := PySem.W.findIn K (.ref C) f = some none
theorem aZ.HY {K : PySem.W.Frag} {C : Addr} {f : Str} (n : aZ K C f) : PySem.W.takerIn K C f = some none := by
 unfold PySem.W.takerIn
 rw [show PySem.W.findIn K (.ref C) f = some none from n]
 rfl
structure LJ (K : PySem.W.Frag) (C : Addr) (f : Str) (v : V) (u : Value) : Prop where
 at_ : PySem.W.findIn K (.ref C) f = some (some u)
 rel : RelV v u
 get : PySem.W.specialIn K u "__get__" = some none
 cp : PySem.W.copiedNames.contains f = false
structure Meth (K : PySem.W.Frag) (C : Addr) (m : Str) (f : Addr) : Prop where
 at_ : PySem.W.findIn K (.ref C) m = some (some (.ref f))
 fn : PySem.W.isFn K (.ref f) = true
 kp : PySem.W.keepIn K (.ref f) = true
section
variable {X : Cx} {pins : List (Addr × Obj)} {σ : St} {H : Hp} {s : Shared} {a C dx : Addr} {fs : List (Str × V)} {f : Str} {v : V} {A : Around} {E : Value → Shared → Prop}
theorem yn {b : Bool} {Q : Value → Shared → Prop} (I : Inv X pins σ H s) (e : H a = some (.ins C dx fs)) (c : bK X.K C) (n : aZ X.K C f) (l : fs.lookup f = some v)
  (h : ∀ u s', Inv X pins σ H s' → RelV v u → Q u s') : wpAny (model X.prog X.w) A (getAttr (.ref a) f b) Q E s := by
 obtain ⟨mA, O, r, _, _, _⟩ := mK I.aD e
 obtain ⟨u, hu, ru⟩ := cz.some_of (v := v) (o := mA f) (by rw [← l]; exact r f)
 exact get_map I.bx O (c.get f) c.hd n hu (IQ ru) (h u _ (I.tok _) ru)
theorem pK {m : Str} {g : Addr} {pl : Sem Bool} {Q : Value × List Value → Shared → Prop} (I : Inv X pins σ H s) (e : H a = some (.ins C dx fs)) (c : bK X.K C) (k : Meth X.K C m g) (l : fs.lookup m = none)
  (h : Q (.ref g, [.ref a]) s) : wpAny (model X.prog X.w) A (getMethod (.ref a) m pl) Q E s := by
 obtain ⟨mA, O, r, _, _, _⟩ := mK I.aD e
 have hn : mA m = none := cz.none_of (by rw [← l]; exact r m)
 exact Lh I.bx O (c.get m) k.at_ k.fn hn h
theorem yp {y : V} {u : Value} {Q : Unit → Shared → Prop} (I : Inv X pins σ H s) (e : H a = some (.ins C dx fs)) (c : bK X.K C) (n : aZ X.K C f) (hl : fs.length < 1000) (ry : RelV y u)
  (h : ∀ s', Inv X pins σ (upd H a (.ins C dx (aa f y fs))) s' → Q () s') : wpAny (model X.prog X.w) A (setAttr (.ref a) f u) Q E s := by
 obtain ⟨mA, O, r, wi, _, ho⟩ := mK I.aD e
 have hz : (fs.map (·.1)).length ≤ sizeLine := by rw [List.length_map, sizeLine_eq]; omega
 refine DZ I.bx O c.sa c.po n.HY c.hd wi hz fun h' O' sb => h _ ?_
 have hd : ∃ o, h'.get? dx = some o := let ⟨o, _, _, e', _⟩ := O'.ns; ⟨o, e'⟩
 refine I.write (x := a) (e := dx) (by rw [e]; exact True.intro) (.inr ho) (fun b q hb z => (sb.2 b hb).trans z) hd ?_
 refine ⟨by rw [ah O.ne]; exact ho, ?_, O.ne, O'.obj, _, O'.ns, fun g => ?_, fun g hg => ?_⟩
 ·have := u5 f y fs; omega
 ·show cz ((aa f y fs).lookup g) (if g = f then some u else mA g)
  rw [bS]
  by_cases q : g = f
  ·rw [if_pos q, if_pos q]; exact ry
  ·rw [if_neg q, if_neg q]; exact r g
 ·by_cases q : g = f
  ·rw [q]; exact (tV f y fs).1
  ·refine (tV f y fs).2 g (wi g fun z => hg ?_)
   show (if g = f then some u else mA g) = none
   rw [if_neg q]; exact z
theorem Inv.made (I : Inv X pins σ H s) : Inv X pins σ (upd (upd H s.heap.objs.size (.own (s.heap.objs.size + 1))) (s.heap.objs.size + 1) (.ins C s.heap.objs.size []))
  { s with heap := (s.heap.push PySem.W.emptyDict).push (PySem.W.instObj C s.heap.objs.size) } := by
 have e1 : (s.heap.push PySem.W.emptyDict).get? s.heap.objs.size = some PySem.W.emptyDict := Heap.get?_push_size s.heap rfl
 have e2 : ((s.heap.push PySem.W.emptyDict).push (PySem.W.instObj C s.heap.objs.size)).get? (s.heap.objs.size + 1) = some (PySem.W.instObj C s.heap.objs.size) := by
  have := Heap.get?_push_size (s.heap.push PySem.W.emptyDict) (o := PySem.W.instObj C s.heap.objs.size) rfl
  rwa [Heap.size_push] at this
 have e3 : (s.heap.push PySem.W.emptyDict).Ns s.heap.objs.size (fun _ => none) := ⟨PySem.W.emptyDict, #[], _, e1, rfl, (fun e he => absurd he (by simp)), fun _ => rfl⟩
 have I1 := I.laid (a := s.heap.objs.size) (o := .own (s.heap.objs.size + 1)) (h' := s.heap.push PySem.W.emptyDict) (t' := s.toks) (fun b u q => Heap.get?_push_of_some _ q) (Nat.le_refl _) ⟨_, e1⟩
 refine I1.laid (a := s.heap.objs.size + 1) (o := .ins C s.heap.objs.size []) (t' := s.toks) (fun b u q => Heap.get?_push_of_some _ q) (Nat.le_of_eq (Heap.size_push _ _)) ?_
 have ne : s.heap.objs.size ≠ s.heap.objs.size + 1 := Nat.ne_of_lt (Nat.lt_succ_self _)
 refine ⟨by rw [ah ne, az], Nat.zero_le _, ne, e2, fun _ => none, (Heap.Ns1.of_empty e3).at fun o q => Heap.get?_push_of_some _ q, fun _ => True.intro, fun y hy => absurd rfl hy⟩
theorem GG {prog : Program} {w : World} {env : Env} {e : Expr} {f : Str} {pos : Pos} {s : Shared} {Q : Value → Shared → Prop} (hb : attributeBase e f env (eval e env) = eval e env)
  (h : wpAny (model prog w) A (eval e env) (fun o s₁ => wpAny (model prog w) A (getAttr o f true) Q E s₁) E s) : wpAny (model prog w) A (eval (.Attribute e f pos) env) Q E s :=
 Attribute_any_ h (by rw [arm_eval_Attribute, hb])
end
def pQ (X : Cx) (op : Operator) (rd : V → V → Hp → VK → Prop) : Prop :=
 ∀ (pins : List (Addr × Obj)) (s : Shared) (σ : St) (H : Hp) (x y : V) (u v : Value) (Q : VK), Inv X pins σ H s → RelV x u → RelV y v → rd x y H Q → wpAny (model X.prog X.w) X.A (inplaceOp op u v) (EP X pins σ Q) X.xe s
section
variable {X : Cx} {o e value : Expr} {f : Str} {pos pos' tpos : Pos} {ta tv : TE}
def xy : V → V → Hp → VK → Prop := fun x y H Q => ∃ i j, x = .int i ∧ y = .int j ∧ Q (.int (i + j)) H
theorem eX : pQ X .Add xy := by
 rintro pins s σ H x y u v Q I rx ry ⟨i, j, rfl, rfl, q⟩
 obtain ⟨t, rfl⟩ := (show ∃ t, u = Value.int i t from rx)
 obtain ⟨t', rfl⟩ := (show ∃ t', v = Value.int j t' from ry)
 exact PyProof.Rows.iadd_int ⟨.int (i + j), H, I.tok _, ⟨_, rfl⟩, q⟩
end
section
variable {X : Cx} {pins : List (Addr × Obj)} {σ : St} {H : Hp} {s : Shared} {A : Around} {E : Value → Shared → Prop} {Q : Value → Shared → Prop} {c : Value} {b : Bool}
inductive cL (K : PySem.W.Frag) (H : Hp) : V → Value → Prop where
 | aq : cL K H .aq (.type "NoneType")
 | bl (x : Bool) : cL K H (.bl x) (.type "bool")
 | int (i : Int) : cL K H (.int i) (.type "int")
 | str (x : Str) : cL K H (.str x) (.type "str")
 | hZ (x : UInt64) : cL K H (.hZ x) (.type "float")
 | lst {a : Addr} {xs : List V} (e : H a = some (.lst xs)) : cL K H (.ref a) (.type "list")
 | cE {a : Addr} {o : Obj} {xs : List V} (e : H a = some (.cE o (.lst xs))) : cL K H (.ref a) (.type "list")
 | tup {a : Addr} {xs : List V} (e : H a = some (.tup xs)) : cL K H (.ref a) (.type "tuple")
 | dK {a : Addr} {kvs : List (Key × V)} (e : H a = some (.dK kvs)) : cL K H (.ref a) (.type "dict")
 | dT {a : Addr} {kvs : List (List Key × V)} (e : H a = some (.dT kvs)) : cL K H (.ref a) (.type "dict")
 | ins {a C dx : Addr} {fs : List (Str × V)} (e : H a = some (.ins C dx fs)) (cl : bK K C) (ha : PySem.W.findIn K (.ref C) "__class__" = some (some (.builtin "object.__class__")))
   (hn : PySem.W.specialIn K (.builtin "object.__class__") "__get__" = some (some (.builtin "getset_descriptor.__get__"))) (cR : PySem.W.takesIn K (.builtin "object.__class__") = some true)
   (hm : PySem.W.mroIn K C (.type "object") = some true) : cL K H (.ref a) (.ref C)
theorem pZ {x : V} {u t : Value} (I : Inv X pins σ H s) (rx : RelV x u) (ty : cL X.K H x t) (e : PySem.W.kitOne X.K t c = some b) (h : ∀ tk, Q (.bool b) { s with toks := tk }) :
  wpAny (model X.prog X.w) A (call (.builtin "isinstance") [u, c]) Q E s := by
 cases ty with
 | aq => cases (show u = Value.none from rx); exact PySem.W.kia_one PySem.W.kitx_none I.bx True.intro e (fun z => nomatch z) h
 | bl y => cases (show u = Value.bool y from rx); exact PySem.W.kia_one PySem.W.kitx_bool I.bx True.intro e (fun z => nomatch z) h
 | int i => obtain ⟨t, q⟩ := (show ∃ t, u = Value.int i t from rx); cases q; exact PySem.W.kia_one PySem.W.kitx_int I.bx True.intro e (fun z => nomatch z) h
 | str y => obtain ⟨t, q⟩ := (show ∃ t, u = Value.str y t from rx); cases q; exact PySem.W.kia_one PySem.W.kitx_str I.bx True.intro e (fun z => nomatch z) h
 | hZ y => obtain ⟨t, q⟩ := (show ∃ t, u = Value.float y t from rx); cases q; exact PySem.W.kia_one PySem.W.kitx_float I.bx True.intro e (fun z => nomatch z) h
 | @lst a xs ea =>
  cases (show u = Value.ref a from rx)
  obtain ⟨_, _, n, _, h1⟩ := (show br X.prog X.w H s.heap a (.lst xs) from I.aD a _ ea)
  exact PySem.W.kia_one PySem.W.kitx_list I.bx ⟨_, h1, rfl⟩ e (fun z => nomatch z) h
 | @cE a ob xs ea =>
  cases (show u = Value.ref a from rx)
  obtain ⟨_, _, _, n, _, h1⟩ := (show br X.prog X.w H s.heap a (.cE ob (.lst xs)) from I.aD a _ ea)
  exact PySem.W.kia_one PySem.W.kitx_list I.bx ⟨_, h1, rfl⟩ e (fun z => nomatch z) h
 | @tup a xs ea =>
  cases (show u = Value.ref a from rx)
  obtain ⟨_, _, _, p⟩ := (show br X.prog X.w H s.heap a (.tup xs) from I.aD a _ ea)
  obtain ⟨o, h1, h2, _⟩ := p
  exact PySem.W.kia_one PySem.W.kitx_tuple I.bx ⟨o, h1, h2⟩ e (fun z => nomatch z) h
 | @dK a kvs ea =>
  cases (show u = Value.ref a from rx)
  obtain ⟨_, _, vs, _, p⟩ := (show br X.prog X.w H s.heap a (.dK kvs) from I.aD a _ ea)
  obtain ⟨o, es, ep, h1, h2, _⟩ := p
  exact PySem.W.kia_one PySem.W.kitx_dict I.bx ⟨o, h1, h2.1⟩ e (fun z => nomatch z) h
 | @dT a kvs ea =>
  cases (show u = Value.ref a from rx)
  obtain ⟨_, _, xs, _, o, es, ep, h1, h2, _⟩ := (show br X.prog X.w H s.heap a (.dT kvs) from I.aD a _ ea)
  exact PySem.W.kia_one PySem.W.kitx_dict I.bx ⟨o, h1, h2.1⟩ e (fun z => nomatch z) h
 | @ins a C dx fs ea cl ha hn cR hm =>
  cases (show u = Value.ref a from rx)
  obtain ⟨mA, O, _⟩ := mK I.aD ea
  obtain ⟨od, J, _⟩ := O.look
  exact PySem.W.kia_one (PySem.W.kitx_own (cl.get _) cl.hd ha hn cR hm) I.bx J e (fun z => nomatch z) h
end
end L2
namespace L2
open PySem PySem.Spec PyProof.Rows
structure bc (k : Nat) (A : Around) : Prop where
 hd : A.handled = none
 dp : A.depth + 3 * k + 5 < recursionLimit
 un : A.units + 16 * k + 200 < cLine
theorem bc.mono {j k : Nat} {A : Around} (r : bc k A) (h : j ≤ k) : bc j A := ⟨r.hd, by have := r.dp; omega, by have := r.un; omega⟩
theorem bc.deeper {k : Nat} {A : Around} (r : bc (k + 1) A) (env : Env) : bc k (A.deeper env) :=
 ⟨r.hd, by have := r.dp; show A.depth + 1 + 3 * k + 5 < _; omega, by have := r.un; show A.units + 3 + 16 * k + 200 < _; omega⟩
theorem Ef {A : Around} {C : Addr} {us : List Value} {kw : List (Str × Value)} : (A.under (.builtin "type.__call__" ⟨.ref C :: us, kw⟩)).depth = A.depth + 1 := by
 first | rfl | simp [Around.under, Code.weight, Code.isCreation, Code.isGuard, Code.isCaller, Code.frames, Code.isFrame, guardIds]
theorem Jh {A : Around} {C : Addr} {us : List Value} {kw : List (Str × Value)} : (A.under (.builtin "type.__call__" ⟨.ref C :: us, kw⟩)).units = A.units + 1 := by
 first | rfl | simp [Around.under, Code.cUnits, Code.frames, Code.isFrame]
theorem bc.make {k : Nat} {A : Around} (r : bc (k + 1) A) (C : Addr) (us : List Value) (kw : List (Str × Value)) : bc k (A.under (.builtin "type.__call__" ⟨.ref C :: us, kw⟩)) :=
 ⟨r.hd, by have := r.dp; rw [Ef]; omega, by have := r.un; rw [Jh]; omega⟩
theorem bc.depth {k : Nat} {A : Around} (r : bc k A) : A.depth < recursionLimit := by have := r.dp; omega
theorem bc.units {k : Nat} {A : Around} (r : bc k A) : A.units + 64 < cLine := by have := r.un; omega
theorem bc.oy {k : Nat} {A : Around} (r : bc k A) : A.units < cLine := by have := r.un; omega
def ib : TA := fun _ H Q => Q [] H
def nF (ta : TE) (tr : TA) : TA := fun σ H Q => ta σ H fun x H1 => tr σ H1 fun xs H2 => Q (x :: xs) H2
section
variable {X : Cx} {e : Expr} {es : List Expr} {te : TE} {t : TA} {pos : Pos}
theorem GU : PA X [] ib := fun _ _ _ _ H Q I h => Calls.spliced_nil ⟨[], H, I, .nil, h⟩
theorem Hi (ha : PE X e te) (hr : PA X es t) (hs : starEach (e :: es) X.env = (false, eval e X.env) :: starEach es X.env := by rfl) : PA X (e :: es) (nF te t) := by
 intro pos pins s σ H Q I h
 rw [hs]
 show wpAny _ _ (spliced ((false, eval e X.env) :: backTo pos (starEach es X.env))) _ _ s
 refine Calls.spliced_cons (aE (ha pins s σ H _ I h) fun u s1 ⟨x, H1, I1, r1, q1⟩ => ?_)
 exact aE (hr pos pins s1 σ H1 _ I1 q1) fun us s2 ⟨xs, H2, I2, r2, q2⟩ => ⟨x :: xs, H2, I2, .cons r1 r2, q2⟩
def sS (t : TA) : TE := fun σ H Q => t σ H fun xs H1 => xs.length ≤ sizeLine ∧ ∀ p, H1 p = none → Q (.ref p) (upd H1 p (.tup xs))
def oW (t : TA) : TE := fun σ H Q => t σ H fun xs H1 => xs.length ≤ sizeLine ∧ ∀ p, H1 p = none → Q (.ref p) (upd H1 p (.lst xs))
theorem FU {x1} (h : PA X es t) : PE X (.Tuple es x1 pos) (sS t) := by
 intro pins s σ H Q I hq
 refine wpAny_Tuple_spliced (aE (h pos pins s σ H _ I hq) fun us s1 ⟨xs, H1, I1, r, z, q⟩ => ⟨by rw [← r.length]; exact z, ?_⟩)
 have hf : H1 s1.heap.objs.size = none := I1.aD.fresh (Nat.le_refl _)
 refine ⟨.ref s1.heap.objs.size, upd H1 s1.heap.objs.size (.tup xs), I1.laid (t' := s1.toks) (fun b u e => Heap.get?_push_of_some _ e) (Nat.le_refl _) ?_, rfl, q _ hf⟩
 exact ⟨z, us, r, ⟨_, Heap.get?_push_size _ rfl, rfl, _, rfl⟩⟩
theorem EI (h : PA X es t) : PE X (.List es pos) (oW t) := by
 intro pins s σ H Q I hq
 refine wpAny_List_spliced (aE (h pos pins s σ H _ I hq) fun us s1 ⟨xs, H1, I1, r, z, q⟩ => ⟨by rw [← r.length]; exact z, ?_⟩)
 have hf : H1 s1.heap.objs.size = none := I1.aD.fresh (Nat.le_refl _)
 refine ⟨.ref s1.heap.objs.size, upd H1 s1.heap.objs.size (.lst xs), I1.laid (t' := s1.toks) (fun b u e => Heap.get?_push_of_some _ e) (Nat.le_refl _) ?_, rfl, q _ hf⟩
 exact ⟨z, us, 0, r, Heap.get?_push_size _ rfl⟩
end
abbrev Sp := List V → Hp → VK → XK → Prop
abbrev cv := List Env → Hp → Shared → XK → Value → Shared → Prop
structure hV (P : Program) (w : World) (K : PySem.W.Frag) (mg : Str → Option Value) (base : Heap) (A : Around) (outer : List Env) (s : Shared) (H : Hp) : Prop where
 frames : A.frames = some outer
 mod : Mod K mg base
 bs : ∀ b o, base.get? b = some o → s.heap.get? b = some o ∧ H b = none
 fm : base.objs.size ≤ s.heap.objs.size
 dF : s.heap.FunFrames base outer
 ig : ∀ b ∈ bC outer, H b = none
 aD : bt P w H s.heap
 bare : AllBare s.gens
def CE (outer : List Env) (P : Program) (w : World) (H : Hp) (s : Shared) (Q : VK) (u : Value) (s' : Shared) : Prop :=
 ∃ v H', s'.os = s.os ∧ AllBare s'.gens ∧ Un (bC outer) [] H H' s.heap s'.heap ∧ bt P w H' s'.heap ∧ RelV v u ∧ Q v H'
def CR (CX : cv) (outer : List Env) (P : Program) (w : World) (H : Hp) (s : Shared) (Q : VK) (E : XK) (r : Result) (s' : Shared) : Prop :=
 match r with
 | .ok (.ret u) => CE outer P w H s Q u s'
 | .ok _ => False
 | .error e => CX outer H s E e s'
structure aB (P : Program) (w : World) (K : PySem.W.Frag) (mg : Str → Option Value) (base : Heap) (CX : cv) (k : Nat) (f : Addr) (fd : FuncData) (ps : List Str) (sp : Sp) : Prop where
 len : ∀ vs H Q E, sp vs H Q E → vs.length = ps.length
 run : ∀ (A : Around) (outer : List Env) (s : Shared) (H : Hp) (args : Args) (us : List Value) (vs : List V) (Q : VK) (E : XK), bc k A → hV P w K mg base A outer s H → BindsTo s fd args (ps.zip us) → Vals vs us → sp vs H Q E →
  codeAny (model P w) A (.call (.ref f) args) (CR CX outer P w H s Q E) s
theorem aB.imp {P : Program} {w : World} {K : PySem.W.Frag} {mg : Str → Option Value} {base : Heap} {CX : cv} {k : Nat} {f : Addr} {fd : FuncData} {ps : List Str} {sp sp' : Sp} (F : aB P w K mg base CX k f fd ps sp)
  (h : ∀ vs H Q E, sp' vs H Q E → sp vs H Q E) : aB P w K mg base CX k f fd ps sp' :=
 ⟨fun vs H Q E q => F.len vs H Q E (h _ _ _ _ q), fun A outer s H args us vs Q E hr he hb hv hs => F.run A outer s H args us vs Q E hr he hb hv (h _ _ _ _ hs)⟩
theorem hV.make {P : Program} {w : World} {K : PySem.W.Frag} {mg : Str → Option Value} {base : Heap} {A : Around} {outer : List Env} {s : Shared} {H : Hp} (e : hV P w K mg base A outer s H) (C : Addr) (us : List Value) (kw : List (Str × Value)) :
  hV P w K mg base (A.under (.builtin "type.__call__" ⟨.ref C :: us, kw⟩)) outer s H := ⟨by first | exact e.frames | (simpa [Around.under, Code.envs, Code.isFrame, pushEnvs] using e.frames), e.mod, e.bs, e.fm, e.dF, e.ig, e.aD, e.bare⟩
section
variable {X : Cx} {pins : List (Addr × Obj)} {σ : St} {H : Hp} {s s' : Shared}
theorem Inv.sJ (I : Inv X pins σ H s) : hV X.prog X.w X.K X.mg X.base X.A X.stack s H :=
 ⟨I.ok.frames, I.ok.mod, I.bs, Nat.le_trans I.ok.fm I.sz, I.stack, I.pN, I.aD, I.bare⟩
theorem Inv.after {Q : VK} {u : Value} (I : Inv X pins σ H s) (h : CE X.stack X.prog X.w H s Q u s') : EP X pins σ Q u s' := by
 obtain ⟨v, H', os, bare, un, aD, r, q⟩ := h
 obtain ⟨hh, g, d, t, os'⟩ := s'
 obtain rfl : os' = s.os := os
 exact ⟨v, H', I.call (h' := hh) (g' := g) (d' := d) (t' := t) (ch := []) un aD bare (fun b z => absurd z (by simp)), r, q⟩
end
def mJ (sp : Sp) (dvs : List V) (E : XK) (t : TA) : TE := fun σ H Q => t σ H fun vs H1 => sp (vs ++ dvs) H1 Q E
def lU (C : Addr) (m : Str) (sp : Sp) (dvs : List V) (E : XK) (ta : TE) (t : TA) : TE := fun σ H Q => ta σ H fun x H1 => ∃ a dx fs, x = .ref a ∧ H1 a = some (.ins C dx fs) ∧ fs.lookup m = none ∧
 t σ H1 fun vs H2 => sp (x :: (vs ++ dvs)) H2 Q E
def lK (C : Addr) (sp : Sp) (dvs : List V) (E : XK) (t : TA) : TE := fun σ H Q => t σ H fun vs H1 => ∀ x dx, H1 x = none → H1 dx = none → dx ≠ x →
 sp (.ref x :: (vs ++ dvs)) (upd (upd H1 dx (.own x)) x (.ins C dx [])) (fun v H2 => v = .aq ∧ Q (.ref x) H2) E
def Binds (K : PySem.W.Frag) (fd : FuncData) (ps : List Str) (ds : List Value) : Prop :=
 ∀ (s : Shared) (us : List Value), K.In s.heap → (us ++ ds).length = ps.length → BindsTo s fd ⟨us, []⟩ (ps.zip (us ++ ds))
theorem Binds.all {K : PySem.W.Frag} {fd : FuncData} {ps : List Str} (h : ∀ us : List Value, us.length = ps.length → bindArgs fd ⟨us, []⟩ = pure (ps.zip us)) : Binds K fd ps [] := fun s us _ hl => by
 rw [List.append_nil] at hl ⊢
 exact .of_eq (h us hl)
def Passes (CX : cv) (X : Cx) (E : XK) : Prop := ∀ (pins : List (Addr × Obj)) (σ : St) (H : Hp) (s : Shared) (e : Value) (s' : Shared), Inv X pins σ H s → CX X.stack H s E e s' → X.xe e s'
section
variable {X : Cx} {CX : cv} {k : Nat} {f C : Addr} {fd : FuncData} {ps : List Str} {sp : Sp} {dvs : List V} {ds : List Value} {E : XK} {x m : Str} {p pos apos : Pos} {e o : Expr} {es : List Expr} {ta : TE} {t : TA}
theorem uw {pins : List (Addr × Obj)} {σ : St} {H : Hp} {s : Shared} {Q : VK} {us : List Value} {vs : List V} (F : aB X.prog X.w X.K X.mg X.base CX k f fd ps sp) (hr : bc k X.A) (hb : Binds X.K fd ps ds) (hd : Vals dvs ds) (hx : Passes CX X E)
  (I : Inv X pins σ H s) (r : Vals vs us) (h : sp (vs ++ dvs) H Q E) : wpAny (model X.prog X.w) X.A (call (.ref f) us) (EP X pins σ Q) X.xe s := by
 have r2 : Vals (vs ++ dvs) (us ++ ds) := r.append hd
 have hl : (us ++ ds).length = ps.length := by rw [← r2.length]; exact F.len _ _ _ _ h
 refine wpAny_call (codeAny_mono (F.run X.A X.stack s H ⟨us, []⟩ (us ++ ds) (vs ++ dvs) Q E hr I.sJ (hb s us I.bx hl) r2 h) fun r s' hq => ?_)
 cases r with
 | error e => exact hx pins σ H s e s' I hq
 | ok fl =>
  cases fl with
  | ret u => exact I.after hq
  | next => exact False.elim hq
  | brk => exact False.elim hq
  | cont => exact False.elim hq
theorem Iy (F : aB X.prog X.w X.K X.mg X.base CX k f fd ps sp) (hr : bc k X.A) (hg : Gl X x) (hm : X.mg x = some (.ref f)) (hk : PySem.W.keepIn X.K (.ref f) = true) (hb : Binds X.K fd ps ds) (hd : Vals dvs ds) (hx : Passes CX X E)
  (ha : PA X (e :: es) t) (hdb : (x == ("__debug__" : Str)) = false := by decide) (he : starEach (e :: es) X.env = (false, eval e X.env) :: starEach es X.env := by rfl) (hpl : (backTo pos (starEach es X.env)).any (·.1) = false := by rfl) :
  PE X (.Call (.Name x p) (e :: es) [] pos) (mJ sp dvs E t) := by
 intro pins s σ H Q I h
 refine wpAny_Call_Name_kw (jD I hg hm ?_ hdb)
 refine PySem.W.callWith_K (h₀ := X.base) I.ok.mod.gp hk (aE (ha pos pins s σ H _ I h) fun us s1 ⟨vs, H1, I1, r, q⟩ => ⟨I1.bx, ?_⟩) he hpl
 exact uw F hr hb hd hx I1 r q
theorem J1 {pl : Sem Bool} (he : PE X o ta) (c : bK X.K C) (hm : Meth X.K C m f) (F : aB X.prog X.w X.K X.mg X.base CX k f fd ps sp) (hr : bc k X.A) (hb : Binds X.K fd ps ds) (hd : Vals dvs ds) (hx : Passes CX X E) (ha : PA X (e :: es) t)
  (hst : starEach (e :: es) X.env = (false, eval e X.env) :: starEach es X.env := by rfl) (hpl : (backTo pos (starEach es X.env)).any (·.1) = false := by rfl)
  (ht : eval (.Call (.Attribute o m apos) (e :: es) [] pos) X.env = (do
   let ov ← eval o X.env
   standAt apos.atName
   let (f, first) ← holding [ov] (getMethod ov m pl)
   callWith pos f first (backTo pos (starEach (e :: es) X.env)) (backToKw pos (keywordEach [] X.env))) := by rfl) :
  PE X (.Call (.Attribute o m apos) (e :: es) [] pos) (lU C m sp dvs E ta t) := by
 intro pins s σ H Q I h
 refine PySem.W.methodCall_KW (pl := pl) (aE (he pins s σ H _ I h) fun u s1 ⟨x, H1, I1, rx, a, dx, fs, ex, ea, l, q⟩ => ?_) ht
 subst ex
 obtain rfl : u = Value.ref a := rx
 refine pK I1 ea c hm l ?_
 refine PySem.W.callWith_K (first := [.ref a]) (h₀ := X.base) I.ok.mod.gp hm.kp (aE (ha pos pins s1 σ H1 _ I1 q) fun us s2 ⟨vs, H2, I2, r, q2⟩ => ⟨I2.bx, ?_⟩) hst hpl
 exact uw (us := .ref a :: us) (vs := .ref a :: vs) F hr hb hd hx I2 (.cons rfl r) q2
theorem IB {pl : Sem Bool} (he : PE X o ta) (c : bK X.K C) (hm : Meth X.K C m f) (F : aB X.prog X.w X.K X.mg X.base CX k f fd ps sp) (hr : bc k X.A) (hb : Binds X.K fd ps ds) (hd : Vals dvs ds) (hx : Passes CX X E)
  (ht : eval (.Call (.Attribute o m apos) [] [] pos) X.env = (do
   let ov ← eval o X.env
   standAt apos.atName
   let (f, first) ← holding [ov] (getMethod ov m pl)
   callWith pos f first (backTo pos (starEach [] X.env)) (backToKw pos (keywordEach [] X.env))) := by rfl) :
  PE X (.Call (.Attribute o m apos) [] [] pos) (lU C m sp dvs E ta ib) := by
 intro pins s σ H Q I h
 refine PySem.W.methodCall_KW (pl := pl) (aE (he pins s σ H _ I h) fun u s1 ⟨x, H1, I1, rx, a, dx, fs, ex, ea, l, q⟩ => ?_) ht
 subst ex
 obtain rfl : u = Value.ref a := rx
 refine pK I1 ea c hm l ?_
 exact PySem.W.callWith_K0 (first := [.ref a]) I1.bx hm.kp (uw (us := [.ref a]) (vs := [.ref a]) F hr hb hd hx I1 (.cons rfl .nil) q)
structure Mk (K : PySem.W.Frag) (C f : Addr) : Prop where
 makes : PySem.W.makesIn K C = true
 init : PySem.W.findIn K (.ref C) "__init__" = some (some (.ref f))
 fn : PySem.W.isFn K (.ref f) = true
 kp : PySem.W.keepIn K (.ref C) = true
theorem zV {pins : List (Addr × Obj)} {σ : St} {H : Hp} {s : Shared} {Q : VK} {us : List Value} {vs : List V} (M : Mk X.K C f) (F : aB X.prog X.w X.K X.mg X.base CX k f fd ps sp) (hr : bc (k + 1) X.A) (hb : Binds X.K fd ps ds) (hd : Vals dvs ds)
  (hx : Passes CX X E) (I : Inv X pins σ H s) (r : Vals vs us)
  (h : ∀ x dx, H x = none → H dx = none → dx ≠ x → sp (.ref x :: (vs ++ dvs)) (upd (upd H dx (.own x)) x (.ins C dx [])) (fun v H2 => v = .aq ∧ Q (.ref x) H2) E) :
  wpAny (model X.prog X.w) X.A (call (.ref C) us) (EP X pins σ Q) X.xe s := by
 have hq := h (s.heap.objs.size + 1) s.heap.objs.size (I.aD.fresh (Nat.le_succ _)) (I.aD.fresh (Nat.le_refl _)) (Nat.ne_of_lt (Nat.lt_succ_self _))
 have I2 := Inv.made (C := C) I
 have r2 : Vals (V.ref (s.heap.objs.size + 1) :: (vs ++ dvs)) (Value.ref (s.heap.objs.size + 1) :: (us ++ ds)) := .cons rfl (r.append hd)
 have hl : (Value.ref (s.heap.objs.size + 1) :: us ++ ds).length = ps.length := by
  have e := r2.length
  rw [F.len _ _ _ _ hq] at e
  exact e.symm
 refine wpAny_call (Fs (f := f) I.bx M.makes M.init (beq_iff_eq.mp M.fn) (codeAny_mono (F.run _ X.stack _ _ ⟨Value.ref (s.heap.objs.size + 1) :: us, []⟩ (Value.ref (s.heap.objs.size + 1) :: (us ++ ds)) _ _ E (hr.make C us [])
  (I2.sJ.make C us []) (hb _ (Value.ref (s.heap.objs.size + 1) :: us) I2.bx hl) r2 hq) fun r s' hq' => ?_))
 cases r with
 | error e => exact hx pins σ _ _ e s' I2 hq'
 | ok fl =>
  cases fl with
  | ret u =>
   obtain ⟨v, H', I3, rv, ev, q3⟩ := I2.after hq'
   subst ev
   exact ⟨rv, ⟨V.ref (s.heap.objs.size + 1), H', I3, rfl, q3⟩⟩
  | next => exact False.elim hq'
  | brk => exact False.elim hq'
  | cont => exact False.elim hq'
theorem DI (M : Mk X.K C f) (F : aB X.prog X.w X.K X.mg X.base CX k f fd ps sp) (hr : bc (k + 1) X.A) (hg : Gl X x) (hm : X.mg x = some (.ref C)) (hb : Binds X.K fd ps ds) (hd : Vals dvs ds) (hx : Passes CX X E)
  (ha : PA X (e :: es) t) (hdb : (x == ("__debug__" : Str)) = false := by decide) (he : starEach (e :: es) X.env = (false, eval e X.env) :: starEach es X.env := by rfl) (hpl : (backTo pos (starEach es X.env)).any (·.1) = false := by rfl) :
  PE X (.Call (.Name x p) (e :: es) [] pos) (lK C sp dvs E t) := by
 intro pins s σ H Q I h
 refine wpAny_Call_Name_kw (jD I hg hm ?_ hdb)
 refine PySem.W.callWith_K (h₀ := X.base) I.ok.mod.gp M.kp (aE (ha pos pins s σ H _ I h) fun us s1 ⟨vs, H1, I1, r, q⟩ => ⟨I1.bx, ?_⟩) he hpl
 exact zV M F hr hb hd hx I1 r q
theorem KP (M : Mk X.K C f) (F : aB X.prog X.w X.K X.mg X.base CX k f fd ps sp) (hr : bc (k + 1) X.A) (hg : Gl X x) (hm : X.mg x = some (.ref C)) (hb : Binds X.K fd ps ds) (hd : Vals dvs ds) (hx : Passes CX X E)
  (hdb : (x == ("__debug__" : Str)) = false := by decide) : PE X (.Call (.Name x p) [] [] pos) (lK C sp dvs E ib) := by
 intro pins s σ H Q I h
 refine wpAny_Call_Name_kw (jD I hg hm ?_ hdb)
 exact PySem.W.callWith_K0 I.bx M.kp (zV (us := []) M F hr hb hd hx I .nil h)
end
section
variable {X : Cx} {CX : cv} {k : Nat} {f C : Addr} {fd : FuncData} {ps ks : List Str} {sp : Sp} {E : XK} {x m : Str} {p pos apos kpos : Pos} {e o : Expr} {es : List Expr} {kws : List Keyword} {te ta : TE} {t tk : TA} {nm : Option Str}
structure LA (K : PySem.W.Frag) (fd : FuncData) (ps ks : List Str) (g : List Value → List Value → List Value) (gV : List V → List V → List V) : Prop where
 to : ∀ (s : Shared) (us ws : List Value), K.In s.heap → (g us ws).length = ps.length → BindsTo s fd ⟨us, ks.zip ws⟩ (ps.zip (g us ws))
 rel : ∀ {vs : List V} {us : List Value} {zs : List V} {ws : List Value}, Vals vs us → Vals zs ws → Vals (gV vs zs) (g us ws)
variable {g : List Value → List Value → List Value} {gV : List V → List V → List V}
end
structure aJ (N P : List Str) (sc : Scope) : Prop where
 kind : sc.kind = .function
 co : sc.isCoroutine = false
 gen : sc.isGenerator = false
 nd : N.Nodup
 pre : N.take P.length = P
 par : ∀ x ∈ P, sc.names.lookup x = some .local ∨ sc.names.lookup x = some .cell
 K2 : ∀ y ∈ sc.names, y.2 ≠ .free
theorem zJ {kindOf : Str → Option NameKind} {x : Str} : ∀ {binds : List (Str × Value)} {m : Str → Option Value}, (∀ v, (x, v) ∉ binds) → bindL kindOf binds m x = m x
 | [], _, _ => rfl
 | (n, v) :: r, m, h => by
  unfold bindL
  rw [zJ fun w hw => h w (List.mem_cons_of_mem _ hw)]
  split
  ·have : x ≠ n := by rintro rfl; exact h v List.mem_cons_self
   simp [this]
  ·rfl
theorem AX {kindOf : Str → Option NameKind} {x : Str} : ∀ {binds : List (Str × Value)} {m : Str → Option Value}, (∀ v, (x, v) ∉ binds) → bindC kindOf binds m x = m x
 | [], _, _ => rfl
 | (n, v) :: r, m, h => by
  unfold bindC
  rw [AX fun w hw => h w (List.mem_cons_of_mem _ hw)]
  split
  ·rfl
  ·have : x ≠ n := by rintro rfl; exact h v List.mem_cons_self
   simp [this]
theorem A8 {kindOf : Str → Option NameKind} {x : Str} {v : Value} : ∀ {P : List Str} {vs : List Value} {i : Nat} {m : Str → Option Value}, P.Nodup → P[i]? = some x → vs[i]? = some v → kindOf x = some .local →
  bindL kindOf (P.zip vs) m x = some v
 | [], _, _, _, _, h, _, _ => by simp at h
 | _ :: _, [], _, _, _, _, h, _ => by simp at h
 | p :: P, w :: vs, 0, m, nd, h1, h2, hk => by
  simp at h1 h2; subst h1; subst h2
  show bindL kindOf ((p, w) :: P.zip vs) m p = _
  unfold bindL
  rw [zJ fun v hv => (List.nodup_cons.mp nd).1 (List.of_mem_zip hv).1, if_pos hk]
  simp
 | p :: P, w :: vs, i + 1, m, nd, h1, h2, hk => by
  show bindL kindOf ((p, w) :: P.zip vs) m x = _
  unfold bindL
  exact A8 (i := i) (List.nodup_cons.mp nd).2 (by simpa using h1) (by simpa using h2) hk
theorem ze {kindOf : Str → Option NameKind} {x : Str} {v : Value} : ∀ {P : List Str} {vs : List Value} {i : Nat} {m : Str → Option Value}, P.Nodup → P[i]? = some x → vs[i]? = some v → kindOf x ≠ some .local →
  bindC kindOf (P.zip vs) m x = some v
 | [], _, _, _, _, h, _, _ => by simp at h
 | _ :: _, [], _, _, _, _, h, _ => by simp at h
 | p :: P, w :: vs, 0, m, nd, h1, h2, hk => by
  simp at h1 h2; subst h1; subst h2
  show bindC kindOf ((p, w) :: P.zip vs) m p = _
  unfold bindC
  rw [AX fun v hv => (List.nodup_cons.mp nd).1 (List.of_mem_zip hv).1, if_neg hk]
  simp
 | p :: P, w :: vs, i + 1, m, nd, h1, h2, hk => by
  show bindC kindOf ((p, w) :: P.zip vs) m x = _
  unfold bindC
  exact ze (i := i) (List.nodup_cons.mp nd).2 (by simpa using h1) (by simpa using h2) hk
def start (N : List Str) (vs : List V) : St := vs.map some ++ List.replicate (N.length - vs.length) none
def dJ (CX : cv) (P : Program) (w : World) (K : PySem.W.Frag) (mg : Str → Option Value) (base : Heap) (N : List Str) (qual : Str) (scope : Scope) (f : Addr) (cd : Value) (A : Around) (outer : List Env) (s : Shared) (H : Hp) (E : XK) : Cx where
 prog := P
 w := w
 K := K
 mg := mg
 base := base
 A := A.deeper (envOfC qual scope s.heap.objs.size f cd)
 N := N
 s₀ := s
 H₀ := H
 env := envOfC qual scope s.heap.objs.size f cd
 outer := outer
 stack := envOfC qual scope s.heap.objs.size f cd :: outer
 ex := []
 calm := true
 fn := fun _ => true
 pn := []
 xe := fun e s' => wpAny (model P w) (A.deeper (envOfC qual scope s.heap.objs.size f cd)) (leaving (envOfC qual scope s.heap.objs.size f cd) e) (fun _ s'' => CX outer H s E e s'') (fun e' s'' => CX outer H s E e' s'') s'
theorem x9 {sc : Scope} {n : Nat} {x : Str} (h : sc.names.lookup x = some .cell) : ∃ c, (cellsFrom n sc.names []).lookup x = some c := by
 have q := PySem.W.cellsFrom_some sc.names n [] (.inl h)
 exact Option.isSome_iff_exists.mp q
theorem EA {CX : cv} {P : Program} {w : World} {K : PySem.W.Frag} {mg : Str → Option Value} {base : Heap} {N ps : List Str} {qual : Str} {scope : Scope} {f : Addr} {cd : Value} {A : Around} {outer : List Env} {s s1 : Shared} {H : Hp} {E : XK} {us : List Value} {vs : List V}
  (S : aJ N ps scope) (hd : A.handled = none) (e0 : hV P w K mg base A outer s H) (hl : vs.length = ps.length) (r : Vals vs us)
  (x : InCallC s s.heap.objs.size (bindL (envOfC qual scope s.heap.objs.size f cd).kindOf (ps.zip us) fun _ => none) (cellsFrom (s.heap.objs.size + 1) scope.names []) (bindC (envOfC qual scope s.heap.objs.size f cd).kindOf (ps.zip us) fun _ => none) s1) :
  Inv (dJ CX P w K mg base N qual scope f cd A outer s H E) [] (start N vs) H s1 := by
 have hpl : ps.length ≤ N.length := by have := congrArg List.length S.pre; rw [List.length_take] at this; omega
 obtain ⟨h1, tk, rfl, hk⟩ := x.done
 have noA : ∀ b : Addr, b ∉ (dJ CX P w K mg base N qual scope f cd A outer s H E).ex := fun b z => absurd (show b ∈ ([] : List Addr) from z) (by simp)
 refine ⟨⟨e0.mod, S.kind, rfl, rfl, Nat.le_refl _, fun y z c h1 h2 => ?_, fun y hy => ?_, fun y c _ h => ?_, fun _ => hd, Around.frames_deeper e0.frames, .inr ⟨rfl, rfl⟩, fun b z => absurd z (noA b), e0.bs, e0.fm, fun b _ _ => noA b, fun b z => absurd z (noA b), e0.dF, e0.ig⟩,
  rfl, e0.bare, Un.kept hk, ⟨_, x.toInCall.ns, fun i y v h1 h2 h3 => ?_⟩, fun y c h => ⟨_, x.cell y c h⟩, e0.aD.fresh (Nat.le_refl _), fun y c h => ?_, fun p hp => absurd (show p ∈ ([] : List (Addr × Obj)) from hp) (by simp), e0.aD.kept hk, ?_⟩
 ·exact name_of_addr x.apart (PySem.mem_of_lookup h1) (PySem.mem_of_lookup h2)
 ·have hy : scope.names.lookup y = some .cell ∨ scope.names.lookup y = some .free := hy
  rcases hy with hy | hy
  ·exact x9 hy
  ·exact absurd rfl (S.K2 _ (PySem.mem_of_lookup hy))
 ·exact Nat.le_of_lt (x.above y c (PySem.mem_of_lookup h))
 ·have hi : i < vs.length := by
   unfold start at h2
   by_cases hi : i < vs.length
   ·exact hi
   ·rw [List.getElem?_append_right (by simpa using hi)] at h2
    rw [List.getElem?_replicate] at h2
    split at h2 <;> cases h2
  have ha : vs[i]? = some v := by
   unfold start at h2
   rw [List.getElem?_append_left (by simpa using hi), List.getElem?_map] at h2
   cases e : vs[i]? with
   | none => rw [e] at h2; cases h2
   | some a => rw [e] at h2; cases h2; rfl
  obtain ⟨u, hu, rv⟩ := r.get ha
  have hp : ps[i]? = some y := by
   rw [← S.pre, List.getElem?_take_of_lt (by omega)]; exact h1
  have ndP : ps.Nodup := by rw [← S.pre]; exact S.nd.sublist (List.take_sublist _ _)
  refine ⟨u, rv, ?_⟩
  rcases S.par y (List.mem_of_getElem? hp) with k | k
  ·exact .inl ⟨k, A8 ndP hp hu k⟩
  ·obtain ⟨c, e⟩ := x9 (n := s.heap.objs.size + 1) k
   refine .inr ⟨.inl k, c, e, ?_⟩
   have q := x.cell y c e
   rw [ze ndP hp hu (by show scope.names.lookup y ≠ _; rw [k]; decide)] at q
   exact q
 ·exact e0.aD.fresh (Nat.le_of_lt (x.above y c (PySem.mem_of_lookup h)))
 ·unfold start
  show _ = N.length
  rw [List.length_append, List.length_map, List.length_replicate]
  omega
theorem tR {CX : cv} {P : Program} {w : World} {K : PySem.W.Frag} {mg : Str → Option Value} {base : Heap} {k : Nat} {f : Addr} {name qual : Str} {params : Arguments} {body : List Stmt} {scope : Scope} {dV kV doc pm cdv ct oc : Value} {an od : Option Addr}
  {osl : Array (Option Value)} {N ps : List Str} {sp : Sp} (lk : K.lookup f = some ⟨oc, od, .func (PySem.W.fnOf name qual params body scope dV kV doc pm an cdv ct), osl⟩) (hcd : PySem.W.codeIn K cdv qual = true) (S : aJ N ps scope)
  (len : ∀ vs H Q E, sp vs H Q E → vs.length = ps.length)
  (vk : ∀ (A : Around) (outer : List Env) (s : Shared) (H : Hp) (vs : List V) (Q : VK) (E : XK), bc k (A.deeper (envOfC qual scope s.heap.objs.size f cdv)) → sp vs H Q E →
   ∃ t, bV (dJ CX P w K mg base N qual scope f cdv A outer s H E) body t ∧ t { nx := fun _ H' => Q .aq H', rt := Q } (start N vs) H) :
  aB P w K mg base CX (k + 1) f (PySem.W.fnOf name qual params body scope dV kV doc pm an cdv ct) ps sp := by
 refine ⟨len, fun A outer s H args us vs Q E hr e0 hb r hsp => ?_⟩
 have hl := len _ _ _ _ hsp
 have KX : K.In s.heap := e0.mod.gp.keeps fun b o e => (e0.bs b o e).1
 have lim : s.heap.NoLimit := e0.mod.nolimit.keeps fun b o e => (e0.bs b o e).1
 have hkind : ∀ y ∈ ps.zip us, scope.names.lookup y.1 = some .local ∨ (scope.names.lookup y.1 = some .cell ∧ ((cellsFrom (s.heap.objs.size + 1) scope.names []).lookup y.1).isSome = true) := fun ⟨n, v⟩ hy => by
  rcases S.par n (List.of_mem_zip hy).1 with q | q
  ·exact .inl q
  ·exact .inr ⟨q, PySem.W.cellsFrom_some _ _ _ (.inl q)⟩
 refine codeAny_call_function hr.depth (KX _ _ lk) rfl S.co S.gen rfl (PySem.W.codeRec_of KX hcd) (hb _ _ _ _ ?_)
 refine wpAny_newFunctionEnv_cells S.kind hkind fun env he s1 x => ?_
 subst he
 refine ⟨lim.keeps x.toInCall.keep, codeAny_func ?_⟩
 obtain ⟨t, ht, hq⟩ := vk A outer s H vs Q E (hr.deeper _) hsp
 have I : Inv (dJ CX P w K mg base N qual scope f cdv A outer s H E) [] (start N vs) H s1 := EA S hr.hd e0 hl r x
 refine wpAny_mono (ht [] s1 (start N vs) H _ I hq) (fun fl s' hs => ?_) fun e s' hs => hs
 have fin : ∀ {σ' : St} {H' : Hp} {v : V} {u : Value}, Inv (dJ CX P w K mg base N qual scope f cdv A outer s H E) [] σ' H' s' → RelV v u → Q v H' → CE outer P w H s Q u s' :=
  fun {σ' H' v u} J rv q => ⟨v, H', J.os, J.bare, J.base, J.aD, rv, q⟩
 cases fl with
 | ret u =>
  obtain ⟨v, σ', H', J, rv, q⟩ := hs
  exact fin J rv q
 | next =>
  obtain ⟨σ', H', J, q⟩ := hs
  exact fin (v := V.aq) (u := Value.none) J rfl q
 | brk =>
  obtain ⟨_, _, _, q⟩ := hs
  exact False.elim q
 | cont =>
  obtain ⟨_, _, _, q⟩ := hs
  exact False.elim q
end L2
namespace L2
open PySem PySem.Spec PyProof.Rows
section
variable {X : Cx} {x : Str} {p pos : Pos} {e : Expr} {es : List Expr} {t : TA} {id T : String} {r : List V → Hp → VK → Prop}
def g7 (r : List V → Hp → VK → Prop) (t : TA) : TE := fun σ H Q => t σ H fun vs H1 => r vs H1 Q
theorem Gg (hc : bM X (.builtin id) r) (hg : Gl X x) (hm : X.mg x = none) (hv : bootBuiltins x = some (.builtin id)) (ha : PA X (e :: es) t) (hn : x ≠ "__name__" := by decide) (hdb : (x == ("__debug__" : Str)) = false := by decide)
  (he : starEach (e :: es) X.env = (false, eval e X.env) :: starEach es X.env := by rfl) (hpl : (backTo pos (starEach es X.env)).any (·.1) = false := by rfl) : PE X (.Call (.Name x p) (e :: es) [] pos) (g7 r t) := by
 intro pins s σ H Q I h
 refine wpAny_Call_Name_kw (gm I hg hm hv ?_ hn hdb)
 exact PyProof.Rows.callWith_builtin1 (aE (ha pos pins s σ H _ I h) fun us s1 ⟨vs, H1, I1, r1, q1⟩ => hc pins s1 σ H1 vs us Q I1 r1 q1) he hpl
theorem Cn (hc : bM X (.type T) r) (hg : Gl X x) (hm : X.mg x = none) (hv : bootBuiltins x = some (.type T)) (ha : PA X (e :: es) t) (hn : x ≠ "__name__" := by decide) (hdb : (x == ("__debug__" : Str)) = false := by decide)
  (he : starEach (e :: es) X.env = (false, eval e X.env) :: starEach es X.env := by rfl) (hpl : (backTo pos (starEach es X.env)).any (·.1) = false := by rfl) : PE X (.Call (.Name x p) (e :: es) [] pos) (g7 r t) := by
 intro pins s σ H Q I h
 refine wpAny_Call_Name_kw (gm I hg hm hv ?_ hn hdb)
 exact PyProof.Rows.callWith_type1 (aE (ha pos pins s σ H _ I h) fun us s1 ⟨vs, H1, I1, r1, q1⟩ => hc pins s1 σ H1 vs us Q I1 r1 q1) he hpl
end
end L2
namespace HT
open PySem PyProof.Rows
section
open PySem.SeqAt
open PySem.AutoSeq1 (wpAny_loadPart')
open PySem.MeetsSeq PySem.MeetsSeq2 PySem.MeetsSeq3
end
section
variable {prog : Program} {w : World} {A : Around} {E : Value → Shared → Prop} {s : Shared}
def bU (n d : Nat) : Option Int → Nat
 | none => d
 | some v => if v < 0 then (v + (n : Int)).toNat else min v.toNat n
theorem m6 (n d : Nat) : bU n d none = d := rfl
theorem lC (n d k : Nat) : bU n d (some (k : Int)) = min k n := by
 show (if (k : Int) < 0 then ((k : Int) + (n : Int)).toNat else min (k : Int).toNat n) = min k n
 rw [if_neg (by omega), Int.toNat_natCast]
end
end HT
namespace L2
open PySem PySem.Spec PyProof.Rows
abbrev TO := St → Hp → (Option Int → Hp → Prop) → Prop
def PO (X : Cx) (e : Option Expr) (t : TO) : Prop :=
 ∀ (pins : List (Addr × Obj)) (s : Shared) (σ : St) (H : Hp) (Q : Option Int → Hp → Prop), Inv X pins σ H s → t σ H Q →
  wpAny (model X.prog X.w) X.A (evalPart e X.env) (fun u s' => ∃ o H', Inv X pins σ H' s' ∧ IsPart u o ∧ Q o H') X.xe s
def oZ : TO := fun _ H Q => Q none H
section
variable {X : Cx} {e : Expr} {te : TE} {lo hi : Option Expr} {tl th : TO} {pos p2 : Pos}
theorem Jt : PO X none oZ := by
 intro pins s σ H Q I h
 rw [evalPart_none]
 exact wpAny_pure ⟨none, H, I, .none, h⟩
def eV (X : Cx) (r : V → Option Int → Option Int → Hp → VK → Prop) : Prop :=
 ∀ (pins : List (Addr × Obj)) (s : Shared) (σ : St) (H : Hp) (x : V) (v vl vu : Value) (lo hi : Option Int) (sl : Addr) (Q : VK), Inv X pins σ H s → RelV x v → s.heap.IsSliceOf sl vl vu .none → IsPart vl lo → IsPart vu hi → r x lo hi H Q →
  ∃ T id, typeLookup (.type T) "__getitem__" = pure (some (.builtin id)) ∧ s.TypeIs v T ∧ wpAny (model X.prog X.w) X.A (getItem v (.ref sl)) (EP X pins σ Q) X.xe s
theorem eV.or {r r' : V → Option Int → Option Int → Hp → VK → Prop} (h : eV X r) (h' : eV X r') : eV X (fun x lo hi H Q => r x lo hi H Q ∨ r' x lo hi H Q) := by
 intro pins s σ H x v vl vu lo hi sl Q I rx hs pl pu q
 rcases q with q | q
 ·exact h pins s σ H x v vl vu lo hi sl Q I rx hs pl pu q
 ·exact h' pins s σ H x v vl vu lo hi sl Q I rx hs pl pu q
def sW (r : V → Option Int → Option Int → Hp → VK → Prop) (te : TE) (tl th : TO) : TE := fun σ H Q => te σ H fun x H1 => tl σ H1 fun l H2 => th σ H2 fun u H3 => r x l u H3 Q
theorem Hq {r : V → Option Int → Option Int → Hp → VK → Prop} (hr : eV X r) (he : PE X e te) (hl : PO X lo tl) (hu : PO X hi th) : PE X (.Subscript e (.Slice lo hi none p2) pos) (sW r te tl th) := by
 intro pins s σ H Q I h
 refine Subscript_ (aE (he pins s σ H _ I h) fun v s1 ⟨x, H1, I1, r1, q1⟩ => ?_)
 refine wpAny_Slice (aE (hl pins s1 σ H1 _ I1 q1) fun vl s2 ⟨l, H2, I2, pl, q2⟩ => aE (hu pins s2 σ H2 _ I2 q2) fun vu s3 ⟨u, H3, I3, pu, q3⟩ => ?_)
 rw [evalPart_none]
 refine wpAny_pure ?_
 have I4 : Inv X pins σ H3 { s3 with heap := s3.heap.push { cls := .type "slice", data := .fields #[vl, vu, .none] } } := I3.kept (t' := s3.toks) fun b ob q => Heap.get?_push_of_some _ q
 obtain ⟨T, id, hT, ht, hg⟩ := hr pins { s3 with heap := s3.heap.push { cls := .type "slice", data := .fields #[vl, vu, .none] } } σ H3 x v vl vu l u s3.heap.objs.size Q I4 r1 (Heap.IsSliceOf.new ..) pl pu q3
 show wpAny (model X.prog X.w) X.A (subscriptTail e (.Slice lo hi none p2) v (.ref s3.heap.objs.size)) (EP X pins σ Q) X.xe { s3 with heap := s3.heap.push { cls := .type "slice", data := .fields #[vl, vu, .none] } }
 exact tail_any (ops := [.ref s3.heap.objs.size, v]) ht hT hg (by with_unfolding_all rfl)
def cD (xs : List V) (lo hi : Option Int) : List V := (xs.drop (HT.bU xs.length 0 lo)).take (HT.bU xs.length xs.length hi - HT.bU xs.length 0 lo)
theorem JU (xs : List V) (lo hi : Option Int) : (cD xs lo hi).length ≤ xs.length := by
 unfold cD
 rw [List.length_take, List.length_drop]
 omega
end
end L2
namespace L2
open PySem PySem.Spec PyProof.Rows
def cT (n : Nat) (i : Int) : Option Nat := if 0 ≤ i then (if i < n then some i.toNat else none) else if -(n : Int) ≤ i then some (i + n).toNat else none
def bF {α : Type} (xs : List α) (i : Int) : Option α := (cT xs.length i).bind fun j => xs[j]?
theorem yS {n : Nat} {i : Int} {j : Nat} (h : cT n i = some j) : seqIndex? i n = some j ∧ j < n ∧ -(n : Int) ≤ i ∧ i < n := by
 unfold cT at h
 by_cases h0 : 0 ≤ i
 ·rw [if_pos h0] at h
  by_cases h1 : i < n
  ·rw [if_pos h1] at h
   have e : i.toNat = j := Option.some.inj h
   exact ⟨by rw [seqIndex_of h0 h1, e], by omega, by omega, h1⟩
  ·rw [if_neg h1] at h; cases h
 ·rw [if_neg h0] at h
  by_cases h1 : -(n : Int) ≤ i
  ·rw [if_pos h1] at h
   have e : (i + n).toNat = j := Option.some.inj h
   exact ⟨by rw [seqIndex_neg (by omega) h1, e], by omega, h1, by omega⟩
  ·rw [if_neg h1] at h; cases h
theorem qh {α : Type} {xs : List α} {i : Int} {v : α} (h : bF xs i = some v) : ∃ j, seqIndex? i xs.length = some j ∧ xs[j]? = some v ∧ j < xs.length ∧ -(xs.length : Int) ≤ i ∧ i < xs.length := by
 unfold bF at h
 cases e : cT xs.length i with
 | none => rw [e] at h; cases h
 | some j =>
  rw [e] at h
  obtain ⟨h1, h2, h3, h4⟩ := yS e
  exact ⟨j, h1, h, h2, h3, h4⟩
theorem gR {α : Type} {xs : List α} {j : Nat} {v : α} (h : xs[j]? = some v) : bF xs (j : Int) = some v := by
 have hj : j < xs.length := (List.getElem?_eq_some_iff.mp h).1
 have e : cT xs.length (j : Int) = some j := by
  unfold cT
  rw [if_pos (by omega), if_pos (by omega)]; simp
 unfold bF; rw [e]; exact h
theorem iI {α : Type} (xs : List α) (v : α) : bF (xs ++ [v]) (-1) = some v := by
 have hl : (xs ++ [v]).length = xs.length + 1 := by simp
 have e : cT (xs ++ [v]).length (-1) = some xs.length := by
  unfold cT
  rw [hl, if_neg (by decide), if_pos (by omega)]
  congr 1
  omega
 unfold bF
 rw [e]
 show (xs ++ [v])[xs.length]? = some v
 simp
def w6 (b : Expr) : Prop := ∀ o i, subscripted b false o i = operate [o, i] (getItem o i)
def cN (X : Cx) (r : R2) : Prop :=
 ∀ (value slice : Expr) (pins : List (Addr × Obj)) (s : Shared) (σ : St) (H : Hp) (x y : V) (v u : Value) (Q : VK), Inv X pins σ H s → RelV x v → RelV y u → r x y H Q →
  subscripted slice false v u = operate [v, u] (getItem v u) → wpAny (model X.prog X.w) X.A (subscriptTail value slice v u) (EP X pins σ Q) X.xe s
def ck (X : Cx) (id : String) (r : V → List V → Hp → VK → Prop) : Prop :=
 ∀ (pins : List (Addr × Obj)) (s : Shared) (σ : St) (H : Hp) (x : V) (xs : List V) (v : Value) (us : List Value) (Q : VK), Inv X pins σ H s → RelV x v → Vals xs us → r x xs H Q →
  wpAny (model X.prog X.w) X.A (call (.builtin id) (v :: us)) (EP X pins σ Q) X.xe s
section
variable {X : Cx} {a b : Expr} {ta tb : TE} {pos : Pos}
theorem cN.or {r r' : R2} (h : cN X r) (h' : cN X r') : cN X (fun x y H Q => r x y H Q ∨ r' x y H Q) := by
 intro value slice pins s σ H x y v u Q I rx ry q hs
 rcases q with q | q
 ·exact h value slice pins s σ H x y v u Q I rx ry q hs
 ·exact h' value slice pins s σ H x y v u Q I rx ry q hs
theorem Fv {r : R2} (hr : cN X r) (ha : PE X a ta) (hb : PE X b tb) (hs : w6 b) : PE X (.Subscript a b pos) (fO r ta tb) := by
 intro pins s σ H Q I h
 exact Subscript_ (ua ha hb I h fun v u s2 x y H2 I2 rx ry q => hr a b pins s2 σ H2 x y v u Q I2 rx ry q (hs _ _))
def Bj (K : PySem.W.Frag) : R2 := fun x y H Q => ∃ p xs i v, x = .ref p ∧ y = .int i ∧ aL K H p xs ∧ bF xs i = some v ∧ Q v H
def xg (K : PySem.W.Frag) : R2 := fun x y H Q => ∃ p xs i v, x = .ref p ∧ y = .int i ∧ bY K H p xs ∧ bF xs i = some v ∧ Q v H
def zY : R2 := fun x y H Q => ∃ z i c, x = .str z ∧ y = .int i ∧ z.length ≤ sizeLine ∧ bF z.cps.toList i = some c ∧ Q (.str ⟨#[c]⟩) H
theorem xq : cN X (Bj X.K) := by
 intro value slice pins s σ H x y v u Q I rx ry h hs
 obtain ⟨p, xs, i, z, rfl, rfl, hq, he, q⟩ := h
 cases rx
 obtain ⟨t, rfl⟩ := ry
 obtain ⟨its, r, pl, hz⟩ := I.list hq
 obtain ⟨j, h1, h2, h3, h4, h5⟩ := qh he
 obtain ⟨w, ew, rw'⟩ := r.get h2
 have hl := r.length
 have hn := kH
 have fin : EP X pins σ Q w s := ⟨z, H, I, rw', q⟩
 by_cases h0 : 0 ≤ i
 ·have hj : i.toNat = j := by
   rw [seqIndex_of h0 h5] at h1
   exact Option.some.inj h1
  exact item_listR pl.isList h0 (by omega) (by rw [hj]; simpa using ew) fin hs
 ·have hj : (i + (its.toArray.size : Int)).toNat = j := by
   rw [seqIndex_neg (by omega) h4] at h1
   rw [List.size_toArray, ← hl]
   exact Option.some.inj h1
  exact subscriptTail_builtinR (x := w) pl.isList.typeIs slot_list_getitem.lookup
   (wpAny_getItem_list_neg (Q := fun r s' => r = w ∧ EP X pins σ Q r s') pl.isList (by omega) (by rw [List.size_toArray] <;> omega) (by omega) (by rw [hj]; simpa using ew) ⟨rfl, fin⟩) hs
theorem Jo : cN X (xg X.K) := by
 intro value slice pins s σ H x y v u Q I rx ry h hs
 obtain ⟨p, xs, i, z, rfl, rfl, hq, he, q⟩ := h
 cases rx
 obtain ⟨t, rfl⟩ := ry
 obtain ⟨its, r, pl, hz⟩ := I.tuple hq
 obtain ⟨j, h1, h2, h3, h4, h5⟩ := qh he
 obtain ⟨w, ew, rw'⟩ := r.get h2
 have hl := r.length
 have hn := kH
 have fin : EP X pins σ Q w s := ⟨z, H, I, rw', q⟩
 exact subscriptTail_builtinR (x := w) pl.typeIs slot_tuple_getitem.lookup
  (getItem_tuple (j := j) (Q := fun r s' => r = w ∧ EP X pins σ Q r s') pl (by omega) (by omega) (by rw [List.size_toArray, ← hl]; exact h1) (by simpa using ew) ⟨rfl, fin⟩) hs
theorem FP : cN X zY := by
 intro value slice pins s σ H x y v u Q I rx ry h hs
 obtain ⟨z, i, c, rfl, rfl, hz, he, q⟩ := h
 obtain ⟨t, rfl⟩ := rx
 obtain ⟨t', rfl⟩ := ry
 obtain ⟨j, h1, h2, h3, h4, h5⟩ := qh he
 have hl : z.cps.toList.length = z.length := by simp [Str.length]
 rw [hl] at h1 h4 h5
 have hn := kH
 exact tail_any (typeIs_str s z t) slot_str_getitem.lookup (getItem_str (c := c) (by
  have e1 : decide (i < -(2 ^ 63 : Int)) = false := decide_eq_false (by omega)
  have e2 : decide (i ≥ 2 ^ 63) = false := decide_eq_false (by omega)
  rw [e1, e2, Bool.or_false]) (by rw [h1]; simpa using h2) ⟨.str ⟨#[c]⟩, H, I.tok _, ⟨_, rfl⟩, q⟩) hs
def Hw (K : PySem.W.Frag) : R2 := fun x y H Q => Bj K x y H Q ∨ xg K x y H Q ∨ zY x y H Q
theorem Ei : cN X (Hw X.K) := xq.or (Jo.or FP)
theorem GW (its : List Value) (n j : Nat) (u : Value) : Obj.mapSeq (·.setIfInBounds j u) { cls := .type "list", data := .seq its.toArray n } = { cls := .type "list", data := .seq (its.set j u).toArray n } := by
 simp [Obj.mapSeq]
theorem Inv.lst {pins : List (Addr × Obj)} {σ : St} {H : Hp} {s : Shared} {p : Addr} {xs : List V} (I : Inv X pins σ H s) (h : H p = some (.lst xs)) :
  ∃ (its : List Value) (n : Nat), Vals xs its ∧ s.heap.get? p = some { cls := .type "list", data := .seq its.toArray n } ∧ xs.length ≤ sizeLine := by
 obtain ⟨z, its, n, r, e⟩ := I.aD p _ h
 exact ⟨its, n, r, e, z⟩
theorem Inv.IU {pins : List (Addr × Obj)} {σ : St} {H : Hp} {s : Shared} {p : Addr} {xs ys : List V} {its its' : List Value} {n n' : Nat} {f : Obj → Obj} (I : Inv X pins σ H s) (h : H p = some (.lst xs))
  (ho : s.heap.get? p = some { cls := .type "list", data := .seq its.toArray n }) (hf : f { cls := .type "list", data := .seq its.toArray n } = { cls := .type "list", data := .seq its'.toArray n' }) (r : Vals ys its') (hz : ys.length ≤ sizeLine) (t : Nat) :
  Inv X pins σ (upd H p (.lst ys)) { s with heap := s.heap.update p f, toks := t } := by
 have e : (s.heap.update p f).get? p = some { cls := .type "list", data := .seq its'.toArray n' } := by
  rw [Heap.get?_update_self f ho (by rw [hf] <;> rfl), hf]
 refine I.write (x := p) (e := p) (by rw [h]; trivial) (.inl rfl) (fun b u hb q => (Heap.get?_update_other _ _ (Ne.symm hb)).trans q) ⟨_, e⟩ ?_
 exact ⟨hz, its', n', r, e⟩
def IK : V → V → V → Hp → (Hp → Prop) → Prop := fun o i v H Q => ∃ p xs k j, o = .ref p ∧ i = .int k ∧ H p = some (.lst xs) ∧ cT xs.length k = some j ∧ Q (upd H p (.lst (xs.set j v)))
theorem set_list : mx X IK := by
 intro pins s σ H o i v ov iv u Q I ro ri rv h
 obtain ⟨p, xs, k, j, rfl, rfl, hp, hj, q⟩ := h
 cases ro
 obtain ⟨t, rfl⟩ := ri
 obtain ⟨its, n, r, ho, hz⟩ := I.lst hp
 obtain ⟨h1, h2, h3, h4⟩ := yS hj
 have hl := r.length
 have hn := kH
 have I' : Inv X pins σ (upd H p (.lst (xs.set j v))) { s with heap := s.heap.update p (Obj.mapSeq (·.setIfInBounds j u)) } :=
  I.IU hp ho (GW its n j u) (r.set rv j) (by rw [List.length_set]; exact hz) s.toks
 by_cases h0 : 0 ≤ k
 ·have hk : k.toNat = j := by
   rw [seqIndex_of h0 h4] at h1
   exact Option.some.inj h1
  exact PySem.W.ki_setAt ho h0 (by omega) (by rw [List.size_toArray, ← hl]; exact h4) (by rw [hk]; exact ⟨_, I', q⟩)
 ·have hk : (k + (its.toArray.size : Int)).toNat = j := by
   rw [seqIndex_neg (by omega) h3] at h1
   rw [List.size_toArray, ← hl]
   exact Option.some.inj h1
  exact PySem.W.ki_setBack ho (by omega) (by rw [List.size_toArray, ← hl]; exact h3) (by omega) (by rw [hk]; exact ⟨_, I', q⟩)
theorem CU (lo hi : Option Int) (n : Nat) : (sliceBounds lo hi none n).1 = ((HT.bU n 0 lo : Nat) : Int) ∧ (sliceBounds lo hi none n).2.1 = ((HT.bU n n hi : Nat) : Int) ∧ (sliceBounds lo hi none n).2.2 = 1 := by
 refine ⟨?_, ?_, rfl⟩
 ·cases lo with
  | none => simp [sliceBounds, HT.bU]
  | some i =>
   simp only [sliceBounds, HT.bU, Option.getD_none, show (1 : Int) > 0 by decide, if_true]
   by_cases h : i < 0
   ·simp only [h, if_true] <;> omega
   ·simp only [h, if_false] <;> omega
 ·cases hi with
  | none => simp [sliceBounds, HT.bU]
  | some i =>
   simp only [sliceBounds, HT.bU, Option.getD_none, show (1 : Int) > 0 by decide, if_true]
   by_cases h : i < 0
   ·simp only [h, if_true] <;> omega
   ·simp only [h, if_false] <;> omega
theorem DN (its : List Value) (lo hi : Option Int) : slicePick its.toArray lo hi none = ((its.drop (HT.bU its.length 0 lo)).take (HT.bU its.length its.length hi - HT.bU its.length 0 lo)).toArray := by
 obtain ⟨h1, h2, h3⟩ := CU lo hi its.toArray.size
 unfold slicePick
 rw [h1, h2, h3]
 simp only [sliceRange_one, pick_run, List.size_toArray] <;> rfl
def F5 (K : PySem.W.Frag) : V → Option Int → Option Int → Hp → VK → Prop := fun x lo hi H Q => ∃ a xs, x = .ref a ∧ aL K H a xs ∧ ∀ p, H p = none → Q (.ref p) (upd H p (.lst (cD xs lo hi)))
theorem Ek : eV X (F5 X.K) := by
 intro pins s σ H x v vl vu lo hi sl Q I rx hs pl pu h
 obtain ⟨a, xs, rfl, hx, q⟩ := h
 cases rx
 obtain ⟨its, r, ht, hz⟩ := I.list hx
 have hlen := r.length
 refine ⟨"list", _, slot_list_getitem.lookup, ht.isList.typeIs, ?_⟩
 refine wpAny_getItem_list_slice ht.isList hs pl pu .none (by simp) ?_ (by rw [List.size_toArray] <;> omega)
 rw [DN, ← hlen]
 refine ⟨.ref s.heap.objs.size, _, I.laid (t' := s.toks) (o := .lst (cD xs lo hi)) (fun b ob q => Heap.get?_push_of_some _ q) (Nat.le_refl _) ?_, rfl, q _ (I.aD.fresh (Nat.le_refl _))⟩
 exact ⟨Nat.le_trans (JU xs lo hi) hz, _, 0, (r.drop (HT.bU xs.length 0 lo)).take (HT.bU xs.length xs.length hi - HT.bU xs.length 0 lo), Heap.get?_push_size _ rfl⟩
def cb : V → Bool
 | .aq => true
 | .bl _ => true
 | .int _ => true
 | .str _ => true
 | _ => false
def c9 : V → V → Bool
 | .aq, .aq => true
 | .bl a, .bl b => a == b
 | .bl a, .int b => (if a then 1 else 0) == b
 | .int a, .bl b => a == (if b then 1 else 0)
 | .int a, .int b => a == b
 | .str a, .str b => a == b
 | _, _ => false
theorem yY {A : Around} {s : Shared} {y x : V} {u v : Value} (ry : RelV y u) (rx : RelV x v) (fy : cb y = true) (fx : cb x = true) : SeqAt.EqAt A s u v (c9 y x) := by
 cases y with
 | aq =>
  cases ry
  cases x with
  | aq => cases rx; exact SeqAt.EqAt.same _
  | bl b => cases rx; exact SeqAt.EqAt.none_bool b
  | int b => obtain ⟨t, rfl⟩ := rx; exact SeqAt.EqAt.none_int b t
  | str b => obtain ⟨t, rfl⟩ := rx; exact SeqAt.EqAt.none_str b t
  | _ => exact absurd (show false = true from fx) Bool.false_ne_true
 | bl a =>
  cases ry
  cases x with
  | aq => cases rx; exact SeqAt.EqAt.bool_none a
  | bl b => cases rx; exact SeqAt.EqAt.bool_bool a b
  | int b => obtain ⟨t, rfl⟩ := rx; exact SeqAt.EqAt.bool_int a b t
  | str b => obtain ⟨t, rfl⟩ := rx; exact SeqAt.EqAt.bool_str a b t
  | _ => exact absurd (show false = true from fx) Bool.false_ne_true
 | int a =>
  obtain ⟨t', rfl⟩ := ry
  cases x with
  | aq => cases rx; exact SeqAt.EqAt.int_none a t'
  | bl b => cases rx; exact SeqAt.EqAt.int_bool a t' b
  | int b => obtain ⟨t, rfl⟩ := rx; exact SeqAt.EqAt.int_int a t' b t
  | str b => obtain ⟨t, rfl⟩ := rx; exact SeqAt.EqAt.int_str a t' b t
  | _ => exact absurd (show false = true from fx) Bool.false_ne_true
 | str a =>
  obtain ⟨t', rfl⟩ := ry
  cases x with
  | aq => cases rx; exact SeqAt.EqAt.str_none a t'
  | bl b => cases rx; exact SeqAt.EqAt.str_bool a t' b
  | int b => obtain ⟨t, rfl⟩ := rx; exact SeqAt.EqAt.str_int a t' b t
  | str b => obtain ⟨t, rfl⟩ := rx; exact SeqAt.EqAt.str_str a t' b t
  | _ => exact absurd (show false = true from fx) Bool.false_ne_true
 | _ => exact absurd (show false = true from fy) Bool.false_ne_true
def cS (x : V) (u : Value) : Bool := match u with
 | .none => c9 .aq x
 | .bool b => c9 (.bl b) x
 | .int i _ => c9 (.int i) x
 | .str z _ => c9 (.str z) x
 | _ => false
theorem zR {x y : V} {u : Value} (r : RelV y u) (f : cb y = true) : cS x u = c9 y x := by
 cases y with
 | aq => cases r; rfl
 | bl b => cases r; rfl
 | int i => obtain ⟨t, rfl⟩ := r; rfl
 | str z => obtain ⟨t, rfl⟩ := r; rfl
 | _ => exact absurd (show false = true from f) Bool.false_ne_true
theorem kM {x : V} : ∀ {xs : List V} {us : List Value}, Vals xs us → xs.all cb = true → us.any (cS x) = xs.any fun y => c9 y x
 | _, _, .nil, _ => rfl
 | y :: xs, u :: us, .cons r t, f => by
  rw [List.all_cons, Bool.and_eq_true] at f
  rw [List.any_cons, List.any_cons, zR r f.1, kM t f.2]
theorem j4 {A : Around} {s : Shared} {x : V} {v : Value} (rx : RelV x v) (fx : cb x = true) : ∀ {xs : List V} {us : List Value}, Vals xs us → xs.all cb = true → ∀ u ∈ us, SeqAt.EqAt A s u v (cS x u)
 | _, _, .nil, _ => fun u hu => by cases hu
 | y :: xs, u :: us, .cons r t, f => fun u' hu => by
  rw [List.all_cons, Bool.and_eq_true] at f
  rcases List.mem_cons.mp hu with rfl | hu
  ·rw [zR r f.1]; exact yY r rx f.1 fx
  ·exact j4 rx fx t f.2 u' hu
def cW (x : V) (xs : List V) : Bool := xs.any fun y => c9 y x
def Ac (K : PySem.W.Frag) (neg : Bool) : R2 := fun x y H Q => ∃ p xs, y = .ref p ∧ (aL K H p xs ∨ bY K H p xs) ∧ cb x = true ∧ xs.all cb = true ∧ Q (.bl (if neg then !cW x xs else cW x xs)) H
theorem z7 : aQ X (compareOp .In) (Ac X.K false) := by
 intro pins s σ H x y v u Q I rx ry h
 obtain ⟨p, xs, rfl, hq, fx, fs, q⟩ := h
 cases ry
 rcases hq with hq | hq
 ·obtain ⟨its, r, pl, hz⟩ := I.list hq
  refine SeqAt.in_listAt (cS x) pl.isList (fun w hw => j4 rx fx r fs w (by simpa using hw)) ⟨.bl _, H, I, rfl, ?_⟩
  rw [show its.toArray.any (cS x) = its.any (cS x) by simp, kM r fs]
  exact q
 ·obtain ⟨its, r, pl, hz⟩ := I.tuple hq
  refine SeqAt.in_tupleAt (cS x) pl (fun w hw => j4 rx fx r fs w (by simpa using hw)) ⟨.bl _, H, I, rfl, ?_⟩
  rw [show its.toArray.any (cS x) = its.any (cS x) by simp, kM r fs]
  exact q
theorem Fp : aQ X (compareOp .NotIn) (Ac X.K true) := by
 intro pins s σ H x y v u Q I rx ry h
 obtain ⟨p, xs, rfl, hq, fx, fs, q⟩ := h
 cases ry
 rcases hq with hq | hq
 ·obtain ⟨its, r, pl, hz⟩ := I.list hq
  refine SeqAt.notIn_listAt (cS x) pl.isList (fun w hw => j4 rx fx r fs w (by simpa using hw)) ⟨.bl _, H, I, rfl, ?_⟩
  rw [show its.toArray.any (cS x) = its.any (cS x) by simp, kM r fs]
  exact q
 ·obtain ⟨its, r, pl, hz⟩ := I.tuple hq
  refine SeqAt.notIn_tupleAt (cS x) pl (fun w hw => j4 rx fx r fs w (by simpa using hw)) ⟨.bl _, H, I, rfl, ?_⟩
  rw [show its.toArray.any (cS x) = its.any (cS x) by simp, kM r fs]
  exact q
def Ir (K : PySem.W.Frag) (T : String) (x : V) (H : Hp) : Prop := match x with
 | .str _ => T = "str"
 | .int _ => T = "int"
 | .ref p => (T = "list" ∧ ∃ xs, aL K H p xs) ∨ (T = "tuple" ∧ ∃ o, K.lookup p = some o ∧ o.cls = .type "tuple" ∧ o.dict = none) ∨
   (T = "dict" ∧ ((∃ kvs, H p = some (.dK kvs)) ∨ ∃ kvs, H p = some (.dT kvs))) ∨ (T = "set" ∧ ∃ S n, H p = some (.set S n))
 | _ => False
theorem p4 {pins : List (Addr × Obj)} {σ : St} {H : Hp} {s : Shared} {T : String} {x : V} {v : Value} (I : Inv X pins σ H s) (r : RelV x v) (ty : Ir X.K T x H) :
  s.TypeIs v T ∧ ∀ a, v = .ref a → ∃ ob, s.heap.get? a = some ob ∧ ob.dict = none := by
 cases x with
 | str z =>
  obtain ⟨t, rfl⟩ := r
  cases (show T = "str" from ty)
  exact ⟨typeIs_str s z t, fun _ e => nomatch e⟩
 | int i =>
  obtain ⟨t, rfl⟩ := r
  cases (show T = "int" from ty)
  exact ⟨typeIs_int s i t, fun _ e => nomatch e⟩
 | ref p =>
  cases r
  rcases ty with ⟨rfl, xs, hq⟩ | ⟨rfl, o, hk, hc, hd⟩ | ⟨rfl, hk⟩ | ⟨rfl, S, n, hk⟩
  ·obtain ⟨its, _, pl, _⟩ := I.list hq
   refine ⟨pl.isList.typeIs, fun a e => ?_⟩
   cases e
   obtain ⟨o, n, e, c, hd, _⟩ := pl
   exact ⟨o, e, hd⟩
  ·refine ⟨⟨o, I.bx p o hk, hc⟩, fun a e => ?_⟩
   cases e
   exact ⟨o, I.bx _ o hk, hd⟩
  ·have z : ∃ o, s.heap.get? p = some o ∧ o.ExactDict := by
    rcases hk with ⟨kvs, hk⟩ | ⟨kvs, hk⟩
    ·obtain ⟨_, _, _, _, o, _, _, e, ex, _⟩ := I.aD p _ hk
     exact ⟨o, e, ex⟩
    ·obtain ⟨_, _, _, _, o, _, _, e, ex, _⟩ := I.aD p _ hk
     exact ⟨o, e, ex⟩
   obtain ⟨o, e, ex⟩ := z
   refine ⟨⟨o, e, ex.1⟩, fun a e2 => ?_⟩
   cases e2
   exact ⟨o, e, ex.2.1⟩
  ·obtain ⟨o, _, _, _, e, ex, _⟩ := I.aD p _ hk
   refine ⟨⟨o, e, ex.1⟩, fun a e2 => ?_⟩
   cases e2
   exact ⟨o, e, ex.2.1⟩
 | _ => exact False.elim ty
variable {o e : Expr} {es : List Expr} {to : TE} {t : TA} {name : Str} {apos bb : Pos} {T id : String} {r : V → List V → Hp → VK → Prop}
/- xs.append(e), list.index on a module's tuple .. are ck facts of 06m -/
end
end L2
namespace L2
open PySem PySem.Spec PyProof.Rows
def Bl (X : Cx) (id : String) (r : V → List V → Hp → VK → Prop) : Prop :=
 ∀ (pins : List (Addr × Obj)) (s : Shared) (σ : St) (H : Hp) (x : V) (xs : List V) (v : Value) (us : List Value) (Q : VK), Inv X pins σ H s → RelV x v → Vals xs us → r x xs H Q →
  wpAny (model X.prog X.w) X.A (call (.builtin id) (v :: us)) (EP X pins σ Q) X.xe s
theorem Vals.one : ∀ {x : V} {us : List Value}, Vals [x] us → ∃ u, us = [u] ∧ RelV x u
 | _, _, .cons r .nil => ⟨_, rfl, r⟩
theorem Vals.zero : ∀ {us : List Value}, Vals [] us → us = []
 | _, .nil => rfl
theorem Vals.dropLast {xs : List V} {us : List Value} (h : Vals xs us) : Vals xs.dropLast us.dropLast := by
 induction h with
 | nil => exact .nil
 | cons r t ih =>
  cases t with
  | nil => exact .nil
  | cons q t' => exact .cons r ih
theorem Vals.rep {xs : List V} {us : List Value} (h : Vals xs us) : ∀ k : Nat, Vals (List.replicate k xs).flatten (List.replicate k us).flatten
 | 0 => .nil
 | k + 1 => by
  rw [List.replicate_succ, List.replicate_succ, List.flatten_cons, List.flatten_cons]
  exact Vals.append h (Vals.rep h k)
theorem Dj {α : Type} (l : List α) : l.eraseIdx (l.length - 1) = l.dropLast := by
 induction l with
 | nil => rfl
 | cons a r ih =>
  cases r with
  | nil => rfl
  | cons b r =>
   have e : (a :: b :: r).length - 1 = ((b :: r).length - 1) + 1 := by
    have h1 : (a :: b :: r).length = r.length + 2 := rfl
    have h2 : (b :: r).length = r.length + 1 := rfl
    omega
   rw [e, List.eraseIdx_cons_succ, ih]
   all_goals rfl
theorem foldl_rep (its : List Value) : ∀ (k : Nat) (acc : List Value),
  List.foldl (fun x1 x2 => x1 ++ x2) acc.toArray (List.replicate k its.toArray) = (acc ++ (List.replicate k its).flatten).toArray
 | 0, acc => by simp
 | k + 1, acc => by
  have e : acc.toArray ++ its.toArray = (acc ++ its).toArray := by simp
  have e2 : (acc ++ its) ++ (List.replicate k its).flatten = acc ++ (List.replicate (k + 1) its).flatten := by
   rw [List.replicate_succ, List.flatten_cons, List.append_assoc]
  rw [← e2, ← foldl_rep its k (acc ++ its), ← e, List.replicate_succ, List.foldl_cons]
section
variable {X : Cx} {pins : List (Addr × Obj)} {σ : St} {H : Hp} {s : Shared} {l b : Addr} {xs ys zs : List V}
theorem Inv.zA {its its' : List Value} {n : Nat} {f : Array Value → Array Value} {t' : Nat} (I : Inv X pins σ H s) (hH : H l = some (.lst xs))
  (e : s.heap.get? l = some { cls := .type "list", data := .seq its.toArray n }) (hf : f its.toArray = its'.toArray) (hv : Vals ys its') (hz : ys.length ≤ sizeLine) :
  Inv X pins σ (upd H l (.lst ys)) { s with heap := s.heap.update l (Obj.mapSeq f), toks := t' } := by
 have q := PySem.IsL.update e f
 rw [hf] at q
 refine I.write (x := l) (e := l) (by rw [hH]; exact trivial) (.inl rfl) (fun b' u hb hu => (Heap.get?_update_other s.heap (Obj.mapSeq f) (Ne.symm hb)).trans hu) ⟨_, q⟩ ?_
 exact ⟨hz, its', _, hv, q⟩
theorem Inv.wW {its : List Value} {t' : Nat} (I : Inv X pins σ H s) (hv : Vals ys its) (hz : ys.length ≤ sizeLine) :
  Inv X pins σ (upd H s.heap.objs.size (.lst ys)) { s with heap := s.heap.push { cls := .type "list", data := .seq its.toArray }, toks := t' } :=
 I.laid (fun _ _ q => Heap.get?_push_of_some _ q) (Nat.le_refl _) ⟨hz, its, 0, hv, Heap.get?_push_size _ rfl⟩
theorem Inv.fresh (I : Inv X pins σ H s) : H s.heap.objs.size = none := I.aD.fresh (Nat.le_refl _)
theorem Inv.j3 (I : Inv X pins σ H s) (hH : H l = some (.lst xs)) : xs.length ≤ sizeLine ∧ ∃ (its : List Value) (n : Nat), Vals xs its ∧ xs.length = its.length ∧ s.heap.get? l = some { cls := .type "list", data := .seq its.toArray n } := by
 obtain ⟨z, its, n, r, e⟩ := I.aD l _ hH
 exact ⟨z, its, n, r, r.length, e⟩
theorem K9 {n : Nat} (h : n ≤ sizeLine) : Builtin.List.listTooLong n = false := by
 unfold Builtin.List.listTooLong
 exact decide_eq_false (by omega)
end
section
variable {X : Cx}
def IT : V → List V → Hp → VK → Prop := fun x vs H Q => ∃ l xs y, x = .ref l ∧ vs = [y] ∧ H l = some (.lst xs) ∧ xs.length < sizeLine ∧ Q .aq (upd H l (.lst (xs ++ [y])))
theorem Cd : Bl X "list.append" IT := by
 intro pins s σ H x vs v us Q I rx rv h
 obtain ⟨l, xs, y, rfl, rfl, hH, hz, q⟩ := h
 cases rx
 obtain ⟨u, rfl, ru⟩ := rv.one
 obtain ⟨z, its, n, r, hl, e⟩ := I.j3 hH
 refine call_meets F.slot_list_append ⟨_, e, rfl⟩ F.entry_list_append (F.args_list_append_2 _ _) (PySem.list_append l its.toArray n u (by rw [List.size_toArray]; omega)) ⟨e, ?_⟩
 refine ⟨.aq, _, I.zA (its' := its ++ [u]) hH e (by simp) (r.append (.cons ru .nil)) ?_, rfl, q⟩
 rw [List.length_append, List.length_singleton]
 omega
def xi : V → List V → Hp → VK → Prop := fun x vs H Q => ∃ l xs y, x = .ref l ∧ vs = [] ∧ H l = some (.lst xs) ∧ xs[xs.length - 1]? = some y ∧ Q y (upd H l (.lst xs.dropLast))
theorem DH : Bl X "list.pop" xi := by
 intro pins s σ H x vs v us Q I rx rv h
 obtain ⟨l, xs, y, rfl, rfl, hH, hy, q⟩ := h
 cases rx
 have hus := rv.zero
 subst hus
 obtain ⟨z, its, n, r, hl, e⟩ := I.j3 hH
 obtain ⟨u, hu, ru⟩ := r.get hy
 have hy' : its.toArray[its.toArray.size - 1]? = some u := by
  show its.toArray[its.length - 1]? = some u
  rw [← Array.getElem?_toList, ← hl]
  exact hu
 refine call_meets F.slot_list_pop ⟨_, e, rfl⟩ F.entry_list_pop (F.args_list_pop_1 _) (MeetsSeq.list_pop_last l its.toArray n u hy' (by rw [List.size_toArray]; omega)) ⟨e, ?_⟩
 refine ⟨y, _, I.zA (its' := its.dropLast) hH e ?_ r.dropLast ?_, ru, q⟩
 ·show its.toArray.eraseIdxIfInBounds (its.toArray.size - 1) = its.dropLast.toArray
  rw [List.size_toArray, List.eraseIdxIfInBounds_toArray, Dj]
 ·rw [List.length_dropLast]
  omega
def DT : R2 := fun x y H Q => ∃ l b xs zs, x = .ref l ∧ y = .ref b ∧ H l = some (.lst xs) ∧ H b = some (.lst zs) ∧ xs.length + zs.length ≤ sizeLine ∧ ∀ p, H p = none → Q (.ref p) (upd H p (.lst (xs ++ zs)))
theorem EJ : aQ X (binaryOp .Add) DT := by
 intro pins s σ H x y v u Q I rx ry h
 obtain ⟨l, b, xs, zs, rfl, rfl, hH, hB, hz, q⟩ := h
 cases rx
 cases ry
 obtain ⟨z, its, n, r, hl, e⟩ := I.j3 hH
 obtain ⟨z2, B6, n2, r2, cu, e2⟩ := I.j3 hB
 refine PySem.P.add_list e e2 ?_ (by rw [List.size_toArray, List.size_toArray]; omega)
 have ea : its.toArray ++ B6.toArray = (its ++ B6).toArray := by simp
 rw [ea]
 exact ⟨.ref _, _, I.wW (t' := s.toks) (r.append r2) (by rw [List.length_append]; omega), rfl, q _ I.fresh⟩
def EK : R2 := fun x y H Q => ∃ l k xs, x = .ref l ∧ y = .int k ∧ H l = some (.lst xs) ∧ -(2 ^ 63) ≤ k ∧ k < 2 ^ 63 ∧ xs.length * k.toNat ≤ sizeLine ∧
 ∀ p, H p = none → Q (.ref p) (upd H p (.lst (List.replicate k.toNat xs).flatten))
theorem len_rep {α : Type} (xs : List α) (k : Nat) : (List.replicate k xs).flatten.length = k * xs.length := by
 induction k with
 | zero => simp
 | succ k ih => rw [List.replicate_succ, List.flatten_cons, List.length_append, ih, Nat.succ_mul, Nat.add_comm]
theorem DO : aQ X (binaryOp .Mult) EK := by
 intro pins s σ H x y v u Q I rx ry h
 obtain ⟨l, k, xs, rfl, rfl, hH, h1, h2, hz, q⟩ := h
 cases rx
 obtain ⟨t, rfl⟩ := ry
 obtain ⟨z, its, n, r, hl, e⟩ := I.j3 hH
 have hlen : its.toArray.size * k.toNat ≤ sizeLine := by rw [List.size_toArray, ← hl]; exact hz
 have hcap : ¬ its.toArray.size * k.toNat > (2 ^ 63 - 1) / 8 := by
  have : (sizeLine : Nat) ≤ (2 ^ 63 - 1) / 8 := by decide
  omega
 have vW : ¬ (!Builtin.List.listFitsIndex k) = true := by
  rw [fitsIndex_both h1 h2]
  exact Bool.false_ne_true
 have hlong : ¬ Builtin.List.listTooLong (its.toArray.size * k.toNat) = true := by
  rw [K9 hlen]
  exact Bool.false_ne_true
 have hnew : List.foldl (fun x1 x2 => x1 ++ x2) #[] (List.replicate (if its.toArray.isEmpty = true then 0 else k.toNat) its.toArray) = (List.replicate k.toNat its).flatten.toArray := by
  have f0 : ∀ m : Nat, List.foldl (fun x1 x2 => x1 ++ x2) #[] (List.replicate m its.toArray) = (List.replicate m its).flatten.toArray := fun m => by
   have := foldl_rep its m []
   rw [List.nil_append] at this
   exact this
  rw [f0]
  cases its with
  | nil => simp
  | cons a r' => rw [if_neg (by simp)]
 refine wpAny_binaryOp_repeat_ref (T := "list") (U := "int") (by decide) ⟨_, e, rfl⟩ (fun s' => typeIs_int s' k t) noFill_list_mul F.fills_int_mul F.slot_int_rmul repeat_list F.slot_int_index.lookup
  (call_meets F.slot_int_rmul (typeIs_int s k t) F.entry_int_rmul (F.args_int_rmul_2 _ _) (int___rmul___int_list k t l its.toArray n)
   ⟨e, rfl, ⟨_, e, rfl⟩, call_meets F.slot_list_mul ⟨_, e, rfl⟩ F.entry_list_mul (F.args_list_mul_2 _ _) (AutoListH.list___mul___list_int_3 l its.toArray n k t vW hcap hlong) ⟨e, ?_⟩⟩)
 rw [hnew]
 exact ⟨.ref _, _, I.wW (t' := s.toks) (r.rep k.toNat) (by rw [len_rep, Nat.mul_comm]; exact hz), rfl, q _ I.fresh⟩
end
section
variable {prog : Program} {w : World} {A : Around} {E : Value → Shared → Prop} {s : Shared}
end
section
variable {X : Cx}
end
end L2
namespace L2
open PySem PySem.Spec PyProof.Rows
section
variable {κ : Type} [DecidableEq κ]
def aH (kvs : List (κ × V)) (k : κ) : Option V := (kvs.find? fun kv => decide (kv.1 = k)).map (·.2)
def putK (kvs : List (κ × V)) (k : κ) (v : V) : List (κ × V) :=
 if (kvs.any fun kv => decide (kv.1 = k)) = true then kvs.map (fun kv => if kv.1 = k then (kv.1, v) else kv) else kvs ++ [(k, v)]
theorem fC {p : κ × V} {r : List (κ × V)} {k : κ} (e : p.1 = k) : aH (p :: r) k = some p.2 := by simp [aH, List.find?_cons, e]
theorem jI {p : κ × V} {r : List (κ × V)} {k : κ} (e : ¬ p.1 = k) : aH (p :: r) k = aH r k := by simp [aH, List.find?_cons, e]
theorem ka (k : κ) : ∀ kvs : List (κ × V), (kvs.any fun kv => decide (kv.1 = k)) = (aH kvs k).isSome
 | [] => rfl
 | p :: r => by
  rw [List.any_cons]
  by_cases e : p.1 = k
  ·simp only [fC e, decide_eq_true e, Bool.true_or, Option.isSome_some]
  ·rw [jI e, decide_eq_false e, Bool.false_or]; exact ka k r
theorem xB (kvs : List (κ × V)) (k : κ) (v : V) : (putK kvs k v).length ≤ kvs.length + 1 := by
 unfold putK
 split
 ·rw [List.length_map]; omega
 ·rw [List.length_append, List.length_cons, List.length_nil]; omega
theorem cz.lH {o : Option V} {u : Option Value} (r : cz o u) : o.isSome = u.isSome := by
 cases o with
 | none => cases u with
  | none => rfl
  | some _ => exact (show False from r).elim
 | some _ => cases u with
  | none => exact (show False from r).elim
  | some _ => rfl
theorem cz.getD {o : Option V} {u : Option Value} {d : V} {d' : Value} (r : cz o u) (rd : RelV d d') : RelV (o.getD d) (u.getD d') := by
 cases o with
 | none => cases u with
  | none => exact rd
  | some _ => exact (show False from r).elim
 | some _ => cases u with
  | none => exact (show False from r).elim
  | some _ => exact r
theorem KV.val {kvs : List (κ × V)} {vs : List (κ × Value)} (r : KV kvs vs) (k : κ) : cz (aH kvs k) (valueAt vs k) := by
 unfold KV at r
 induction r with
 | nil => exact True.intro
 | @cons p q ps qs h t ih =>
  obtain ⟨h1, h2⟩ := h
  by_cases e : p.1 = k
  ·have e' : q.1 = k := h1.symm.trans e
   have b : valueAt (q :: qs) k = some q.2 := by simp [valueAt, List.find?_cons, e']
   rw [fC e, b]; exact h2
  ·have e' : ¬ q.1 = k := fun z => e (h1.trans z)
   have b : valueAt (q :: qs) k = valueAt qs k := by simp [valueAt, List.find?_cons, e']
   rw [jI e, b]; exact ih
theorem KV.any {kvs : List (κ × V)} {vs : List (κ × Value)} (r : KV kvs vs) (k : κ) : (kvs.any fun kv => decide (kv.1 = k)) = vs.any fun kv => decide (kv.1 = k) := by
 unfold KV at r
 induction r with
 | nil => rfl
 | cons h t ih => rw [List.any_cons, List.any_cons, ih, h.1]
theorem KV.tZ {kvs : List (κ × V)} {vs : List (κ × Value)} (r : KV kvs vs) (k : κ) {y : V} {u : Value} (ry : RelV y u) :
  KV (kvs.map fun kv => if kv.1 = k then (kv.1, y) else kv) (vs.map fun kv => if kv.1 = k then (kv.1, u) else kv) := by
 unfold KV at r ⊢
 induction r with
 | nil => exact .nil
 | @cons p q ps qs h t ih =>
  rw [List.map_cons, List.map_cons]
  refine .cons ?_ ih
  obtain ⟨h1, h2⟩ := h
  by_cases e : p.1 = k
  ·rw [if_pos e, if_pos (h1.symm.trans e)]; exact ⟨h1, ry⟩
  ·rw [if_neg e, if_neg (fun z => e (h1.trans z))]; exact ⟨h1, h2⟩
theorem KV.put {kvs : List (κ × V)} {vs : List (κ × Value)} (r : KV kvs vs) (k : κ) {y : V} {u : Value} (ry : RelV y u) : KV (putK kvs k y) (stored vs k u) := by
 unfold putK stored
 rw [r.any k]
 by_cases e : (vs.any fun kv => decide (kv.1 = k)) = true
 ·rw [if_pos e, if_pos e]; exact r.tZ k ry
 ·rw [if_neg e, if_neg e]; exact Paired.snoc r ⟨rfl, ry⟩
theorem KV.keys {kvs : List (κ × V)} {vs : List (κ × Value)} (r : KV kvs vs) : kvs.map (·.1) = vs.map (·.1) := by
 unfold KV at r
 induction r with
 | nil => rfl
 | cons h t ih => rw [List.map_cons, List.map_cons, ih, h.1]
theorem KV.length {kvs : List (κ × V)} {vs : List (κ × Value)} (r : KV kvs vs) : kvs.length = vs.length := Paired.length r
end
theorem iS {P : Program} {w : World} {k : Key} {u : Value} (r : RelV (kV k) u) : (cj P w).is k u = true := by
 cases k with
 | inl i => obtain ⟨t, e⟩ := (show ∃ t, u = Value.int i t from r); subst e; exact E5 P w i t
 | inr x => obtain ⟨t, e⟩ := (show ∃ t, u = Value.str x t from r); subst e; exact DV P w x t
theorem yu {P : Program} {w : World} : ∀ {ks : List Key} {us : List Value}, Vals (ks.map kV) us → ItemsAre (cj P w) ks us
 | [], _, r => by rw [List.map_nil] at r; cases r; exact .nil
 | k :: ks, _, r => by
  rw [List.map_cons] at r
  cases r with
  | cons h t => exact .cons (iS h) (yu t)
abbrev KT (H : Hp) : List (List Key × V) → List (List Key × Addr × Value) → Prop := Paired fun p q => p.1 = q.1 ∧ H q.2.1 = some (.tup (p.1.map kV)) ∧ RelV p.2 q.2.2
theorem KT.val {H : Hp} {kvs : List (List Key × V)} {xs : List (List Key × Addr × Value)} (r : KT H kvs xs) (k : List Key) : cz (aH kvs k) ((atKey xs k).map (·.2)) := by
 induction r with
 | nil => exact True.intro
 | @cons p q ps qs h t ih =>
  obtain ⟨h1, _, h2⟩ := h
  by_cases e : p.1 = k
  ·have e' : q.1 = k := h1.symm.trans e
   have b : atKey (q :: qs) k = some q.2 := by simp [atKey, List.find?_cons, e']
   rw [fC e, b]; exact h2
  ·have e' : ¬ q.1 = k := fun z => e (h1.trans z)
   have b : atKey (q :: qs) k = atKey qs k := by simp [atKey, List.find?_cons, e']
   rw [jI e, b]; exact ih
theorem KT.tZ {H : Hp} {kvs : List (List Key × V)} {xs : List (List Key × Addr × Value)} (r : KT H kvs xs) (k : List Key) {y : V} {u : Value} (ry : RelV y u) :
  KT H (kvs.map fun kv => if kv.1 = k then (kv.1, y) else kv) (xs.map (putAt k u)) := by
 induction r with
 | nil => exact .nil
 | @cons p q ps qs h t ih =>
  rw [List.map_cons, List.map_cons]
  refine .cons ?_ ih
  obtain ⟨h1, h2, h3⟩ := h
  unfold putAt
  by_cases e : p.1 = k
  ·rw [if_pos e, if_pos (h1.symm.trans e)]; exact ⟨h1, h2, ry⟩
  ·rw [if_neg e, if_neg (fun z => e (h1.trans z))]; exact ⟨h1, h2, h3⟩
theorem KT.put {H : Hp} {kvs : List (List Key × V)} {xs : List (List Key × Addr × Value)} (r : KT H kvs xs) (k : List Key) {b : Addr} {y : V} {u : Value} (hb : H b = some (.tup (k.map kV))) (ry : RelV y u) :
  KT H (putK kvs k y) (storedH xs k b u) := by
 have e : (kvs.any fun kv => decide (kv.1 = k)) = (atKey xs k).isSome := by
  rw [ka, (r.val k).lH, Option.isSome_map]
 unfold putK storedH
 rw [e]
 by_cases q : (atKey xs k).isSome = true
 ·rw [if_pos q, if_pos q]; exact r.tZ k ry
 ·rw [if_neg q, if_neg q]; exact Paired.snoc r ⟨rfl, hb, ry⟩
theorem KT.keeps {H H' : Hp} {kvs : List (List Key × V)} {xs : List (List Key × Addr × Value)} (r : KT H kvs xs) (ht : ∀ b ys, H b = some (.tup ys) → H' b = some (.tup ys)) : KT H' kvs xs :=
 Paired.tW r fun _ _ z => ⟨z.1, ht _ _ z.2.1, z.2.2⟩
section
variable {P : Program} {w : World} {H : Hp} {h : Heap} {a : Addr}
theorem zQ {u : HO} (ok : bt P w H h) (e : Rd H a u) : br P w H h a u := e.ok ok
theorem h9 {kvs : List (Key × V)} (ok : bt P w H h) (e : Rd H a (.dK kvs)) : kvs.length ≤ sizeLine ∧ (a == sysModules) = false ∧ ∃ vs, KV kvs vs ∧ h.DictOf (cj P w) a vs :=
 show br P w H h a (.dK kvs) from zQ ok e
theorem Ie {kvs : List (Key × V)} (ok : bt P w H h) (e : H a = some (.dK kvs)) : kvs.length ≤ sizeLine ∧ (a == sysModules) = false ∧ ∃ vs, KV kvs vs ∧ h.DictOf (cj P w) a vs := h9 ok (.inl e)
theorem iW {ks : List Key} (ok : bt P w H h) (e : H a = some (.tup (ks.map kV))) : (tupleKind (cj P w)).is h ks a := by
 obtain ⟨_, its, r, o, h1, h2, n, h3⟩ := (show br P w H h a (.tup (ks.map kV)) from ok a _ e)
 exact ⟨o, its.toArray, n, h1, h2, h3, by simpa using yu r⟩
theorem gQ {kvs : List (List Key × V)} (ok : bt P w H h) (e : Rd H a (.dT kvs)) : kvs.length ≤ sizeLine ∧ (a == sysModules) = false ∧
  ∃ xs, KT H kvs xs ∧ h.DictOfH (tupleKind (cj P w)) a xs := by
 obtain ⟨z, y, xs, r, o, es, ep, h1, h2, h3, h4, h5⟩ := (show br P w H h a (.dT kvs) from zQ ok e)
 refine ⟨z, y, xs, r, o, es, ep, h1, h2, h3, h4, fun x hx => ?_, h5⟩
 have all : ∀ {l : List (List Key × V)} {m : List (List Key × Addr × Value)}, KT H l m → ∀ x ∈ m, (tupleKind (cj P w)).is h x.1 x.2.1 := by
  intro l m q
  induction q with
  | nil => intro x hx; exact nomatch hx
  | @cons p q ps qs hq t ih =>
   intro x hx
   rcases List.mem_cons.mp hx with e | hx
   ·subst e
    exact iW ok (by rw [← hq.1]; exact hq.2.1)
   ·exact ih x hx
 exact all r x hx
theorem Gs {kvs : List (List Key × V)} (ok : bt P w H h) (e : H a = some (.dT kvs)) : kvs.length ≤ sizeLine ∧ (a == sysModules) = false ∧
  ∃ xs, KT H kvs xs ∧ h.DictOfH (tupleKind (cj P w)) a xs := gQ ok (.inl e)
end
def bP (H : Hp) (a : Addr) (y : V) (r : Option V) : Prop :=
 (∃ kvs k, Rd H a (.dK kvs) ∧ y = kV k ∧ r = aH kvs k) ∨ ∃ kvs k b, Rd H a (.dT kvs) ∧ y = .ref b ∧ H b = some (.tup (k.map kV)) ∧ r = aH kvs k
def cZ (H : Hp) (a : Addr) (y v : V) (H' : Hp) : Prop :=
 (∃ kvs k, H a = some (.dK kvs) ∧ y = kV k ∧ kvs.length < sizeLine ∧ H' = upd H a (.dK (putK kvs k v))) ∨
 ∃ kvs k b, H a = some (.dT kvs) ∧ y = .ref b ∧ H b = some (.tup (k.map kV)) ∧ kvs.length < sizeLine ∧ H' = upd H a (.dT (putK kvs k v))
theorem bP.k {H : Hp} {a : Addr} {kvs : List (Key × V)} {k : Key} (e : H a = some (.dK kvs)) : bP H a (kV k) (aH kvs k) := .inl ⟨kvs, k, .inl e, rfl, rfl⟩
theorem cZ.k {H : Hp} {a : Addr} {kvs : List (Key × V)} {k : Key} {v : V} (e : H a = some (.dK kvs)) (hl : kvs.length < sizeLine) : cZ H a (kV k) v (upd H a (.dK (putK kvs k v))) := .inl ⟨kvs, k, e, rfl, hl, rfl⟩
theorem cZ.t {H : Hp} {a b : Addr} {kvs : List (List Key × V)} {k : List Key} {v : V} (e : H a = some (.dT kvs)) (eb : H b = some (.tup (k.map kV))) (hl : kvs.length < sizeLine) :
  cZ H a (.ref b) v (upd H a (.dT (putK kvs k v))) := .inr ⟨kvs, k, b, e, rfl, eb, hl, rfl⟩
section
variable {X : Cx} {pins : List (Addr × Obj)} {σ : St} {H : Hp} {s : Shared} {a : Addr} {y v : V} {u r : Value} {o : Option V} {A : Around} {E : Value → Shared → Prop}
theorem Inv.big (I : Inv X pins σ H s) : sysModules < s.heap.objs.size := by
 have h : mainGlobals < s.heap.objs.size := (I.mod.glob.keeps I.bk).lt
 exact Nat.lt_trans (by decide) h
theorem Jv {Q : Value → Shared → Prop} (hu : A.units + 1 < cLine) (I : Inv X pins σ H s) (g : bP H a y (some v)) (ry : RelV y u) (h : ∀ w' s', Inv X pins σ H s' → RelV v w' → Q w' s') :
  wpAny (model X.prog X.w) A (getItem (.ref a) u) Q E s := by
 rcases g with ⟨kvs, k, e, ey, l⟩ | ⟨kvs, k, b, e, ey, eb, l⟩
 ·subst ey
  obtain ⟨z, hd, vs, rel, dd⟩ := h9 I.aD e
  obtain ⟨w', hw, rw'⟩ := cz.some_of (v := v) (o := valueAt vs k) (by rw [l]; exact rel.val k)
  exact wpAny_getItem_of (iS ry) dd.mapOf hw (h w' _ (I.tok _) rw')
 ·subst ey
  cases (show u = Value.ref b from ry)
  obtain ⟨z, hd, xs, rel, dd⟩ := gQ I.aD e
  obtain ⟨w', hw, rw'⟩ := cz.some_of (v := v) (o := (atKey xs k).map (·.2)) (by rw [l]; exact rel.val k)
  obtain ⟨p, hp, hp2⟩ := Option.map_eq_some_iff.mp hw
  refine wpAny_getItem_heap (tupleKind_room_in1 hu) (iW I.aD eb) dd hp ?_
  rw [hp2]
  exact h w' _ (I.tok _) rw'
theorem GO {Q : Value → Shared → Prop} (hu : A.units + 1 < cLine) (I : Inv X pins σ H s) (g : bP H a y o) (ry : RelV y u) (h : ∀ s', Inv X pins σ H s' → Q (.bool o.isSome) s') :
  wpAny (model X.prog X.w) A (compareOp .In u (.ref a)) Q E s := by
 rcases g with ⟨kvs, k, e, ey, l⟩ | ⟨kvs, k, b, e, ey, eb, l⟩
 ·subst ey
  obtain ⟨z, hd, vs, rel, dd⟩ := h9 I.aD e
  refine wpAny_in_of (iS ry) hd dd.mapOf ?_
  rw [← (rel.val k).lH, ← l]
  exact h _ (I.tok _)
 ·subst ey
  cases (show u = Value.ref b from ry)
  obtain ⟨z, hd, xs, rel, dd⟩ := gQ I.aD e
  refine wpAny_in_heap (tupleKind_room_in1 hu) (iW I.aD eb) hd dd ?_
  have q := (rel.val k).lH
  rw [Option.isSome_map] at q
  rw [← q, ← l]
  exact h _ (I.tok _)
theorem Ex {Q : Value → Shared → Prop} (hu : A.units + 1 < cLine) (I : Inv X pins σ H s) (g : bP H a y o) (ry : RelV y u) (h : ∀ s', Inv X pins σ H s' → Q (.bool (!o.isSome)) s') :
  wpAny (model X.prog X.w) A (compareOp .NotIn u (.ref a)) Q E s := by
 rcases g with ⟨kvs, k, e, ey, l⟩ | ⟨kvs, k, b, e, ey, eb, l⟩
 ·subst ey
  obtain ⟨z, hd, vs, rel, dd⟩ := h9 I.aD e
  refine wpAny_notIn_of (iS ry) hd dd.mapOf ?_
  rw [← (rel.val k).lH, ← l]
  exact h _ (I.tok _)
 ·subst ey
  cases (show u = Value.ref b from ry)
  obtain ⟨z, hd, xs, rel, dd⟩ := gQ I.aD e
  refine wpAny_notIn_heap (tupleKind_room_in1 hu) (iW I.aD eb) hd dd ?_
  have q := (rel.val k).lH
  rw [Option.isSome_map] at q
  rw [← q, ← l]
  exact h _ (I.tok _)
theorem xF {h' : Heap} {t' : Nat} {ob : HO} (I : Inv X pins σ H s) (mu : lE (H a)) (hs : Heap.SameBut a s.heap h') (he : ∃ q, h'.get? a = some q) (new : br X.prog X.w (upd H a ob) h' a ob) :
  Inv X pins σ (upd H a ob) { s with heap := h', toks := t' } :=
 I.write (x := a) (e := a) mu (.inl rfl) (fun b q hb z => (hs.2 b hb).trans z) he new
theorem DB {P : Program} {w : World} {H' : Hp} {h' : Heap} {kvs : List (Key × V)} {vs : List (Key × Value)} (z : kvs.length ≤ sizeLine) (hd : (a == sysModules) = false) (rel : KV kvs vs) (dd : h'.DictOf (cj P w) a vs) :
  br P w H' h' a (.dK kvs) := ⟨z, hd, vs, rel, dd⟩
theorem Dt {H' : Hp} {Q : Unit → Shared → Prop} (hu : A.units + 1 < cLine) (I : Inv X pins σ H s) (g : cZ H a y v H') (ry : RelV y u) (rv : RelV v r) (h : ∀ s', Inv X pins σ H' s' → Q () s') :
  wpAny (model X.prog X.w) A (setItem (.ref a) u r) Q E s := by
 rcases g with ⟨kvs, k, e, ey, l, eH⟩ | ⟨kvs, k, b, e, ey, eb, l, eH⟩
 ·subst ey eH
  obtain ⟨z, hd, vs, rel, dd⟩ := Ie I.aD e
  have hz : vs.length ≤ sizeLine := by rw [← rel.length]; exact z
  have hl : (putK kvs k v).length ≤ sizeLine := by have := xB kvs k v; omega
  refine wpAny_setItem_pairs (hsz := hz) (iS ry) dd fun h' dd' hs => h _ ?_
  have he : ∃ q, h'.get? a = some q := let ⟨q, _, _, hq, _⟩ := dd'; ⟨q, hq⟩
  exact xF I (by rw [e]; exact True.intro) hs he (DB hl hd (rel.put k rv) dd')
 ·subst ey eH
  cases (show u = Value.ref b from ry)
  obtain ⟨z, hd, xs, rel, dd⟩ := Gs I.aD e
  have hz : xs.length ≤ sizeLine := by rw [← Paired.length rel]; exact z
  have hl : (putK kvs k v).length ≤ sizeLine := by have := xB kvs k v; omega
  refine wpAny_setItem_heap (hsz := hz) (tupleKind_room_in1 hu) (iW I.aD eb) dd fun h' dd' hs => h _ ?_
  obtain ⟨q, es, ep, hq, h2, h3, h4, _, h5⟩ := dd'
  refine xF I (by rw [e]; exact True.intro) hs ⟨q, hq⟩ ⟨hl, hd, _, (rel.put k eb rv).keeps fun c ys ec => ?_, q, es, ep, hq, h2, h3, h4, h5⟩
  rw [ah (Ep ec e (fun z => nomatch z))]
  exact ec
end
section
variable {X : Cx} {pins : List (Addr × Obj)} {σ : St} {H : Hp} {s : Shared} {a : Addr} {kvs : List (Key × V)} {k : Key} {u : Value} {A : Around} {E : Value → Shared → Prop}
end
def sL (i : Expr) : Prop := ∀ ov iv, subscripted i false ov iv = operate [ov, iv] (getItem ov iv)
theorem KY {prog : Program} {w : World} {A : Around} {E : Value → Shared → Prop} {s : Shared} {env : Env} {value slice : Expr} {pos : Pos} {T id : String} {Q : Value → Shared → Prop}
  (hl : typeLookup (.type T) "__getitem__" = pure (some (.builtin id))) (hs : sL slice)
  (h : wpAny (model prog w) A (eval value env) (fun o s₁ => wpAny (model prog w) A (eval slice env) (fun i s₂ => s₂.TypeIs o T ∧ wpAny (model prog w) A (getItem o i) Q E s₂) E s₁) E s) :
  wpAny (model prog w) A (eval (.Subscript value slice pos) env) Q E s := by
 refine Subscript_ (wpAny_mono h (fun o s₁ h₁ => wpAny_mono h₁ (fun i s₂ h₂ => ?_) fun _ _ x => x) fun _ _ x => x)
 obtain ⟨hT, h₂⟩ := h₂
 unfold subscriptTail
 refine wpAny_bind ?_
 rw [getitemInPython_of_ne hT.not_modules]
 refine wpAny_bind (wpAny_specialOf hT hl ?_)
 have fin : wpAny (model prog w) A (subscripted slice false o i) (fun r s₃ => wpAny (model prog w) A (letTemporaryGo value o r >>= fun _ => pure r) Q E s₃) E s₂ := by
  rw [hs o i]
  exact wpAny_operating (wpAny_mono h₂ (fun r s₃ h₃ => wpAny_bind (wpAny_letTemporaryGo (wpAny_pure h₃))) fun _ _ x => x)
 first
  | exact wpAny_pure (wpAny_bind fin)
  | exact wpAny_bind (wpAny_pure (wpAny_bind fin))
  | exact wpAny_bind fin
theorem IF {X : Cx} {pins : List (Addr × Obj)} {σ : St} {H : Hp} {s : Shared} {a : Addr} {y : V} {o : Option V} (I : Inv X pins σ H s) (g : bP H a y o) : s.TypeIs (.ref a) "dict" := by
 rcases g with ⟨kvs, k, e, _, _⟩ | ⟨kvs, k, b, e, _, _, _⟩
 ·obtain ⟨_, _, vs, _, dd⟩ := h9 I.aD e
  exact dd.typeIs
 ·obtain ⟨_, _, xs, _, dd⟩ := gQ I.aD e
  exact dd.typeIs
def uT (td ty : TE) : TE := fun σ H Q => td σ H fun x H1 => ty σ H1 fun y H2 => ∃ a v, x = .ref a ∧ bP H2 a y (some v) ∧ Q v H2
def uJ (ty td : TE) : TE := fun σ H Q => ty σ H fun y H1 => td σ H1 fun x H2 => ∃ a o, x = .ref a ∧ bP H2 a y o ∧ Q (.bl o.isSome) H2
def rF (ty td : TE) : TE := fun σ H Q => ty σ H fun y H1 => td σ H1 fun x H2 => ∃ a o, x = .ref a ∧ bP H2 a y o ∧ Q (.bl (!o.isSome)) H2
def uk (td ty tv : TE) : TS := fun D σ H => tv σ H fun v H1 => td σ H1 fun x H2 => ty σ H2 fun y H3 => ∃ a H4, x = .ref a ∧ cZ H3 a y v H4 ∧ D.nx σ H4
section
variable {X : Cx} {o i e value : Expr} {pos pos' tpos : Pos} {td ty tv : TE}
theorem Hy (hu : X.A.units + 1 < cLine) (ho : PE X o td) (hi : PE X i ty) (hs : sL i) : PE X (.Subscript o i pos) (uT td ty) := by
 intro pins s σ H Q I h
 refine KY PySem.F.slot_dict_getitem.lookup hs (aE (ho pins s σ H _ I h) fun u s1 ⟨x, H1, I1, rx, q1⟩ => aE (hi pins s1 σ H1 _ I1 q1) fun iv s2 ⟨y, H2, I2, ry, a, v, ex, g, q2⟩ => ?_)
 subst ex
 obtain rfl : u = Value.ref a := rx
 exact ⟨IF I2 g, Jv hu I2 g ry fun w' s3 I3 rw' => ⟨v, H2, I3, rw', q2⟩⟩
theorem Fg (hu : X.A.units + 1 < cLine) (hi : PE X i ty) (ho : PE X o td) : PC X .In i o (uJ ty td) := by
 intro pins s σ H Q I h
 refine aE (hi pins s σ H _ I h) fun iv s1 ⟨y, H1, I1, ry, q1⟩ => aE (ho pins s1 σ H1 _ I1 q1) fun u s2 ⟨x, H2, I2, rx, a, ov, ex, g, q2⟩ => ?_
 subst ex
 obtain rfl : u = Value.ref a := rx
 exact GO hu I2 g ry fun s3 I3 => ⟨.bl ov.isSome, H2, I3, rfl, q2⟩
theorem EF (hu : X.A.units + 1 < cLine) (hi : PE X i ty) (ho : PE X o td) : PC X .NotIn i o (rF ty td) := by
 intro pins s σ H Q I h
 refine aE (hi pins s σ H _ I h) fun iv s1 ⟨y, H1, I1, ry, q1⟩ => aE (ho pins s1 σ H1 _ I1 q1) fun u s2 ⟨x, H2, I2, rx, a, ov, ex, g, q2⟩ => ?_
 subst ex
 obtain rfl : u = Value.ref a := rx
 exact Ex hu I2 g ry fun s3 I3 => ⟨.bl (!ov.isSome), H2, I3, rfl, q2⟩
theorem HH (hu : X.A.units + 1 < cLine) (ho : PE X o td) (hi : PE X i ty) (hv : PE X value tv) (hs : swapsWith value (some (.Subscript o i pos')) pos.line X.env = pure false) :
  PS X (.Assign [.Subscript o i pos'] value pos) (uk td ty tv) := by
 intro pins s σ H D I h
 refine wpAny_Assign_Subscript (aE (hv pins s σ H _ I h) fun r s1 ⟨v, H1, I1, rv, q1⟩ => aE (ho pins s1 σ H1 _ I1 q1) fun u s2 ⟨x, H2, I2, rx, q2⟩ => aE (hi pins s2 σ H2 _ I2 q2) fun iv s3 ⟨y, H3, I3, ry, a, H4, ex, g, q3⟩ => ?_) hs
 subst ex
 obtain rfl : u = Value.ref a := rx
 exact Dt hu I3 g ry rv fun s4 I4 => ⟨σ, H4, I4, q3⟩
end
theorem Gn {P : Program} {w : World} {H : Hp} (h : Heap) (hb : sysModules < h.objs.size) : br P w H (h.push { cls := .type "dict", data := .dict #[] }) h.objs.size (.dK []) :=
 ⟨Nat.zero_le _, beq_eq_false_iff_ne.mpr (Ne.symm (Nat.ne_of_lt hb)), [], .nil, Heap.DictOf.new h⟩
theorem G4 {P : Program} {w : World} {H : Hp} (h : Heap) (hb : sysModules < h.objs.size) : br P w H (h.push { cls := .type "dict", data := .dict #[] }) h.objs.size (.dT []) :=
 ⟨Nat.zero_le _, beq_eq_false_iff_ne.mpr (Ne.symm (Nat.ne_of_lt hb)), [], .nil, _, #[], 0, Heap.get?_push_size _ rfl, ⟨rfl, rfl, rfl⟩, rfl, rfl, List.nodup_nil⟩
def qC : TE := fun _ H Q => ∀ p, H p = none → Q (.ref p) (upd H p (.dK []))
def sT : TE := fun _ H Q => ∀ p, H p = none → Q (.ref p) (upd H p (.dT []))
section
variable {X : Cx} {pos : Pos}
theorem HE : PE X (.Dict [] [] pos) qC := fun pins s σ H Q I h =>
 wpAny_Dict_empty ⟨.ref s.heap.objs.size, _, I.laid (a := s.heap.objs.size) (o := .dK []) (t' := s.toks) (fun _ _ q => Heap.get?_push_of_some _ q) (Nat.le_refl _) (Gn s.heap I.big), rfl, h _ (I.aD.fresh (Nat.le_refl _))⟩
theorem G2 : PE X (.Dict [] [] pos) sT := fun pins s σ H Q I h =>
 wpAny_Dict_empty ⟨.ref s.heap.objs.size, _, I.laid (a := s.heap.objs.size) (o := .dT []) (t' := s.toks) (fun _ _ q => Heap.get?_push_of_some _ q) (Nat.le_refl _) (G4 s.heap I.big), rfl, h _ (I.aD.fresh (Nat.le_refl _))⟩
end
def oM : List (TE × TE) → St → Hp → (List (V × V) → Hp → Prop) → Prop
 | [], _, H, Q => Q [] H
 | (tk, tv) :: r, σ, H, Q => tk σ H fun x H1 => tv σ H1 fun y H2 => oM r σ H2 fun ps H3 => Q ((x, y) :: ps) H3
abbrev VV : List (V × V) → List (Value × Value) → Prop := Paired fun p q => RelV p.1 q.1 ∧ RelV p.2 q.2
def DS (X : Cx) (pos : Pos) (keys : List (Option Expr)) (values : List Expr) (cq : List (TE × TE)) : Prop :=
 ∀ (pins : List (Addr × Obj)) (s : Shared) (σ : St) (H : Hp) (Q : List (V × V) → Hp → Prop), Inv X pins σ H s → oM cq σ H Q →
  wpAny (model X.prog X.w) X.A (evalPairs (pairTrees keys values X.env pos)) (fun vs s' => ∃ ps H', Inv X pins σ H' s' ∧ VV ps vs ∧ Q ps H') X.xe s
def D0 (kvs more : List (Key × V)) : List (Key × V) := more.foldl (fun acc kv => putK acc kv.1 kv.2) kvs
def CM (cq : List (TE × TE)) : TE := fun σ H Q => ∀ p, H p = none → oM cq σ (upd H p (.dK [])) fun ps H2 => H2 p = some (.dK []) ∧ ∃ kvs : List (Key × V), ps = kvs.map (fun kv => (kV kv.1, kv.2)) ∧ kvs.length ≤ 15 ∧ Q (.ref p) (upd H2 p (.dK (D0 [] kvs)))
structure M1 (X : Cx) (o : Expr) (m : Str) (apos : Pos) (e : Expr) (bb : Pos) : Prop where
 base : attributeBase o m X.env (eval o X.env) = eval o X.env
 xY : ((backTo bb (starEach [e] X.env)).all (fun x => !x.1) && (backToKw bb (keywordEach [] X.env)).all (fun x => x.1.isSome)
  && decide (([e] : List Expr).length + ([] : List Keyword).length + (if ([] : List Keyword).isEmpty then 0 else 1) < 30)) = true
 line : (apos.endLine == bb.line) = true
 trees : backTo bb (starEach [e] X.env) = [(false, eval e X.env)]
structure M2 (X : Cx) (o : Expr) (m : Str) (apos : Pos) (e f : Expr) (bb : Pos) : Prop where
 base : attributeBase o m X.env (eval o X.env) = eval o X.env
 xY : ((backTo bb (starEach [e, f] X.env)).all (fun x => !x.1) && (backToKw bb (keywordEach [] X.env)).all (fun x => x.1.isSome)
  && decide (([e, f] : List Expr).length + ([] : List Keyword).length + (if ([] : List Keyword).isEmpty then 0 else 1) < 30)) = true
 line : (apos.endLine == bb.line) = true
 trees : backTo bb (starEach [e, f] X.env) = [(false, eval e X.env), (false, eval f X.env)]
def AD (H : Hp) (a : Addr) : Prop := (∃ kvs, Rd H a (.dK kvs)) ∨ ∃ kvs, Rd H a (.dT kvs)
theorem IS {X : Cx} {pins : List (Addr × Obj)} {σ : St} {H : Hp} {s : Shared} {a : Addr} (I : Inv X pins σ H s) (d : AD H a) :
  s.TypeIs (.ref a) "dict" ∧ (∀ b, Value.ref a = .ref b → ∃ ob, s.heap.get? b = some ob ∧ ob.dict = none) ∧ (a == sysModules) = false := by
 rcases d with ⟨kvs, e⟩ | ⟨kvs, e⟩
 ·obtain ⟨_, hd, vs, _, dd⟩ := h9 I.aD e
  refine ⟨dd.typeIs, fun b q => ?_, hd⟩
  cases q
  obtain ⟨ob, _, _, h1, h2, _⟩ := dd
  exact ⟨ob, h1, h2.2.1⟩
 ·obtain ⟨_, hd, xs, _, dd⟩ := gQ I.aD e
  refine ⟨dd.typeIs, fun b q => ?_, hd⟩
  cases q
  obtain ⟨ob, _, _, h1, h2, _⟩ := dd
  exact ⟨ob, h1, h2.2.1⟩
section
variable {X : Cx} {pins : List (Addr × Obj)} {σ : St} {H : Hp} {s : Shared} {a : Addr} {y d : V} {u r : Value} {o : Option V} {A : Around} {E : Value → Shared → Prop}
theorem CB {Q : Value → Shared → Prop} (hu : A.units + 1 < cLine) (I : Inv X pins σ H s) (g : bP H a y o) (ry : RelV y u) (h : ∀ w' s', Inv X pins σ H s' → RelV (o.getD .aq) w' → Q w' s') :
  wpAny (model X.prog X.w) A (call (.builtin "dict.get") [.ref a, u]) Q E s := by
 rcases g with ⟨kvs, k, e, ey, l⟩ | ⟨kvs, k, b, e, ey, eb, l⟩
 ·subst ey
  obtain ⟨z, hd, vs, rel, dd⟩ := h9 I.aD e
  refine call_meetsIn PySem.F.slot_dict_get dd.typeIs PySem.F.entry_dict_get (PySem.F.args_dict_get_2 _ _) (meets_dict_get (cj X.prog X.w) a (iS ry) hd) ⟨_, dd.mapOf, h _ _ (I.tok _) ?_⟩
  rw [l]
  exact (rel.val k).getD rfl
 ·subst ey
  cases (show u = Value.ref b from ry)
  obtain ⟨z, hd, xs, rel, dd⟩ := gQ I.aD e
  refine call_meetsIn PySem.F.slot_dict_get dd.typeIs PySem.F.entry_dict_get (PySem.F.args_dict_get_2 _ _) (meetsH_dict_get (tupleKind (cj X.prog X.w)) a b hd) ⟨tupleKind_room_in1 hu, k, xs, iW I.aD eb, dd, h _ _ (I.tok _) ?_⟩
  rw [l]
  exact (rel.val k).getD rfl
end
def pA (td ty : TE) : TE := fun σ H Q => td σ H fun x H1 => ∃ a, x = .ref a ∧ AD H1 a ∧ ty σ H1 fun y H2 => ∃ o, bP H2 a y o ∧ Q (o.getD .aq) H2
section
variable {X : Cx} {o e f : Expr} {apos bb : Pos} {td ty tx : TE}
theorem Hf (hu : X.A.units + 1 < cLine) (ho : PE X o td) (he : PE X e ty) (m : M1 X o "get" apos e bb) : PE X (.Call (.Attribute o "get" apos) [e] [] bb) (pA td ty) := by
 intro pins s σ H Q I h
 refine wpAny_Call_method m.base m.xY m.line PySem.F.plainAttrs_dict PySem.F.slot_dict_get PySem.F.type_dict_get (aE (ho pins s σ H _ I h) fun u s1 ⟨x, H1, I1, rx, a, ex, d, q1⟩ => ?_)
 subst ex
 obtain rfl : u = Value.ref a := rx
 obtain ⟨t1, t2, _⟩ := IS I1 d
 refine ⟨t1, t2, ?_⟩
 rw [m.trees]
 refine Calls.callWith_builtin rfl (Calls.evalArgs_plain (Calls.spliced_cons (aE (he pins s1 σ H1 _ I1 q1) fun iv s2 ⟨y, H2, I2, ry, ov, g, q2⟩ => Calls.spliced_nil ?_)))
 exact CB hu I2 g ry fun w' s3 I3 rw' => ⟨_, H2, I3, rw', q2⟩
end
section
variable {X : Cx} {pins : List (Addr × Obj)} {σ : St} {H : Hp} {s : Shared} {a : Addr} {kvs : List (Key × V)} {A : Around} {E : Value → Shared → Prop}
end
section
variable {X : Cx} {pins : List (Addr × Obj)} {σ : St} {H : Hp} {s : Shared} {a : Addr} {y : V} {u : Value} {A : Around} {E : Value → Shared → Prop}
end
end L2
namespace Att
open PySem PySem.W PySem.Calls PyProof.Rows
theorem KU {P : Params} {h : Heap} : ∀ (ns : List Int) (vs : List Value), WellAll P h vs (ns.map WData.int) → IntsAre vs ns := by
 intro ns
 induction ns with
 | nil =>
  intro vs w
  rw [List.map_nil] at w
  cases w
  exact .nil
 | cons n ns ih =>
  intro vs w
  rw [List.map_cons] at w
  cases w with
  | cons a b =>
   cases a
   exact .cons _ _ (ih _ b)
theorem KQ {l : OpenLaw} {n : Nat} (hn : l.most = some n) {P : Params} {h : Heap} {args : List WData} {vals : List Value}
  (jV : l.row.toRowW.claim.pre args = true) (hwl : WellAll P h vals args) :
  ∃ a vs ns, vals = [Value.ref a] ∧ args = [WData.list (ns.map WData.int)] ∧ h.get? a = some { cls := .type "list", data := .seq vs.toArray } ∧ IntsAre vs ns ∧ ns.length ≤ n := by
 have hsh : WShape.hasAll [] args [.list .int] = true := (pre_splitW jV).1
 have hc : l.pre.holds [] { args := args } = true := (pre_splitW jV).2
 obtain ⟨d, r, rfl, h1, h2⟩ := hasAllW_cons hsh
 obtain rfl := hasAllW_nil h2
 obtain ⟨xs, rfl, h3⟩ := hasW_list h1
 obtain ⟨ns, rfl⟩ := items_int h3
 have hlen : ns.length ≤ n := by
  unfold OpenLaw.pre at hc
  have h4 : (WTm.not (.lt (.lit (.int (n : Int))) (.len (.arg 0)))).holds [] { args := [.list (ns.map .int)] } = true := by
   have h4 := (holds_andW hc).1
   rw [hn] at h4
   exact h4
  have h5 := condW_of h4 (w_not (w_lt w_lit (w_len_list (w_arg rfl))))
  rw [List.length_map] at h5
  refine Nat.le_of_not_lt fun q => ?_
  have q' : (n : Int) < ((ns.length : Nat) : Int) := by omega
  first
   | (rw [decide_eq_true q'] at h5; exact absurd h5 (by decide))
   | (simp at h5; omega)
 cases hwl with
 | cons w1 w2 =>
  cases w2
  cases w1 with
  | list ho d0 => exact ⟨_, _, ns, rfl, rfl, ho, KU ns _ d0, hlen⟩
theorem Kn (l : OpenLaw) (args : List WData) : l.row.toRowW.claim.post args (.bool true) args = true :=
 postW_of (r := l.row.toRowW) (X := (true == true))
  (show WShape.has [] (.bool true) .bool = true by first | rfl | decide | simp [WShape.has, WShape.arms, WShape.armsAll])
  (show (WTm.eq .res (.lit (.bool true))).value [] { args := args, res := some (.bool true), after := args } = some (.bool (true == true)) from w_eq_bool (w_res rfl) w_lit) rfl
theorem IY {l : OpenLaw} {n : Nat} {q : Program} {loose : List Str} {XP : (Str → Option Value) → Heap → Prop} {YP : World → Heap → Prop} {d : DefRec}
  (hn : l.most = some n) (hdf : d.params.defaults = [])
  (call : ∀ (w : World) (s₀ s₁ : Shared) (mg mb : Str → Option Value) (fa : Addr) (o : Obj) (pm cd doc : Value) (a : Addr) (vs : List Value) (ns : List Int),
   Ground q loose [] XP w s₀ mg mb s₁.heap → YP w s₁.heap →
   s₁.heap.get? fa = some o → o.data = .func (docDef d.name d.params d.body d.scope pm cd doc) → s₁.heap.CodeRec cd d.name → mg d.name = some (.ref fa) →
   s₁.heap.get? a = some { cls := .type "list", data := .seq vs.toArray } → IntsAre vs ns → ns.length ≤ n → s₁.gens = #[] →
   codeAny (model l.prog w) callerA (.call (.ref fa) ⟨[.ref a], []⟩) (fun r s' => r = .ok (.ret (.bool true)) ∧ OldK s₁.heap s'.heap ∧ s'.os = s₁.os ∧ AllBare s'.gens) s₁) :
  WalkO q loose XP YP l.row.toRowW d [] (fun f vs => PySem.call f vs) := by
 intro w s₀ s₁ mg mb G Y fa o pm cd doc dV kV ho hd hcd hD hmg hg args vals as jV hlay hrd hwl hlo
 obtain rfl : dV = .none := Dflts.none hD hdf
 obtain rfl : kV = .none := Dflts.noKw hD
 obtain ⟨a, vs, ns, rfl, rfl, vD, hints, hlen⟩ := KQ hn jV hwl
 refine enter_call (codeAny_mono (call w s₀ s₁ mg mb fa o pm cd doc a vs ns G Y ho (fd_plain hd) hcd hmg vD hints hlen hg) fun r s' hq => ?_)
 obtain ⟨rfl, h2, h3, h4⟩ := hq
 exact ⟨.inl ⟨.bool true, .bool true, [], rfl, fun _ => rfl, .bool true, Kn l _, fun _ => ⟨List.Pairwise.nil, fun _ hm => (nomatch hm)⟩⟩, h2, h3, h4⟩
section
variable {prog : Program} {w : World} {A : Around} {E : Value → Shared → Prop} {s : Shared} {K : Frag}
end
end Att
namespace L2
open PySem PySem.Spec PyProof.Rows
theorem xC : ∀ {vs : List Value} {ns : List Int}, IntsAre vs ns → Vals (ns.map V.int) vs
 | _, _, .nil => .nil
 | _, _, .cons n t h => .cons ⟨t, rfl⟩ (xC h)
def lD (H : Hp) : Prop := ∀ b, H b = none ∨ ∃ o xs, H b = some (.cE o (.lst xs))
theorem Km {P : Program} {w : World} {K : PySem.W.Frag} {mg mb : Str → Option Value} {CX : cv} {k : Nat} {fa a : Addr} {fd : FuncData} {x : Str} {sp : Sp} {s₁ : Shared} {vs : List Value} {ns : List Int}
  (KX : K.In s₁.heap) (hns : s₁.heap.Ns mainGlobals mg) (hb : s₁.heap.Ns builtinsNs mb) (hbb : ∀ x : Str, x ≠ "__name__" → mb x = bootBuiltins x) (hlim : s₁.heap.NoLimit) (hg : s₁.gens = #[])
  (ha : s₁.heap.get? a = some { cls := .type "list", data := .seq vs.toArray }) (hi : IntsAre vs ns) (hl : ns.length ≤ sizeLine) (hr : bc k callerA)
  (F : ∀ base : Heap, K.In base → base.Ns mainGlobals mg → aB P w K mg base CX k fa fd [x] sp) (hbind : ∀ (s : Shared) (u : Value), BindsTo s fd ⟨[u], []⟩ [(x, u)])
  (hsp : ∀ H : Hp, lD H → aL K H a (ns.map V.int) → sp [.ref a] H (fun v _ => v = .bl true) fun _ _ _ => False)
  (hCX : ∀ H e s', CX [] H s₁ (fun _ _ _ => False) e s' → False) :
  codeAny (model P w) callerA (.call (.ref fa) ⟨[.ref a], []⟩) (fun r s' => r = .ok (.ret (.bool true)) ∧ OldK s₁.heap s'.heap ∧ s'.os = s₁.os ∧ AllBare s'.gens) s₁ := by
 have rv := xC hi
 have lenV := hi.length
 -- from an abstract heap in which nothing but the script may be tracked
 have core : ∀ H : Hp, lD H → aL K H a (ns.map V.int) → bt P w H s₁.heap → (∀ b, H b ≠ none → b = a) → (H a ≠ none → K.lookup a = none) →
   codeAny (model P w) callerA (.call (.ref fa) ⟨[.ref a], []⟩) (fun r s' => r = .ok (.ret (.bool true)) ∧ OldK s₁.heap s'.heap ∧ s'.os = s₁.os ∧ AllBare s'.gens) s₁ := by
  intro H hO hS aD hA hK
  have BW : ∀ {b : Addr} {o : Obj}, s₁.heap.get? b = some o → H b = none → (fE s₁.heap H).get? b = some o := fun e n => Cf e n
  have noA : ∀ {b : Addr} {o : Obj} {es : Array DictEntry} {ep : Nat}, s₁.heap.get? b = some o → o.data = .dict es ep → H b = none := fun {b o es ep} e d => by
   cases q : H b with
   | none => rfl
   | some u =>
    have e' : b = a := hA b (by rw [q]; simp)
    subst e'
    rw [ha] at e; cases e
    have d' : Data.seq vs.toArray _ = Data.dict es ep := d
    cases d'
  have nsK : ∀ {b : Addr} {m : Str → Option Value}, s₁.heap.Ns b m → (fE s₁.heap H).Ns b m := fun {b m} ⟨o, es, ep, e, d, r⟩ => ⟨o, es, ep, BW e (noA e d), d, r⟩
  have hKb : K.In (fE s₁.heap H) := fun b o e => BW (KX b o e) (by
   cases q : H b with
   | none => rfl
   | some u =>
    have e' : b = a := hA b (by rw [q]; simp)
    subst e'
    rw [hK (by rw [q]; simp)] at e; cases e)
  have hM : Mod K mg (fE s₁.heap H) := ⟨hKb, nsK hns, ⟨mb, nsK hb, hbb⟩, let ⟨mc, h1, h2⟩ := hlim; ⟨mc, nsK h1, h2⟩⟩
  have e0 : hV P w K mg (fE s₁.heap H) callerA [] s₁ H := ⟨rfl, hM, fun b o e => JF e, Nat.le_of_eq (Hg _ _), trivial, fun b hb => absurd (show b ∈ ([] : List Addr) from hb) (by simp), aD, .of_eq hg⟩
  refine codeAny_mono ((F _ hKb (nsK hns)).run callerA [] s₁ H ⟨[.ref a], []⟩ [.ref a] [.ref a] _ _ hr e0 (hbind s₁ (.ref a)) (.cons rfl .nil) (hsp H hO hS)) fun r s' h => ?_
  cases r with
  | error e => exact (hCX H e s' h).elim
  | ok fl =>
   cases fl with
   | next => exact False.elim h
   | brk => exact False.elim h
   | cont => exact False.elim h
   | ret u =>
    obtain ⟨v, H', os, bare, un, hok', r', q⟩ := h
    have q' : v = .bl true := q
    subst q'
    obtain rfl : u = Value.bool true := r'
    refine ⟨rfl, OldK.of_keep fun b o e => ?_, os, bare⟩
    cases q : H b with
    | none => exact un.keep b o e q (by intro z; exact absurd (show b ∈ ([] : List Addr) from z) (by simp)) (by simp)
    | some u =>
     rcases hO b with z | ⟨ob, xs, z⟩
     ·rw [q] at z; cases z
     ·have z2 := un.dv b ob _ z
      obtain ⟨e1, _⟩ := aD b _ z
      obtain ⟨e2, _⟩ := hok' b _ z2
      rw [e] at e1; cases e1
      exact e2
 cases hk : K.lookup a with
 | some o =>
  -- the script is one of the module's own objects
  have e := KX a o hk
  rw [ha] at e
  cases e
  refine core (fun _ => none) (fun _ => .inl rfl) (.inr ⟨_, vs.toArray, _, hk, rfl, rfl, rfl, by rw [List.size_toArray, lenV]; exact hl, by simpa using rv⟩) (fun b u z => by have z' : (none : Option HO) = some u := z; cases z') (fun b z => absurd rfl z) fun z => absurd rfl z
 | none =>
  refine core (fun b => if b = a then some (.cE { cls := .type "list", data := .seq vs.toArray } (.lst (ns.map V.int))) else none) (fun b => ?_) (.inl (.inr ⟨{ cls := .type "list", data := .seq vs.toArray }, if_pos rfl⟩)) (fun b u z => ?_) (fun b z => ?_) fun _ => hk
  ·by_cases hb : b = a
   ·exact .inr ⟨_, _, if_pos hb⟩
   ·exact .inl (if_neg hb)
  ·by_cases hb : b = a
   ·have z' := (if_pos hb).symm.trans z
    cases z'
    subst hb
    exact ⟨ha, by rw [List.length_map]; exact hl, vs, _, rv, ha⟩
   ·have z' := (if_neg hb).symm.trans z
    cases z'
  ·by_cases hb : b = a
   ·exact hb
   ·exact absurd (if_neg hb) z
end L2
namespace L2
open PySem PySem.Spec PyProof.Rows
abbrev Lo {K : PySem.W.Frag} {h : Heap} (_ : K.In h) : PySem.W.Frag := K
theorem Kc {l : PySem.W.OpenLaw} {n k : Nat} {q : Program} {loose : List Str} {XP : (Str → Option Value) → Heap → Prop} {YP : World → Heap → Prop} {d : DefRec} {K : Params → PySem.W.Frag} {CX : World → cv} {sp : World → Sp} {x : Str}
  (hn : l.most = some n) (hn2 : n ≤ sizeLine) (hdf : d.params.defaults = []) (hr : bc k callerA)
  (hY : ∀ (w : World) (h : Heap), YP w h → (K w.params).In h)
  (F : ∀ (w : World) (mg : Str → Option Value) (fa : Addr) (h : Heap), (K w.params).In h → h.Ns mainGlobals mg → mg d.name = some (.ref fa) →
   ∃ fd : FuncData, (∀ (s : Shared) (u : Value), BindsTo s fd ⟨[u], []⟩ [(x, u)]) ∧
    ∀ base : Heap, (K w.params).In base → base.Ns mainGlobals mg → aB l.prog w (K w.params) mg base (CX w) k fa fd [x] (sp w))
  (hsp : ∀ (w : World) (H : Hp) (a : Addr) (ns : List Int), ns.length ≤ n → lD H → aL (K w.params) H a (ns.map V.int) → sp w [.ref a] H (fun v _ => v = .bl true) fun _ _ _ => False)
  (hCX : ∀ (w : World) (H : Hp) (s : Shared) (e : Value) (s' : Shared), CX w [] H s (fun _ _ _ => False) e s' → False) :
  PySem.W.WalkO q loose XP YP l.row.toRowW d [] (fun f vs => PySem.call f vs) := by
 refine Att.IY hn hdf fun w s₀ s₁ mg mb fa o pm cd doc a vs ns G Y ho hd hcd hmg vD hints hlen hg => ?_
 have KX := hY w _ Y
 obtain ⟨fd, hb, hF⟩ := F w mg fa _ KX G.T.g hmg
 exact Km KX G.T.g G.T.b G.T.builtins G.T.nolimit hg vD hints (Nat.le_trans hlen hn2) hr hF hb (fun H hO hS => hsp w H a ns hlen hO hS) fun H e s' => hCX w H s₁ e s'
end L2
namespace L2
open PySem PySem.Spec PyProof.Rows
def inClass (s : Stmt) (j : Nat) : Stmt := match s with
 | .ClassDef _ _ _ body _ _ _ _ _ _ _ => body.getD j (.Pass ⟨0, 0, 0, 0⟩)
 | _ => .Pass ⟨0, 0, 0, 0⟩
def cB (s : Stmt) : Arguments := match s with
 | .FunctionDef _ a _ _ _ _ _ _ _ _ => a
 | _ => { posonlyargs := [], args := [], vararg := none, kwonlyargs := [], kw_defaults := [], kwarg := none, defaults := [] }
def aS (s : Stmt) : List Stmt := match s with
 | .FunctionDef _ _ b _ _ _ _ _ _ _ => b
 | _ => []
def aC (s : Stmt) : Scope := match s with
 | .FunctionDef _ _ _ _ _ _ sc _ _ _ => sc
 | _ => { kind := .function, names := [], isGenerator := false, isCoroutine := false }
abbrev aK : cv := fun _ _ _ _ _ _ => False
abbrev E0 : XK := fun _ _ _ => False
theorem aw {X : Cx} : Passes aK X E0 := fun _ _ _ _ _ _ _ h => h.elim
structure eR (K : PySem.W.Frag) (x qual : Str) (st : Stmt) (f : Addr) (fd : FuncData) : Prop where
 ex : ∃ (oc : Value) (od : Option Addr) (kV doc pm : Value) (an : Option Addr) (cdv ct : Value) (osl : Array (Option Value)),
  fd = PySem.W.fnOf x qual (cB st) (aS st) (aC st) .none kV doc pm an cdv ct ∧ K.lookup f = some ⟨oc, od, .func fd, osl⟩ ∧ PySem.W.codeIn K cdv qual = true
 kp : PySem.W.keepIn K (.ref f) = true
section
variable {P : Program} {w : World} {K : PySem.W.Frag} {mg : Str → Option Value} {base : Heap}
theorem eR.ok {x qual : Str} {st : Stmt} {f : Addr} {fd : FuncData} {N ps : List Str} {k : Nat} {sp : Sp} (F : eR K x qual st f fd) (S : aJ N ps (aC st)) (len : ∀ vs H Q E, sp vs H Q E → vs.length = ps.length)
  (vk : ∀ (cdv : Value) (A : Around) (outer : List Env) (s : Shared) (H : Hp) (vs : List V) (Q : VK) (E : XK), bc k (A.deeper (envOfC qual (aC st) s.heap.objs.size f cdv)) → sp vs H Q E →
   ∃ t, bV (dJ aK P w K mg base N qual (aC st) f cdv A outer s H E).iN (aS st) t ∧ t { nx := fun _ H' => Q .aq H', rt := Q } (start N vs) H) : aB P w K mg base aK (k + 1) f fd ps sp := by
 obtain ⟨oc, od, kV, doc, pm, an, cdv, ct, osl, rfl, lk, hcd⟩ := F.ex
 refine tR lk hcd S len fun A outer s H vs Q E hr hsp => ?_
 obtain ⟨t, h, q⟩ := vk cdv A outer s H vs Q E hr hsp
 exact ⟨t, h.iN, q⟩
theorem eR.binds {x qual : Str} {st : Stmt} {f : Addr} {fd : FuncData} {ps : List Str} (F : eR K x qual st f fd)
  (h : ∀ (kV doc pm : Value) (an : Option Addr) (cdv ct : Value) (us : List Value), us.length = ps.length → bindArgs (PySem.W.fnOf x qual (cB st) (aS st) (aC st) .none kV doc pm an cdv ct) ⟨us, []⟩ = pure (ps.zip us)) : Binds K fd ps [] := by
 obtain ⟨oc, od, kV, doc, pm, an, cdv, ct, osl, rfl, lk, hcd⟩ := F.ex
 exact .all (h kV doc pm an cdv ct)
theorem uo {x qual : Str} {st : Stmt} {f : Addr} {oc : Value} {od an : Option Addr} {osl : Array (Option Value)} {kV doc pm cdv ct : Value} (l : K.lookup f = some ⟨oc, od, .func (PySem.W.fnOf x qual (cB st) (aS st) (aC st) .none kV doc pm an cdv ct), osl⟩)
  (c : PySem.W.codeIn K cdv qual = true) (k : PySem.W.keepIn K (.ref f) = true) : eR K x qual st f (PySem.W.fnOf x qual (cB st) (aS st) (aC st) .none kV doc pm an cdv ct) := ⟨⟨oc, od, kV, doc, pm, an, cdv, ct, osl, rfl, l, c⟩, k⟩
end
theorem bX {A : Around} {k : Nat} (hr : bc k A) : A.units + 1 < cLine := Nat.lt_of_le_of_lt (Nat.add_le_add_left (by decide : 1 ≤ 64) _) hr.units
theorem y8 {n : Nat} (h : n ≤ 1000) : n < sizeLine := Nat.lt_of_le_of_lt h (by decide)
section
variable {X : Cx}
theorem pv (i : Nat) {x : Str} {pos : Pos} (hN : X.N[i]? = some x := by rfl) (hv : j9 X.env.scope x := by first | exact Or.inl rfl | exact Or.inr (Or.inl rfl) | exact Or.inr (Or.inr rfl)) (hd : (x == ("__debug__" : Str)) = false := by decide)
  (hcd : (x == ("__classdict__" : Str)) = false := by decide) : PE X (.Name x pos) (xn i) := A6 hN hv hd hcd
end
theorem aO {A B : Prop} (h : B) : if false = true then A else B := by
 rw [if_neg Bool.false_ne_true]
 exact h
theorem bo {A B : Prop} (h : A) : if true = true then A else B := by
 rw [if_pos rfl]
 exact h
theorem lI {c A B : Prop} [Decidable c] (h1 : c → A) (h2 : ¬ c → B) : if c then A else B := by
 by_cases h : c
 ·rw [if_pos h]
  exact h1 h
 ·rw [if_neg h]
  exact h2 h
def ax (H H' : Hp) : Prop := ∀ b o, H b = some o → H' b = some o
theorem ax.refl (H : Hp) : ax H H := fun _ _ h => h
theorem ax.trans {H H1 H2 : Hp} (a : ax H H1) (b : ax H1 H2) : ax H H2 := fun c o h => b c o (a c o h)
theorem ax.free {H H' : Hp} (e : ax H H') {l : Addr} (h : H' l = Option.none) : H l = Option.none := by
 cases q : H l with
 | none => rfl
 | some o =>
  rw [e l o q] at h
  cases h
theorem ax.seq {K : PySem.W.Frag} {H H' : Hp} {a : Addr} {xs : List V} (e : ax H H') (h : aL K H a xs) : aL K H' a xs := by
 rcases h with (h | ⟨o, h⟩) | h
 ·exact .inl (.inl (e _ _ h))
 ·exact .inl (.inr ⟨o, e _ _ h⟩)
 ·exact .inr h
end L2
namespace L2
open PySem PySem.Spec PyProof.Rows
section
variable {X : Cx}
end
end L2
namespace L2
open PySem PySem.Spec PyProof.Rows
section
variable {κ : Type} [DecidableEq κ]
end
end L2
namespace Tx
open PySem PySem.Builtin PySem.Builtin.Str PySem.StrLaws
def S (l : List Nat) : Str := ⟨l.toArray⟩
theorem fb (l : List Nat) : (S l).cps.toList = l := by simp [S]
theorem G6 (s : Str) : S s.cps.toList = s := by cases s; simp [S]
theorem b7 (l : List Nat) : (S l).length = l.length := by simp [S, Str.length]
theorem mO {a b : List Nat} (h : S a = S b) : a = b := by
 have := congrArg (fun s => s.cps.toList) h
 simpa [fb] using this
theorem i5 (a b : List Nat) : S a ++ S b = S (a ++ b) := by
 apply Str.ext'
 rw [Str.cps_append]
 simp [S]
theorem eS (c : Nat) : (S [c]).length = 1 := by rw [b7]; rfl
theorem subAt_one (x : List Nat) (c i : Nat) (h : i < x.length) : subAt (S x) (S [c]) i = decide (x[i]? = some c) := by
 rw [subAt_eq, fb, fb, eS]
 rw [List.drop_eq_getElem_cons h, List.take_succ_cons, List.take_zero, List.getElem?_eq_getElem h]
 by_cases e : x[i] = c
 ·simp [e]
 ·simp [e]
theorem GK (x : List Nat) (c : Nat) : (!(occurrences (S x) (S [c]) 0 (S x).length 1).isEmpty) = x.contains c := by
 rw [Bool.eq_iff_iff, found_iff, eS, b7]
 constructor
 ·rintro ⟨i, h1, h2⟩
  rw [subAt_one x c i (by omega)] at h2
  have h3 := of_decide_eq_true h2
  exact List.elem_iff.mpr (List.mem_of_getElem? h3)
 ·intro h
  obtain ⟨i, hi, e⟩ := List.getElem_of_mem (List.elem_iff.mp h)
  refine ⟨i, by omega, ?_⟩
  rw [subAt_one x c i hi, List.getElem?_eq_getElem hi, e]
  simp
def cut (c : Nat) : List Nat → List (List Nat)
 | [] => [[]]
 | a :: r => if a = c then [] :: cut c r else match cut c r with
  | [] => [[a]]
  | h :: t => (a :: h) :: t
theorem IP (c : Nat) : ∀ l, cut c l ≠ []
 | [] => by simp [cut]
 | a :: r => by
  unfold cut
  split
  ·simp
  ·split <;> simp
def bG (c : Nat) : Nat → List Nat → List Nat
 | _, [] => []
 | k, a :: r => if a = c then k :: bG c (k + 1) r else bG c (k + 1) r
theorem yE (c : Nat) : ∀ (l : List Nat) (k j : Nat), bG c (k + j) l = (bG c k l).map (· + j)
 | [], _, _ => rfl
 | a :: r, k, j => by
  unfold bG
  have e : k + j + 1 = (k + 1) + j := by omega
  rw [e, yE c r (k + 1) j]
  split <;> simp
theorem qq (x : List Nat) (c limit : Nat) : ∀ (l : List Nat) (k : Nat) (acc : Array Nat) (free : Nat), x.drop k = l → free ≤ k → acc.size + l.length < limit → k ≤ x.length →
  (forIn (List.range' k (x.length + 1 - k)) (acc, free) (occBody (S x) (S [c]) x.length limit)).run.fst.toList = acc.toList ++ bG c k l
 | [], k, acc, free, hd, hf, hl, hk => by
  have hk2 : k = x.length := by
   have := congrArg List.length hd
   simp at this
   omega
  have e : x.length + 1 - k = 1 := by omega
  have e1 : List.range' k 1 = [k] := rfl
  rw [e, e1, List.forIn_cons]
  unfold occBody
  have hc : ¬ (((((acc, free) : Array Nat × Nat).fst.size < limit ∧ ((acc, free) : Array Nat × Nat).snd ≤ k) ∧ k + (S [c]).length ≤ x.length) ∧ subAt (S x) (S [c]) k = true) := by
   rw [eS]
   rintro ⟨⟨_, h⟩, _⟩
   omega
  rw [if_neg hc]
  simp [bG]
 | a :: r, k, acc, free, hd, hf, hl, hk => by
  have hlt : k < x.length := by
   have := congrArg List.length hd
   simp at this
   omega
  have e : x.length + 1 - k = (x.length + 1 - (k + 1)) + 1 := by omega
  have hx : x[k]? = some a := by
   have h1 : (x.drop k)[0]? = some a := by rw [hd]; rfl
   rw [List.getElem?_drop] at h1
   simpa using h1
  have hr : x.drop (k + 1) = r := by
   rw [← List.drop_drop, hd]; rfl
  rw [e, List.range'_succ, List.forIn_cons]
  unfold occBody
  simp only [List.length_cons] at hl
  by_cases hac : a = c
  ·have hc : (((((acc, free) : Array Nat × Nat).fst.size < limit ∧ ((acc, free) : Array Nat × Nat).snd ≤ k) ∧ k + (S [c]).length ≤ x.length) ∧ subAt (S x) (S [c]) k = true) := by
    rw [eS, subAt_one x c k hlt, hx, hac]
    refine ⟨⟨⟨?_, hf⟩, by omega⟩, by simp⟩
    show acc.size < limit
    omega
   rw [if_pos hc]
   have ih := qq x c limit r (k + 1) (acc.push k) (k + (S [c]).length) hr (by rw [eS]; omega) (by simp; omega) (by omega)
   refine Eq.trans ih ?_
   rw [show bG c k (a :: r) = k :: bG c (k + 1) r from if_pos hac]
   simp
  ·have hc : ¬ (((((acc, free) : Array Nat × Nat).fst.size < limit ∧ ((acc, free) : Array Nat × Nat).snd ≤ k) ∧ k + (S [c]).length ≤ x.length) ∧ subAt (S x) (S [c]) k = true) := by
    rw [subAt_one x c k hlt, hx]
    rintro ⟨_, h⟩
    exact hac (Option.some.inj (of_decide_eq_true h))
   rw [if_neg hc]
   have ih := qq x c limit r (k + 1) acc free hr (by omega) (by omega) (by omega)
   refine Eq.trans ih ?_
   conv => rhs; unfold bG
   rw [if_neg hac]
theorem xH (x : List Nat) (c : Nat) : occurrences (S x) (S [c]) 0 (S x).length ((S x).length + 1) = bG c 0 x := by
 rw [occ_eq, b7]
 have h := qq x c (x.length + 1) x 0 #[] 0 rfl (Nat.le_refl _) (by simp) (Nat.zero_le _)
 rw [h]
 simp
def pieces (l : List Nat) (ps : List Nat) : List (List Nat) := ((0 :: ps.map (· + 1)).zip (ps ++ [l.length])).map fun p => (l.drop p.1).take (p.2 - p.1)
theorem nj (c : Nat) : ∀ l : List Nat, pieces l (bG c 0 l) = cut c l
 | [] => rfl
 | a :: r => by
  have ih := nj c r
  have sh : bG c (0 + 1) r = (bG c 0 r).map (· + 1) := yE c r 0 1
  have tail : ∀ (A B : List Nat), ((A.map (· + 1)).zip (B.map (· + 1))).map (fun p : Nat × Nat => ((a :: r).drop p.1).take (p.2 - p.1)) = (A.zip B).map (fun p : Nat × Nat => (r.drop p.1).take (p.2 - p.1)) := fun A B => by
   rw [List.zip_map, List.map_map]
   refine List.map_congr_left fun p _ => ?_
   show ((a :: r).drop (p.1 + 1)).take (p.2 + 1 - (p.1 + 1)) = _
   rw [List.drop_succ_cons]
   congr 1
   omega
  unfold pieces at ih ⊢
  unfold bG cut
  rw [sh]
  by_cases h : a = c
  ·rw [if_pos h, if_pos h]
   have e1 : (0 :: (0 :: (bG c 0 r).map (· + 1)).map (· + 1)) = 0 :: ((0 :: (bG c 0 r).map (· + 1)).map (· + 1)) := rfl
   have e2 : (0 :: (bG c 0 r).map (· + 1)) ++ [(a :: r).length] = 0 :: ((bG c 0 r ++ [r.length]).map (· + 1)) := by simp
   rw [e1, e2, List.zip_cons_cons, List.map_cons, tail, ih]
   simp
  ·rw [if_neg h, if_neg h]
   have e2 : (bG c 0 r).map (· + 1) ++ [(a :: r).length] = (bG c 0 r ++ [r.length]).map (· + 1) := by simp
   rw [e2]
   generalize hB : bG c 0 r ++ [r.length] = B at ih
   cases B with
   | nil => simp at hB
   | cons b B' =>
    rw [List.zip_cons_cons, List.map_cons] at ih
    rw [← ih]
    rw [List.map_cons (l := B'), List.zip_cons_cons, List.map_cons, tail]
    simp
theorem CY (x : List Nat) (i j : Nat) : strSub (S x) i j = S ((x.drop i).take (j - i)) := by
 rw [← G6 (strSub (S x) i j), strSub_toList, fb]
theorem yP (x : List Nat) (ps : List Nat) : partsBetween (S x) ps 1 = (pieces x ps).map S := by
 unfold partsBetween pieces
 rw [List.map_map, b7]
 refine List.map_congr_left fun p _ => ?_
 exact CY x p.1 p.2
theorem yx (c : Nat) : ∀ l : List Nat, bG c 0 l = [] → cut c l = [l]
 | l, h => by
  have := nj c l
  rw [h] at this
  rw [← this]
  simp [pieces]
theorem GB (x : List Nat) (c : Nat) (hc : c < 256) : Txt.split (S x) (S [c]) = (cut c x).map S := by
 unfold Txt.split
 rw [xH, eS, yP, nj]
 have nop : ∀ k, ¬ c ∈ x → bG c k x = [] := by
  intro k
  induction x generalizing k with
  | nil => intro _; rfl
  | cons a r ih =>
   intro hm
   unfold bG
   rw [if_neg (fun e => hm (by simp [e]))]
   exact ih (k + 1) fun m => hm (List.mem_cons_of_mem _ m)
 by_cases h1 : (decide ((S x).length < 1) || decide (PySem.Builtin.Str.strKind (S x) < PySem.Builtin.Str.strKind (S [c]))) = true
 ·rw [if_pos h1]
  have hx : bG c 0 x = [] := by
   refine nop 0 fun m => ?_
   rw [b7] at h1
   have hk : PySem.Builtin.Str.strKind (S [c]) = 1 := by unfold PySem.Builtin.Str.strKind S; simp [hc]
   rw [hk] at h1
   have hp : ¬ x.length < 1 := by cases x with | nil => simp at m | cons _ _ => simp
   have hq : ¬ PySem.Builtin.Str.strKind (S x) < 1 := by unfold PySem.Builtin.Str.strKind; split <;> (try split) <;> omega
   simp [hp, hq] at h1
  rw [yx c x hx]; rfl
 ·rw [if_neg h1]
  by_cases h2 : (bG c 0 x).isEmpty = true
  ·rw [if_pos h2]
   rw [yx c x (List.isEmpty_iff.mp h2)]; rfl
  ·rw [if_neg h2]
end Tx
namespace L2
open PySem PySem.Spec PyProof.Rows
def noStar : Expr → Bool
 | .Starred _ _ => false
 | _ => true
theorem cJ {e : Expr} {es : List Expr} {env : Env} (h : noStar e = true) : starEach (e :: es) env = (false, eval e env) :: starEach es env := by
 cases e <;> first | rfl | cases h
theorem ee {pos : Pos} {env : Env} : ∀ {es : List Expr}, es.all noStar = true → (backTo pos (starEach es env)).any (·.1) = false
 | [], _ => rfl
 | e :: es, h => by
  rw [List.all_cons, Bool.and_eq_true] at h
  rw [cJ h.1]
  have ih := ee (pos := pos) (env := env) h.2
  show ((false || (backTo pos (starEach es env)).any (·.1))) = false
  rw [ih]
  rfl
theorem rk {pos : Pos} {env : Env} : ∀ {es : List Expr}, es.all noStar = true → (backTo pos (starEach es env)).all (fun x => !x.1) = true
 | [], _ => rfl
 | e :: es, h => by
  rw [List.all_cons, Bool.and_eq_true] at h
  rw [cJ h.1]
  have ih := rk (pos := pos) (env := env) h.2
  show ((true && (backTo pos (starEach es env)).all (fun x => !x.1))) = true
  rw [ih]
  rfl
section
variable {X : Cx}
theorem Cy {e : Expr} {es : List Expr} {te : TE} {t : TA} (ha : PE X e te) (hr : PA X es t) (hs : noStar e = true := by rfl) : PA X (e :: es) (nF te t) := Hi ha hr (cJ hs)
theorem Hh {CX : cv} {k : Nat} {f : Addr} {fd : FuncData} {ps : List Str} {sp : Sp} {dvs : List V} {ds : List Value} {E : XK} {x : Str} {p pos : Pos} {e : Expr} {es : List Expr} {t : TA}
  (F : aB X.prog X.w X.K X.mg X.base CX k f fd ps sp) (hr : bc k X.A) (hg : Gl X x) (hm : X.mg x = some (.ref f)) (hk : PySem.W.keepIn X.K (.ref f) = true) (hb : Binds X.K fd ps ds) (hd : Vals dvs ds) (hx : Passes CX X E)
  (ha : PA X (e :: es) t) (hs : (e :: es).all noStar = true := by rfl) (hdb : (x == ("__debug__" : Str)) = false := by decide) : PE X (.Call (.Name x p) (e :: es) [] pos) (mJ sp dvs E t) := by
 have hs' := hs
 rw [List.all_cons, Bool.and_eq_true] at hs'
 exact Iy F hr hg hm hk hb hd hx ha hdb (cJ hs'.1) (ee hs'.2)
theorem K5 {x : Str} {p pos : Pos} {e : Expr} {es : List Expr} {t : TA} {id : String} {r : List V → Hp → VK → Prop} (hc : bM X (.builtin id) r) (hg : Gl X x) (hm : X.mg x = none) (hv : bootBuiltins x = some (.builtin id)) (ha : PA X (e :: es) t)
  (hs : (e :: es).all noStar = true := by rfl) (hn : x ≠ "__name__" := by decide) (hdb : (x == ("__debug__" : Str)) = false := by decide) : PE X (.Call (.Name x p) (e :: es) [] pos) (g7 r t) := by
 have hs' := hs
 rw [List.all_cons, Bool.and_eq_true] at hs'
 exact Gg hc hg hm hv ha hn hdb (cJ hs'.1) (ee hs'.2)
theorem Ks {x : Str} {p pos : Pos} {e : Expr} {es : List Expr} {t : TA} {T : String} {r : List V → Hp → VK → Prop} (hc : bM X (.type T) r) (hg : Gl X x) (hm : X.mg x = none) (hv : bootBuiltins x = some (.type T)) (ha : PA X (e :: es) t)
  (hs : (e :: es).all noStar = true := by rfl) (hn : x ≠ "__name__" := by decide) (hdb : (x == ("__debug__" : Str)) = false := by decide) : PE X (.Call (.Name x p) (e :: es) [] pos) (g7 r t) := by
 have hs' := hs
 rw [List.all_cons, Bool.and_eq_true] at hs'
 exact Cn hc hg hm hv ha hn hdb (cJ hs'.1) (ee hs'.2)
end
end L2
namespace L2
open PySem PySem.Spec PyProof.Rows
section
variable {X : Cx}
theorem PE.imp {e : Expr} {t t' : TE} (h : PE X e t) (i : ∀ σ H Q, t' σ H Q → t σ H Q) : PE X e t' := fun pins s σ H Q I hw => h pins s σ H Q I (i σ H Q hw)
theorem PS.imp {e : Stmt} {t t' : TS} (h : PS X e t) (i : ∀ D σ H, t' D σ H → t D σ H) : PS X e t' := fun pins s σ H D I hw => h pins s σ H D I (i D σ H hw)
theorem aQ.imp {f : Value → Value → Sem Value} {r r' : R2} (h : aQ X f r) (i : ∀ x y H Q, r' x y H Q → r x y H Q) : aQ X f r' := fun pins s σ H x y v u Q I rx ry q => h pins s σ H x y v u Q I rx ry (i x y H Q q)
theorem bM.imp {f : Value} {r r' : List V → Hp → VK → Prop} (h : bM X f r) (i : ∀ xs H Q, r' xs H Q → r xs H Q) : bM X f r' := fun pins s σ H xs us Q I rx q => h pins s σ H xs us Q I rx (i xs H Q q)
def om (i : Nat) : TE := fun σ H Q => match σ[i]? with
 | some (some v) => Q v H
 | _ => False
theorem qv (i : Nat) {x : Str} {pos : Pos} (hN : X.N[i]? = some x := by rfl) (hv : j9 X.env.scope x := by first | exact Or.inl rfl | exact Or.inr (Or.inl rfl) | exact Or.inr (Or.inr rfl)) (hd : (x == ("__debug__" : Str)) = false := by decide)
  (hcd : (x == ("__classdict__" : Str)) = false := by decide) : PE X (.Name x pos) (om i) := (A6 hN hv hd hcd).imp fun σ H Q h => by
 unfold om at h
 split at h
 ·rename_i v e
  exact ⟨v, e, h⟩
 ·exact h.elim
def pX : R2 := fun x y H Q => match x, y with
 | .int i, .int j => Q (.int (i + j)) H
 | .str a, .str b => a.length + b.length ≤ sizeLine ∧ Q (.str (a ++ b)) H
 | .ref l, .ref b => match H l, H b with
  | some (.lst xs), some (.lst zs) => xs.length + zs.length ≤ sizeLine ∧ ∀ p, H p = none → Q (.ref p) (upd H p (.lst (xs ++ zs)))
  | _, _ => False
 | _, _ => False
theorem bR : aQ X (binaryOp .Add) pX := (EU.or (Ho.or EJ)).imp fun x y H Q h => by
 unfold pX at h
 split at h
 ·exact .inl ⟨_, _, rfl, rfl, h⟩
 ·exact .inr (.inl ⟨_, _, rfl, rfl, h.1, h.2⟩)
 ·split at h
  ·rename_i xs zs h1 h2
   exact .inr (.inr ⟨_, _, xs, zs, rfl, rfl, h1, h2, h.1, h.2⟩)
  ·exact h.elim
 ·exact h.elim
def bp (K : PySem.W.Frag) (H : Hp) (p : Addr) (R : List V → Prop) : Prop := match H p with
 | some (.lst xs) => R xs
 | some (.tup xs) => R xs
 | _ => ∃ xs, (aL K H p xs ∨ bY K H p xs) ∧ R xs
theorem sd {K : PySem.W.Frag} {H : Hp} {p : Addr} {R : List V → Prop} (h : bp K H p R) : ∃ xs, (aL K H p xs ∨ bY K H p xs) ∧ R xs := by
 unfold bp at h
 split at h
 ·rename_i xs e
  exact ⟨xs, .inl (aL.of e), h⟩
 ·rename_i xs e
  exact ⟨xs, .inr (bY.of e), h⟩
 ·exact h
def oq (K : PySem.W.Frag) (H : Hp) (p : Addr) (R : List V → Prop) : Prop := ∃ xs, aL K H p xs ∧ R xs
theorem vg {K : PySem.W.Frag} {H : Hp} {p : Addr} {R : List V → Prop} (h : oq K H p R) : ∃ xs, aL K H p xs ∧ R xs := h
def rO (f : Int → Int → Int) : R2 := fun x y H Q => match x, y with
 | .int i, .int j => Q (.int (f i j)) H
 | _, _ => False
def lA (C : Int → Int → Prop) (f : Int → Int → Int) : R2 := fun x y H Q => match x, y with
 | .int i, .int j => C i j ∧ Q (.int (f i j)) H
 | _, _ => False
theorem GX : aQ X (binaryOp .Sub) (rO fun i j => i - j) := Kg.imp fun x y H Q h => by
 unfold rO at h
 split at h
 ·exact ⟨_, _, rfl, rfl, h⟩
 ·exact h.elim
theorem Ak {C : Int → Int → Prop} {f : Int → Int → Int} {x y : V} {H : Hp} {Q : VK} (h : lA C f x y H Q) : rI C (fun i j => .int (f i j)) x y H Q := by
 unfold lA at h
 split at h
 ·exact ⟨_, _, rfl, rfl, h.1, h.2⟩
 ·exact h.elim
theorem da : aQ X (binaryOp .Mod) (lA (fun _ j => 0 < j) fun i j => i % j) := II.imp fun _ _ _ _ h => Ak h
theorem gY : aQ X (binaryOp .FloorDiv) (lA zH fun i j => i / j) := KG.imp fun _ _ _ _ h => Ak h
def lM (neg : Bool) : R2 := fun x y H Q => match x, y with
 | .int i, .int j => Q (.bl (neg ^^ decide (i = j))) H
 | .str i, .str j => Q (.bl (neg ^^ decide (i = j))) H
 | .bl i, .bl j => Q (.bl (neg ^^ decide (i = j))) H
 | _, _ => uD x y = true ∧ Q (.bl (neg ^^ decide (x = y))) H
theorem xr (i j : Int) : decide (V.int i = V.int j) = decide (i = j) := by by_cases h : i = j <;> simp [h]
theorem zo (i j : Str) : decide (V.str i = V.str j) = decide (i = j) := by by_cases h : i = j <;> simp [h]
theorem xI (i j : Bool) : decide (V.bl i = V.bl j) = decide (i = j) := by by_cases h : i = j <;> simp [h]
theorem dm : aQ X (compareOp .Eq) (lM false) := IH.imp fun x y H Q h => by
 unfold lM at h
 simp only [Bool.false_bne] at h
 split at h
 ·exact ⟨rfl, by rw [xr]; exact h⟩
 ·exact ⟨rfl, by rw [zo]; exact h⟩
 ·exact ⟨rfl, by rw [xI]; exact h⟩
 ·exact h
theorem eP : aQ X (compareOp .NotEq) (lM true) := Lk.imp fun x y H Q h => by
 unfold lM at h
 simp only [Bool.true_bne] at h
 split at h
 ·exact ⟨rfl, by rw [xr]; exact h⟩
 ·exact ⟨rfl, by rw [zo]; exact h⟩
 ·exact ⟨rfl, by rw [xI]; exact h⟩
 ·exact h
def et (f : Int → Int → Bool) : R2 := fun x y H Q => match x, y with
 | .int i, .int j => Q (.bl (f i j)) H
 | _, _ => False
theorem nT {f : Int → Int → Bool} {x y : V} {H : Hp} {Q : VK} (h : et f x y H Q) : fz (fun i j => .bl (f i j)) x y H Q := by
 unfold et at h
 split at h
 ·exact ⟨_, _, rfl, rfl, h⟩
 ·exact h.elim
theorem z9 : aQ X (compareOp .Lt) (et fun i j => decide (i < j)) := KZ.imp fun _ _ _ _ h => nT h
theorem kD : aQ X (compareOp .LtE) (et fun i j => decide (i ≤ j)) := Kq.imp fun _ _ _ _ h => nT h
theorem Bk : aQ X (compareOp .Gt) (et fun i j => decide (j < i)) := IC.imp fun _ _ _ _ h => nT h
theorem uL : aQ X (compareOp .GtE) (et fun i j => decide (j ≤ i)) := HA.imp fun _ _ _ _ h => nT h
def mB (K : PySem.W.Frag) : R2 := fun x y H Q => match x, y with
 | .str i, .str j => Q (.bl (!(Builtin.Str.occurrences j i 0 j.length 1).isEmpty)) H
 | _, .ref p => bp K H p fun xs => cb x = true ∧ xs.all cb = true ∧ Q (.bl (cW x xs)) H
 | _, _ => False
theorem Hr : aQ X (compareOp .In) (mB X.K) := (Gw.or z7).imp fun x y H Q h => by
 unfold mB at h
 split at h
 ·exact .inl ⟨_, _, rfl, rfl, h⟩
 ·obtain ⟨xs, h1, h2, h3, h4⟩ := sd h
  exact .inr ⟨_, xs, rfl, h1, h2, h3, h4⟩
 ·exact h.elim
def gB (t : TE) : TT := fun σ H Q => t σ H fun x H' => match x with
 | .bl k => Q k H'
 | _ => False
theorem p7 {x : V} {H : Hp} {Q : Bool → Hp → Prop} (h : (match x with | .bl k => Q k H | _ => False)) : ∃ k, x = .bl k ∧ Q k H := by
 split at h
 ·exact ⟨_, rfl, h⟩
 ·exact h.elim
theorem Gm {op : CmpOp} {r : R2} {a b : Expr} {ta tb : TE} {pos : Pos} (ho : aQ X (compareOp op) r) (ha : PE X a ta) (hb : PE X b tb) (hm : behindInMarks op b = false := by first | exact nH _ (by decide) (by decide) | rfl) :
  PT X (.Compare a [op] [b] pos) (gB (fO r ta tb)) := by
 intro pins s σ H Q I h
 refine wpAny_isTrue_Compare1 ?_ hm
 refine aE (ha pins s σ H _ I h) fun v s1 ⟨x, H1, I1, r1, q1⟩ => aE (hb pins s1 σ H1 _ I1 q1) fun u s2 ⟨y, H2, I2, r2, q2⟩ => ?_
 refine aE (ho pins s2 σ H2 x y v u _ I2 r1 r2 q2) fun c s3 ⟨z, H3, I3, r3, q3⟩ => ?_
 obtain ⟨k, rfl, q⟩ := p7 q3
 cases r3
 exact wpAny_truthy_bool ⟨H3, I3, q⟩
theorem Ha {e : Expr} {t : TE} (h : PE X e t) (he : ∀ whole, isTrue e X.env whole = (do let v ← whole; standAt e.pos; holding [v] (truthy v)) := by intro _; rfl) : PT X e (gB t) := by
 intro pins s σ H Q I hw
 refine isTrue_plain (aE (h pins s σ H _ I hw) fun v s1 ⟨x, H1, I1, r1, q1⟩ => ?_) (he _)
 obtain ⟨d, rfl, q⟩ := p7 q1
 cases r1
 exact wpAny_truthy_bool ⟨H1, I1, q⟩
def pU (f g : Int → Int → Bool) (ta tb tc : TE) : TT := fun σ H Q => ta σ H fun x H1 => tb σ H1 fun y H2 => match x, y with
 | .int i, .int j => if f i j = true then tc σ H2 fun z H3 => (match z with | .int k => Q (g j k) H3 | _ => False) else Q false H2
 | _, _ => False
def p9 (ta tb : TE) : TE := fun σ H Q => ta σ H fun x H1 => match x with
 | .bl c => if c = true then tb σ H1 Q else Q (.bl false) H1
 | _ => False
def pa (ta tb : TE) : TE := fun σ H Q => ta σ H fun x H1 => match x with
 | .bl c => if c = true then Q (.bl true) H1 else tb σ H1 Q
 | _ => False
def pC (ta : TE) : TE := fun σ H Q => ta σ H fun x H1 => match x with
 | .bl c => Q (.bl (!c)) H1
 | _ => False
variable {a b : Expr} {ta tb : TE} {pos : Pos} {rest : List Expr}
theorem Fy (ha : PE X a ta) (hb : PE X (.BoolOp .And (b :: rest) pos) tb) : PE X (.BoolOp .And (a :: b :: rest) pos) (p9 ta tb) := by
 intro pins s σ H Q I h
 refine BoolOp_and (aE (ha pins s σ H _ I h) fun v s1 ⟨x, H1, I1, r1, q1⟩ => ?_)
 have q1' : ∃ c, x = .bl c ∧ if c = true then tb σ H1 Q else Q (.bl false) H1 := by
  dsimp only at q1
  split at q1
  ·exact ⟨_, rfl, q1⟩
  ·exact q1.elim
 obtain ⟨c, rfl, q1⟩ := q1'
 cases r1
 refine wpAny_truthy_bool ?_
 cases c with
 | true => exact hb pins s1 σ H1 Q I1 q1
 | false => exact ⟨.bl false, H1, I1, rfl, q1⟩
theorem JJ (ha : PE X a ta) (hb : PE X (.BoolOp .Or (b :: rest) pos) tb) : PE X (.BoolOp .Or (a :: b :: rest) pos) (pa ta tb) := by
 intro pins s σ H Q I h
 refine BoolOp_or (aE (ha pins s σ H _ I h) fun v s1 ⟨x, H1, I1, r1, q1⟩ => ?_)
 have q1' : ∃ c, x = .bl c ∧ if c = true then Q (.bl true) H1 else tb σ H1 Q := by
  dsimp only at q1
  split at q1
  ·exact ⟨_, rfl, q1⟩
  ·exact q1.elim
 obtain ⟨c, rfl, q1⟩ := q1'
 cases r1
 refine wpAny_truthy_bool ?_
 cases c with
 | false => exact hb pins s1 σ H1 Q I1 q1
 | true => exact ⟨.bl true, H1, I1, rfl, q1⟩
def oC : V → Value
 | .ty n => .type n
 | .ref a => .ref a
 | _ => .none
theorem Hc : bM X (.builtin "isinstance") (fun xs H Q => ∃ x cV t b, xs = [x, cV] ∧ ((∃ n, cV = .ty n) ∨ ∃ a, cV = .ref a) ∧ cL X.K H x t ∧ PySem.W.kitOne X.K t (oC cV) = some b ∧ Q (.bl b) H) := by
 intro pins s σ H xs us Q I r h
 obtain ⟨x, cV, t, b, rfl, hc, ty, e, q⟩ := h
 obtain ⟨u, c', rfl, ru, rc'⟩ := vals2 r
 have ec : c' = oC cV := by
  rcases hc with ⟨n, rfl⟩ | ⟨a, rfl⟩
  ·exact rc'
  ·exact rc'
 subst ec
 exact pZ I ru ty e fun tk => ⟨.bl b, H, I.tok tk, rfl, q⟩
end
end L2
namespace L2
open PySem PySem.Spec PyProof.Rows
section
variable {X : Cx}
def uu : V → List V → Hp → VK → Prop := fun x xs H Q => match x, xs with
 | .str a, [.str b] => Q (.bl (Txt.startswith a b)) H
 | _, _ => False
theorem Jm : ck X "str.startswith" uu := by
 intro pins s σ H x xs v us Q I rx r h
 unfold uu at h
 split at h
 ·rename_i a b
  obtain ⟨t, rfl⟩ := rx
  obtain ⟨u, rfl, t', rfl⟩ := vals1 r
  exact call_meets F.slot_str_startswith (typeIs_str s a t) F.entry_str_startswith (F.args_str_startswith_2 _ _) (gives_str_startswith a b t t').meets ⟨.bl _, H, I, rfl, h⟩
 ·exact h.elim
def uC : V → List V → Hp → VK → Prop := fun x xs H Q => match x, xs with
 | .str a, [.str b] => Q (.bl (Txt.endswith a b)) H
 | _, _ => False
theorem Ck : ck X "str.endswith" uC := by
 intro pins s σ H x xs v us Q I rx r h
 unfold uC at h
 split at h
 ·rename_i a b
  obtain ⟨t, rfl⟩ := rx
  obtain ⟨u, rfl, t', rfl⟩ := vals1 r
  exact call_meets F.slot_str_endswith (typeIs_str s a t) F.entry_str_endswith (F.args_str_endswith_2 _ _) (gives_str_endswith a b t t').meets ⟨.bl _, H, I, rfl, h⟩
 ·exact h.elim
def Gy : V → List V → Hp → VK → Prop := fun x xs H Q => match x, xs with
 | .str a, [] => (Txt.upper a).length ≤ sizeLine ∧ Q (.str (Txt.upper a)) H
 | _, _ => False
theorem A2 : ∀ (l : List (Str × Tok)), Vals ((l.map (·.1)).map V.str) (strValues l)
 | [] => .nil
 | p :: r => .cons ⟨p.2, rfl⟩ (A2 r)
theorem oi : ∀ {ts : List Str} {us : List Value}, Vals (ts.map V.str) us → ∃ l : List (Str × Tok), us = strValues l ∧ l.map (·.1) = ts
 | [], _, .nil => ⟨[], rfl, rfl⟩
 | t :: r, _, .cons h h' => by
  obtain ⟨k, rfl⟩ := h
  obtain ⟨l, e1, e2⟩ := oi h'
  exact ⟨(t, k) :: l, by rw [e1]; rfl, by rw [← e2]; rfl⟩
def vj : V → List V → Hp → VK → Prop := fun x xs H Q => match x, xs with
 | .str a, [.str b] => (b.length == 0) = false ∧ a.length ≤ sizeLine ∧ (Builtin.Str.partsBetween a (Builtin.Str.occurrences a b 0 a.length (a.length + 1)) b.length).length ≤ sizeLine ∧
   ∀ l, H l = none → Q (.ref l) (upd H l (.lst ((Txt.split a b).map V.str)))
 | _, _ => False
theorem CG : ck X "str.split" vj := by
 intro pins s σ H x xs v us Q I rx r h
 unfold vj at h
 split at h
 ·rename_i a b
  obtain ⟨hy, hx, hn, q⟩ := h
  obtain ⟨t, rfl⟩ := rx
  obtain ⟨w', rfl, u, rfl⟩ := vals1 r
  have fin : ∀ (l : List (Str × Tok)) (tk : Nat), l.map (·.1) = Txt.split a b → l.length ≤ sizeLine →
    EP X pins σ Q (.ref s.heap.objs.size) { s with heap := s.heap.push { cls := .type "list", data := .seq (strValues l).toArray }, toks := tk } := fun l tk e hz =>
   ⟨.ref _, _, I.laid (t' := tk) (o := .lst ((Txt.split a b).map V.str)) (fun b' o' q' => Heap.get?_push_of_some _ q') (Nat.le_refl _)
    ⟨by rw [List.length_map, ← e, List.length_map]; exact hz, strValues l, 0, by rw [← e]; exact A2 l, Heap.get?_push_size _ rfl⟩, rfl, q _ (I.aD.fresh (Nat.le_refl _))⟩
  cases h1 : (decide (a.length < b.length) || decide (Builtin.Str.strKind a < Builtin.Str.strKind b))
  ·cases hf : (Builtin.Str.occurrences a b 0 a.length (a.length + 1)).isEmpty
   ·refine call_meets F.slot_str_split (typeIs_str s a t) F.entry_str_split (F.args_str_split_2 _ _) (meets_str_split_sep a b t u h1 hy hf hx hn) ?_
    have e : Txt.split a b = Builtin.Str.partsBetween a (Builtin.Str.occurrences a b 0 a.length (a.length + 1)) b.length := (if_neg (ne_true_of_eq_false h1)).trans (if_neg (ne_true_of_eq_false hf))
    have z := fin (numbered s.toks (Builtin.Str.partsBetween a (Builtin.Str.occurrences a b 0 a.length (a.length + 1)) b.length)) (s.toks + (Builtin.Str.partsBetween a (Builtin.Str.occurrences a b 0 a.length (a.length + 1)) b.length).length)
     ((numbered_texts _ _).trans e.symm) (by
      have := congrArg List.length (numbered_texts s.toks (Builtin.Str.partsBetween a (Builtin.Str.occurrences a b 0 a.length (a.length + 1)) b.length))
      rw [List.length_map] at this
      rw [this]; exact hn)
    rw [← strsFrom_eq] at z
    exact z
   ·exact call_meets F.slot_str_split (typeIs_str s a t) F.entry_str_split (F.args_str_split_2 _ _) (meets_str_split_not_found a b t u h1 hy hf)
     (fin [(a, t)] s.toks ((if_neg (ne_true_of_eq_false h1)).trans (if_pos hf)).symm (by show 1 ≤ sizeLine; decide))
  ·exact call_meets F.slot_str_split (typeIs_str s a t) F.entry_str_split (F.args_str_split_2 _ _) (meets_str_split_cannot_occur a b t u h1)
    (fin [(a, t)] s.toks (if_pos h1).symm (by show 1 ≤ sizeLine; decide))
 ·exact h.elim
def rJoin (K : PySem.W.Frag) : V → List V → Hp → VK → Prop := fun x xs H Q => match x, xs with
 | .str a, [.ref p] => oq K H p fun xs => ∃ ts : List Str, xs = ts.map V.str ∧ ts.foldl (fun n z => n + z.length + a.length) 0 ≤ sizeLine ∧ Q (.str (Str.join a ts)) H
 | _, _ => False
theorem Ka : ck X "str.join" (rJoin X.K) := by
 intro pins s σ H x xs v us Q I rx r h
 unfold rJoin at h
 split at h
 ·rename_i a p
  obtain ⟨xs, hq, ts, rfl, hz, q⟩ := vg h
  obtain ⟨t, rfl⟩ := rx
  obtain ⟨w', rfl, e⟩ := vals1 r
  cases e
  obtain ⟨its, rv, pl, hl⟩ := I.list hq
  obtain ⟨l, rfl, e2⟩ := oi rv
  have vW : Builtin.Str.tooLong ((l.map (·.1)).toArray.foldl (· + ·.length + a.length) 0) = false := by
   unfold Builtin.Str.tooLong
   refine decide_eq_false (Nat.not_lt.mpr ?_)
   rw [List.foldl_toArray, e2]
   exact hz
  refine call_meets F.slot_str_join (typeIs_str s a t) F.entry_str_join (F.args_str_join_2 _ _) (meets_str_join_list a t p l vW) ⟨pl.isList, ?_⟩
  have hlen : (Builtin.Str.glued a (l.map (·.1))).length ≤ sizeLine := by
   rw [e2, StrLaws.glued_eq_join]
   refine Nat.le_trans ?_ hz
   have : ∀ (us : List Str) (n : Nat), n + (Str.join a us).length ≤ us.foldl (fun n z => n + z.length + a.length) n := by
    intro us
    induction us with
    | nil => intro n; exact Nat.le_refl _
    | cons y r ih =>
     intro n
     cases r with
     | nil => show n + y.length ≤ n + y.length + a.length; omega
     | cons z r' =>
      have h1 : (Str.join a (y :: z :: r')).length = y.length + a.length + (Str.join a (z :: r')).length := by
       show ((y ++ a) ++ Str.join a (z :: r')).length = _
       rw [Str.length_append, Str.length_append]
      have h2 := ih (n + y.length + a.length)
      rw [h1]
      refine Nat.le_trans ?_ h2
      omega
   have h0 := this ts 0
   omega
  have e3 : Builtin.Str.glued a (l.map (·.1)) = Str.join a ts := by rw [e2, StrLaws.glued_eq_join]
  match l, e2, e3, hlen with
  | [], e2, e3, hlen => exact ⟨hlen, ⟨.str (Str.join a ts), H, I.tok _, ⟨_, by rw [e3]⟩, q⟩⟩
  | [p], e2, e3, hlen =>
   have e4 : Str.join a ts = p.1 := by rw [← e2]; rfl
   exact ⟨.str (Str.join a ts), H, I.tok _, ⟨_, by rw [e4]⟩, q⟩
  | p1 :: p2 :: r', e2, e3, hlen => exact ⟨hlen, ⟨.str (Str.join a ts), H, I.tok _, ⟨_, by rw [e3]⟩, q⟩⟩
 ·exact h.elim
theorem yz {v : Value} {o : Option Int} (p : IsPart v o) : ∃ l : Option (Int × Tok), v = partValue l ∧ l.map (·.1) = o := by
 cases p with
 | none => exact ⟨none, rfl, rfl⟩
 | int i t => exact ⟨some (i, t), rfl, rfl⟩
def yC : V → Option Int → Option Int → Hp → VK → Prop := fun x lo hi H Q => match x with
 | .str z => z.length ≤ sizeLine ∧ Q (.str (Txt.slice z lo hi)) H
 | _ => False
theorem FQ : eV X yC := by
 intro pins s σ H x v vl vu lo hi sl Q I rx hs pl pu h
 unfold yC at h
 split at h
 ·rename_i z
  obtain ⟨hz, q⟩ := h
  obtain ⟨t, rfl⟩ := rx
  obtain ⟨l, rfl, rfl⟩ := yz pl
  obtain ⟨u, rfl, rfl⟩ := yz pu
  refine ⟨"str", _, F.slot_str_getitem.lookup, typeIs_str _ _ _, wpAny_getItem_str_slice (l := l) (u := u) (st := none) hs rfl
   (post_val_or_str ⟨Nat.le_trans (Txt.slice_le z _ _) hz, fun t' k => ?_⟩)⟩
  exact ⟨.str (Txt.slice z (l.map (·.1)) (u.map (·.1))), H, I.tok k, ⟨t', rfl⟩, q⟩
 ·exact h.elim
def o7 : R2 := fun x y H Q => match x, y with
 | .int i, .int j => jJ i j ∧ Q (.int (i * j)) H
 | .str z, .int n => MulOk z n ∧ Q (.str (Txt.mul z n)) H
 | .ref l, .int k => match H l with
  | some (.lst xs) => -(2 ^ 63) ≤ k ∧ k < 2 ^ 63 ∧ xs.length * k.toNat ≤ sizeLine ∧ ∀ p, H p = none → Q (.ref p) (upd H p (.lst (List.replicate k.toNat xs).flatten))
  | _ => False
 | _, _ => False
theorem Cp : aQ X (binaryOp .Mult) (fun x y H Q => ∃ z n, x = .str z ∧ y = .int n ∧ MulOk z n ∧ Q (.str (Txt.mul z n)) H) := by
 intro pins s σ H x y v u Q I rx ry h
 obtain ⟨z, n, rfl, rfl, hm, q⟩ := h
 obtain ⟨t, rfl⟩ := rx
 obtain ⟨t', rfl⟩ := ry
 exact SB.mul hm fun t2 k => ⟨.str _, H, I.tok _, ⟨_, rfl⟩, q⟩
theorem gC : aQ X (binaryOp .Mult) o7 := (CK.or (Cp.or DO)).imp fun x y H Q h => by
 unfold o7 at h
 split at h
 ·exact .inl ⟨_, _, rfl, rfl, h.1, h.2⟩
 ·exact .inr (.inl ⟨_, _, rfl, rfl, h.1, h.2⟩)
 ·split at h
  ·rename_i xs h1
   obtain ⟨h2, h3, h4, h5⟩ := h
   exact .inr (.inr ⟨_, _, xs, rfl, rfl, h1, h2, h3, h4, h5⟩)
  ·exact h.elim
 ·exact h.elim
theorem AB : ∀ {bs : List Bool} {us : List Value}, Vals (bs.map V.bl) us → us = bs.map Value.bool
 | [], _, .nil => rfl
 | b :: r, _, .cons h h' => by
  have h : _ = Value.bool b := h
  rw [h, AB h']
  rfl
theorem all_range (bs : List Bool) : (List.range bs.length).all (fun j => bs.getD j true) = bs.all id := by
 rw [Bool.eq_iff_iff, List.all_eq_true, List.all_eq_true]
 constructor
 ·intro h b hb
  obtain ⟨i, hi, e⟩ := List.getElem_of_mem hb
  have := h i (List.mem_range.mpr hi)
  rw [List.getD_eq_getElem?_getD, List.getElem?_eq_getElem hi, e] at this
  exact this
 ·intro h j hj
  have hj := List.mem_range.mp hj
  rw [List.getD_eq_getElem?_getD, List.getElem?_eq_getElem hj]
  exact h _ (List.getElem_mem hj)
theorem JR (hc : X.calm = true) : bM X (.builtin "all") (fun xs H Q => ∃ (p : Addr) (bs : List Bool), xs = [.ref p] ∧ aL X.K H p (bs.map V.bl) ∧ Q (.bl (bs.all id)) H) := by
 intro pins s σ H xs us Q I r h
 obtain ⟨p, bs, rfl, hq, q⟩ := h
 obtain ⟨u, rfl, e⟩ := vals1 r
 cases e
 obtain ⟨its, rv, pl, hz⟩ := I.list hq
 have eb := AB rv
 subst eb
 have hpl : p < s.heap.objs.size := pl.lt
 refine call_all_walk (wpAny_pyIter_list pl.isList ?_)
 refine ⟨s.heap.objs.size, _, _, _, _, _, fun j => bs.getD j true, rfl, Walks.list (A := X.A.in1) (show X.A.in1.handled = none from I.ok.hd hc) _ p (Nat.ne_of_lt hpl) (bs.map Value.bool).toArray, ⟨⟨_, Heap.get?_push_size _ rfl, rfl, rfl⟩, pl.isList.push _⟩, ?_, ?_⟩
 ·intro i v s' Q' E' hP hQ
  have hi : bs[i]? = some (bs.getD i true) ∧ v = .bool (bs.getD i true) := by
   have hP : (bs.map Value.bool).toArray[i]? = some v := hP
   rw [List.getElem?_toArray, List.getElem?_map] at hP
   cases e : bs[i]? with
   | none => rw [e] at hP; cases hP
   | some b =>
    rw [e] at hP
    have : bs.getD i true = b := by rw [List.getD_eq_getElem?_getD, e]; rfl
    rw [this]
    exact ⟨rfl, (Option.some.inj hP).symm⟩
  rw [hi.2]
  exact wpAny_truthy_bool hQ
 ·intro h' tk hk
  have e : (List.range (bs.map Value.bool).toArray.size).all (fun j => bs.getD j true) = bs.all id := by
   rw [List.size_toArray, List.length_map]
   exact all_range bs
  rw [e]
  refine ⟨.bl (bs.all id), H, I.kept (t' := tk) (fun b o eo => ?_), rfl, q⟩
  refine hk b o ?_ (Heap.get?_push_of_some _ eo)
  intro hm
  have e1 : b = s.heap.objs.size := by simpa using hm
  exact absurd (Heap.lt_size eo) (by rw [e1]; exact Nat.lt_irrefl _)
def nr (x : Str) : It := ⟨fun i _ => i < x.length, fun i H y H' => H' = H ∧ ∃ c, x.cps[i]? = some c ∧ y = .str ⟨#[c]⟩, fun i _ => x.length ≤ i⟩
theorem xb {P : Program} {w : World} {K : PySem.W.Frag} {tg : Expr} {x : Str} {t : Tok} {ty : String} (it : Addr)
  (hty : ["enumerate", "zip", "dict_itemiterator", "dict_reverseitemiterator", "odict_iterator", "itertools.zip_longest", "itertools.pairwise"].contains ty = false)
  (W : ∀ A : Around, A.handled = none → Walks P w A it [it] [it] x.cps.size (SignAt x) (fun i h => h.IsStrIter it ty x t i)) (W0 : ∀ (A : Around) (i : Nat) (s : Shared) (Q : Value → Shared → Prop) (E : Value → Shared → Prop), s.heap.IsStrIter it ty x t i → Q (.ref it) s → wpAny (model P w) A (pyIter (.ref it)) Q E s) :
  Turn P w K tg (nr x) [it] it (fun i h => i ≤ x.length ∧ h.IsStrIter it ty x t i) where
 mem := by simp
 obj := fun i h st b hb => by
  have e : b = it := by simpa using hb
  subst e
  obtain ⟨_, o, e, c, d⟩ := st
  exact ⟨o, e, fun v z => by rw [d] at z; cases z⟩
 keep := fun i h h' st k => ⟨st.1, let ⟨o, ho, r⟩ := st.2; ⟨o, k it (by simp) o ho, r⟩⟩
 item := by
  intro X hP hw hK hc i pins s σ H E I hf st hg
  subst hP hw hK
  obtain ⟨f0, f1, f2, f3, f4, f5⟩ := hf it (by simp)
  refine (W X.A (I.ok.hd hc)).item i s _ E hg st.2 fun v h' tk hv st' hk => ?_
  obtain ⟨c, u, hcx, rfl⟩ := hv
  have I1 : Inv X pins σ H { s with heap := h', toks := tk } := I.turned (t' := tk) (fun b o hb e => hk b o (by simpa using hb) e) f0 f1 f3 f4 f5
  obtain ⟨o, e, cc, d⟩ := id st'
  exact ⟨_, rfl, mz (s := { s with heap := h', toks := tk }) e cc d hty ⟨.str ⟨#[c]⟩, H, I1, ⟨u, rfl⟩, ⟨rfl, c, hcx, rfl⟩, ⟨hg, st'⟩, fun b hb => (hf b hb).1⟩⟩
 done := by
  intro X hP hw hK hc i pins s σ H E I hf st hg
  subst hP hw hK
  obtain ⟨f0, f1, f2, f3, f4, f5⟩ := hf it (by simp)
  have hi : i = x.cps.size := Nat.le_antisymm st.1 hg
  subst hi
  exact (W X.A (I.ok.hd hc)).done s _ E st.2 fun h' tk hk => ⟨rfl, I.turned (t' := tk) (fun b o hb e => hk b o (by simpa using hb) e) f0 f1 f3 f4 f5⟩
 self := fun A i s Q E st h => W0 A i s Q E st.2 h
def tN (tl : TE) : TI := fun σ H R => tl σ H fun x H1 => match x with
 | .str z => R (nr z) H1
 | _ => False
theorem JY {tg l : Expr} {tl : TE} (hl : PE X l tl) : PI X tg l (tN tl) := by
 intro pins s σ H R I h
 refine aE (hl pins s σ H _ I h) fun v s1 ⟨x, H1, I1, r1, q1⟩ => ?_
 have q1' : ∃ z, x = .str z ∧ R (nr z) H1 := by
  dsimp only at q1
  split at q1
  ·exact ⟨_, rfl, q1⟩
  ·exact q1.elim
 obtain ⟨z, rfl, q⟩ := q1'
 obtain ⟨t, rfl⟩ := r1
 have fp : ∀ b ∈ [s1.heap.objs.size], fq X pins H1 b := fun b hb => by
  have e : b = s1.heap.objs.size := by simpa using hb
  subst e
  exact I1.mM (Nat.le_refl _) (I1.aD.fresh (Nat.le_refl _))
 cases ha : z.cps.all (· < 128)
 ·refine wpAny_pyIter_wide ha ⟨s1.heap.objs.size, [s1.heap.objs.size], _, _, H1, rfl, I1.kept (t' := s1.toks) fun b o e => Heap.get?_push_of_some _ e,
   xb (ty := "str_iterator") (t := t) _ (by decide) (fun A hA => Walks.strWide hA _ z t) (fun A i s Q E st h => wpAny_pyIter_striter_wide st h), ⟨Nat.zero_le _, _, Heap.get?_push_size _ rfl, rfl, rfl⟩, fp, q⟩
 ·refine wpAny_pyIter_ascii ha ⟨s1.heap.objs.size, [s1.heap.objs.size], _, _, H1, rfl, I1.kept (t' := s1.toks) fun b o e => Heap.get?_push_of_some _ e,
   xb (ty := "str_ascii_iterator") (t := t) _ (by decide) (fun A hA => Walks.strAscii hA _ z t) (fun A i s Q E st h => wpAny_pyIter_striter_ascii st h), ⟨Nat.zero_le _, _, Heap.get?_push_size _ rfl, rfl, rfl⟩, fp, q⟩
end
end L2
namespace L2
open PySem PySem.Spec PyProof.Rows
section
variable {X : Cx} {a b c : Expr} {ta tb tc : TE} {pos : Pos}
theorem G1 (ha : PE X a ta) : PE X (.UnaryOp .Not a pos) (pC ta) := by
 intro pins s σ H Q I h
 refine UnaryOp_ (aE (ha pins s σ H _ I h) fun v s1 ⟨x, H1, I1, r1, q1⟩ => ?_)
 have q1' : ∃ k, x = .bl k ∧ Q (.bl (!k)) H1 := by
  dsimp only at q1
  split at q1
  ·exact ⟨_, rfl, q1⟩
  ·exact q1.elim
 obtain ⟨k, rfl, z1⟩ := q1'
 cases r1
 exact not_of (wpAny_truthy_bool ⟨.bl (!k), H1, I1, rfl, z1⟩)
theorem E8 {op op' : CmpOp} {f g : Int → Int → Bool} (ho : aQ X (compareOp op) (et f)) (ho' : aQ X (compareOp op') (et g)) (ha : PE X a ta) (hb : PE X b tb) (hc : PE X c tc)
  (hm : lastMarks [op, op'] [b, c] = false := by with_unfolding_all rfl) : PT X (.Compare a [op, op'] [b, c] pos) (pU f g ta tb tc) := by
 intro pins s σ H Q I h
 refine isTrue_chain (aE (ha pins s σ H _ I h) fun v s1 ⟨x, H1, I1, r1, q1⟩ => test_link (aE (hb pins s1 σ H1 _ I1 q1) fun u s2 ⟨y, H2, I2, r2, q2⟩ => ?_)) hm
 have q2' : ∃ i j, x = .int i ∧ y = .int j ∧ if f i j = true then tc σ H2 (fun z H3 => (match z with | .int k => Q (g j k) H3 | _ => False)) else Q false H2 := by
  dsimp only at q2
  split at q2
  ·exact ⟨_, _, rfl, rfl, q2⟩
  ·exact q2.elim
 obtain ⟨i, j, rfl, rfl, z2⟩ := q2'
 refine aE (ho pins s2 σ H2 (.int i) (.int j) v u (fun z H3 => z = .bl (f i j) ∧ H3 = H2) I2 r1 r2 ⟨rfl, rfl⟩) fun d s3 ⟨z, H3, I3, r3, e, e'⟩ => ?_
 subst e e'
 cases r3
 refine wpAny_truthy_bool ?_
 cases hf : f i j with
 | false =>
  rw [hf] at z2
  exact ite_ff ⟨H3, I3, z2⟩
 | true =>
  rw [hf, if_pos rfl] at z2
  refine ite_tt (test_last (aE (hc pins s3 σ H3 _ I3 z2) fun w' s4 ⟨z', H4, I4, r4, q4⟩ => ?_))
  have q4' : ∃ k, z' = .int k ∧ Q (g j k) H4 := by
   dsimp only at q4
   split at q4
   ·exact ⟨_, rfl, q4⟩
   ·exact q4.elim
  obtain ⟨k, rfl, z4⟩ := q4'
  refine aE (ho' pins s4 σ H4 (.int j) (.int k) u w' (fun z H5 => z = .bl (g j k) ∧ H5 = H4) I4 r2 r4 ⟨rfl, rfl⟩) fun d' s5 ⟨z2, H5, I5, r5, e, e'⟩ => ?_
  subst e e'
  cases r5
  exact wpAny_truthy_bool ⟨H5, I5, z4⟩
def nY (K : PySem.W.Frag) : List V → Hp → VK → Prop := fun xs H Q => match xs with
 | [.str y] => y.length ≤ sizeLine ∧ Q (.int y.length) H
 | [.ref p] => bp K H p fun ys => Q (.int ys.length) H
 | _ => False
theorem E3 : bM X (.builtin "len") (nY X.K) := Ab.imp fun xs H Q h => by
 unfold nY at h
 split at h
 ·exact ⟨_, _, rfl, ⟨h.1, rfl⟩, h.2⟩
 ·obtain ⟨ys, h1, h2⟩ := sd h
  rcases h1 with h1 | h1
  ·exact ⟨_, _, rfl, .inl ⟨ys, h1, rfl⟩, h2⟩
  ·exact ⟨_, _, rfl, .inr ⟨ys, h1, rfl⟩, h2⟩
 ·exact h.elim
def yM (K : PySem.W.Frag) : List V → Hp → VK → Prop := fun xs H Q => match xs with
 | [x, cV] => ∃ t b, ((∃ n, cV = .ty n) ∨ ∃ a, cV = .ref a) ∧ cL K H x t ∧ PySem.W.kitOne K t (oC cV) = some b ∧ Q (.bl b) H
 | _ => False
theorem Iv : bM X (.builtin "isinstance") (yM X.K) := Hc.imp fun xs H Q h => by
 unfold yM at h
 split at h
 ·obtain ⟨t, b, h1, h2, h3, h4⟩ := h
  exact ⟨_, _, t, b, rfl, h1, h2, h3, h4⟩
 ·exact h.elim
def m8 (K : PySem.W.Frag) : List V → Hp → VK → Prop := fun xs H Q => match xs with
 | [.ref p] => oq K H p fun xs => ∃ bs : List Bool, xs = bs.map V.bl ∧ Q (.bl (bs.all id)) H
 | _ => False
theorem K7 (hc : X.calm = true) : bM X (.builtin "all") (m8 X.K) := (JR hc).imp fun xs H Q h => by
 unfold m8 at h
 split at h
 ·obtain ⟨xs, h1, bs, rfl, h2⟩ := vg h
  exact ⟨_, bs, rfl, h1, h2⟩
 ·exact h.elim
def ES (K : PySem.W.Frag) : List V → Hp → VK → Prop := fun xs H Q => match xs with
 | [.ref p] => bp K H p fun ys => ∀ l, H l = none → Q (.ref l) (upd H l (.lst ys))
 | _ => False
def mP (K : PySem.W.Frag) : R2 := fun x y H Q => match x, y with
 | .ref p, .int i => bp K H p fun xs => match bF xs i with
  | some v => Q v H
  | none => False
 | .str z, .int i => z.length ≤ sizeLine ∧ match bF z.cps.toList i with
  | some c => Q (.str ⟨#[c]⟩) H
  | none => False
 | _, _ => False
theorem cN.imp {r r' : R2} (h : cN X r) (i : ∀ x y H Q, r' x y H Q → r x y H Q) : cN X r' := fun value slice pins s σ H x y v u Q I rx ry q => h value slice pins s σ H x y v u Q I rx ry (i x y H Q q)
theorem qx : cN X (mP X.K) := Ei.imp fun x y H Q h => by
 unfold mP at h
 split at h
 ·obtain ⟨xs, h1, h2⟩ := sd h
  split at h2
  ·rename_i v e
   rcases h1 with h1 | h1
   ·exact .inl ⟨_, xs, _, v, rfl, rfl, h1, e, h2⟩
   ·exact .inr (.inl ⟨_, xs, _, v, rfl, rfl, h1, e, h2⟩)
  ·exact h2.elim
 ·obtain ⟨h1, h2⟩ := h
  split at h2
  ·rename_i d e
   exact .inr (.inr ⟨_, _, d, rfl, rfl, h1, e, h2⟩)
  ·exact h2.elim
 ·exact h.elim
def oj (K : PySem.W.Frag) : V → Option Int → Option Int → Hp → VK → Prop := fun x lo hi H Q => match x with
 | .str z => z.length ≤ sizeLine ∧ Q (.str (Txt.slice z lo hi)) H
 | .ref a => oq K H a fun xs => ∀ p, H p = none → Q (.ref p) (upd H p (.lst (cD xs lo hi)))
 | _ => False
theorem FK : eV X (oj X.K) := by
 intro pins s σ H x v vl vu lo hi sl Q I rx hs pl pu h
 refine (FQ.or Ek) pins s σ H x v vl vu lo hi sl Q I rx hs pl pu ?_
 unfold oj at h
 split at h
 ·exact .inl h
 ·obtain ⟨xs, h1, h2⟩ := vg h
  exact .inr ⟨_, xs, rfl, h1, h2⟩
 ·exact h.elim
def uj (t : TE) : TO := fun σ H Q => t σ H fun x H1 => match x with
 | .int i => Q (some i) H1
 | _ => False
theorem Jw {e : Expr} {te : TE} (h : PE X e te) : PO X (some e) (uj te) := by
 intro pins s σ H Q I q
 refine evalPart_some_step (aE (h pins s σ H _ I q) fun v s1 ⟨x, H1, I1, r1, q1⟩ => ?_)
 have q1' : ∃ i, x = .int i ∧ Q (some i) H1 := by
  dsimp only at q1
  split at q1
  ·exact ⟨_, rfl, q1⟩
  ·exact q1.elim
 obtain ⟨i, rfl, z1⟩ := q1'
 obtain ⟨t, rfl⟩ := r1
 exact ⟨some i, H1, I1, .int i t, z1⟩
def pM : kK := fun o i v H Q => match o, i with
 | .ref p, .int k => match H p with
  | some (.lst xs) => (match cT xs.length k with
   | some j => Q (upd H p (.lst (xs.set j v)))
   | none => False)
  | _ => False
 | _, _ => False
theorem F4 : mx X pM := by
 intro pins s σ H o i v ov iv u Q I ro ri rv h
 refine set_list pins s σ H o i v ov iv u Q I ro ri rv ?_
 unfold pM at h
 split at h
 ·split at h
  ·rename_i xs h1
   split at h
   ·rename_i j h2
    exact ⟨_, xs, _, j, rfl, rfl, h1, h2, h⟩
   ·exact h.elim
  ·exact h.elim
 ·exact h.elim
theorem ck.imp {id : String} {r r' : V → List V → Hp → VK → Prop} (h : ck X id r) (i : ∀ x xs H Q, r' x xs H Q → r x xs H Q) : ck X id r' := fun pins s σ H x xs v us Q I rx rv q => h pins s σ H x xs v us Q I rx rv (i x xs H Q q)
def rh : V → List V → Hp → VK → Prop := fun x vs H Q => match x, vs with
 | .ref l, [y] => match H l with
  | some (.lst xs) => xs.length < sizeLine ∧ Q .aq (upd H l (.lst (xs ++ [y])))
  | _ => False
 | _, _ => False
theorem fZ : ck X "list.append" rh := ck.imp Cd fun x xs H Q h => by
 unfold rh at h
 split at h
 ·split at h
  ·rename_i zs h1
   exact ⟨_, zs, _, rfl, rfl, h1, h.1, h.2⟩
  ·exact h.elim
 ·exact h.elim
def Hd : V → List V → Hp → VK → Prop := fun x vs H Q => match x, vs with
 | .ref l, [.ref b] => match H l, H b with
  | some (.lst xs), some (.lst zs) => xs.length + zs.length ≤ sizeLine ∧ Q .aq (upd H l (.lst (xs ++ zs)))
  | _, _ => False
 | _, _ => False
def clsName (H : Hp) : V → Option String
 | .aq => some "NoneType"
 | .bl _ => some "bool"
 | .int _ => some "int"
 | .str _ => some "str"
 | .ref p => match H p with
  | some (.lst _) => some "list"
  | some (.tup _) => some "tuple"
  | some (.dK _) => some "dict"
  | _ => none
 | _ => none
def lh (T n : String) : Bool := T == n || (T == "bool" && n == "int")
theorem D1 {K : PySem.W.Frag} {H : Hp} {x : V} {T : String} (h : clsName H x = some T) : cL K H x (.type T) ∧ T ∈ ["NoneType", "bool", "int", "str", "list", "tuple", "dict"] := by
 unfold clsName at h
 split at h
 ·cases h; exact ⟨.aq, by simp⟩
 ·cases h; exact ⟨.bl _, by simp⟩
 ·cases h; exact ⟨.int _, by simp⟩
 ·cases h; exact ⟨.str _, by simp⟩
 ·split at h
  ·rename_i e; cases h; exact ⟨.lst e, by simp⟩
  ·rename_i e; cases h; exact ⟨.tup e, by simp⟩
  ·rename_i e; cases h; exact ⟨.dK e, by simp⟩
  ·cases h
 ·cases h
theorem FW (K : PySem.W.Frag) : ∀ T, T ∈ ["NoneType", "bool", "int", "str", "list", "tuple", "dict"] → ∀ n, n ∈ ["bool", "int", "str", "list", "tuple", "dict"] → PySem.W.kitOne K (.type T) (.type n) = some (lh T n) := by
 intro T hT n hn
 simp only [List.mem_cons, List.mem_nil_iff, or_false] at hT hn
 rcases hT with rfl | rfl | rfl | rfl | rfl | rfl | rfl <;> rcases hn with rfl | rfl | rfl | rfl | rfl | rfl <;> kernel_rfl
def tK : List V → Hp → VK → Prop := fun xs H Q => match xs with
 | [x, .ty n] => n ∈ ["bool", "int", "str", "list", "tuple", "dict"] ∧ match clsName H x with
  | some T => Q (.bl (lh T n)) H
  | none => False
 | _ => False
theorem gu : bM X (.builtin "isinstance") tK := Iv.imp fun xs H Q h => by
 unfold tK at h
 split at h
 ·rename_i x n
  obtain ⟨hn, h⟩ := h
  split at h
  ·rename_i T e
   obtain ⟨h1, h2⟩ := D1 (K := X.K) e
   exact ⟨_, _, .inl ⟨_, rfl⟩, h1, FW _ T h2 n hn, h⟩
  ·exact h.elim
 ·exact h.elim
def qU (r : V → List V → Hp → VK → Prop) (to : TE) (t : TA) : TE := fun σ H Q => to σ H fun x H1 => match x with
 | .str z => t σ H1 fun xs H2 => r (.str z) xs H2 Q
 | _ => False
def ub (r : V → List V → Hp → VK → Prop) (to : TE) (t : TA) : TE := fun σ H Q => to σ H fun x H1 => match x with
 | .ref l => (match H1 l with
  | some (.lst _) => t σ H1 fun xs H2 => r (.ref l) xs H2 Q
  | _ => False)
 | _ => False
section
variable {T : String} {name : Str} {id : String} {r : V → List V → Hp → VK → Prop} {o e : Expr} {es : List Expr} {to : TE} {t : TA} {apos bb : Pos}
theorem C8 (slot : Slot "str" name id) (hty : typeOf (.builtin id) = pure (.type "method_descriptor")) (hm : ck X id r) (ho : PE X o to) (ha : PA X (e :: es) t)
  (hs : (e :: es).all noStar = true := by rfl) (hfl : decide ((e :: es).length + ([] : List Keyword).length + (if ([] : List Keyword).isEmpty then 0 else 1) < 30) = true := by rfl)
  (eA : attributeBase o name X.env (eval o X.env) = eval o X.env := by rfl) (eB : (apos.endLine == bb.line) = true := by rfl) :
  PE X (.Call (.Attribute o name apos) (e :: es) [] bb) (qU r to t) := by
 have hs' := hs
 rw [List.all_cons, Bool.and_eq_true] at hs'
 have hst : starEach (e :: es) X.env = (false, eval e X.env) :: starEach es X.env := cJ hs'.1
 have vB : (backTo bb (starEach es X.env)).any (·.1) = false := ee hs'.2
 have vL : ((backTo bb (starEach (e :: es) X.env)).all (fun x => !x.1) && (backToKw bb (keywordEach [] X.env)).all (fun x => x.1.isSome)
   && decide ((e :: es).length + ([] : List Keyword).length + (if ([] : List Keyword).isEmpty then 0 else 1) < 30)) = true := by
  rw [rk hs, hfl]
  rfl
 intro pins s σ H Q I h
 refine wpAny_Call_method_late eA vL eB rfl (aE (ho pins s σ H _ I h) fun v s1 ⟨x, H1, I1, r1, q1⟩ => ?_)
 dsimp only at q1
 split at q1
 ·rename_i z
  obtain ⟨h1, h2⟩ := p4 (T := "str") I1 r1 rfl
  refine ⟨"str", id, PySem.F.plainAttrs_str, slot, hty, h1, h2, ?_⟩
  have hA := ha bb pins s1 σ H1 _ I1 q1
  rw [hst] at hA ⊢
  refine Calls.callWith_builtin (by show (false || (backTo bb (starEach es X.env)).any (·.1)) = false; rw [vB] <;> rfl) (Calls.evalArgs_plain ?_)
  exact aE hA fun us s2 ⟨vs, H2, I2, r2, q2⟩ => hm pins s2 σ H2 (.str z) vs v us Q I2 r1 r2 q2
 ·exact q1.elim
theorem EV (slot : Slot "list" name id) (hty : typeOf (.builtin id) = pure (.type "method_descriptor")) (hm : ck X id r) (ho : PE X o to) (ha : PA X (e :: es) t)
  (hs : (e :: es).all noStar = true := by rfl) (hfl : decide ((e :: es).length + ([] : List Keyword).length + (if ([] : List Keyword).isEmpty then 0 else 1) < 30) = true := by rfl)
  (eA : attributeBase o name X.env (eval o X.env) = eval o X.env := by rfl) (eB : (apos.endLine == bb.line) = true := by rfl) :
  PE X (.Call (.Attribute o name apos) (e :: es) [] bb) (ub r to t) := by
 have hs' := hs
 rw [List.all_cons, Bool.and_eq_true] at hs'
 have hst : starEach (e :: es) X.env = (false, eval e X.env) :: starEach es X.env := cJ hs'.1
 have vB : (backTo bb (starEach es X.env)).any (·.1) = false := ee hs'.2
 have vL : ((backTo bb (starEach (e :: es) X.env)).all (fun x => !x.1) && (backToKw bb (keywordEach [] X.env)).all (fun x => x.1.isSome)
   && decide ((e :: es).length + ([] : List Keyword).length + (if ([] : List Keyword).isEmpty then 0 else 1) < 30)) = true := by
  rw [rk hs, hfl]
  rfl
 intro pins s σ H Q I h
 refine wpAny_Call_method_late eA vL eB rfl (aE (ho pins s σ H _ I h) fun v s1 ⟨x, H1, I1, r1, q1⟩ => ?_)
 dsimp only at q1
 split at q1
 ·rename_i l
  split at q1
  ·rename_i zs el
   obtain ⟨h1, h2⟩ := p4 (T := "list") I1 r1 (.inl ⟨rfl, zs, aL.of el⟩)
   refine ⟨"list", id, PySem.F.plainAttrs_list, slot, hty, h1, h2, ?_⟩
   have hA := ha bb pins s1 σ H1 _ I1 q1
   rw [hst] at hA ⊢
   refine Calls.callWith_builtin (by show (false || (backTo bb (starEach es X.env)).any (·.1)) = false; rw [vB] <;> rfl) (Calls.evalArgs_plain ?_)
   exact aE hA fun us s2 ⟨vs, H2, I2, r2, q2⟩ => hm pins s2 σ H2 (.ref l) vs v us Q I2 r1 r2 q2
  ·exact q1.elim
 ·exact q1.elim
def FH (r : V → List V → Hp → VK → Prop) (to : TE) : TE := fun σ H Q => to σ H fun x H1 => match x with
 | .str z => r (.str z) [] H1 Q
 | _ => False
end
theorem Gd {CX : cv} {P : Program} {w : World} {K : PySem.W.Frag} {mg : Str → Option Value} {base : Heap} {N : List Str} {qual : Str} {scope : Scope} {f : Addr} {cd : Value} {A : Around} {outer : List Env} {s : Shared} {H : Hp} {E : XK} :
  (dJ CX P w K mg base N qual scope f cd A outer s H E).K = K := rfl
theorem ja {α : Type} (a : α) (l : List α) : bF (a :: l) 0 = some a := gR (j := 0) rfl
theorem J4 {α : Type} (a b : α) (l : List α) : bF (a :: b :: l) 1 = some b := gR (j := 1) rfl
theorem CO {H : Hp} {p b : Addr} {o u : HO} (h : H b = some u) (hp : H p = Option.none) : upd H p o b = some u := by rw [ah (du h hp)]; exact h
theorem eh : bootBuiltins "isinstance" = some (.builtin "isinstance") := by decide +kernel
theorem AS : bootBuiltins "all" = some (.builtin "all") := by decide +kernel
theorem iJ : bootBuiltins "str" = some (.type "str") := by decide +kernel
theorem JB : bootBuiltins "bool" = some (.type "bool") := by decide +kernel
theorem sX : bootBuiltins "int" = some (.type "int") := by decide +kernel
theorem Gx : bootBuiltins "list" = some (.type "list") := by decide +kernel
end
end L2
namespace L2
open PySem PySem.Spec PyProof.Rows
abbrev xW (ifs : List Expr) (env : Env) : Sem Bool := forIn ifs true fun c r => if r = true then do let ok ← isTrue c env (eval c env); pure (ForInStep.yield ok) else pure (ForInStep.yield r)
section
variable {prog : Program} {w : World} {A : Around} {R : Result → Shared → Prop} {s : Shared}
theorem Cg {elt tg iter : Expr} {ifs : List Expr} {scope : Scope} {pos : Pos} {it acc : Value} {env : Env} (J : Nat → Shared → Prop) (hN : ∀ e s', notedBy (model prog w) A env (fun e s' => R (.error e) s') e s' → True)
  (turn : ∀ n s, J n s → wpAny (model prog w) A (pyNext it) (fun r s1 => match r with
   | none => R (.ok .next) s1
   | some v => wpAny (model prog w) A (letOwnedTupleGo tg it v) (fun _ s2 => wpAny (model prog w) A (assign tg env v) (fun _ s3 => wpAny (model prog w) A (xW ifs env)
     (fun ok s4 => if ok = true then wpAny (model prog w) A (eval elt env) (fun x s5 => wpAny (model prog w) A (call (.builtin "list.append") [acc, x]) (fun _ s6 => ∃ m, m < n ∧ J m s6) (fun _ _ => False) s5) (fun _ _ => False) s4
      else ∃ m, m < n ∧ J m s4) (fun _ _ => False) s3) (fun _ _ => False) s2) (fun _ _ => False) s1) (fun _ _ => False) s)
  (n : Nat) (h : J n s) : codeAny (model prog w) A (.compLoop (.ListComp elt [⟨tg, iter, ifs, 0⟩] scope pos) 0 it acc env) R s := by
 have no : ∀ {E : Value → Shared → Prop} (e : Value) (s' : Shared), False → E e s' := fun _ _ z => z.elim
 refine codeAny_loop rfl J (fun n s hI => ?_) n h
 refine (show wpAny _ A (Sem.onRaise (compTurn (.ListComp elt [⟨tg, iter, ifs, 0⟩] scope pos) 0 it acc env) (fun x => do noteFrame x env; theTreesLotGoes x)) _ _ s from ?_)
 refine wpAny_noted ?_
 rw [compTurn_list]
 refine wpAny_bind (wpAny_standAt (wpAny_bind (wpAny_mono (turn n s hI) (fun r s1 q1 => ?_) no)))
 cases r with
 | none => exact wpAny_pure q1
 | some v =>
  refine wpAny_bind (wpAny_mono q1 (fun _ s2 q2 => wpAny_bind (wpAny_mono q2 (fun _ s3 q3 => wpAny_bind (wpAny_mono q3 (fun ok s4 q4 => ?_) no)) no)) no)
  cases ok with
  | false => exact wpAny_pure ⟨rfl, q4⟩
  | true => exact wpAny_bind (wpAny_bind (wpAny_mono q4 (fun x s5 q5 => wpAny_bind (wpAny_mono q5 (fun _ s6 q6 => wpAny_pure (wpAny_pure ⟨rfl, q6⟩)) no)) no))
end
def bI (X : Cx) (scope : Scope) (N : List Str) (s : Shared) (H : Hp) (ex : List Addr) (C : Addr) : Cx :=
 { X with N := N, s₀ := s, H₀ := H, env := compEnvC scope [] C X.env, outer := X.stack, stack := X.stack, ex := ex, fn := fun _ => false, pn := [], xe := fun _ _ => False }
def jh (X : Cx) (ifs : List Expr) (t : TT) : Prop :=
 ∀ (pins : List (Addr × Obj)) (s : Shared) (σ : St) (H : Hp) (Q : Bool → Hp → Prop), Inv X pins σ H s → t σ H Q → wpAny (model X.prog X.w) X.A (xW ifs X.env) (TP X pins σ Q) X.xe s
def mL : TT := fun _ H Q => Q true H
theorem K4 {X : Cx} : jh X [] mL := fun _ _ _ H _ I h => wpAny_tests_nil ⟨H, I, h⟩
theorem Lg {X : Cx} {c : Expr} {t : TT} (h : PT X c t) : jh X [c] t := fun pins s σ H Q I q => wpAny_tests_one (h pins s σ H Q I q)
def iO (wi : TI) (tt : TT) (te : TE) : TE := fun σ H Q => wi σ H fun J H1 => ∃ W : Nat → List V → Nat → Hp → Prop, (∃ m, W 0 [] m H1) ∧ ∀ i ys m H, W i ys m H →
 ys.length ≤ sizeLine ∧ ((J.stop i H ∧ ∀ l, H l = none → Q (.ref l) (upd H l (.lst ys))) ∨
  (J.go i H ∧ ys.length < sizeLine ∧ ∀ y H', J.g9 i H y H' → tt [some y] H' fun c H2 => if c = true then te [some y] H2 fun z H3 => ∃ m', m' < m ∧ W (i + 1) (ys ++ [z]) m' H3 else ∃ m', m' < m ∧ W (i + 1) ys m' H2))
section
variable {X : Cx}
theorem E7 {names : List (Str × NameKind)} (h : ∀ y ∈ names, y.2 ≠ .cell ∧ y.2 ≠ .free) {x : Str} : ¬ (names.lookup x = some .cell ∨ names.lookup x = some .free) := by
 rintro (e | e)
 ·exact (h _ (PySem.mem_of_lookup e)).1 rfl
 ·exact (h _ (PySem.mem_of_lookup e)).2 rfl
theorem J0 {pins : List (Addr × Obj)} {σ : St} {H : Hp} {s s4 : Shared} {scope : Scope} {x : Str} {fp : List Addr} {C : Addr} {m : Str → Option Value} (I : Inv X pins σ H s) (hf : ∀ b ∈ fp, fq X pins H b) (hlt : ∀ b ∈ fp, b < s.heap.objs.size)
  (hk : scope.kind = .function) (hnf : ∀ y ∈ scope.names, y.2 ≠ .cell ∧ y.2 ≠ .free) (dD : relabel scope X.env = scope) (hC : s.heap.objs.size ≤ C)
  (hos : s4.os = s.os) (hgen : s4.gens = s.gens) (old : ∀ b o, s.heap.get? b = some o → s4.heap.get? b = some o) (hns : s4.heap.Ns C m) : Inv (bI X scope [x] s H fp C) [] [none] H s4 := by
 have BN : (bI X scope [x] s H fp C).env.scope = scope := dD
 refine ⟨⟨I.ok.mod, by rw [BN]; exact hk, I.ok.glob, I.ok.blt, hC, fun _ _ _ e => (by cases e), fun y hy => ?_, fun _ _ _ e => (by cases e), I.ok.hd, I.ok.frames, .inl rfl, fun b hb => ⟨Nat.ne_of_lt (Nat.lt_of_lt_of_le (hlt b hb) hC), fun _ _ e => (by cases e)⟩,
  fun b o e => I.bs b o e, Nat.le_trans I.ok.fm I.sz, fun b o e hb => ?_, fun b hb hm => ?_, I.stack, I.pN⟩,
  hos, by rw [hgen]; exact I.bare, Un.kept old, ⟨m, hns, fun i y v e1 e2 _ => ?_⟩, fun _ _ e => (by cases e), I.aD.fresh hC, fun _ _ e => (by cases e), fun p hp => absurd (show p ∈ ([] : List (Addr × Obj)) from hp) (by simp), I.aD.kept old, rfl⟩
 ·have hy' : scope.names.lookup y = some .cell ∨ scope.names.lookup y = some .free := by
   have : (bI X scope [x] s H fp C).env.kindOf y = scope.names.lookup y := by unfold Env.kindOf; rw [BN]
   rw [this] at hy; exact hy
  exact absurd hy' (E7 hnf)
 ·rcases (hf b hb).2.2.2.1 with z | z
  ·exact I.ok.lR b o e z
  ·exact absurd (Nat.lt_of_lt_of_le (Nat.lt_of_lt_of_le (Heap.lt_size e) I.ok.fm) z) (Nat.lt_irrefl _)
 ·rcases List.mem_cons.mp (I.ny b hm) with z | z
  ·exact (hf b hb).2.1 z
  ·exact (hf b hb).2.2.1 z
 ·cases i with
  | zero => cases e2
  | succ j => simp at e2
structure qF (X : Cx) (pins : List (Addr × Obj)) (H : Hp) (C : Addr) : Prop where
 fr : H C = none
 nl : C ≠ X.env.locals
 ab : X.s₀.heap.objs.size ≤ C
 nc : ∀ x c, X.env.cells.lookup x = some c → c ≠ C
 np : ∀ p ∈ X.pn ++ pins, p.1 ≠ C
theorem qF.go {pins : List (Addr × Obj)} {σ : St} {H : Hp} {s : Shared} {C : Addr} {h' : Heap} (o : qF X pins H C) (I : Inv X pins σ H s) (hs : Heap.SameBut C s.heap h') : Inv X pins σ H { s with heap := h' } :=
 I.turned (t' := s.toks) (fun b ob hb e => (hs.2 b hb).trans e) o.fr o.nl (.inr o.ab) o.nc o.np
theorem Aq {elt iter : Expr} {ifs : List Expr} {x : Str} {px pos : Pos} {scope : Scope} {wi : TI} {tt : TT} {te : TE} (hc : X.calm = true) (hi : PI X (.Name x px) iter wi)
  (ht : ∀ s H ex C, jh (bI X scope [x] s H ex C) ifs tt) (he : ∀ s H ex C, PE (bI X scope [x] s H ex C) elt te)
  (hk : scope.kind = .function) (hnf : ∀ y ∈ scope.names, y.2 ≠ .cell ∧ y.2 ≠ .free) (hx : scope.names.lookup x = some .local) (dD : relabel scope X.env = scope)
  {pins : List (Addr × Obj)} {s : Shared} {σ : St} {H : Hp} {Q : VK} {RR : Value → Addr → Result → Shared → Prop} (I : Inv X pins σ H s) (h : iO wi tt te σ H Q)
  (hRR : ∀ (a C : Addr) (s6 : Shared) (H6 : Hp), Inv X pins σ H6 s6 → (∃ m, s6.heap.Ns C m) → qF X pins H6 C → Q (.ref a) H6 → RR (.ref a) C (.ok .next) s6) :
  wpAny (model X.prog X.w) X.A (eval iter X.env) (fun v s1 => wpAny (model X.prog X.w) X.A (pyIter v) (fun it s2 => wpAny (model X.prog X.w) X.A (newList []) (fun acc s3 =>
   wpAny (model X.prog X.w) X.A (newFunctionEnv scope X.env.globals [] [] X.env.qual none .none (some X.env)) (fun Bt s4 =>
    codeAny (model X.prog X.w) X.A (.compStart (.ListComp elt [⟨.Name x px, iter, ifs, 0⟩] scope pos) 0 it acc { Bt with scope := relabel scope X.env }) (RR acc Bt.locals) s4) X.xe s3) X.xe s2) X.xe s1) X.xe s := by
 refine aE (hi pins s σ H _ I h) fun v s1 h1 => aE h1 fun itv s2 h2 => ?_
 obtain ⟨it, fp, tn, J, H2, rfl, I2, T, st2, f2, W, ⟨m0, w0⟩, turn⟩ := h2
 have hlt : ∀ b ∈ fp, b < s2.heap.objs.size := fun b hb => let ⟨o, e, _⟩ := T.obj _ _ st2 b hb; Heap.lt_size e
 refine wpAny_newObj_type (wpAny_newFunctionEnv (fun y hy => (hnf y hy).1) (by intro y hy; simp at hy) (fun h1 hns1 hsb1 => ?_) hk)
 dsimp only at hns1 hsb1 ⊢
 generalize hH2 : s2.heap.push { cls := .type "list", dict := none, data := .seq ([] : List Value).toArray } = G at hns1 hsb1 ⊢
 have hG : G.objs.size = s2.heap.objs.size + 1 := by rw [← hH2, Heap.size_push]
 have hAC : s2.heap.objs.size ≠ G.objs.size := by rw [hG]; exact Nat.ne_of_lt (Nat.lt_succ_self _)
 have ir : s2.heap.objs.size ≤ G.objs.size := by rw [hG]; exact Nat.le_succ _
 have old : ∀ b o, s2.heap.get? b = some o → h1.get? b = some o := fun b o e => by
  exact hsb1.extBut b o (Nat.ne_of_lt (Nat.lt_of_lt_of_le (Heap.lt_size e) ir)) (Heap.get?_push_of_some _ (hH2 ▸ Heap.get?_push_of_some _ e))
 have accO : h1.get? s2.heap.objs.size = some { cls := .type "list", dict := none, data := .seq ([] : List Value).toArray } :=
  hsb1.extBut _ _ hAC (Heap.get?_push_of_some _ (hH2 ▸ Heap.get?_push_size _ rfl))
 -- the state at the block's entry
 have main : ∀ s4 : Shared, s4 = { s2 with heap := h1, toks := s2.toks + ([] : List (Str × Value)).length } →
   codeAny (model X.prog X.w) X.A (.compLoop (.ListComp elt [⟨.Name x px, iter, ifs, 0⟩] scope pos) 0 (.ref it) (.ref s2.heap.objs.size) (compEnvC scope [] G.objs.size X.env))
    (RR (.ref s2.heap.objs.size) G.objs.size) s4 := by
  rintro s4 rfl
  have I4 : Inv (bI X scope [x] s2 H2 fp G.objs.size) [] [none] H2 { s2 with heap := h1, toks := s2.toks + ([] : List (Str × Value)).length } :=
   J0 I2 f2 hlt hk hnf dD ir rfl rfl old hns1
  have exq : ∀ {H' : Hp} {pl : List (Addr × Obj)}, (∀ b ∈ fp, H' b = none) → (∀ p ∈ pl, p.1 ∉ fp) → ∀ b ∈ fp, fq (bI X scope [x] s2 H2 fp G.objs.size) pl H' b := fun hn hp b hb =>
   ⟨hn b hb, Nat.ne_of_lt (Nat.lt_of_lt_of_le (hlt b hb) ir), I4.ok.kb b hb, .inl hb, fun _ _ e => (by cases e), fun p hp' e => hp p (by simpa [bI] using hp') (e ▸ hb)⟩
  have nfp : s2.heap.objs.size ∉ fp := fun z => Nat.lt_irrefl _ (hlt _ z)
  refine Cg (fun n s' => ∃ (i : Nat) (ys : List V) (its : List Value) (k : Nat) (σ' : St) (H' : Hp), Inv (bI X scope [x] s2 H2 fp G.objs.size) [] σ' H' s' ∧ tn i s'.heap ∧ (∀ b ∈ fp, H' b = none) ∧ H' s2.heap.objs.size = none ∧ Vals ys its ∧
   s'.heap.get? s2.heap.objs.size = some { cls := .type "list", dict := none, data := .seq its.toArray k } ∧ W i ys n H') (fun _ _ _ => trivial) ?_ m0
   ⟨0, [], [], 0, [none], H2, I4, T.keep _ _ _ st2 (fun b _ o e => old b o e), fun b hb => (f2 b hb).1, I2.aD.fresh (Nat.le_refl _), .nil, accO, w0⟩
  rintro n s5 ⟨i, ys, its, k, σ5, H5, I5, st5, fr5, fa5, rv, ea, w5⟩
  have hσ : σ5.length = 1 := I5.len
  have Ip : Inv (bI X scope [x] s2 H2 fp G.objs.size) [(s2.heap.objs.size, { cls := .type "list", dict := none, data := .seq its.toArray k })] σ5 H5 s5 := I5.kN fun p hp => by
   have e : p = (s2.heap.objs.size, { cls := .type "list", dict := none, data := .seq its.toArray k }) := by simpa using hp
   subst e
   refine ⟨ea, fa5, hAC, fun z => ?_, fun v z => by cases z⟩
   exact I2.Az (Nat.le_refl _) (by
    have hz : s2.heap.objs.size ∈ bC X.stack := z
    rcases List.mem_cons.mp (I2.ny _ hz) with q | q
    ·exact absurd I2.lt (by rw [← q]; exact Nat.lt_irrefl _)
    ·exact q)
  have pnf : ∀ p ∈ [((s2.heap.objs.size, { cls := .type "list", dict := none, data := .seq its.toArray k }) : Addr × Obj)], p.1 ∉ fp := fun p hp => by
   have e : p = (s2.heap.objs.size, { cls := .type "list", dict := none, data := .seq its.toArray k }) := by simpa using hp
   subst e; exact nfp
  obtain ⟨hyl, alt⟩ := turn i ys n H5 w5
  rcases alt with ⟨stop, qn⟩ | ⟨go, hys, step⟩
  ·refine aE (T.done (bI X scope [x] s2 H2 fp G.objs.size) rfl rfl rfl hc i _ s5 σ5 H5 (fun _ _ => False) Ip (exq fr5 pnf) st5 stop) fun r s6 ⟨hr, I6⟩ => ?_
   subst hr
   have ea6 := (I6.pin (s2.heap.objs.size, { cls := .type "list", dict := none, data := .seq its.toArray k }) (List.mem_append_right _ (List.mem_singleton.mpr rfl))).1
   obtain ⟨m, hn6, _⟩ := I6.loc
   have hC6 : H5 G.objs.size = none := I6.free
   have lt2 : ∀ b o, s2.heap.get? b = some o → b ≠ s2.heap.objs.size := fun b o e => Nat.ne_of_lt (Heap.lt_size e)
   have Iout : Inv X pins σ (upd H5 s2.heap.objs.size (.lst ys)) s6 := by
    refine I2.Dn (s' := s6) (ch := fp) I6.os ⟨fun b o e n hb hx => ?_, fun b o e n hb hx => ?_, fun b o e n hx => ?_, fun b o e hx => ?_, fun b xs e => ?_, fun b o u e => ?_, fun b ps e => ?_⟩ ?_ I6.bare fun b hb => ?_
    ·exact I6.base.keep b o e n hb hx
    ·exact I6.base.slot b o e n hb hx
    ·rw [ah (lt2 b o e)]; exact I6.base.free b o e n hx
    ·exact I6.base.there b o e hx
    ·rw [ah (du e (I2.aD.fresh (Nat.le_refl _)))]; exact I6.base.dU b xs e
    ·rw [ah (du e (I2.aD.fresh (Nat.le_refl _)))]; exact I6.base.dv b o u e
    ·obtain ⟨more, e1⟩ := I6.base.dO b ps e
     exact ⟨more, by rw [ah (du e (I2.aD.fresh (Nat.le_refl _)))]; exact e1⟩
    ·intro b u e
     by_cases hb : b = s2.heap.objs.size
     ·subst hb
      rw [az] at e
      cases e
      exact ⟨hyl, its, k, rv, ea6⟩
     ·rw [ah hb] at e
      exact (I6.aD b u e).ia (fun c v _ q => q) (fun c q => by rw [ah (du q fa5)]; exact q) fun c xs q => by rw [ah (du q fa5)]; exact q
    ·obtain ⟨g1, g2, g3, g4, g5, g6⟩ := f2 b hb
     exact ⟨g4, g2, g5, g6⟩
   refine hRR _ _ s6 _ Iout ⟨m, hn6⟩ ⟨by rw [ah (Ne.symm hAC)]; exact hC6, ?_, ?_, fun y c e z => ?_, fun p hp z => ?_⟩ (qn _ fa5)
   ·exact Nat.ne_of_gt (Nat.lt_of_lt_of_le I2.lt ir)
   ·exact Nat.le_trans I2.sz ir
   ·obtain ⟨v', q⟩ := I2.cell y c e
    exact absurd (Nat.lt_of_lt_of_le q.lt ir) (by rw [z]; exact Nat.lt_irrefl _)
   ·exact absurd (Nat.lt_of_lt_of_le (Heap.lt_size (I2.pin p hp).1) ir) (by rw [z]; exact Nat.lt_irrefl _)
  ·refine aE (T.item (bI X scope [x] s2 H2 fp G.objs.size) rfl rfl rfl hc i _ s5 σ5 H5 (fun _ _ => False) Ip (exq fr5 pnf) st5 go) fun r s6 ⟨u, hr, h6⟩ => ?_
   subst hr
   refine aE h6 fun _ s7 ⟨y, H7, I7, ry, y7, st7, fr7⟩ => ?_
   have I7' := I7.pinned (exq fr7 pnf) (T.obj _ _ st7)
   have hloc : Loc (bI X scope [x] s2 H2 fp G.objs.size).env.scope x := .inl (by rw [show (bI X scope [x] s2 H2 fp G.objs.size).env.scope = scope from dD]; exact hx)
   have hpg : PG (bI X scope [x] s2 H2 fp G.objs.size) (.Name x px) (gj 0) := yy (show [x].Nodup by simp) rfl hloc (.inr (by rw [show (bI X scope [x] s2 H2 fp G.objs.size).env.scope = scope from dD]; exact hx))
   have hset : σ5.set 0 (some y) = [some y] := by
    match σ5, hσ with
    | [_], _ => rfl
   refine aE (hpg _ s7 σ5 H7 y u (fun σ' H' => σ' = [some y] ∧ H' = H7) I7' ry ⟨hset, rfl⟩) fun _ s8 ⟨σ8, H8, I8, e8, e8'⟩ => ?_
   subst e8 e8'
   refine aE (ht _ _ _ _ _ s8 [some y] H8 _ I8 (step y H8 y7)) fun ok s9 ⟨H9, I9, q9⟩ => ?_
   -- what is pinned stays
   have Br : ∀ {s' : Shared} {H' : Hp}, Inv (bI X scope [x] s2 H2 fp G.objs.size) ([(s2.heap.objs.size, { cls := .type "list", dict := none, data := .seq its.toArray k })] ++ la fp s7.heap) [some y] H' s' →
     tn (i + 1) s'.heap ∧ (∀ b ∈ fp, H' b = none) ∧ H' s2.heap.objs.size = none ∧ s'.heap.get? s2.heap.objs.size = some { cls := .type "list", dict := none, data := .seq its.toArray k } := fun {s' H'} J' => by
    refine ⟨T.keep _ _ _ st7 fun b hb o e => (J'.pin (b, o) (List.mem_append_right _ (List.mem_append_right _ (nB hb e)))).1, fun b hb => ?_, (J'.pin (s2.heap.objs.size, { cls := .type "list", dict := none, data := .seq its.toArray k }) (List.mem_append_right _ (List.mem_append_left _ (List.mem_singleton.mpr rfl)))).2.1, (J'.pin (s2.heap.objs.size, { cls := .type "list", dict := none, data := .seq its.toArray k }) (List.mem_append_right _ (List.mem_append_left _ (List.mem_singleton.mpr rfl)))).1⟩
    obtain ⟨o, e, _⟩ := T.obj _ _ st7 b hb
    exact (J'.pin (b, o) (List.mem_append_right _ (List.mem_append_right _ (nB hb e)))).2.1
   cases ok with
   | false =>
    obtain ⟨m', hm, w'⟩ := q9
    obtain ⟨k1, k2, k3, k4⟩ := Br I9
    exact ⟨m', hm, i + 1, ys, its, k, [some y], H9, I9.kN (pins' := []) (fun _ hp => nomatch hp), k1, k2, k3, rv, k4, w'⟩
   | true =>
    refine aE (he _ _ _ _ _ s9 [some y] H9 _ I9 q9) fun zv s10 ⟨z, H10, I10, rz, jK⟩ => ?_
    obtain ⟨m', hm, w'⟩ := jK
    obtain ⟨k1, k2, k3, k4⟩ := Br I10
    have hl := rv.length
    refine call_meets F.slot_list_append ⟨_, k4, rfl⟩ F.entry_list_append (F.args_list_append_2 _ _) (PySem.list_append s2.heap.objs.size its.toArray k zv (by rw [List.size_toArray]; omega)) ⟨k4, ?_⟩
    have q := PySem.IsL.update k4 (·.push zv)
    have ip : its.toArray.push zv = (its ++ [zv]).toArray := by simp
    rw [ip] at q
    have I11 : Inv (bI X scope [x] s2 H2 fp G.objs.size) [] [some y] H10 s10 := I10.kN (pins' := []) (fun _ hp => nomatch hp)
    refine ⟨m', hm, i + 1, ys ++ [z], its ++ [zv], _, [some y], H10, I11.turned (t' := s10.toks) (it := s2.heap.objs.size) (fun b o hb e => (Heap.get?_update_other s10.heap _ (Ne.symm hb)).trans e) k3 hAC (.inr (Nat.le_refl _)) (fun _ _ e => (by cases e)) (fun p hp => absurd (show p ∈ ([] : List (Addr × Obj)) from hp) (by simp)),
     T.keep _ _ _ k1 fun b hb o e => (Heap.get?_update_other s10.heap _ (fun z => nfp (by rw [z]; exact hb))).trans e, k2, k3, rv.append (.cons rz .nil), q, w'⟩
 exact codeAny_compStart_list (main _ rfl) (T.self _ 0 _ _ _ (T.keep _ _ _ st2 fun b _ o e => old b o e) (main _ rfl))
theorem Eb {elt iter : Expr} {ifs : List Expr} {x : Str} {px pos : Pos} {scope : Scope} {wi : TI} {tt : TT} {te : TE} (hc : X.calm = true) (hi : PI X (.Name x px) iter wi)
  (ht : ∀ s H ex C, jh (bI X scope [x] s H ex C) ifs tt) (he : ∀ s H ex C, PE (bI X scope [x] s H ex C) elt te)
  (hk : scope.kind = .function := by rfl) (hnm : ∀ y ∈ scope.names, y.2 = .local → scope.names.lookup y.1 = some .local := by decide +kernel) (hnf : ∀ y ∈ scope.names, y.2 ≠ .cell ∧ y.2 ≠ .free := by decide +kernel) (hx : scope.names.lookup x = some .local := by rfl) (dD : relabel scope X.env = scope := by rfl)
  (hs : ∀ x, foldedSetIterable iter X.env x = pure x := by intro _; rfl) : PE X (.ListComp elt [⟨.Name x px, iter, ifs, 0⟩] scope pos) (iO wi tt te) := by
 intro pins s σ H Q I h
 rw [eval_ListComp]
 refine wpAny_comprehension_free (use := none) (cl := []) rfl hs (closureFor_none fun y hy => (hnf y hy).2) hk hnm ?_
 refine Aq (RR := fun acc C => compPost (model X.prog X.w) X.A X.xe none (EP X pins σ Q) acc C) hc hi ht he hk hnf hx dD I h ?_
 intro a C s6 H6 I6 hm o q
 obtain ⟨m, hn⟩ := hm
 exact ⟨m, hn, fun h' hsb => ⟨.ref a, H6, o.go I6 hsb, rfl, q⟩⟩
theorem C1 {elt iter : Expr} {ifs : List Expr} {x y : Str} {i : Nat} {px py pos spos : Pos} {scope : Scope} {wi : TI} {tt : TT} {te : TE} (hc : X.calm = true) (hN : X.N.Nodup) (hiy : X.N[i]? = some y) (hly : X.env.scope.names.lookup y = some .local) (hi : PI X (.Name x px) iter wi)
  (ht : ∀ s H ex C, jh (bI X scope [x] s H ex C) ifs tt) (he : ∀ s H ex C, PE (bI X scope [x] s H ex C) elt te)
  (hsw : swapsWith (.ListComp elt [⟨.Name x px, iter, ifs, 0⟩] scope pos) (some (.Name y py)) spos.line X.env = pure true := by rfl)
  (hk : scope.kind = .function := by rfl) (hnm : ∀ y ∈ scope.names, y.2 = .local → scope.names.lookup y.1 = some .local := by decide +kernel) (hnf : ∀ y ∈ scope.names, y.2 ≠ .cell ∧ y.2 ≠ .free := by decide +kernel) (hx : scope.names.lookup x = some .local := by rfl) (dD : relabel scope X.env = scope := by rfl)
  (hs : ∀ x, foldedSetIterable iter X.env x = pure x := by intro _; rfl) : PS X (.Assign [.Name y py] (.ListComp elt [⟨.Name x px, iter, ifs, 0⟩] scope pos) spos) (gL (iO wi tt te) (gj i)) := by
 intro pins s σ H D I h
 rw [exec_Assign_Name_used _ _ _ _ hsw]
 refine wpAny_bind (wpAny_standAt (wpAny_bind ?_))
 refine wpAny_bind (wpAny_mono (wpAny_comprehension_free (e := .ListComp elt [⟨.Name x px, iter, ifs, 0⟩] scope pos) (use := some (assign (.Name y py) X.env)) (cl := []) (Q := fun _ s' => SP X pins D .next s') rfl hs (closureFor_none fun y hy => (hnf y hy).2) hk hnm
  (Aq (RR := fun acc C => compPost (model X.prog X.w) X.A X.xe (some (assign (.Name y py) X.env)) (fun _ s' => SP X pins D .next s') acc C) hc hi ht he hk hnf hx dD I h ?_)) (fun _ s' hq => wpAny_pure (wpAny_pure hq)) fun _ _ e => e)
 intro a C s6 H6 I6 hm o q
 obtain ⟨m, hn⟩ := hm
 refine (show wpAny (model X.prog X.w) X.A (assign (.Name y py) X.env (.ref a)) _ X.xe s6 from ?_)
 refine wpAny_assign_Name (xG I6 hN hiy (.inl hly) (v := .ref a) rfl (fun s' I' hsb => ?_) (.inr hly))
 obtain ⟨b, hsb, hb⟩ := hsb
 have nb : C ≠ b := by
  rcases hb with z | z
  ·rw [z]; exact o.nl
  ·exact fun e => o.nc y b z e.symm
 exact ⟨m, hn.sameBut hsb nb, fun h' hs' => ⟨_, H6, o.go I' hs', q⟩⟩
end
end L2
namespace L2
open PySem PySem.Spec PyProof.Rows
def iR (st : Addr) (H H' : Hp) : Prop := ∀ c o, c ≠ st → H c = some o → H' c = some o
theorem ax.upd {H : Hp} {p : Addr} {o : HO} (h : H p = Option.none) : ax H (upd H p o) := fun b u e => by rw [ah (du e h)]; exact e
theorem iR.upd {H : Hp} {p : Addr} {o : HO} : iR p H (upd H p o) := fun c u n e => by rw [ah n]; exact e
theorem iR.same {H H1 H' : Hp} {st : Addr} (a : ax H H1) (h : H st = Option.none) (k : iR st H1 H') : ax H H' := fun c o e => k c o (du e h) (a c o e)
def my : V → Bool
 | .str _ => true
 | _ => false
def mE (t : TE) : TE := fun σ H Q => ∃ M : VK, t σ H M ∧ ∀ v H1, M v H1 → Q v H1
def mA (t : TA) : TA := fun σ H Q => ∃ M : List V → Hp → Prop, t σ H M ∧ ∀ v H1, M v H1 → Q v H1
theorem PE.m {X : Cx} {e : Expr} {t : TE} (h : PE X e t) : PE X e (mE t) := fun pins s σ H Q I ⟨M, h1, h2⟩ => aE (h pins s σ H M I h1) fun _ _ ⟨v, H1, I1, r, q⟩ => ⟨v, H1, I1, r, h2 v H1 q⟩
theorem PA.m {X : Cx} {e : List Expr} {t : TA} (h : PA X e t) : PA X e (mA t) := fun pos pins s σ H Q I ⟨M, h1, h2⟩ => aE (h pos pins s σ H M I h1) fun _ _ ⟨v, H1, I1, r, q⟩ => ⟨v, H1, I1, r, h2 v H1 q⟩
theorem PI.imp {X : Cx} {tg it : Expr} {t t' : TI} (h : PI X tg it t) (i : ∀ σ H R, t' σ H R → t σ H R) : PI X tg it t' := fun pins s σ H R I hw => h pins s σ H R I (i σ H R hw)
def pF (ta : TA) : TI := fun σ H R => ta σ H fun vs H1 => match vs with
 | [.int j] => (-(2 ^ 62) ≤ j ∧ j < 2 ^ 62) ∧ R (gd 0 j.toNat) H1
 | _ => False
theorem Ci {X : Cx} {tg a : Expr} {ta : TA} {p pos : Pos} (hg : Gl X "range") (hm : X.mg "range" = none) (ha : PA X [a] ta) (hs : starEach [a] X.env = [(false, eval a X.env)] := by rfl) : PI X tg (.Call (.Name "range" p) [a] [] pos) (pF ta) :=
 (Ik hg hm ha.m hs).imp fun σ H R h => ⟨_, h, fun vs H1 z => by
  split at z
  ·exact ⟨_, rfl, z.1.1, z.1.2, z.2⟩
  ·exact z.elim⟩
def u0 (K : PySem.W.Frag) (tl : TE) : TI := fun σ H R => tl σ H fun x H1 => match x with
 | .ref a => (∃ xs, aL K H1 a xs) ∧ R (gn K a) H1
 | _ => False
theorem JC {X : Cx} {tg l : Expr} {tl : TE} (hl : PE X l tl) : PI X tg l (u0 X.K tl) := (EC hl.m).imp fun σ H R h => ⟨_, h, fun x H1 z => by
  split at z
  ·exact ⟨_, rfl, z.1, z.2⟩
  ·exact z.elim⟩
def nu (J : It) (g : TG) (tb : TS) (D : Ends) (σ : St) (H1 : Hp) : Prop := ∃ W : Nat → Nat → St → Hp → Prop, (∃ m, W 0 m σ H1) ∧ ∀ i m σ H, W i m σ H →
 (J.stop i H ∧ D.nx σ H) ∨ (J.go i H ∧ ∃ N : St → Hp → Prop, (∀ σ' H', N σ' H' → ∃ m', m' < m ∧ W (i + 1) m' σ' H') ∧ ∀ x H', J.g9 i H x H' → g x σ H' fun σ2 H2 => tb { D with nx := N, ct := N, bk := D.nx } σ2 H2)
theorem D5 {wi : TI} {g : TG} {tb : TS} {D : Ends} {σ : St} {H : Hp} : sA wi g tb D σ H = wi σ H fun J H1 => nu J g tb D σ H1 := rfl
theorem AK {lo : Int} {n : Nat} {g : TG} {tb : TS} {D : Ends} {σ : St} {H : Hp} (Pv : Nat → St → Hp → Prop) (h0 : Pv 0 σ H)
  (hs : ∀ i σ H, i < n → Pv i σ H → g (.int (lo + i)) σ H fun σ2 H2 => tb { D with nx := Pv (i + 1), ct := Pv (i + 1), bk := D.nx } σ2 H2) (hd : ∀ σ H, Pv n σ H → D.nx σ H) : nu (gd lo n) g tb D σ H := IL Pv h0 hs hd
theorem AL {K : PySem.W.Frag} {a : Addr} {xs : List V} {g : TG} {tb : TS} {D : Ends} {σ : St} {H : Hp} (Pv : Nat → St → Hp → Prop) (h0 : Pv 0 σ H) (hl : ∀ i σ H, i ≤ xs.length → Pv i σ H → aL K H a xs)
  (hs : ∀ i x σ H, xs[i]? = some x → Pv i σ H → g x σ H fun σ2 H2 => tb { D with nx := Pv (i + 1), ct := Pv (i + 1), bk := D.nx } σ2 H2) (hd : ∀ σ H, Pv xs.length σ H → D.nx σ H) : nu (gn K a) g tb D σ H := E2 Pv h0 hl hs hd
theorem fits {n : Nat} (h : n ≤ 1000) : n ≤ sizeLine := Nat.le_of_lt (y8 h)
theorem di {n : Nat} (h : n ≤ 1000) : n < sizeLine := y8 h
def nh (t u : TS) : TS := fun D σ H => ∃ P : St → Hp → Prop, t { D with nx := P } σ H ∧ ∀ σ' H', P σ' H' → u D σ' H'
theorem Je {X : Cx} {st : Stmt} {rest : List Stmt} {t u : TS} (h1 : PS X st t) (h2 : bV X rest u) : bV X (st :: rest) (nh t u) := by
 intro pins s σ H D I h
 obtain ⟨P, ht, hu⟩ := h
 have h1' : PS X st (fun D' σ' H' => D' = { D with nx := P } ∧ t D' σ' H') := h1.imp fun _ _ _ z => z.2
 have h2' : bV X rest (fun D' σ' H' => P σ' H' ∧ D' = D) := fun pins s σ H D' I z => by
  obtain ⟨z1, rfl⟩ := z
  exact h2 pins s σ H D' I (hu σ H z1)
 refine JL (t := fun D' σ' H' => t { D with nx := P } σ' H' ∧ D'.rt = D.rt ∧ D'.bk = D.bk ∧ D'.ct = D.ct ∧ ∀ σ'' H'', P σ'' H'' → D'.nx σ'' H'') (u := fun D' σ' H' => P σ' H' ∧ D' = D) ?_ h2' pins s σ H D I ⟨ht, rfl, rfl, rfl, fun σ'' H'' z => ⟨z, rfl⟩⟩
 intro pins s σ H D' I z
 obtain ⟨z1, z2, z3, z4, z5⟩ := z
 refine aE (h1 pins s σ H { D with nx := P } I z1) fun f s' hq => ?_
 cases f with
 | next => obtain ⟨σ', H', I', q⟩ := hq; exact ⟨σ', H', I', z5 _ _ q⟩
 | brk => obtain ⟨σ', H', I', q⟩ := hq; exact ⟨σ', H', I', by rw [z3]; exact q⟩
 | cont => obtain ⟨σ', H', I', q⟩ := hq; exact ⟨σ', H', I', by rw [z4]; exact q⟩
 | ret u => obtain ⟨v, σ', H', I', r, q⟩ := hq; exact ⟨v, σ', H', I', r, by rw [z2]; exact q⟩
theorem ao {t u : TS} {D : Ends} {σ : St} {H : Hp} (h : t { D with nx := u D } σ H) : nh t u D σ H := ⟨u D, h, fun _ _ z => z⟩
theorem b0 {t u : TS} {D : Ends} {σ : St} {H : Hp} (P : St → Hp → Prop) (h1 : t { D with nx := P } σ H) (h2 : ∀ σ' H', P σ' H' → u D σ' H') : nh t u D σ H := ⟨P, h1, h2⟩
theorem tH {H : Hp} {x : V} {T : String} (h : clsName H x = some T) : lh T "str" = my x := by
 unfold clsName at h
 split at h
 ·cases h; rfl
 ·cases h; rfl
 ·cases h; rfl
 ·cases h; rfl
 ·split at h
  ·cases h; rfl
  ·cases h; rfl
  ·cases h; rfl
  ·cases h
 ·cases h
theorem EL (H : Hp) (z : Str) : clsName H (.str z) = some "str" := rfl
theorem Im (H : Hp) (z : Bool) : clsName H (.bl z) = some "bool" := rfl
theorem IA (H : Hp) (z : Int) : clsName H (.int z) = some "int" := rfl
theorem Ft (H : Hp) : clsName H .aq = some "NoneType" := rfl
theorem ot (n : String) (h : ["bool", "int", "str", "list", "tuple", "dict"].contains n = true) : n ∈ ["bool", "int", "str", "list", "tuple", "dict"] := by simpa using h
def mT (K : PySem.W.Frag) : R2 := fun x y H Q => match y with
 | .ref p => ∃ xs, (aL K H p xs ∨ bY K H p xs) ∧ cb x = true ∧ xs.all cb = true ∧ Q (.bl (cW x xs)) H
 | _ => False
theorem E1 {X : Cx} : aQ X (compareOp .In) (mT X.K) := z7.imp fun x y H Q h => by
 unfold mT at h
 split at h
 ·obtain ⟨xs, h1, h2, h3, h4⟩ := h
  exact ⟨_, xs, rfl, h1, h2, h3, h4⟩
 ·exact h.elim
section
variable {X : Cx} {K : PySem.W.Frag}
theorem oh (h : X.K = K) : aQ X (compareOp .In) (mB K) := h ▸ Hr
theorem xZ (h : X.K = K) : aQ X (compareOp .In) (mT K) := h ▸ E1
theorem lz (h : X.K = K) : bM X (.builtin "len") (nY K) := h ▸ E3
theorem yL (h : X.K = K) (hc : X.calm = true) : bM X (.builtin "all") (m8 K) := h ▸ K7 hc
theorem bq (h : X.K = K) : cN X (mP K) := h ▸ qx
theorem j7 (h : X.K = K) : eV X (oj K) := h ▸ FK
theorem lN (h : X.K = K) : ck X "str.join" (rJoin K) := h ▸ Ka
end
def rW (J : It) (tt : TT) (te : TE) (Q : VK) (H0 : Hp) : Prop := ∃ W : Nat → List V → Nat → Hp → Prop, (∃ m, W 0 [] m H0) ∧ ∀ i ys m H, W i ys m H →
 ys.length ≤ sizeLine ∧ ((J.stop i H ∧ ∀ l, H l = none → Q (.ref l) (upd H l (.lst ys))) ∨
  (J.go i H ∧ ys.length < sizeLine ∧ ∀ y H', J.g9 i H y H' → tt [some y] H' fun c H2 => if c = true then te [some y] H2 fun z H3 => ∃ m', m' < m ∧ W (i + 1) (ys ++ [z]) m' H3 else ∃ m', m' < m ∧ W (i + 1) ys m' H2))
theorem G5 {wi : TI} {tt : TT} {te : TE} {σ : St} {H : Hp} {Q : VK} : iO wi tt te σ H Q = wi σ H fun J H1 => rW J tt te Q H1 := rfl
theorem Hz {z : Str} {te : TE} {H : Hp} {Q : VK} (f : Nat → V) (hz : z.length ≤ sizeLine)
  (he : ∀ c, c ∈ z.cps.toList → ∀ H1, ax H H1 → ∀ R : VK, (∀ H2, ax H1 H2 → R (f c) H2) → te [some (.str ⟨#[c]⟩)] H1 R)
  (q : ∀ H1, ax H H1 → ∀ l, H1 l = none → Q (.ref l) (upd H1 l (.lst (z.cps.toList.map f)))) : rW (nr z) mL te Q H := by
 have hl : z.cps.toList.length = z.length := by simp [Str.length]
 refine ⟨fun i ys m H1 => ax H H1 ∧ ys = (z.cps.toList.take i).map f ∧ i ≤ z.length ∧ m = z.length - i, ⟨_, ax.refl H, rfl, Nat.zero_le _, rfl⟩, ?_⟩
 rintro i ys m H1 ⟨s1, rfl, hi, rfl⟩
 have hlen : ((z.cps.toList.take i).map f).length = i := by rw [List.length_map, List.length_take, hl]; omega
 refine ⟨by rw [hlen]; omega, ?_⟩
 by_cases h : i < z.length
 ·refine .inr ⟨h, by rw [hlen]; omega, ?_⟩
  rintro y H' ⟨rfl, c, hc, rfl⟩
  have hc2 : z.cps.toList[i]? = some c := by simpa using hc
  simp only [mL, if_true]
  refine he c (List.mem_of_getElem? hc2) H' s1 _ fun H2 s2 => ⟨_, ?_, s1.trans s2, ?_, h, rfl⟩
  ·omega
  ·rw [List.take_add_one, hc2, List.map_append]; rfl
 ·have hi2 : i = z.length := by omega
  refine .inl ⟨Nat.le_of_eq hi2.symm, fun l hl' => ?_⟩
  have := q H1 s1 l hl'
  rw [List.take_of_length_le (by rw [hl]; omega)]
  exact this
theorem uN {K : PySem.W.Frag} {a : Addr} {xs : List V} {tt : TT} {te : TE} {H : Hp} {Q : VK} (p : V → Bool) (f : V → V) (hsq : aL K H a xs) (hz : xs.length ≤ sizeLine)
  (ht : ∀ x, x ∈ xs → ∀ H1, ax H H1 → ∀ R : Bool → Hp → Prop, (∀ H2, ax H1 H2 → R (p x) H2) → tt [some x] H1 R)
  (he : ∀ x, x ∈ xs → p x = true → ∀ H1, ax H H1 → ∀ R : VK, (∀ H2, ax H1 H2 → R (f x) H2) → te [some x] H1 R)
  (q : ∀ H1, ax H H1 → ∀ l, H1 l = none → Q (.ref l) (upd H1 l (.lst ((xs.filter p).map f)))) : rW (gn K a) tt te Q H := by
 refine ⟨fun i ys m H1 => ax H H1 ∧ ys = ((xs.take i).filter p).map f ∧ i ≤ xs.length ∧ m = xs.length - i, ⟨_, ax.refl H, rfl, Nat.zero_le _, rfl⟩, ?_⟩
 rintro i ys m H1 ⟨s1, rfl, hi, rfl⟩
 have hlen : (((xs.take i).filter p).map f).length ≤ i := by
  rw [List.length_map]
  refine Nat.le_trans (List.length_filter_le _ _) ?_
  rw [List.length_take]; omega
 refine ⟨by omega, ?_⟩
 by_cases h : i < xs.length
 ·have hx : xs[i]? = some xs[i] := List.getElem?_eq_getElem h
  refine .inr ⟨⟨xs, xs[i], s1.seq hsq, hx⟩, by omega, ?_⟩
  rintro y H' ⟨rfl, hy⟩
  have hyx : xs[i]? = some y := hy xs (s1.seq hsq)
  have hm : y ∈ xs := List.mem_of_getElem? hyx
  have e1 : (xs.take (i + 1)).filter p = (xs.take i).filter p ++ (if p y = true then [y] else []) := by
   rw [List.take_add_one, hyx, List.filter_append]
   by_cases hp : p y = true
   ·simp [hp]
   ·simp [hp]
  refine ht y hm H' s1 _ fun H2 s2 => ?_
  by_cases hp : p y = true
  ·rw [if_pos hp]
   refine he y hm hp H2 (s1.trans s2) _ fun H3 s3 => ⟨_, ?_, (s1.trans s2).trans s3, ?_, h, rfl⟩
   ·omega
   ·rw [e1, if_pos hp, List.map_append]; rfl
  ·rw [if_neg hp]
   refine ⟨_, ?_, s1.trans s2, ?_, h, rfl⟩
   ·omega
   ·rw [e1, if_neg hp, List.append_nil]
 ·have hi2 : i = xs.length := by omega
  refine .inl ⟨⟨xs, s1.seq hsq, by omega⟩, fun l hl' => ?_⟩
  have := q H1 s1 l hl'
  rw [List.take_of_length_le (by omega)]
  exact this
end L2
namespace L2
open PySem PySem.Spec PyProof.Rows
structure QE (X : Cx) (e : Expr) (t : TE) : Prop where
 h : PE X e t
structure QA (X : Cx) (e : List Expr) (t : TA) : Prop where
 h : PA X e t
structure QT (X : Cx) (e : Expr) (t : TT) : Prop where
 h : PT X e t
structure QW (X : Cx) (e : Expr) (t : TT) : Prop where
 h : PW X e t
structure QS (X : Cx) (e : Stmt) (t : TS) : Prop where
 h : PS X e t
structure QB (X : Cx) (e : List Stmt) (t : TS) : Prop where
 h : bV X e t
structure QI (X : Cx) (tg it : Expr) (t : TI) : Prop where
 h : PI X tg it t
structure QG (X : Cx) (e : Expr) (t : TG) : Prop where
 h : PG X e t
structure m4 (X : Cx) (e : List Expr) (t : d9) : Prop where
 h : ku X e t
structure nG (X : Cx) (e : List Expr) (t : TT) : Prop where
 h : jh X e t
structure QO (X : Cx) (e : Option Expr) (t : TO) : Prop where
 h : PO X e t
structure QP (X : Cx) (pos : Pos) (ks : List (Option Expr)) (vs : List Expr) (t : List (TE × TE)) : Prop where
 h : DS X pos ks vs t
namespace Dv
section
variable {X : Cx} {a b c : Expr} {ta tb tc : TE} {pos : Pos} {rest : List Expr} {tA tB' : TT}
theorem v (i : Nat) {x : Str} {pos : Pos} (hN : X.N[i]? = some x := by rfl) (hv : j9 X.env.scope x := by first | exact Or.inl rfl | exact Or.inr (Or.inl rfl) | exact Or.inr (Or.inr rfl)) (hd : (x == ("__debug__" : Str)) = false := by decide)
  (hcd : (x == ("__classdict__" : Str)) = false := by decide) : QE X (.Name x pos) (om i) := ⟨qv i hN hv hd hcd⟩
theorem int {i j pos} : QE X (.Constant (.int i) j pos) (tC (.int i)) := ⟨Kx⟩
theorem bl {b j pos} : QE X (.Constant (.bool b) j pos) (tC (.bl b)) := ⟨Cq⟩
theorem aq {j pos} : QE X (.Constant .none j pos) (tC .aq) := ⟨Fd⟩
theorem str {x j pos} : QE X (.Constant (.str x) j pos) (tC (.str x)) := ⟨HN⟩
theorem glob {x : Str} (v : V) {u : Value} {pos : Pos} (hm : X.mg x = some u) (r : RelV v u) (hg : Gl X x := by rfl) (hd : (x == ("__debug__" : Str)) = false := by decide) : QE X (.Name x pos) (tC v) := ⟨Kw hg hm r hd⟩
theorem gf {x : Str} (v : V) {u : Value} {pos : Pos} (hm : X.mg x = none) (hv : bootBuiltins x = some u) (r : RelV v u) (hg : Gl X x := by rfl) (hn : x ≠ "__name__" := by decide) (hd : (x == ("__debug__" : Str)) = false := by decide) : QE X (.Name x pos) (tC v) := ⟨IX hg hm hv r hn hd⟩
theorem op {o : Operator} {r : R2} (ho : aQ X (binaryOp o) r) (ha : QE X a ta) (hb : QE X b tb) : QE X (.BinOp a o b pos) (fO r ta tb) := ⟨Ga ho ha.h hb.h⟩
theorem un {o : UnaryOp} {r : V → Hp → VK → Prop} (ho : ko X (unaryOp o) r) (ha : QE X a ta) : QE X (.UnaryOp o a pos) (o1 r ta) := ⟨Cm ho ha.h⟩
theorem cmp {o : CmpOp} {r : R2} (ho : aQ X (compareOp o) r) (ha : QE X a ta) (hb : QE X b tb) (hm : behindInMarks o b = false := by first | exact nH _ (by decide) (by decide) | rfl) : QE X (.Compare a [o] [b] pos) (fO r ta tb) := ⟨HX ho ha.h hb.h hm⟩
theorem mX (ha : QE X a ta) (hb : QE X (.BoolOp .And (b :: rest) pos) tb) : QE X (.BoolOp .And (a :: b :: rest) pos) (p9 ta tb) := ⟨Fy ha.h hb.h⟩
theorem xh (ha : QE X a ta) (hb : QE X (.BoolOp .Or (b :: rest) pos) tb) : QE X (.BoolOp .Or (a :: b :: rest) pos) (pa ta tb) := ⟨JJ ha.h hb.h⟩
theorem one {o} {t : TE} (h : QE X a t) : QE X (.BoolOp o [a] pos) t := ⟨Fh h.h⟩
theorem GD (ha : QE X a ta) : QE X (.UnaryOp .Not a pos) (pC ta) := ⟨G1 ha.h⟩
theorem ai : QA X [] ib := ⟨GU⟩
theorem ag {e : Expr} {es : List Expr} {te : TE} {t : TA} (ha : QE X e te) (hr : QA X es t) (hs : noStar e = true := by rfl) : QA X (e :: es) (nF te t) := ⟨Cy ha.h hr.h hs⟩
theorem call {CX : cv} {k : Nat} {f : Addr} {fd : FuncData} {ps : List Str} {sp : Sp} {dvs : List V} {ds : List Value} {E : XK} {x : Str} {p pos : Pos} {e : Expr} {es : List Expr} {t : TA}
  (F : aB X.prog X.w X.K X.mg X.base CX k f fd ps sp) (hr : bc k X.A) (hm : X.mg x = some (.ref f)) (hk : PySem.W.keepIn X.K (.ref f) = true) (hb : Binds X.K fd ps ds) (hd : Vals dvs ds) (hx : Passes CX X E)
  (ha : QA X (e :: es) t) (hg : Gl X x := by rfl) (hs : (e :: es).all noStar = true := by rfl) (hdb : (x == ("__debug__" : Str)) = false := by decide) : QE X (.Call (.Name x p) (e :: es) [] pos) (mJ sp dvs E t) := ⟨Hh F hr hg hm hk hb hd hx ha.h hs hdb⟩
theorem bZ {x : Str} {p pos : Pos} {e : Expr} {es : List Expr} {t : TA} {id : String} {r : List V → Hp → VK → Prop} (hc : bM X (.builtin id) r) (hm : X.mg x = none) (hv : bootBuiltins x = some (.builtin id)) (ha : QA X (e :: es) t)
  (hg : Gl X x := by rfl) (hs : (e :: es).all noStar = true := by rfl) (hn : x ≠ "__name__" := by decide) (hdb : (x == ("__debug__" : Str)) = false := by decide) : QE X (.Call (.Name x p) (e :: es) [] pos) (g7 r t) := ⟨K5 hc hg hm hv ha.h hs hn hdb⟩
theorem qA {x : Str} {p pos : Pos} {e : Expr} {es : List Expr} {t : TA} {T : String} {r : List V → Hp → VK → Prop} (hc : bM X (.type T) r) (hm : X.mg x = none) (hv : bootBuiltins x = some (.type T)) (ha : QA X (e :: es) t)
  (hg : Gl X x := by rfl) (hs : (e :: es).all noStar = true := by rfl) (hn : x ≠ "__name__" := by decide) (hdb : (x == ("__debug__" : Str)) = false := by decide) : QE X (.Call (.Name x p) (e :: es) [] pos) (g7 r t) := ⟨Ks hc hg hm hv ha.h hs hn hdb⟩
section
variable {name : Str} {id : String} {r : V → List V → Hp → VK → Prop} {o e : Expr} {es : List Expr} {to : TE} {t : TA} {apos bb : Pos}
theorem gz (slot : Slot "str" name id) (hty : typeOf (.builtin id) = pure (.type "method_descriptor")) (hm : ck X id r) (ho : QE X o to) (ha : QA X (e :: es) t)
  (hs : (e :: es).all noStar = true := by rfl) (hfl : decide ((e :: es).length + ([] : List Keyword).length + (if ([] : List Keyword).isEmpty then 0 else 1) < 30) = true := by rfl)
  (eA : attributeBase o name X.env (eval o X.env) = eval o X.env := by rfl) (eB : (apos.endLine == bb.line) = true := by rfl) : QE X (.Call (.Attribute o name apos) (e :: es) [] bb) (qU r to t) := ⟨C8 slot hty hm ho.h ha.h hs hfl eA eB⟩
theorem gx (slot : Slot "list" name id) (hty : typeOf (.builtin id) = pure (.type "method_descriptor")) (hm : ck X id r) (ho : QE X o to) (ha : QA X (e :: es) t)
  (hs : (e :: es).all noStar = true := by rfl) (hfl : decide ((e :: es).length + ([] : List Keyword).length + (if ([] : List Keyword).isEmpty then 0 else 1) < 30) = true := by rfl)
  (eA : attributeBase o name X.env (eval o X.env) = eval o X.env := by rfl) (eB : (apos.endLine == bb.line) = true := by rfl) : QE X (.Call (.Attribute o name apos) (e :: es) [] bb) (ub r to t) := ⟨EV slot hty hm ho.h ha.h hs hfl eA eB⟩
end
theorem nK : QO X none oZ := ⟨Jt⟩
theorem jO (h : QE X a ta) : QO X (some a) (uj ta) := ⟨Jw h.h⟩
theorem slice {r : V → Option Int → Option Int → Hp → VK → Prop} {lo hi : Option Expr} {tl th : TO} {p2 : Pos} (hr : eV X r) (he : QE X a ta) (hl : QO X lo tl) (hu : QO X hi th) : QE X (.Subscript a (.Slice lo hi none p2) pos) (sW r ta tl th) := ⟨Hq hr he.h hl.h hu.h⟩
theorem ix {r : R2} (hr : cN X r) (ha : QE X a ta) (hb : QE X b tb) (hs : w6 b := by intro _ _; rfl) : QE X (.Subscript a b pos) (fO r ta tb) := ⟨Fv hr ha.h hb.h hs⟩
theorem lst {es : List Expr} {t : TA} (h : QA X es t) : QE X (.List es pos) (oW t) := ⟨EI h.h⟩
theorem tup {es : List Expr} {x1} {t : TA} (h : QA X es t) : QE X (.Tuple es x1 pos) (sS t) := ⟨FU h.h⟩
theorem gP : QE X (.Dict [] [] pos) qC := ⟨HE⟩
theorem bg {o : CmpOp} {r : R2} (ho : aQ X (compareOp o) r) (ha : QE X a ta) (hb : QE X b tb) (hm : behindInMarks o b = false := by first | exact nH _ (by decide) (by decide) | rfl) : QT X (.Compare a [o] [b] pos) (gB (fO r ta tb)) := ⟨Gm ho ha.h hb.h hm⟩
theorem rm {o o' : CmpOp} {f g : Int → Int → Bool} (ho : aQ X (compareOp o) (et f)) (ho' : aQ X (compareOp o') (et g)) (ha : QE X a ta) (hb : QE X b tb) (hc : QE X c tc)
  (hm : lastMarks [o, o'] [b, c] = false := by with_unfolding_all rfl) : QT X (.Compare a [o, o'] [b, c] pos) (pU f g ta tb tc) := ⟨E8 ho ho' ha.h hb.h hc.h hm⟩
theorem bT {t : TE} (h : QE X a t) (he : ∀ whole, isTrue a X.env whole = (do let v ← whole; standAt a.pos; holding [v] (truthy v)) := by intro _; rfl) : QT X a (gB t) := ⟨Ha h.h he⟩
theorem b8 (ha : QT X a tA) : QT X (.UnaryOp .Not a pos) (sV tA) := ⟨Dl ha.h⟩
theorem dq (h : QW X a tA) : QT X a tA := ⟨h.h.pt⟩
theorem oI (ha : QT X a tA) : QW X (.BoolOp .And [a] pos) tA := ⟨EX ha.h⟩
theorem fL (ha : QT X a tA) : QW X (.BoolOp .Or [a] pos) tA := ⟨F6 ha.h⟩
theorem w_and (ha : QT X a tA) (hb : QW X (.BoolOp .And (b :: rest) pos) tB') : QW X (.BoolOp .And (a :: b :: rest) pos) (u7 tA tB') := ⟨Jk ha.h hb.h⟩
theorem w_or (ha : QT X a tA) (hb : QW X (.BoolOp .Or (b :: rest) pos) tB') : QW X (.BoolOp .Or (a :: b :: rest) pos) (rS tA tB') := ⟨JH ha.h hb.h⟩
variable {st : Stmt} {sts : List Stmt} {t u : TS} {tg : Expr} {g : TG}
theorem f6 (i : Nat) {x : Str} (hN : X.N.Nodup) (hi : X.N[i]? = some x := by rfl) (hx : Loc X.env.scope x := by first | exact Or.inl rfl | exact Or.inr rfl) (hf : X.fn x = true ∨ X.env.scope.names.lookup x = some .local := by first | exact .inl rfl | exact .inr rfl) : QG X (.Name x pos) (gj i) := ⟨yy hN hi hx hf⟩
theorem FN {o i : Expr} {to ti : TE} {s : kK} (ho : QE X o to) (hi : QE X i ti) (hs : mx X s) (ha : ∀ v, assign (.Subscript o i pos) X.env v = (do
   let ov ← holding [v] (eval o X.env)
   let iv ← holding [v, ov] (eval i X.env)
   standAt pos
   holding [v, ov, iv] (setItem ov iv v)
   release [v, ov, iv] []) := by intro _; rfl) : QG X (.Subscript o i pos) (sR to ti s) := ⟨D2 ho.h hi.h hs ha⟩
theorem wQ : m4 X [] pB := ⟨CD⟩
theorem nI {e : Expr} {es : List Expr} {t : TG} {u : d9} (h1 : QG X e t) (h2 : m4 X es u) (hs : (assignEach (e :: es) X.env).map (·.2) = assign e X.env :: (assignEach es X.env).map (·.2) := by rfl) : m4 X (e :: es) (tS t u) := ⟨ET h1.h h2.h hs⟩
theorem xD {K : PySem.W.Frag} {es : List Expr} {k : Nat} {t : d9} {n : Nat} (hK : X.K = K) (hc : X.calm = true) (h : m4 X es t) (hn : (assignEach es X.env).length = n := by rfl) (hst : (assignEach es X.env).findIdx? (·.1) = none := by rfl) : QG X (.Tuple es k pos) (sF K n t) := hK ▸ ⟨De hc h.h hn hst⟩
theorem aN (i : Nat) {x : Str} {e : Expr} {te : TE} {pos' : Pos} (hN : X.N.Nodup) (he : QE X e te) (hi : X.N[i]? = some x := by rfl) (hx : Loc X.env.scope x := by first | exact Or.inl rfl | exact Or.inr rfl) (hs : swapsWith e (some (.Name x pos')) pos.line X.env = pure false := by rfl)
  (hf : X.fn x = true ∨ X.env.scope.names.lookup x = some .local := by first | exact .inl rfl | exact .inr rfl) : QS X (.Assign [.Name x pos'] e pos) (gL te (gj i)) := ⟨Kj hN hi hx he.h hs hf⟩
theorem zm {e : Expr} {te : TE} (he : QE X e te) (hg : QG X tg g) (hs : swapsWithSole [tg] e pos.line X.env = pure false := by rfl) (hw : swappedStores [tg] e X.env = pure none := by rfl) (h1 : (assignEach [tg] X.env).map (·.2) = [assign tg X.env] := by rfl) :
  QS X (.Assign [tg] e pos) (gL te g) := ⟨GZ he.h hg.h hs hw h1⟩
theorem aM (he : QE X a ta) : QS X (.Return (some a) pos) (qJ ta) := ⟨G8 he.h⟩
theorem aU (he : QE X a ta) (hs : swapsWith a none pos.line X.env = pure false := by rfl) : QS X (.Expr a pos) (qu ta) := ⟨GN he.h hs⟩
theorem ba {A B : List Stmt} (hc : QT X a tA) (ha : QB X A t) (hb : QB X B u) : QS X (.If a A B pos) (qm tA t u) := ⟨Es hc.h ha.h hb.h⟩
theorem j0 {iter : Expr} {body : List Stmt} {wi : TI} {tb : TS} (hp : PassesOwn (model X.prog X.w) X.A X.env X.xe) (hc : X.calm = true) (hi : QI X tg iter wi) (hg : QG X tg g) (hb : QB X body tb) (hs : ∀ x, foldedSetIterable iter X.env x = pure x := by intro _; rfl) :
  QS X (.For tg iter body [] pos) (sA wi g tb) := ⟨DQ hp hc hi.h hg.h hb.h hs⟩
theorem nil : QB X [] uW := ⟨JI⟩
theorem au (h1 : QS X st t) : QB X [st] t := ⟨Eh h1.h⟩
theorem cut (h1 : QS X st t) (h2 : QB X sts u) : QB X (st :: sts) (nh t u) := ⟨Je h1.h h2.h⟩
theorem lV {K : PySem.W.Frag} {l : Expr} {tl : TE} (h : X.K = K) (hl : QE X l tl) : QI X tg l (u0 K tl) := h ▸ ⟨JC hl.h⟩
theorem Hk {l : Expr} {tl : TE} (hl : QE X l tl) : QI X tg l (tN tl) := ⟨JY hl.h⟩
theorem xS {ta : TA} {p : Pos} (hm : X.mg "range" = none) (ha : QA X [a] ta) (hg : Gl X "range" := by rfl) (hs : noStar a = true := by rfl) : QI X tg (.Call (.Name "range" p) [a] [] pos) (pF ta) := ⟨Ci hg hm ha.h (cJ hs)⟩
theorem rA : nG X [] mL := ⟨K4⟩
theorem FL (h : QT X c tA) : nG X [c] tA := ⟨Lg h.h⟩
theorem comp {elt iter : Expr} {ifs : List Expr} {x : Str} {px pos : Pos} {scope : Scope} {wi : TI} {tt : TT} {te : TE} (hc : X.calm = true) (hi : QI X (.Name x px) iter wi)
  (ht : ∀ s H ex C, nG (bI X scope [x] s H ex C) ifs tt) (he : ∀ s H ex C, QE (bI X scope [x] s H ex C) elt te)
  (hk : scope.kind = .function := by rfl) (hnm : ∀ y ∈ scope.names, y.2 = .local → scope.names.lookup y.1 = some .local := by decide +kernel) (hnf : ∀ y ∈ scope.names, y.2 ≠ .cell ∧ y.2 ≠ .free := by decide +kernel) (hx : scope.names.lookup x = some .local := by rfl) (dD : relabel scope X.env = scope := by rfl)
  (hs : ∀ x, foldedSetIterable iter X.env x = pure x := by intro _; rfl) : QE X (.ListComp elt [⟨.Name x px, iter, ifs, 0⟩] scope pos) (iO wi tt te) := ⟨Eb hc hi.h (fun s H ex C => (ht s H ex C).h) (fun s H ex C => (he s H ex C).h) hk hnm hnf hx dD hs⟩
theorem AM (i : Nat) {elt iter : Expr} {ifs : List Expr} {x y : Str} {px py pos spos : Pos} {scope : Scope} {wi : TI} {tt : TT} {te : TE} (hc : X.calm = true) (hN : X.N.Nodup) (hi : QI X (.Name x px) iter wi)
  (ht : ∀ s H ex C, nG (bI X scope [x] s H ex C) ifs tt) (he : ∀ s H ex C, QE (bI X scope [x] s H ex C) elt te) (hiy : X.N[i]? = some y := by rfl) (hly : X.env.scope.names.lookup y = some .local := by rfl)
  (hsw : swapsWith (.ListComp elt [⟨.Name x px, iter, ifs, 0⟩] scope pos) (some (.Name y py)) spos.line X.env = pure true := by rfl)
  (hk : scope.kind = .function := by rfl) (hnm : ∀ y ∈ scope.names, y.2 = .local → scope.names.lookup y.1 = some .local := by decide +kernel) (hnf : ∀ y ∈ scope.names, y.2 ≠ .cell ∧ y.2 ≠ .free := by decide +kernel) (hx : scope.names.lookup x = some .local := by rfl) (dD : relabel scope X.env = scope := by rfl)
  (hs : ∀ x, foldedSetIterable iter X.env x = pure x := by intro _; rfl) : QS X (.Assign [.Name y py] (.ListComp elt [⟨.Name x px, iter, ifs, 0⟩] scope pos) spos) (gL (iO wi tt te) (gj i)) := ⟨C1 hc hN hiy hly hi.h (fun s H ex C => (ht s H ex C).h) (fun s H ex C => (he s H ex C).h) hsw hk hnm hnf hx dD hs⟩
end
end Dv
end L2
namespace Tx
open PySem PySem.Builtin PySem.StrLaws
end Tx
namespace Tx
open PySem PySem.Builtin PySem.StrLaws
theorem uV {c a : Nat} (h : a = c) (r : List Nat) : cut c (a :: r) = [] :: cut c r := if_pos h
theorem w8 {c a : Nat} {r : List Nat} {x : List Nat} {y : List (List Nat)} (h : ¬ a = c) (e : cut c r = x :: y) : cut c (a :: r) = (a :: x) :: y := by
 show (if a = c then _ else _) = _
 rw [if_neg h, e]
theorem zL (c : Nat) : ∀ (t r : List Nat), cut c (t ++ c :: r) = cut c t ++ cut c r
 | [], r => uV rfl r
 | a :: t, r => by
  have ih := zL c t r
  show cut c (a :: (t ++ c :: r)) = _
  by_cases h : a = c
  ·rw [uV h, uV h, ih]; rfl
  ·cases e : cut c t with
   | nil => exact absurd e (IP c t)
   | cons x y =>
    rw [e] at ih
    rw [w8 h ih, w8 h e]; rfl
def words (c : Nat) (t : List Nat) : List (List Nat) := (cut c t).filter fun w => decide (w ≠ [])
theorem pk (c : Nat) (t r : List Nat) : words c (t ++ c :: r) = words c t ++ words c r := by
 unfold words
 rw [zL, List.filter_append]
theorem p8 (c : Nat) (r : List Nat) : words c (c :: r) = words c r := pk c [] r
theorem zE (c : Nat) (r : List Nat) : ∀ n : Nat, words c (List.replicate n c ++ r) = words c r
 | 0 => rfl
 | n + 1 => by
  show words c (c :: (List.replicate n c ++ r)) = _
  rw [p8, zE c r n]
theorem Ld (c : Nat) (n : Nat) : words c (List.replicate n c) = [] := by
 have := zE c [] n
 rw [List.append_nil] at this
 rw [this]; rfl
theorem xx (c : Nat) : ∀ w : List Nat, c ∉ w → cut c w = [w]
 | [], _ => rfl
 | a :: r, h => by
  unfold cut
  rw [if_neg (fun e => h (by rw [e]; exact List.mem_cons_self)), xx c r (fun m => h (List.mem_cons_of_mem _ m))]
theorem nN (c : Nat) (w : List Nat) (h : c ∉ w) (hn : w ≠ []) : words c w = [w] := by
 unfold words
 rw [xx c w h]
 simp [hn]
theorem J9 (c : Nat) (t : List Nat) (n : Nat) : words c (t ++ List.replicate n c) = words c t := by
 cases n with
 | zero => simp
 | succ n =>
  rw [List.replicate_succ, pk, Ld, List.append_nil]
theorem AU (c : Nat) : ∀ t : List Nat, (cut c t).length ≤ t.length + 1
 | [] => Nat.le_refl _
 | a :: r => by
  have ih := AU c r
  unfold cut
  split
  ·simp only [List.length_cons]; omega
  ·split
   ·simp
   ·rename_i h t' e
    rw [e] at ih
    simp only [List.length_cons] at ih ⊢
    omega
theorem Lc (t : List Nat) (c : Nat) : ((cut c t).map S).filter (fun z => decide (z ≠ S [])) = (words c t).map S := by
 unfold words
 rw [List.filter_map]
 congr 1
 refine List.filter_congr fun w _ => ?_
 show decide (S w ≠ S []) = decide (w ≠ [])
 by_cases h : w = []
 ·simp [h]
 ·have : S w ≠ S [] := fun e => h (mO e)
  simp [h, this]
theorem KS (x : List Nat) (c : Nat) : Txt.startswith (S x) (S [c]) = decide (x.head? = some c) := by
 unfold Txt.startswith
 rw [b7, b7]
 cases x with
 | nil => simp
 | cons a r =>
  rw [subAt_one (a :: r) c 0 (by simp)]
  simp
theorem Ih (x : List Nat) (c : Nat) : Txt.endswith (S x) (S [c]) = decide (x.getLast? = some c) := by
 unfold Txt.endswith
 rw [b7, b7]
 cases hx : x with
 | nil => simp
 | cons a r =>
  have hl : (a :: r).length - [c].length < (a :: r).length := by simp
  rw [subAt_one (a :: r) c _ hl]
  have e : (a :: r)[(a :: r).length - [c].length]? = (a :: r).getLast? := by
   rw [List.getLast?_eq_getElem?]; rfl
  rw [e]
  have : decide (0 + [c].length ≤ (a :: r).length) = true := decide_eq_true (by simp)
  rw [this, Bool.true_and]
end Tx
namespace L2
open PySem PySem.Spec PyProof.Rows
theorem Bc {A : Around} {s : Shared} {l1 l2 : List (Str × Tok)} (j : Nat) (h1 : j < (strValues l1).toArray.size) (h2 : j < (strValues l2).toArray.size) :
  SeqAt.EqAt A s (strValues l1).toArray[j] (strValues l2).toArray[j] (decide ((l1.map (·.1))[j]? = (l2.map (·.1))[j]?)) := by
 have g1 : j < l1.length := by simpa [strValues] using h1
 have g2 : j < l2.length := by simpa [strValues] using h2
 have e1 : (strValues l1).toArray[j] = Value.str l1[j].1 l1[j].2 := by simp [strValues]
 have e2 : (strValues l2).toArray[j] = Value.str l2[j].1 l2[j].2 := by simp [strValues]
 rw [e1, e2]
 have e : decide ((l1.map (·.1))[j]? = (l2.map (·.1))[j]?) = (l1[j].1 == l2[j].1) := by
  rw [List.getElem?_map, List.getElem?_map, List.getElem?_eq_getElem g1, List.getElem?_eq_getElem g2]
  by_cases q : l1[j].1 = l2[j].1
  ·simp [q]
  ·simp [q]
 rw [e]
 exact SeqAt.EqAt.str_str _ _ _ _
theorem all_eq {α : Type} [DecidableEq α] {xs ys : List α} (h : xs.length = ys.length) : (List.range xs.length).all (fun j => decide (xs[j]? = ys[j]?)) = decide (xs = ys) := by
 rw [Bool.eq_iff_iff, List.all_eq_true, decide_eq_true_eq]
 constructor
 ·intro q
  apply List.ext_getElem?
  intro i
  by_cases hi : i < xs.length
  ·exact of_decide_eq_true (q i (List.mem_range.mpr hi))
  ·rw [List.getElem?_eq_none (by omega), List.getElem?_eq_none (by omega)]
 ·rintro rfl j _
  simp
section
variable {X : Cx}
theorem y9 {pins : List (Addr × Obj)} {σ : St} {H : Hp} {s : Shared} {A : Around} {a b : Addr} {ts us : List Str} (I : Inv X pins σ H s) (ha : H a = some (.lst (ts.map V.str))) (hb : H b = some (.lst (us.map V.str))) (hu : A.units < cLine) :
  SeqAt.RcAt A s (.ref a) (.ref b) (decide (ts = us)) ∧ SeqAt.RcNeAt A s (.ref a) (.ref b) (!decide (ts = us)) := by
 obtain ⟨i1, r1, p1, _⟩ := I.list (aL.of ha)
 obtain ⟨i2, r2, p2, _⟩ := I.list (aL.of hb)
 obtain ⟨l1, rfl, e1⟩ := oi r1
 obtain ⟨l2, rfl, e2⟩ := oi r2
 have n1 : (strValues l1).toArray.size = ts.length := by rw [← e1]; simp [strValues]
 have n2 : (strValues l2).toArray.size = us.length := by rw [← e2]; simp [strValues]
 by_cases h : ts.length = us.length
 ·have hsz : (strValues l1).toArray.size = (strValues l2).toArray.size := by rw [n1, n2, h]
  have k1 := SeqAt.RcAt.lists (A := A) p1.isList p2.isList hsz hu (fun j g1 g2 => Bc j g1 g2)
  have k2 := SeqAt.RcNeAt.lists (A := A) p1.isList p2.isList hsz hu (fun j g1 g2 => Bc j g1 g2)
  rw [n1, e1, e2, all_eq h] at k1 k2
  exact ⟨k1, k2⟩
 ·have hsz : ((strValues l1).toArray.size != (strValues l2).toArray.size) = true := by rw [n1, n2]; simpa using h
  have e : decide (ts = us) = false := decide_eq_false fun z => h (by rw [z])
  rw [e]
  exact ⟨SeqAt.RcAt.lists_lengths p1.isList p2.isList hsz hu, SeqAt.RcNeAt.lists_lengths p1.isList p2.isList hsz hu⟩
def kJ (neg : Bool) : R2 := fun x y H Q => match x, y with
 | .ref a, .ref b => ∃ ts us : List Str, H a = some (.lst (ts.map V.str)) ∧ H b = some (.lst (us.map V.str)) ∧ Q (.bl (neg ^^ decide (ts = us))) H
 | _, _ => False
theorem IV (hu : X.A.units < cLine) : aQ X (compareOp .Eq) (kJ false) := by
 intro pins s σ H x y v u Q I rx ry h
 unfold kJ at h
 split at h
 ·obtain ⟨ts, us, ha, hb, q⟩ := h
  cases rx; cases ry
  simp only [Bool.false_bne] at q
  exact (y9 I ha hb hu).1 _ _ _ _ ⟨.bl _, H, I, rfl, q⟩
 ·exact h.elim
theorem zg (hu : X.A.units < cLine) : aQ X (compareOp .NotEq) (kJ true) := by
 intro pins s σ H x y v u Q I rx ry h
 unfold kJ at h
 split at h
 ·obtain ⟨ts, us, ha, hb, q⟩ := h
  cases rx; cases ry
  simp only [Bool.true_bne] at q
  exact (y9 I ha hb hu).2 _ _ _ _ ⟨.bl _, H, I, rfl, q⟩
 ·exact h.elim
theorem Dv.bE {st : Stmt} : QS X st tX := ⟨HU⟩
end
end L2
namespace Tx
open PySem PySem.Builtin PySem.StrLaws
theorem wM (c : Nat) : ∀ (n : Nat) (acc : Array Nat), (List.replicate n #[c]).foldl (fun a b => a ++ b) acc = acc ++ (List.replicate n c).toArray
 | 0, acc => by simp
 | n + 1, acc => by
  rw [List.replicate_succ, List.foldl_cons, wM c n]
  apply Array.ext'
  simp [List.replicate_succ]
theorem mul_one (c n : Nat) (hn : 1 ≤ n) : Txt.mul (S [c]) (n : Int) = S (List.replicate n c) := by
 unfold Txt.mul
 rw [if_neg (by omega)]
 by_cases h : n = 1
 ·subst h
  rfl
 ·have e : (((n : Int) == 1) || ((S [c]).length == 0)) = false := by
   rw [eS]
   have : ((n : Int) == 1) = false := by simp; omega
   rw [this]
   rfl
  rw [e]
  simp only [Bool.false_eq_true, if_false]
  apply Str.ext'
  show (List.replicate (n : Int).toNat #[c]).foldl (fun a b => a ++ b) #[] = (List.replicate n c).toArray
  rw [wM, Int.toNat_natCast]
  simp
theorem KI (c n : Nat) (hn : n ≤ 2000) : MulOk (S [c]) (n : Int) := by
 refine ⟨?_, fun h1 h2 => ?_, fun h1 h2 => ?_⟩
 ·rw [decide_eq_false (by omega), decide_eq_false (by omega)]; rfl
 ·rw [eS]
  have h0 : (0 : Int) < n := by omega
  have : (1 : Int) ≤ (2 ^ 63 - 1) / (n : Int) := by
   rw [Int.le_ediv_iff_mul_le h0]
   omega
  omega
 ·unfold PySem.Builtin.Str.tooLong
  rw [eS, Int.toNat_natCast]
  refine decide_eq_false ?_
  have : (sizeLine : Nat) = 16777216 := sizeLine_eq
  omega
end Tx
namespace L2
open PySem PySem.Spec PyProof.Rows
end L2
namespace Tx
open PySem PySem.Builtin PySem.StrLaws
theorem pY {α : Type} (a b : List α) (h : b ≠ []) : (a ++ b).getLast? = b.getLast? := by
 rw [List.getLast?_append]
 rw [List.getLast?_eq_some_getLast h]
 rfl
def bB (c : Nat) : List (List Nat) → List Nat
 | [] => []
 | [x] => x
 | x :: y :: r => x ++ c :: bB c (y :: r)
theorem sO (c : Nat) : ∀ ps : List (List Nat), Str.join (S [c]) (ps.map S) = S (bB c ps)
 | [] => rfl
 | [x] => rfl
 | x :: y :: r => by
  have ih := sO c (y :: r)
  show S x ++ S [c] ++ Str.join (S [c]) ((y :: r).map S) = S (x ++ c :: bB c (y :: r))
  rw [ih, i5, i5]
  simp
theorem ng (c : Nat) : ∀ ps : List (List Nat), (∀ w ∈ ps, c ∉ w ∧ w ≠ []) → words c (bB c ps) = ps
 | [], _ => rfl
 | [x], h => nN c x (h x (by simp)).1 (h x (by simp)).2
 | x :: y :: r, h => by
  have ih := ng c (y :: r) (fun w hw => h w (List.mem_cons_of_mem _ hw))
  show words c (x ++ c :: bB c (y :: r)) = _
  rw [pk, ih, nN c x (h x (by simp)).1 (h x (by simp)).2]
  rfl
theorem sy (c k : Nat) : ∀ ps : List (List Nat), (∀ w ∈ ps, w.length ≤ k) → (bB c ps).length ≤ ps.length * (k + 1)
 | [], _ => Nat.zero_le _
 | [x], h => by
  have := h x (by simp)
  show x.length ≤ 1 * (k + 1)
  omega
 | x :: y :: r, h => by
  have ih := sy c k (y :: r) (fun w hw => h w (List.mem_cons_of_mem _ hw))
  have := h x (by simp)
  show (x ++ c :: bB c (y :: r)).length ≤ ((y :: r).length + 1) * (k + 1)
  rw [List.length_append, List.length_cons, Nat.add_mul]
  omega
theorem zU (c : Nat) (ps : List (List Nat)) (h : ∀ w ∈ ps, c ∉ w ∧ w ≠ []) (hn : ps ≠ []) : bB c ps ≠ [] := fun e => by
 have := ng c ps h
 rw [e] at this
 exact hn this.symm
theorem AF (c : Nat) : ∀ ps : List (List Nat), (∀ w ∈ ps, c ∉ w ∧ w ≠ []) → (bB c ps).getLast? ≠ some c
 | [], _ => by simp [bB]
 | [x], h => fun e => (h x (by simp)).1 (List.mem_of_getLast? e)
 | x :: y :: r, h => by
  have hr : ∀ w ∈ (y :: r), c ∉ w ∧ w ≠ [] := fun w hw => h w (List.mem_cons_of_mem _ hw)
  have ih := AF c (y :: r) hr
  show (x ++ c :: bB c (y :: r)).getLast? ≠ some c
  rw [pY _ _ (by simp)]
  have : (c :: bB c (y :: r)) = [c] ++ bB c (y :: r) := rfl
  rw [this, pY _ _ (zU c (y :: r) hr (by simp))]
  exact ih
end Tx
namespace L2
open PySem PySem.Spec PyProof.Rows
def tQ : V → Hp → VK → Prop := fun x H Q => match x with
 | .int i => Q (.int (-i)) H
 | _ => False
theorem ef {X : Cx} : ko X (unaryOp .USub) tQ := fun pins s σ H x v Q I rx h => Ii pins s σ H x v Q I rx (by
 unfold tQ at h
 split at h
 ·exact ⟨_, rfl, h⟩
 ·exact h.elim)
theorem AI (r : List V) (x : V) : cD (r ++ [x]) Option.none (some (-1)) = r := by
 unfold cD
 have e1 : HT.bU (r ++ [x]).length (r ++ [x]).length (some (-1)) = r.length := by
  unfold HT.bU
  simp
  omega
 rw [HT.m6, e1]
 simp
end L2
namespace L2
open PySem PySem.Spec PyProof.Rows
section
variable {X : Cx} {K : PySem.W.Frag}
def pV (K : PySem.W.Frag) : List V → Hp → VK → Prop := fun xs H Q => match xs with
 | [.ref p] => ∃ ys, aL K H p ys ∧ Q (.int ys.length) H
 | _ => False
theorem HZ (h : X.K = K) : bM X (.builtin "len") (pV K) := h ▸ Ab.imp fun xs H Q h => by
 unfold pV at h
 split at h
 ·obtain ⟨ys, h1, h2⟩ := h
  exact ⟨_, _, rfl, .inl ⟨ys, h1, rfl⟩, h2⟩
 ·exact h.elim
def qN (K : PySem.W.Frag) : R2 := fun x y H Q => match x, y with
 | .ref p, .int i => ∃ xs v, aL K H p xs ∧ bF xs i = some v ∧ Q v H
 | _, _ => False
theorem Kv (h : X.K = K) : cN X (qN K) := h ▸ xq.imp fun x y H Q h => by
 unfold qN at h
 split at h
 ·obtain ⟨xs, v, h1, h2, h3⟩ := h
  exact ⟨_, xs, _, v, rfl, rfl, h1, h2, h3⟩
 ·exact h.elim
end
end L2
namespace Tx
end Tx
namespace L2
open PySem
open Sem (wp)
def b9 (e : Addr) (c : Value) (od : Option Addr) (h : Heap) : Prop := ∃ o, h.get? e = some o ∧ o.cls = c ∧ o.dict = od ∧ ∃ vs, o.data = .fields vs
structure Kp (e : Addr) (c : Value) (od : Option Addr) {α : Type} (t : Sem α) : Prop where
 out : ∀ (M : Model) (Γ : Ctx) (P : α → Pos → Shared → Prop) (Ee : Value → Pos → Shared → Prop) (p : Pos) (s : Shared), b9 e c od s.heap → wp M Γ t P Ee p s → wp M Γ t (fun a p' s' => P a p' s' ∧ b9 e c od s'.heap) Ee p s
section
variable {e : Addr} {c : Value} {od : Option Addr} {α β : Type}
theorem Kp.pure (a : α) : Kp e c od (Pure.pure a : Sem α) := ⟨fun _ _ _ _ _ _ hd h => ⟨h, hd⟩⟩
theorem Kp.unsupported (w : String) : Kp e c od (PySem.unsupported w : Sem α) := ⟨fun _ _ _ _ _ _ _ h => h⟩
theorem Kp.bind {m : Sem α} {f : α → Sem β} (hm : Kp e c od m) (hf : ∀ a, Kp e c od (f a)) : Kp e c od (m >>= f) := ⟨fun M Γ P Ee p s hd h => by
 rw [Sem.wp_bind'] at h ⊢
 exact Sem.wp_mono M Γ m (fun a p' s' h' => (hf a).out M Γ P Ee p' s' h'.2 h'.1) (fun _ _ _ x => x) p s (hm.out M Γ _ Ee p s hd h)⟩
theorem Kp.ite {q : Prop} [Decidable q] {t u : Sem α} (ht : Kp e c od t) (hu : Kp e c od u) : Kp e c od (if q then t else u) := by split <;> assumption
theorem Kp.load (a : Addr) : Kp e c od (PySem.load a) := ⟨fun _ _ _ _ _ _ hd h => let ⟨o, ho, z⟩ := h; ⟨o, ho, z, hd⟩⟩
theorem Kp.stack : Kp e c od PySem.stack := ⟨fun M Γ P Ee p s hd h => by
 unfold PySem.stack at h ⊢
 rw [Sem.wp_stack] at h ⊢
 exact ⟨h, hd⟩⟩
theorem b9.push {h : Heap} (x : b9 e c od h) (o : Obj) : b9 e c od (h.push o) := let ⟨u, hu, r⟩ := x; ⟨u, Heap.get?_push_of_some _ hu, r⟩
theorem b9.update {h : Heap} (x : b9 e c od h) (a : Addr) (f : Obj → Obj) (hf : ∀ o, (f o).cls = o.cls ∧ (f o).dict = o.dict ∧ ∀ vs, o.data = .fields vs → ∃ ws, (f o).data = .fields ws) : b9 e c od (h.update a f) := by
 obtain ⟨u, hu, h1, h2, vs, h3⟩ := x
 by_cases q : a = e
 ·subst q
  obtain ⟨ws, h4⟩ := (hf u).2.2 vs h3
  exact ⟨f u, Heap.get?_update_self f hu (Obj.isFreed_of_fields h4), (hf u).1.trans h1, (hf u).2.1.trans h2, ws, h4⟩
 ·exact ⟨u, (Heap.get?_update_other _ _ q).trans hu, h1, h2, vs, h3⟩
theorem Kp.update (a : Addr) (f : Obj → Obj) (hf : ∀ o, (f o).cls = o.cls ∧ (f o).dict = o.dict ∧ ∀ vs, o.data = .fields vs → ∃ ws, (f o).data = .fields ws) : Kp e c od (PySem.update a f) :=
 ⟨fun _ _ _ _ _ _ hd h => ⟨h.1, h.2, hd.update a f hf⟩⟩
theorem E9 (g : Array Value → Array Value) (o : Obj) : (Obj.mapFields g o).cls = o.cls ∧ (Obj.mapFields g o).dict = o.dict ∧ ∀ vs, o.data = .fields vs → ∃ ws, (Obj.mapFields g o).data = .fields ws := by
 obtain ⟨c1, d1, dt, sl⟩ := o
 refine ⟨Obj.cls_mapFields _ _, ?_, fun vs h => ⟨_, Obj.data_mapFields h g⟩⟩
 cases dt <;> rfl
theorem Kp.alloc (o : Obj) : Kp e c od (PySem.alloc o) := ⟨fun _ _ _ _ _ _ hd h => ⟨h, hd.push o⟩⟩
theorem Kp.field (v : Value) (i : Nat) : Kp e c od (PySem.field v i) := ⟨fun _ Γ _ _ _ _ hd h => by
 rw [wp_field_iff] at h ⊢
 obtain ⟨a, o, vs, x, h1, h2, h3, h4, h5⟩ := h
 exact ⟨a, o, vs, x, h1, h2, h3, h4, h5, hd⟩⟩
theorem Kp.setField (v : Value) (i : Nat) (x : Value) : Kp e c od (PySem.setField v i x) := ⟨fun _ Γ _ _ _ _ hd h => by
 rw [wp_setField_iff] at h ⊢
 obtain ⟨a, o, vs, h1, h2, h3, h4, h5⟩ := h
 exact ⟨a, o, vs, h1, h2, h3, h4, h5, hd.update a _ (E9 _)⟩⟩
local macro_rules | `(tactic| walk_at "kps") => `(tactic| repeat' with_reducible first | assumption | exact Kp.pure _ | exact Kp.unsupported _ | exact Kp.field _ _ | exact Kp.setField _ _ _ | exact Kp.load _ | exact Kp.stack | exact Kp.alloc _ | apply Kp.ite | apply Kp.bind | intro _ | split)
theorem Kp.newFields (ty : String) (vs : List Value) : Kp e c od (PySem.newFields ty vs) := by
 unfold PySem.newFields newObj newObjAsIs
 walk_at "kps"
theorem Kp.frameEnvs : Kp e c od PySem.frameEnvs := by
 unfold PySem.frameEnvs
 walk_at "kps"
theorem Kp.isImport (env : Env) (outer : List Env) : Kp e c od (behindIsImport env outer) := by
 unfold behindIsImport
 walk_at "kps"
theorem Kp.caller : Kp e c od underTheClaimsCaller := by
 unfold underTheClaimsCaller
 walk_at "kps"
theorem Kp.keptBack (env : Env) (i : Bool) (l : List Env) : Kp e c od (PySem.keptBack env i l) := by
 have := Kp.caller (e := e) (c := c) (od := od)
 cases l <;> unfold PySem.keptBack <;> walk_at "kps"
theorem Kp.ready : ∀ l : List Env, Kp e c od (readyFrames l)
 | [] => Kp.pure _
 | env :: outer => by
  have ih := Kp.ready outer
  have h1 := Kp.isImport (e := e) (c := c) (od := od) env outer
  have h2 := fun i => Kp.keptBack (e := e) (c := c) (od := od) env i outer
  unfold readyFrames
  walk_at "kps"
  all_goals first | exact h2 _ | exact Kp.update _ _ (fun o => ⟨rfl, rfl, fun vs h => ⟨vs, h⟩⟩) | skip
theorem Kp.frameObject (l : List Env) : Kp e c od (PySem.frameObject l) := by
 cases l with
 | nil => exact Kp.pure _
 | cons env outer =>
  have := Kp.ready (e := e) (c := c) (od := od) (env :: outer)
  unfold PySem.frameObject
  walk_at "kps"
theorem Kp.frameOf (env : Env) : Kp e c od (PySem.frameOf env) := by
 have h1 := Kp.frameEnvs (e := e) (c := c) (od := od)
 have h2 := Kp.frameObject (e := e) (c := c) (od := od)
 unfold PySem.frameOf
 walk_at "kps"
 all_goals first | exact h2 _ | skip
theorem Kp.place (f : Addr) (b : Bool) : Kp e c od (entryPlaceOf f b) := by
 unfold entryPlaceOf
 walk_at "kps"
theorem Kp.setFlight (v : Value) (fr : Option Addr) : Kp e c od (PySem.setFlight v fr) := by
 unfold PySem.setFlight
 walk_at "kps"
theorem Kp.noteFrame (v : Value) (env : Env) : Kp e c od (PySem.noteFrame v env) := by
 have h1 := Kp.frameOf (e := e) (c := c) (od := od) env
 have h2 := fun f b => Kp.place (e := e) (c := c) (od := od) f b
 unfold PySem.noteFrame EntryCells.newEntry
 walk_at "kps"
 all_goals first | exact h2 _ _ | exact Kp.newFields _ _ | skip
theorem Kp.leaving (env : Env) (v : Value) : Kp e c od (PySem.leaving env v) := by
 have h1 := Kp.noteFrame (e := e) (c := c) (od := od) v env
 have h2 := Kp.setFlight (e := e) (c := c) (od := od) v none
 unfold PySem.leaving
 walk_at "kps"
theorem Kp.any {t : Sem α} (k : Kp e c od t) {M : Model} {A : Around} {Q : α → Shared → Prop} {E : Value → Shared → Prop} {s : Shared} (hd : b9 e c od s.heap) (h : wpAny M A t Q E s) : wpAny M A t (fun a s' => Q a s' ∧ b9 e c od s'.heap) E s :=
 fun Γ p hΓ => k.out M Γ _ _ p s hd (h Γ p hΓ)
end
end L2
namespace Tx
open PySem PySem.Builtin PySem.StrLaws
end Tx
namespace Tx
end Tx
namespace L2
theorem Ba (xs : List V) (k : Nat) : cD xs none (some (k : Int)) = xs.take k := by
 unfold cD
 rw [HT.m6, HT.lC, List.drop_zero, Nat.sub_zero]
 by_cases h : k ≤ xs.length
 ·rw [Nat.min_eq_left h]
 ·rw [Nat.min_eq_right (by omega), List.take_of_length_le (Nat.le_refl _), List.take_of_length_le (by omega)]
theorem Ap (xs : List V) (k : Nat) : cD xs (some (k : Int)) none = xs.drop k := by
 unfold cD
 rw [HT.m6, HT.lC]
 by_cases h : k ≤ xs.length
 ·rw [Nat.min_eq_left h, List.take_of_length_le (by rw [List.length_drop]; exact Nat.le_refl _)]
 ·rw [Nat.min_eq_right (by omega), List.drop_eq_nil_of_le (Nat.le_refl _), List.drop_eq_nil_of_le (by omega)]
  simp
end L2
namespace L2
open PySem PySem.Spec PyProof.Rows
theorem br.there {P : Program} {w : World} {H : Hp} {h : Heap} {a : Addr} {o : HO} (x : br P w H h a o) : ∃ u, h.get? a = some u := by
 cases o with
 | lst xs => obtain ⟨_, _, _, _, e⟩ := x; exact ⟨_, e⟩
 | tup xs => obtain ⟨_, _, _, u, e, _⟩ := x; exact ⟨_, e⟩
 | dK kvs => obtain ⟨_, _, _, _, o, _, _, e, _⟩ := x; exact ⟨_, e⟩
 | dT kvs => obtain ⟨_, _, _, _, o, _, _, e, _⟩ := x; exact ⟨_, e⟩
 | set S n => obtain ⟨o, _, _, _, e, _⟩ := x; exact ⟨_, e⟩
 | ins C dx fs => obtain ⟨_, _, _, e, _⟩ := x; exact ⟨_, e⟩
 | own y => exact x
 | xd fs => obtain ⟨_, ⟨_, _, _, e, _⟩, _⟩ := x; exact ⟨_, e⟩
 | nQ lo hi => obtain ⟨_, _, _, e⟩ := x; exact ⟨_, e⟩
 | cE ob u => obtain ⟨e, _⟩ := x; exact ⟨_, e⟩
 | gk ps => exact ⟨_, (show h.get? a = some _ from x)⟩
 | met f y => exact ⟨_, (show h.get? a = some _ from x)⟩
 | ext φ => obtain ⟨_, e, _⟩ := x; exact e
def nE (B : Heap) (fs : List Addr) (h : Heap) (H' : Hp) (h' : Heap) : Prop :=
 ∀ b o, h'.get? b = some o → b ∉ fs → ((∃ u, h.get? b = some u) ∨ ∃ u, H' b = some u) → B.get? b = some o
theorem Jx {P : Program} {w : World} {fs : List Addr} {H H' : Hp} {h h1 h2 B : Heap} (u : Un fs [] H H' h h1) (aD : bt P w H' h1) (hf : ∀ b ∈ fs, H b = none ∧ ∃ o, h.get? b = some o ∧ ∀ vs, o.data ≠ .fields vs) (cov : nE B fs h H' h1)
  (st : B.StaysIn h2) (up : h1.UpToSlots h2) : Un fs [] H H' h h2 ∧ bt P w H' h2 := by
 have kB : ∀ b o, h1.get? b = some o → b ∉ fs → ((∃ u, h.get? b = some u) ∨ ∃ u, H' b = some u) → h2.get? b = some o := fun b o e hb z => st b o (cov b o e hb z)
 have fr : ∀ b ∈ fs, ∀ o, h.get? b = some o → ∃ sl, h2.get? b = some { o with slots := sl } := fun b hb o e => by
  obtain ⟨n, o', e', nf⟩ := hf b hb
  rw [e] at e'; cases e'
  obtain ⟨sl, e1⟩ := u.slot b o e n hb (by simp)
  obtain ⟨sl', e2⟩ := up b _ e1 nf
  exact ⟨sl', e2⟩
 refine ⟨⟨fun b o q n hb hx => kB b o (u.keep b o q n hb hx) hb (.inl ⟨o, q⟩), fun b o q n hb hx => fr b hb o q, u.free, fun b o q hx => ?_, u.dU, u.dv, u.dO⟩, fun a v e => ?_⟩
 ·by_cases hb : b ∈ fs
  ·obtain ⟨sl, e⟩ := fr b hb o q
   exact ⟨_, e⟩
  ·obtain ⟨o', e1⟩ := u.there b o q hx
   exact ⟨o', kB b o' e1 hb (.inl ⟨o, q⟩)⟩
 ·have tr : ∀ b, (∃ u, H' b = some u) → b ∉ fs := fun b ⟨v', e'⟩ hb => by
   obtain ⟨n, o, ho, _⟩ := hf b hb
   have := u.free b o ho n (by simp)
   rw [e'] at this; cases this
  refine (aD a v e).ia (fun b x hb q => ?_) (fun _ q => q) fun _ _ q => q
  have hs : ∃ u, H' b = some u := by
   rcases hb with rfl | hb
   ·exact ⟨v, e⟩
   ·exact ⟨_, hb⟩
  exact kB b x q (tr b hs) (.inr hs)
structure jg (P : Program) (w : World) (outer : List Env) (H : Hp) (s : Shared) (ea C : Addr) (od : Option Addr) (H' : Hp) (s' : Shared) : Prop where
 os : s'.os = s.os
 bare : AllBare s'.gens
 un : Un (bC outer) [] H H' s.heap s'.heap
 aD : bt P w H' s'.heap
 free : H' ea = none
 new : s.heap.get? ea = none
 hd : b9 ea (.ref C) od s'.heap
 C2 : ∃ B a0, Heap.FlyingW B outer ea (.ref C) a0 s'.heap ∧ nE B (bC outer) s.heap H' s'.heap
def dS (P : Program) (w : World) : cv := fun outer H s E e s' => ∃ ea C od H', e = .ref ea ∧ jg P w outer H s ea C od H' s' ∧ E (.ref C) od H'
section
variable {X : Cx} {pins : List (Addr × Obj)} {σ : St} {H H' : Hp} {s s' : Shared} {ea C : Addr} {od : Option Addr}
theorem Inv.Ed (I : Inv X pins σ H s) : ∀ b ∈ bC X.stack, H b = none ∧ ∃ o, s.heap.get? b = some o ∧ ∀ vs, o.data ≠ .fields vs := fun b hb => ⟨I.pN b hb, (I.stack.mem hb).2⟩
structure Own (X : Cx) : Prop where
 gq : X.stack = X.env :: X.outer
 frame : X.env.frame = some X.env.locals
 ex : X.ex = []
theorem Inv.zK {h1 B : Heap} {a0 : Value} (I : Inv X pins σ H s) (O : Own X) (os : s'.os = s.os) (bare : AllBare s'.gens) (un : Un (bC X.stack) [] H H' s.heap h1) (aD : bt X.prog X.w H' h1) (free : H' ea = none) (new : s.heap.get? ea = none)
  (cov : nE B (bC X.stack) s.heap H' h1) (fl : Heap.FlyingW B X.outer ea (.ref C) a0 s'.heap) (up : h1.UpToSlots s'.heap) (hd : b9 ea (.ref C) od s'.heap) : jg X.prog X.w X.outer X.H₀ X.s₀ ea C od H' s' := by
 obtain ⟨u2, hok2⟩ := Jx un aD I.Ed cov fl.1 up
 have efs : bC X.stack = X.env.locals :: X.fs := by
  rw [O.gq]
  unfold bC
  rw [List.filterMap_cons, O.frame]
  rfl
 have neL : ∀ b o, X.s₀.heap.get? b = some o → b ≠ X.env.locals := fun b o e => Nat.ne_of_lt (Nat.lt_of_lt_of_le (Heap.lt_size e) I.ok.above)
 have nx : ∀ b : Addr, b ∉ X.ex := fun b => by rw [O.ex]; simp
 have nin : ∀ b o, X.s₀.heap.get? b = some o → b ∉ X.fs → b ∉ bC X.stack := fun b o e hb z => by
  rw [efs] at z
  rcases List.mem_cons.mp z with q | q
  ·exact neL b o e q
  ·exact hb q
 have Lfree : H' X.env.locals = none := by
  obtain ⟨m, ⟨o, _, _, ho, _⟩, _⟩ := I.loc
  exact un.free _ o ho I.free (by simp)
 refine ⟨os.trans I.os, bare, ⟨fun b o q n hb _ => ?_, fun b o q n hb _ => ?_, fun b o q n _ => ?_, fun b o q _ => ?_, fun b xs q => ?_, fun b o v q => ?_, fun b ps q => ?_⟩, hok2, free, ?_, hd, B, a0, fl, fun b o e hb z => ?_⟩
 ·exact u2.keep b o (I.base.keep b o q n hb (nx b)) (I.base.free b o q n (nx b)) (nin b o q hb) (by simp)
 ·obtain ⟨sl, e1⟩ := I.base.slot b o q n hb (nx b)
  obtain ⟨sl', e2⟩ := u2.slot b _ e1 (I.base.free b o q n (nx b)) (by rw [efs]; exact List.mem_cons_of_mem _ hb) (by simp)
  exact ⟨sl', e2⟩
 ·obtain ⟨o', e1⟩ := I.base.there b o q (nx b)
  exact u2.free b o' e1 (I.base.free b o q n (nx b)) (by simp)
 ·obtain ⟨o', e1⟩ := I.base.there b o q (nx b)
  exact u2.there b o' e1 (by simp)
 ·exact u2.dU b xs (I.base.dU b xs q)
 ·exact u2.dv b o v (I.base.dv b o v q)
 ·obtain ⟨m1, e1⟩ := I.base.dO b ps q
  obtain ⟨m2, e2⟩ := u2.dO b _ e1
  exact ⟨m1 ++ m2, by rw [e2, Array.append_assoc]⟩
 ·cases q : X.s₀.heap.get? ea with
  | none => rfl
  | some u =>
   obtain ⟨u', e'⟩ := I.base.there ea u q (nx ea)
   rw [new] at e'; cases e'
 ·have hn : b ∉ bC X.stack := fun z' => by
   rw [efs] at z'
   rcases List.mem_cons.mp z' with q | q
   ·rcases z with ⟨o', e'⟩ | ⟨v, e'⟩
    ·exact neL b o' e' q
    ·rw [q, Lfree] at e'; cases e'
   ·exact hb q
  have hs : ∃ o', h1.get? b = some o' ∧ ((∃ u, s.heap.get? b = some u) ∨ ∃ u, H' b = some u) := by
   rcases z with ⟨o', e'⟩ | ⟨v, e'⟩
   ·obtain ⟨o2, e2⟩ := I.base.there b o' e' (nx b)
    obtain ⟨o3, e3⟩ := un.there b o2 e2 (by simp)
    exact ⟨o3, e3, .inl ⟨o2, e2⟩⟩
   ·obtain ⟨o3, e3⟩ := (aD b v e').there
    exact ⟨o3, e3, .inr ⟨v, e'⟩⟩
  obtain ⟨o3, e3, z3⟩ := hs
  have e4 := cov b o3 e3 hn z3
  have e5 := fl.1 b o3 e4
  rw [e] at e5; cases e5
  exact e4
theorem Inv.J8 {M : Model} {A : Around} {E : Value → Shared → Prop} (I : Inv X pins σ H s) (O : Own X) (hA : A.frames = some X.stack) (F : jg X.prog X.w X.stack H s ea C od H' s') :
  wpAny M A (leaving X.env (.ref ea)) (fun _ s'' => jg X.prog X.w X.outer X.H₀ X.s₀ ea C od H' s'') E s' := by
 obtain ⟨B, a0, fl, cov⟩ := F.C2
 have fl' := fl
 rw [O.gq] at fl' hA
 refine aE ((Kp.leaving X.env (.ref ea)).any F.hd (wpAny_leaves_onW (Q := fun _ s'' => ∃ h', s'' = { s' with heap := h' } ∧ Heap.FlyingW B X.outer ea (.ref C) a0 h' ∧ s'.heap.UpToSlots h') hA O.frame fl' fun h' x1 x2 => ⟨h', rfl, x1, x2⟩)) fun _ s'' ⟨⟨h', e, x1, x2⟩, hd⟩ => ?_
 subst e
 exact I.zK (s' := { s' with heap := h' }) O F.os F.bare F.un F.aD F.free F.new cov x1 x2 hd
theorem HI {h h' : Heap} {e : Addr} {cls : Value} {args : List Value} (hx : Heap.MadeExcOf h h' e cls args) : b9 e cls none h' := by
 obtain ⟨t, he, _⟩ := hx.there
 exact ⟨_, he, rfl, rfl, _, rfl⟩
theorem Inv.Er {M : Model} {A : Around} {E : Value → Shared → Prop} {h' : Heap} {vs : List Value} (I : Inv X pins σ H s) (O : Own X) (hA : A.frames = some X.stack) (hx : Heap.MadeExcOf s.heap h' ea (.ref C) vs) :
  wpAny M A (leaving X.env (.ref ea)) (fun _ s'' => jg X.prog X.w X.outer X.H₀ X.s₀ ea C none H s'') E { s with heap := h' } := by
 have hst : (PySem.W.hideAll s.heap (bC X.stack)).StaysIn s.heap := fun b o q => PySem.W.of_hideAll _ q
 have hfr : s.heap.FunFrames (PySem.W.hideAll s.heap (bC X.stack)) X.stack := PySem.W.funFrames_hide I.stack fun env he a ha => List.mem_filterMap.mpr ⟨env, he, ha⟩
 have oT : H ea = none := by
  cases q : H ea with
  | none => rfl
  | some u =>
   obtain ⟨o, e⟩ := (I.aD ea u q).there
   have := hx.new
   rw [e] at this; cases this
 have cov : nE (PySem.W.hideAll s.heap (bC X.stack)) (bC X.stack) s.heap H h' := fun b o e hb z => by
  have hs : ∃ u, s.heap.get? b = some u := by
   rcases z with z | ⟨v, z⟩
   ·exact z
   ·exact (I.aD b v z).there
  obtain ⟨u, eu⟩ := hs
  have := hx.keeps b u eu
  rw [e] at this; cases this
  exact PySem.W.hideAll_get _ eu hb
 generalize PySem.W.hideAll s.heap (bC X.stack) = B at hst hfr cov
 have hfr' := hfr
 rw [O.gq] at hfr' hA
 refine aE ((Kp.leaving X.env (.ref ea)).any (s := { s with heap := h' }) (HI hx) (wpAny_leaves_madeW (s := { s with heap := h' }) (Q := fun _ s'' => ∃ h2 t, s'' = { s with heap := h2 } ∧ Heap.FlyingW B X.outer ea (.ref C) (.ref t) h2 ∧ h'.UpToSlots h2) hA O.frame hst hfr' hx
  fun h2 t x1 _ _ x4 => ⟨h2, t, rfl, x1, x4⟩)) fun _ s'' ⟨⟨h2, t, e, x1, x4⟩, hd⟩ => ?_
 subst e
 exact I.zK (s' := { s with heap := h2 }) O rfl I.bare (Un.kept hx.keeps) (I.aD.kept hx.keeps) oT hx.new cov x1 x4 hd
structure ie (X : Cx) (R : St → XK) : Prop where
 pass : ∀ (pins : List (Addr × Obj)) (σ : St) (H : Hp) (s : Shared) (e : Value) (s' : Shared), Inv X pins σ H s → dS X.prog X.w X.stack H s (R σ) e s' → X.xe e s'
structure Raises (X : Cx) (R : St → XK) : Prop where
 made : ∀ (pins : List (Addr × Obj)) (σ : St) (H : Hp) (s : Shared) (h' : Heap) (ea C : Addr) (vs : List Value), Inv X pins σ H s → Heap.MadeExcOf s.heap h' ea (.ref C) vs → R σ (.ref C) none H → X.xe (.ref ea) { s with heap := h' }
theorem rC {P : Program} {w : World} {K : PySem.W.Frag} {mg : Str → Option Value} {base : Heap} {N : List Str} {qual : Str} {scope : Scope} {f : Addr} {cd : Value} {A : Around} {outer : List Env} {s₀ : Shared} {H₀ : Hp} {E : XK} :
  ie (dJ (dS P w) P w K mg base N qual scope f cd A outer s₀ H₀ E) (fun _ => E) where
 pass := fun pins σ H s e s' I hc => by
  obtain ⟨ea, C, od, H', rfl, F, hE⟩ := hc
  exact aE (I.J8 ⟨rfl, rfl, rfl⟩ I.ok.frames F) fun _ s'' z => ⟨ea, C, od, H', rfl, z, hE⟩
theorem pR {P : Program} {w : World} {K : PySem.W.Frag} {mg : Str → Option Value} {base : Heap} {N : List Str} {qual : Str} {scope : Scope} {f : Addr} {cd : Value} {A : Around} {outer : List Env} {s₀ : Shared} {H₀ : Hp} {E : XK} :
  Raises (dJ (dS P w) P w K mg base N qual scope f cd A outer s₀ H₀ E) (fun _ => E) where
 made := fun pins σ H s h' ea C vs I hx hE => aE (I.Er ⟨rfl, rfl, rfl⟩ I.ok.frames hx) fun _ s'' z => ⟨ea, C, none, H, rfl, z, hE⟩
def pJ (sp : Sp) (dvs : List V) (R : St → XK) (t : TA) : TE := fun σ H Q => t σ H fun vs H1 => sp (vs ++ dvs) H1 Q (R σ)
section
variable {k : Nat} {f : Addr} {fd : FuncData} {ps : List Str} {sp : Sp} {dvs : List V} {ds : List Value} {R : St → XK} {x : Str} {p pos : Pos} {e : Expr} {es : List Expr} {t : TA}
theorem zd {Q : VK} {us : List Value} {vs : List V} (F : aB X.prog X.w X.K X.mg X.base (dS X.prog X.w) k f fd ps sp) (hr : bc k X.A) (hb : Binds X.K fd ps ds) (hd : Vals dvs ds) (hx : ie X R)
  (I : Inv X pins σ H s) (r : Vals vs us) (h : sp (vs ++ dvs) H Q (R σ)) : wpAny (model X.prog X.w) X.A (call (.ref f) us) (EP X pins σ Q) X.xe s := by
 have r2 : Vals (vs ++ dvs) (us ++ ds) := r.append hd
 have hl : (us ++ ds).length = ps.length := by rw [← r2.length]; exact F.len _ _ _ _ h
 refine wpAny_call (codeAny_mono (F.run X.A X.stack s H ⟨us, []⟩ (us ++ ds) (vs ++ dvs) Q (R σ) hr I.sJ (hb s us I.bx hl) r2 h) fun r s' hq => ?_)
 cases r with
 | error e => exact hx.pass pins σ H s e s' I hq
 | ok fl =>
  cases fl with
  | ret u => exact I.after hq
  | next => exact False.elim hq
  | brk => exact False.elim hq
  | cont => exact False.elim hq
theorem Jd (F : aB X.prog X.w X.K X.mg X.base (dS X.prog X.w) k f fd ps sp) (hr : bc k X.A) (hg : Gl X x) (hm : X.mg x = some (.ref f)) (hk : PySem.W.keepIn X.K (.ref f) = true) (hb : Binds X.K fd ps ds) (hd : Vals dvs ds) (hx : ie X R)
  (ha : PA X (e :: es) t) (hs : (e :: es).all noStar = true := by rfl) (hdb : (x == ("__debug__" : Str)) = false := by decide) : PE X (.Call (.Name x p) (e :: es) [] pos) (pJ sp dvs R t) := by
 have hs' := hs
 rw [List.all_cons, Bool.and_eq_true] at hs'
 intro pins s σ H Q I h
 refine wpAny_Call_Name_kw (jD I hg hm ?_ hdb)
 refine PySem.W.callWith_K (h₀ := X.base) I.ok.mod.gp hk (aE (ha pos pins s σ H _ I h) fun us s1 ⟨vs, H1, I1, r, q⟩ => ⟨I1.bx, ?_⟩) (cJ hs'.1) (ee hs'.2)
 exact zd F hr hb hd hx I1 r q
end
end
abbrev n8 : List Value := [.type "ValueError", .type "Exception", .type "BaseException", .type "object"]
theorem HB {K : PySem.W.Frag} {h : Heap} {C : Addr} {bmB : List Value} {newId : String} (X : K.In h) (q : PySem.W.excIn K C bmB newId = true) :
  ∃ bm N nm q bs hdct sn sub ab col dd k0 k1 k2 k3 k5 mN, h.get? C = some (excClassObj nm q C N bs bm hdct sn sub ab col dd k0 k1 k2 k3 k5 newId) ∧ h.Ns N mN ∧ mN "__init__" = none ∧ OwnTail h bmB bm := by
 unfold PySem.W.excIn at q
 split at q
 ·rename_i dd cd sl ho
  split at q
  ·rename_i C' bm k0 k1 k2 k3 n k5 hm hs
   simp only [Bool.and_eq_true, beq_iff_eq, Bool.not_eq_true'] at q
   obtain ⟨⟨⟨⟨⟨q1, q2⟩, q3⟩, q4⟩, q5⟩, q6⟩ := q
   subst q1 q2
   obtain ⟨nm, bs, mro, ns, qn, hd, sn, sub, ab, col, del⟩ := cd
   dsimp only at hm q3 q5 q6
   subst hm q3
   have e1 : sl = #[k0, k1, k2, k3, some (.builtin n), k5] := by
    obtain ⟨l⟩ := sl
    simp only at hs
    rw [hs]
   subst e1
   exact ⟨bm, ns, nm, qn, bs, hd, sn, sub, ab, col, dd, k0, k1, k2, k3, k5, _, X _ _ ho, .of_isNs (PySem.W.isNs_of_in X q5), PySem.W.nsMap_none_of_in X q5 q6, PySem.W.tail_of_in X q4⟩
  ·cases q
 ·cases q
def uM (C : Addr) (R : St → XK) (t : TA) : TS := fun _ σ H => t σ H fun vs H1 => vs.length ≤ sizeLine ∧ R σ (.ref C) none H1
theorem HM {X : Cx} {R : St → XK} {x : Str} {C : Addr} {e : Expr} {es : List Expr} {t : TA} {np bb pos : Pos} (hx : Raises X R) (hc : X.calm = true) (hm : X.mg x = some (.ref C)) (q : PySem.W.excIn X.K C n8 "ValueError.__new__" = true) (ha : PA X (e :: es) t)
  (hg : Gl X x := by rfl) (hs : (e :: es).all noStar = true := by rfl) (hdb : (x == ("__debug__" : Str)) = false := by decide) : PS X (.Raise (some (.Call (.Name x np) (e :: es) [] bb)) none pos) (uM C R t) := by
 have hs' := hs
 rw [List.all_cons, Bool.and_eq_true] at hs'
 intro pins s σ H D I h
 obtain ⟨bm, N, nm, qn, bs, hdct, sn, sub, ab, col, dd, k0, k1, k2, k3, k5, mN, hC, hN, hni, T⟩ := HB I.ok.mod.gp q
 refine wpAny_Raise_call_subT (C := C) (nm := nm) (q := qn) (N := N) (bs := bs) (bm := bm) (hdct := hdct) (sn := sn) (sub := sub) (ab := ab) (col := col) (dd := dd) (k0 := k0) (k1 := k1) (k2 := k2) (k3 := k3) (k5 := k5)
  PySem.F.excBase_ValueError (mN := mN) (T.hasType PySem.F.excBase_ValueError.hasBase) (I.ok.hd hc) (by rw [cJ hs'.1]; exact ee hs'.2) hni (jD I hg hm ⟨rfl, ?_⟩ hdb)
 have ha' := ha bb pins s σ H _ I h
 rw [cJ hs'.1] at ha' ⊢
 refine Calls.evalArgs_plain (aE ha' fun us s2 ⟨vs, H2, I2, r, z, hR⟩ => ?_)
 exact ⟨rfl, by rw [← r.length]; exact z, I2.bk _ _ hC, hN.keeps I2.bk, T.keeps I2.bk, fun h' ea hm' => hx.made pins σ H2 s2 h' ea C us I2 hm' hR⟩
end L2
namespace L2
open PySem PySem.Spec PyProof.Rows
def mI (ea C : Addr) (od : Option Addr) : HO := .ext (b9 ea (.ref C) od)
abbrev Cx.Lz (X : Cx) (v : Value) : Cx := { X with A := X.A.mark (some v), calm := false, xe := fun _ _ => False }
abbrev Cx.LH (X : Cx) (pins : List (Addr × Obj)) (R : St → XK) : Cx := { X with pn := X.pn ++ pins, xe := fun e s' => ∃ (σ' : St) (H H' : Hp) (s : Shared) (ea C : Addr) (od : Option Addr), Inv X pins σ' H s ∧ e = .ref ea ∧ jg X.prog X.w X.stack H s ea C od H' s' ∧ R σ' (.ref C) od H' }
section
variable {X : Cx} {pins pins' : List (Addr × Obj)} {σ : St} {H H' : Hp} {s s' : Shared} {R : St → XK} {v : Value}
end
def Ends.xm (D : Ends) (i : Nat) : Ends := ⟨fun σ H => D.nx (σ.set i none) H, D.rt, fun σ H => D.bk (σ.set i none) H, fun σ H => D.ct (σ.set i none) H⟩
def JX (K : PySem.W.Frag) (Cc : Addr) (i : Nat) (tb : (St → XK) → TS) (th : TS) : TS := fun D σ H => ∃ R : St → XK, tb R D σ H ∧ ∀ σ' C od H', R σ' (.ref C) od H' → PySem.W.subIn K (.ref C) (.ref Cc) = some true ∧
 ∀ ea, H' ea = none → th (D.xm i) (σ'.set i (some (.ref ea))) (upd H' ea (mI ea C od))
end L2
namespace L2
open PySem PySem.Spec PyProof.Rows
structure kQ (K : PySem.W.Frag) (C : Addr) : Prop where
 ha : PySem.W.findIn K (.ref C) "__class__" = some (some (.builtin "object.__class__"))
 hn : PySem.W.specialIn K (.builtin "object.__class__") "__get__" = some (some (.builtin "getset_descriptor.__get__"))
 cR : PySem.W.takesIn K (.builtin "object.__class__") = some true
 hm : PySem.W.mroIn K C (.type "object") = some true
 j6 : PySem.W.findIn K (.ref C) "__getattribute__" = some (some (.builtin "BaseException.__getattribute__"))
 JD : PySem.W.findIn K (.ref C) "__getattr__" = some none
 hb : PySem.W.mroIn K C (.type "BaseException") = some true
theorem mD {M : Model} {h : Heap} {x C : Addr} {od : Option Addr} (I : b9 x (.ref C) od h) : PySem.W.Looks M h (typeOf (.ref x)) (.ref C) := by
 obtain ⟨o, e, c, _⟩ := I
 exact c ▸ (PySem.W.Looks.ld e).andThen .now
theorem zu {K : PySem.W.Frag} {C : Addr} {b : Value} {r : Bool} (h : PySem.W.mroIn K C b = some r) : ∃ c d cd sl, K.lookup C = some ⟨c, d, .cls cd, sl⟩ := by
 obtain ⟨cd, hcd, _⟩ := Option.bind_eq_some_iff.mp h
 unfold PySem.W.clsIn at hcd
 split at hcd
 ·rename_i c' d' cd' sl' ho
  exact ⟨_, _, _, _, ho⟩
 ·cases hcd
section
variable {prog : Program} {w : World} {A : Around} {E : Value → Shared → Prop} {s : Shared} {K : PySem.W.Frag} {x C : Addr} {od : Option Addr}
theorem GR {M : Model} {h : Heap} {name : Str} {a g : Value} (X : K.In h) (ha : PySem.W.findIn K (.ref C) name = some (some a)) (hn : PySem.W.specialIn K a "__get__" = some (some g)) (cR : PySem.W.takesIn K a = some true) :
  PySem.W.Looks M h (Builtin.ObjectAttr.find (.ref x) (.ref C) name) (.bind g a) := by
 have L1 := PySem.W.looks_findIn (M := M) X ha
 have L2 : PySem.W.Looks M h (Builtin.ObjectAttr.getOf (some a)) (some g) := PySem.W.looks_specialIn X hn
 have L3 := PySem.W.looks_takesIn (M := M) X cR
 unfold Builtin.ObjectAttr.find
 refine L1.andThen (L2.andThen ?_)
 have L4 : PySem.W.Looks M h (Builtin.ObjectAttr.dataDescriptor? (some a) (some g)) (some (g, a)) := by
  unfold Builtin.ObjectAttr.dataDescriptor?
  exact L3.andThen .now
 exact L4.andThen (PySem.W.Looks.tag .now)
open PySem.W in
open Builtin Builtin.ObjectAttr Builtin.Getset_descriptor in
theorem KN {R : Result → Shared → Prop} {tp : Value} (Z : kQ K C) (X : K.In s.heap) (I : b9 x (.ref C) od s.heap) (h : R (.ok (.ret (.ref C))) s) :
  codeAny (model prog w) A (.call (.builtin "getset_descriptor.__get__") ⟨[.builtin "object.__class__", .ref x, tp], []⟩) R s := by
 obtain ⟨hh, g, dr, t, os⟩ := s
 have L0 := mD (M := model prog w) I
 have L1 := looks_mroIn (M := model prog w) X Z.hm
 refine codeAny_call_builtin KF.slot_gs.plain KF.entry_gs (KF.slot_gs.check _ _ _ _ _ _ _ _ KF.type_class (KF.args_gs _ _ _) ?_)
 unfold Builtin.«getset_descriptor.__get__» descrGet
 rw [dga_obj]
 refine wpAny_bind (wpAny_pure ?_)
 unfold descrGetter descrCheckInstance descrNameAndClass isInstance
 simp only [KF.owner_class]
 repeat lk
 refine ⟨Code.quiet_builtin _ (by decide +kernel), codeAny_builtin KF.entry_class ?_⟩
 unfold Builtin.«object.__class__» shownTypeOf
 repeat lk
 exact h
theorem FC {M : Model} {BH : Value} {Q : Unit → Shared → Prop} (Z : kQ K C) (X : K.In s.heap) (I : b9 x (.ref C) od s.heap) (h : Q () s) : wpAny M A (checkBuiltinCall "BaseException.__getattribute__" ⟨[.ref x, BH], []⟩) Q E s := by
 have k1 : builtinKind "BaseException.__getattribute__" = some .slot := by decide +kernel
 have k2 : splitId "BaseException.__getattribute__" = some ("BaseException", "__getattribute__") := by decide +kernel
 have k3 := PySem.F.args_bexc_ga (.ref x) BH
 have L0 := mD (M := M) I
 have L1 := PySem.W.looks_mroIn (M := M) X Z.hb
 obtain ⟨hh, g, d, t, os⟩ := s
 have L2 : PySem.W.Looks M hh (isInstance (.ref x) (.type "BaseException")) true := L0.andThen L1
 simp only [checkBuiltinCall, k1, k2]
 refine wpAny_bind (L2.at ?_)
 repeat (any_goals (first | assumption | wp_step))
theorem Hb {Q : Option Value → Shared → Prop} (Z : kQ K C) (X : K.In s.heap) (I : b9 x (.ref C) od s.heap) (h : Q (some (.ref C)) { s with toks := s.toks + 1 }) : wpAny (model prog w) A (getAttr? (.ref x) "__class__") Q E s := by
 obtain ⟨hh, g, d, t, os⟩ := s
 have L0 := mD (M := model prog w) I
 have L1 := PySem.W.looks_findIn (M := model prog w) X Z.j6
 have L2 := PySem.W.looks_findIn (M := model prog w) X Z.JD
 have L3 := GR (M := model prog w) (x := x) X Z.ha Z.hn Z.cR
 unfold getAttr? getAttrBy? getAttrBy
 refine wpAny_bind (wpAny_mkText (wpAny_bind (wpAny_attempt (wpAny_holding (wpAny_bind (L0.at (wpAny_bind (L1.at ?_))))))))
 show wpAny _ _ (getAttrByItsOwn (.ref x) (.str "__class__" t) (.ref C) (.builtin "BaseException.__getattribute__") false false) _ _ _
 unfold getAttrByItsOwn
 refine wpAny_bind (L2.at ?_)
 refine wpAny_bind (wpAny_attempt (wpAny_holding ?_))
 show wpAny _ _ (boundAndCalled (.builtin "BaseException.__getattribute__") (.ref x) (.str "__class__" t)) _ _ _
 unfold boundAndCalled
 refine wpAny_bind (wpAny_of_eq (PySem.F.attr_ValueError.ga.bind (.ref x)) ?_)
 refine wpAny_call (codeAny_call_builtin PySem.F.attr_ValueError.ga.plain PySem.F.entry_bexc_ga (FC Z X I ?_))
 show wpAny _ _ (Builtin.«object.__getattribute__» ⟨[.ref x, .str "__class__" t], []⟩) _ _ _
 unfold Builtin.«object.__getattribute__»
 refine wpAny_bind (wpAny_pure ?_)
 refine wpAny_bind (wpAny_pure ?_)
 refine wpAny_bind (L0.at (wpAny_bind (L3.at ?_)))
 show wpAny _ _ (Builtin.ObjectAttr.bindTo (.builtin "getset_descriptor.__get__") (.builtin "object.__class__") (.ref x) (.ref C)) _ _ _
 show wpAny _ _ (holding [.builtin "object.__class__"] (call (.builtin "getset_descriptor.__get__") [.builtin "object.__class__", .ref x, .ref C]) >>= fun v => ret v) _ _ _
 refine wpAny_bind (wpAny_holding (wpAny_call (KN Z X I (wpAny_pure ?_))))
 exact wpAny_pure (wpAny_pure h)
theorem pw (Z : kQ K C) : PySem.W.KitX K (.ref x) (.ref C) (b9 x (.ref C) od) where
 ty := fun _ _ _ I => mD I
 it := fun _ _ X _ => by
  obtain ⟨c', d', cd', sl', ho⟩ := zu Z.hm
  intro A' Q' E' s' k q
  unfold isType loadHead
  exact wpAny_bind (wpAny_loadPart (k _ _ (X _ _ ho)) (wpAny_pure q))
 ne := fun h tp dd its n sl X htp => by
  obtain ⟨c', d', cd', sl', ho⟩ := zu Z.hm
  refine Bool.eq_false_iff.mpr fun q => ?_
  have e : C = tp := Value.ref.inj (beq_iff_eq.mp q)
  subst e
  have z := (X _ _ ho).symm.trans htp
  cases z
 ca := fun X I k => Hb Z X I k
end
inductive oz (K : PySem.W.Frag) (H : Hp) : V → Value → Bool → Prop where
 | of {x : V} {t : Value} (h : cL K H x t) : oz K H x t false
 | exc {ea C : Addr} {od : Option Addr} (e : H ea = some (mI ea C od)) (Z : kQ K C) : oz K H (.ref ea) (.ref C) true
inductive lF (K : PySem.W.Frag) (H : Hp) (t : Value) : Bool → V → Bool → Prop where
 | ty {f : Bool} {n : String} {b : Bool} (e : PySem.W.kitOne K t (.type n) = some b) : lF K H t f (.ty n) b
 | cls {f : Bool} {a : Addr} {b : Bool} (e : PySem.W.kitOne K t (.ref a) = some b) : lF K H t f (.ref a) b
 | tup {p : Addr} {cs : List V} {us : List Value} {b : Bool} (h : H p = some (.tup cs)) (hu : ∀ ws, Vals cs ws → ws = us) (e : PySem.W.kitAny K t us = some b) : lF K H t true (.ref p) b
section
variable {X : Cx} {K : PySem.W.Frag}
def um (K : PySem.W.Frag) : List V → Hp → VK → Prop := fun xs H Q => match xs with
 | [x, c] => ∃ (t : Value) (f b : Bool), oz K H x t f ∧ lF K H t f c b ∧ Q (.bl b) H
 | _ => False
theorem Kf {x c : V} {u v t : Value} {pins : List (Addr × Obj)} {σ : St} {H : Hp} {s : Shared} {A : Around} {E : Value → Shared → Prop} {Q : Value → Shared → Prop} {f b : Bool} (I : Inv X pins σ H s) (rx : RelV x u) (rc : RelV c v) (ty : oz X.K H x t f) (a : lF X.K H t f c b)
  (h : ∀ tk, Q (.bool b) { s with toks := tk }) : wpAny (model X.prog X.w) A (call (.builtin "isinstance") [u, v]) Q E s := by
 cases ty with
 | of ty =>
  cases a with
  | ty e => cases (show v = Value.type _ from rc); exact pZ I rx ty e h
  | cls e => cases (show v = Value.ref _ from rc); exact pZ I rx ty e h
 | @exc ea C od e Z =>
  cases (show u = Value.ref ea from rx)
  obtain ⟨p, _, _⟩ := (show br X.prog X.w H s.heap ea (mI ea C od) from I.aD ea _ e)
  cases a with
  | ty e' => cases (show v = Value.type _ from rc); exact PySem.W.kia_one (pw Z) I.bx p e' (fun z => nomatch z) h
  | cls e' => cases (show v = Value.ref _ from rc); exact PySem.W.kia_one (pw Z) I.bx p e' (fun z => nomatch z) h
  | @tup tp cs us b hp hu e' =>
   cases (show v = Value.ref tp from rc)
   obtain ⟨_, its, rv, o, ho, hc, n, hd⟩ := (show br X.prog X.w H s.heap tp (.tup cs) from I.aD tp _ hp)
   obtain rfl := hu its rv
   obtain ⟨oc, odd, oda, osl⟩ := o
   dsimp only at hc hd
   subst hc hd
   exact PySem.W.kia_tup (pw Z) I.bx p ho e' (fun z => nomatch z) h
theorem vc (h : X.K = K) : bM X (.builtin "isinstance") (um K) := h ▸ fun pins s σ H xs us Q I r q => by
 unfold um at q
 split at q
 ·rename_i x c
  obtain ⟨t, f, b, ty, a, q⟩ := q
  obtain ⟨u, v, rfl, ru, rv⟩ := vals2 r
  exact Kf I ru rv ty a fun tk => ⟨.bl b, H, I.tok tk, rfl, q⟩
 ·exact q.elim
end
namespace Dv
section
variable {X : Cx} {st : Stmt} {t : TS}
theorem Gp {k : Nat} {f : Addr} {fd : FuncData} {ps : List Str} {sp : Sp} {dvs : List V} {ds : List Value} {R : St → XK} {x : Str} {p pos : Pos} {e : Expr} {es : List Expr} {t : TA}
  (F : aB X.prog X.w X.K X.mg X.base (dS X.prog X.w) k f fd ps sp) (hr : bc k X.A) (hm : X.mg x = some (.ref f)) (hk : PySem.W.keepIn X.K (.ref f) = true) (hb : Binds X.K fd ps ds) (hd : Vals dvs ds) (hx : ie X R)
  (ha : QA X (e :: es) t) (hg : Gl X x := by rfl) (hs : (e :: es).all noStar = true := by rfl) (hdb : (x == ("__debug__" : Str)) = false := by decide) : QE X (.Call (.Name x p) (e :: es) [] pos) (pJ sp dvs R t) := ⟨Jd F hr hg hm hk hb hd hx ha.h hs hdb⟩
theorem ux {R : St → XK} {x : Str} {C : Addr} {e : Expr} {es : List Expr} {t : TA} {np bb pos : Pos} (hx : Raises X R) (hc : X.calm = true) (hm : X.mg x = some (.ref C)) (q : PySem.W.excIn X.K C n8 "ValueError.__new__" = true) (ha : QA X (e :: es) t)
  (hg : Gl X x := by rfl) (hs : (e :: es).all noStar = true := by rfl) (hdb : (x == ("__debug__" : Str)) = false := by decide) : QS X (.Raise (some (.Call (.Name x np) (e :: es) [] bb)) none pos) (uM C R t) := ⟨HM hx hc hm q ha.h hg hs hdb⟩
end
end Dv
end L2
namespace L2
end L2
namespace L2
open PySem PySem.Spec PyProof.Rows
theorem eR.iY {P : Program} {w : World} {K : PySem.W.Frag} {mg : Str → Option Value} {base : Heap} {CX : cv} {x qual : Str} {st : Stmt} {f : Addr} {fd : FuncData} {N ps : List Str} {k : Nat} {sp : Sp} (F : eR K x qual st f fd) (S : aJ N ps (aC st)) (len : ∀ vs H Q E, sp vs H Q E → vs.length = ps.length)
  (hb : ∀ (cdv : Value) (A : Around) (outer : List Env) (s : Shared) (H : Hp) (vs : List V) (Q : VK) (E : XK), bc k (A.deeper (envOfC qual (aC st) s.heap.objs.size f cdv)) → sp vs H Q E →
   ∃ t, bV (dJ CX P w K mg base N qual (aC st) f cdv A outer s H E) (aS st) t ∧ t { nx := fun _ H' => Q .aq H', rt := Q } (start N vs) H) : aB P w K mg base CX (k + 1) f fd ps sp := by
 obtain ⟨oc, od, kV, doc, pm, an, cdv, ct, osl, rfl, lk, hcd⟩ := F.ex
 exact tR lk hcd S len fun A outer s H vs Q E hr hsp => hb cdv A outer s H vs Q E hr hsp
end L2
namespace L2
open PySem PySem.Spec PyProof.Rows
def AO : List Value → Bool
 | [] => false
 | v :: r => (v :: r) == n8 || match v with
  | .ref _ => AO r
  | _ => false
def Fu (K : PySem.W.Frag) (C : Addr) : Bool := match K.lookup C with
 | some ⟨.type "type", _, .cls cd, sl⟩ => (match cd.mro, sl.toList with
  | .ref C' :: bm, [_, _, _, _, some (.builtin n), _] => C' == C && n == "ValueError.__new__" && !cd.hasDel && PySem.W.tailIn K n8 bm && AO cd.mro && cd.hasDict
  | _, _ => false)
 | _ => false
structure Lu (K : PySem.W.Frag) (C f : Addr) (fld : Str) : Prop where
 q : Fu K C = true
 hi : PySem.W.findIn K (.ref C) "__init__" = some (some (.ref f))
 hf : PySem.W.typeIn K (.ref f) = some (.type "function")
 sa : PySem.W.findIn K (.ref C) "__setattr__" = some (some (.builtin "object.__setattr__"))
 na : PySem.W.findIn K (.ref C) fld = some none
 ob : PySem.W.mroIn K C (.type "object") = some true
 be : PySem.W.mroIn K C (.type "BaseException") = some true
 self : PySem.W.mroIn K C (.ref C) = some true
 kp : PySem.W.keepIn K (.ref C) = true
section
variable {prog : Program} {w : World} {A : Around} {E : Value → Shared → Prop} {s : Shared} {K : PySem.W.Frag} {x C f : Addr} {fld : Str} {v : Value}
end
end L2
namespace L2
open PySem PySem.Spec PyProof.Rows
def xX (e : Addr) (c : Value) (od : Option Addr) (h : Heap) : Prop := ∃ o, h.get? e = some o ∧ o.cls = c ∧ o.dict = od ∧ ∃ vs a0, o.data = .fields vs ∧ vs[1]? = some .none ∧ vs[0]? = some a0
def xA (ea C : Addr) (od : Option Addr) : HO := .ext (xX ea (.ref C) od)
def Jq (C : Addr) (fld : Str) (ta tv : TE) : TS := fun D σ H => tv σ H fun y H1 => ta σ H1 fun x H2 => ∃ ea, x = .ref ea ∧ H2 ea = some (xA ea C none) ∧ ∀ d, H2 d = none → D.nx σ (upd (upd H2 ea (xA ea C (some d))) d (.xd [(fld, y)]))
section
variable {X : Cx} {C f : Addr} {fld : Str} {o value : Expr} {ta tv : TE} {pos pos' : Pos}
end
section
variable {prog : Program} {w : World} {A : Around} {E : Value → Shared → Prop} {h : Heap} {g : Array GenState} {d : Drawn} {t : Nat} {os : OsState} {K : PySem.W.Frag} {C f : Addr} {fld : Str}
end
end L2
namespace L2
open PySem PySem.Spec PyProof.Rows
section
variable {X : Cx} {pins : List (Addr × Obj)} {σ : St} {H H' : Hp} {s s1 : Shared} {ea C : Addr} {od : Option Addr}
structure Lx (X : Cx) (R : St → XK) : Prop where
 made : ∀ (pins : List (Addr × Obj)) (σ : St) (H H' : Hp) (s s1 : Shared) (ea C : Addr) (od : Option Addr), Inv X pins σ H s → s1.os = s.os → AllBare s1.gens → Un (bC X.stack) [] H H' s.heap s1.heap → bt X.prog X.w H' s1.heap → H' ea = none → s.heap.get? ea = none →
  xX ea (.ref C) od s1.heap → R σ (.ref C) od H' → X.xe (.ref ea) s1
end
def KD (C : Addr) (fld : Str) (R : St → XK) (t : TA) : TS := fun _ σ H => t σ H fun vs H1 => ∃ v, vs = [v] ∧ ∀ d, H1 d = none → R σ (.ref C) (some d) (upd H1 d (.xd [(fld, v)]))
end L2
namespace L2
open PySem PySem.Spec PyProof.Rows
section
variable {prog : Program} {w : World} {A : Around} {E : Value → Shared → Prop} {s : Shared} {K : PySem.W.Frag} {x C f d : Addr} {fld : Str}
end
def DG (C : Addr) (fld : Str) (ta : TE) : TE := fun σ H Q => ta σ H fun x H1 => ∃ ea d fs v, x = .ref ea ∧ H1 ea = some (mI ea C (some d)) ∧ H1 d = some (.xd fs) ∧ fs.lookup fld = some v ∧ Q v H1
end L2
namespace L2
open PySem PySem.Spec PyProof.Rows
def pI (C : Addr) (f : Str) (ta : TE) : TE := fun σ H Q => ta σ H fun x H1 => ∃ a dx fs v, x = .ref a ∧ H1 a = some (.ins C dx fs) ∧ fs.lookup f = some v ∧ Q v H1
def p5 (C : Addr) (f : Str) (ta tv : TE) : TS := fun D σ H => tv σ H fun y H1 => ta σ H1 fun x H2 => ∃ a dx fs, x = .ref a ∧ H2 a = some (.ins C dx fs) ∧ fs.length < 1000 ∧ D.nx σ (upd H2 a (.ins C dx (aa f y fs)))
def pO (C : Addr) (f : Str) (ta tv : TE) (rd : R2) : TS := fun D σ H => ta σ H fun x H1 => ∃ a dx fs v, x = .ref a ∧ H1 a = some (.ins C dx fs) ∧ fs.lookup f = some v ∧ tv σ H1 fun y H2 => rd v y H2 fun z H3 => ∃ dx' fs', H3 a = some (.ins C dx' fs') ∧ fs'.length < 1000 ∧ D.nx σ (upd H3 a (.ins C dx' (aa f z fs')))
def rX (C : Addr) (m : Str) (sp : Sp) (dvs : List V) (R : St → XK) (ta : TE) (t : TA) : TE := fun σ H Q => ta σ H fun x H1 => ∃ a dx fs, x = .ref a ∧ H1 a = some (.ins C dx fs) ∧ fs.lookup m = none ∧ t σ H1 fun vs H2 => sp (x :: (vs ++ dvs)) H2 Q (R σ)
def GS (C : Addr) (sp : Sp) (dvs : List V) (R : St → XK) (t : TA) : TE := fun σ H Q => t σ H fun vs H1 => ∀ x dx, H1 x = none → H1 dx = none → dx ≠ x →
 sp (.ref x :: (vs ++ dvs)) (upd (upd H1 dx (.own x)) x (.ins C dx [])) (fun v H2 => v = .aq ∧ Q (.ref x) H2) (R σ)
section
variable {X : Cx} {k : Nat} {f C : Addr} {fd : FuncData} {ps : List Str} {sp : Sp} {dvs : List V} {ds : List Value} {R : St → XK} {x m : Str} {p pos apos : Pos} {e o : Expr} {es : List Expr} {ta : TE} {t : TA}
theorem La {pl : Sem Bool} (he : PE X o ta) (c : bK X.K C) (hm : Meth X.K C m f) (F : aB X.prog X.w X.K X.mg X.base (dS X.prog X.w) k f fd ps sp) (hr : bc k X.A) (hb : Binds X.K fd ps ds) (hd : Vals dvs ds) (hx : ie X R) (ha : PA X (e :: es) t) (hs : (e :: es).all noStar = true := by rfl)
  (ht : eval (.Call (.Attribute o m apos) (e :: es) [] pos) X.env = (do
   let ov ← eval o X.env
   standAt apos.atName
   let (f, first) ← holding [ov] (getMethod ov m pl)
   callWith pos f first (backTo pos (starEach (e :: es) X.env)) (backToKw pos (keywordEach [] X.env))) := by rfl) : PE X (.Call (.Attribute o m apos) (e :: es) [] pos) (rX C m sp dvs R ta t) := by
 have hs' := hs
 rw [List.all_cons, Bool.and_eq_true] at hs'
 intro pins s σ H Q I h
 refine PySem.W.methodCall_KW (pl := pl) (aE (he pins s σ H _ I h) fun u s1 ⟨x, H1, I1, rx, a, dx, fs, ex, ea, l, q⟩ => ?_) ht
 subst ex
 obtain rfl : u = Value.ref a := rx
 refine pK I1 ea c hm l (PySem.W.callWith_K (first := [.ref a]) (h₀ := X.base) I.ok.mod.gp hm.kp (aE (ha pos pins s1 σ H1 _ I1 q) fun us s2 ⟨vs, H2, I2, r, q2⟩ => ⟨I2.bx, ?_⟩) (cJ hs'.1) (ee hs'.2))
 exact zd (us := .ref a :: us) (vs := .ref a :: vs) F hr hb hd hx I2 (.cons rfl r) q2
end
section
variable {X : Cx} {C : Addr} {f : Str} {e o value : Expr} {ta tv : TE} {pos pos' tpos : Pos}
theorem HP (c : bK X.K C) (n : aZ X.K C f) (he : PE X e ta) (hb : attributeBase e f X.env (eval e X.env) = eval e X.env) : PE X (.Attribute e f pos) (pI C f ta) := by
 intro pins s σ H Q I h
 refine GG hb (aE (he pins s σ H _ I h) fun u s1 ⟨x, H1, I1, rx, a, dx, fs, v, ex, ea, l, q⟩ => ?_)
 subst ex
 obtain rfl : u = Value.ref a := rx
 exact yn I1 ea c n l fun u' s2 I2 ru => ⟨v, H1, I2, ru, q⟩
theorem HS (c : bK X.K C) (n : aZ X.K C f) (ha : PE X o ta) (hv : PE X value tv) (hs : swapsWith value (some (.Attribute o f pos')) pos.line X.env = pure false) : PS X (.Assign [.Attribute o f pos'] value pos) (p5 C f ta tv) := by
 intro pins s σ H D I h
 refine plainObj_wpAny_Assign_Attribute (aE (hv pins s σ H _ I h) fun u s1 ⟨y, H1, I1, ry, q⟩ => aE (ha pins s1 σ H1 _ I1 q) fun ov s2 ⟨x, H2, I2, rx, a, dx, fs, ex, ea, l, q2⟩ => ?_) hs
 subst ex
 obtain rfl : ov = Value.ref a := rx
 exact yp I2 ea c n l ry fun s3 I3 => ⟨σ, _, I3, q2⟩
theorem GH {op : Operator} {rd : R2} (c : bK X.K C) (n : aZ X.K C f) (ha : PE X o ta) (hv : PE X value tv) (hop : pQ X op rd) : PS X (.AugAssign (.Attribute o f tpos) op value pos) (pO C f ta tv rd) := by
 intro pins s σ H D I h
 refine wpAny_AugAssign_AttributeAny (aE (ha pins s σ H _ I h) fun ov s1 ⟨x, H1, I1, rx, a, dx, fs, v, ex, ea, l, q⟩ => ?_)
 subst ex
 obtain rfl : ov = Value.ref a := rx
 refine yn I1 ea c n l fun u s2 I2 ru => aE (hv pins s2 σ H1 _ I2 q) fun w3 s3 ⟨y, H2, I3, ry, q3⟩ => aE (hop pins s3 σ H2 v y u w3 _ I3 ru ry q3) fun w4 s4 ⟨z, H3, I4, rz, dx', fs', ea', l', q4⟩ => ?_
 exact yp I4 ea' c n l' rz fun s5 I5 => ⟨σ, _, I5, q4⟩
end
theorem zX {X : Cx} {op : CmpOp} {a b : Expr} {t : TE} {pos : Pos} (h : PC X op a b t) (hm : behindInMarks op b = false := by first | exact nH _ (by decide) (by decide) | rfl) : PT X (.Compare a [op] [b] pos) (gB t) := by
 intro pins s σ H Q I hw
 refine wpAny_isTrue_Compare1 (aE (h pins s σ H _ I hw) fun v s1 h1 => aE h1 fun u s2 h2 => aE h2 fun c s3 ⟨x, H1, I1, r1, q1⟩ => ?_) hm
 obtain ⟨k, rfl, q⟩ := p7 q1
 cases r1
 exact wpAny_truthy_bool ⟨H1, I1, q⟩
namespace Dv
section
variable {X : Cx} {a b o e i value : Expr} {ta tb td ty tv : TE} {es : List Expr} {t : TA} {pos pos' apos bb p tpos : Pos} {f C : Addr} {fn m x : Str} {k : Nat} {fd : FuncData} {ps : List Str} {sp : Sp} {dvs : List V} {ds : List Value} {R : St → XK} {CX : cv} {E : XK} {tA : TT} {body : List Stmt} {tB : TS}
theorem fld (c : bK X.K C) (n : aZ X.K C fn) (he : QE X e ta) (hb : attributeBase e fn X.env (eval e X.env) = eval e X.env := by rfl) : QE X (.Attribute e fn pos) (pI C fn ta) := ⟨HP c n he.h hb⟩
theorem bf (c : bK X.K C) (n : aZ X.K C fn) (ha : QE X o ta) (hv : QE X value tv) (hs : swapsWith value (some (.Attribute o fn pos')) pos.line X.env = pure false := by rfl) : QS X (.Assign [.Attribute o fn pos'] value pos) (p5 C fn ta tv) := ⟨HS c n ha.h hv.h hs⟩
theorem fi {op : Operator} {rd : R2} (c : bK X.K C) (n : aZ X.K C fn) (hop : pQ X op rd) (ha : QE X o ta) (hv : QE X value tv) : QS X (.AugAssign (.Attribute o fn tpos) op value pos) (pO C fn ta tv rd) := ⟨GH c n ha.h hv.h hop⟩
theorem aY {pl : Sem Bool} (c : bK X.K C) (hm : Meth X.K C m f) (F : aB X.prog X.w X.K X.mg X.base CX k f fd ps sp) (hr : bc k X.A) (hb : Binds X.K fd ps ds) (hd : Vals dvs ds) (hx : Passes CX X E) (ho : QE X o ta) (ha : QA X (e :: es) t) (hs : (e :: es).all noStar = true := by rfl)
  (ht : eval (.Call (.Attribute o m apos) (e :: es) [] pos) X.env = (do
   let ov ← eval o X.env
   standAt apos.atName
   let (f, first) ← holding [ov] (getMethod ov m pl)
   callWith pos f first (backTo pos (starEach (e :: es) X.env)) (backToKw pos (keywordEach [] X.env))) := by rfl) : QE X (.Call (.Attribute o m apos) (e :: es) [] pos) (lU C m sp dvs E ta t) := by
 have hs' := hs
 rw [List.all_cons, Bool.and_eq_true] at hs'
 exact ⟨J1 ho.h c hm F hr hb hd hx ha.h (cJ hs'.1) (ee hs'.2) ht⟩
theorem lT {pl : Sem Bool} (c : bK X.K C) (hm : Meth X.K C m f) (F : aB X.prog X.w X.K X.mg X.base CX k f fd ps sp) (hr : bc k X.A) (hb : Binds X.K fd ps ds) (hd : Vals dvs ds) (hx : Passes CX X E) (ho : QE X o ta)
  (ht : eval (.Call (.Attribute o m apos) [] [] pos) X.env = (do
   let ov ← eval o X.env
   standAt apos.atName
   let (f, first) ← holding [ov] (getMethod ov m pl)
   callWith pos f first (backTo pos (starEach [] X.env)) (backToKw pos (keywordEach [] X.env))) := by rfl) : QE X (.Call (.Attribute o m apos) [] [] pos) (lU C m sp dvs E ta ib) := ⟨IB ho.h c hm F hr hb hd hx ht⟩
theorem cK {pl : Sem Bool} (c : bK X.K C) (hm : Meth X.K C m f) (F : aB X.prog X.w X.K X.mg X.base (dS X.prog X.w) k f fd ps sp) (hr : bc k X.A) (hb : Binds X.K fd ps ds) (hd : Vals dvs ds) (hx : ie X R) (ho : QE X o ta) (ha : QA X (e :: es) t) (hs : (e :: es).all noStar = true := by rfl)
  (ht : eval (.Call (.Attribute o m apos) (e :: es) [] pos) X.env = (do
   let ov ← eval o X.env
   standAt apos.atName
   let (f, first) ← holding [ov] (getMethod ov m pl)
   callWith pos f first (backTo pos (starEach (e :: es) X.env)) (backToKw pos (keywordEach [] X.env))) := by rfl) : QE X (.Call (.Attribute o m apos) (e :: es) [] pos) (rX C m sp dvs R ta t) := ⟨La ho.h c hm F hr hb hd hx ha.h hs ht⟩
theorem make (M : Mk X.K C f) (F : aB X.prog X.w X.K X.mg X.base CX k f fd ps sp) (hr : bc (k + 1) X.A) (hm : X.mg x = some (.ref C)) (hb : Binds X.K fd ps ds) (hd : Vals dvs ds) (hx : Passes CX X E) (ha : QA X (e :: es) t) (hg : Gl X x := by rfl) (hs : (e :: es).all noStar = true := by rfl) (hdb : (x == ("__debug__" : Str)) = false := by decide) :
  QE X (.Call (.Name x p) (e :: es) [] pos) (lK C sp dvs E t) := by
 have hs' := hs
 rw [List.all_cons, Bool.and_eq_true] at hs'
 exact ⟨DI M F hr hg hm hb hd hx ha.h hdb (cJ hs'.1) (ee hs'.2)⟩
theorem Dg (M : Mk X.K C f) (F : aB X.prog X.w X.K X.mg X.base CX k f fd ps sp) (hr : bc (k + 1) X.A) (hm : X.mg x = some (.ref C)) (hb : Binds X.K fd ps ds) (hd : Vals dvs ds) (hx : Passes CX X E) (hg : Gl X x := by rfl) (hdb : (x == ("__debug__" : Str)) = false := by decide) :
  QE X (.Call (.Name x p) [] [] pos) (lK C sp dvs E ib) := ⟨KP M F hr hg hm hb hd hx hdb⟩
theorem jy (hu : X.A.units + 1 < cLine) (ho : QE X o td) (hi : QE X i ty) (hs : sL i := by intro _ _; rfl) : QE X (.Subscript o i pos) (uT td ty) := ⟨Hy hu ho.h hi.h hs⟩
theorem qT (hu : X.A.units + 1 < cLine) (hi : QE X i ty) (ho : QE X o td) (hm : behindInMarks .In o = false := by rfl) : QT X (.Compare i [.In] [o] pos) (gB (uJ ty td)) := ⟨zX (Fg hu hi.h ho.h) hm⟩
theorem yq (hu : X.A.units + 1 < cLine) (hi : QE X i ty) (ho : QE X o td) (hm : behindInMarks .NotIn o = false := by rfl) : QT X (.Compare i [.NotIn] [o] pos) (gB (rF ty td)) := ⟨zX (EF hu hi.h ho.h) hm⟩
theorem f7 (hu : X.A.units + 1 < cLine) (ho : QE X o td) (hi : QE X i ty) (hv : QE X value tv) (hs : swapsWith value (some (.Subscript o i pos')) pos.line X.env = pure false := by rfl) : QS X (.Assign [.Subscript o i pos'] value pos) (uk td ty tv) := ⟨HH hu ho.h hi.h hv.h hs⟩
theorem Kh : QE X (.Dict [] [] pos) sT := ⟨G2⟩
theorem Ae (hu : X.A.units + 1 < cLine) (ho : QE X o td) (he : QE X e ty) (m1 : M1 X o "get" apos e bb := by exact ⟨rfl, rfl, rfl, rfl⟩) : QE X (.Call (.Attribute o "get" apos) [e] [] bb) (pA td ty) := ⟨Hf hu ho.h he.h m1⟩
theorem f9 (hp : PassesOwn (model X.prog X.w) X.A X.env X.xe) (hc : QT X a tA) (hb : QB X body tB) : QS X (.While a body [] pos) (xc tA tB) := ⟨J7 hp hc.h hb.h⟩
theorem AJ (hc : QT X o tA) (ha : QE X a ta) (hb : QE X b tb) : QE X (.IfExp o a b pos) (o8 tA ta tb) := ⟨Li hc.h ha.h hb.h⟩
end
end Dv
end L2
namespace L2
open PySem PySem.Spec PyProof.Rows
structure Ic (X : Cx) (pins : List (Addr × Obj)) (σ : St) (H : Hp) (ea C : Addr) (od : Option Addr) (s : Shared) : Prop where
 fl : ∃ B a0, Heap.FlyingW B (X.env :: X.outer) ea (.ref C) a0 s.heap ∧ ∀ h4 : Heap, B.StaysIn h4 → s.heap.UpToSlots h4 → Inv X pins σ H { s with heap := h4 }
 hd : b9 ea (.ref C) od s.heap
 free : H ea = none
 n0 : X.s₀.heap.get? ea = none
 nL : ea ≠ X.env.locals
 nC : ∀ x c, X.env.cells.lookup x = some c → c ≠ ea
 nP : ∀ p ∈ X.pn ++ pins, p.1 ≠ ea
abbrev nM := Ends → St → Addr → Option Addr → Hp → Prop
def PH (X : Cx) (hs : List ExceptHandler) (t : nM) : Prop := ∀ (pins : List (Addr × Obj)) (s : Shared) (σ : St) (H : Hp) (D : Ends) (ea C : Addr) (od : Option Addr), Ic X pins σ H ea C od s → t D σ C od H → wpAny (model X.prog X.w) X.A (handleBy (.ref ea) X.env hs) (SP X pins D) X.xe s
section
variable {X : Cx} {K : PySem.W.Frag} {Cc : Addr} {n x : Str} {suite : List Stmt} {b₀ : Stmt} {np hpos pos : Pos} {th : TS} {tr : nM} {rest : List ExceptHandler}
end
structure QH (X : Cx) (hs : List ExceptHandler) (t : nM) : Prop where
 h : PH X hs t
namespace Dv
section
variable {X : Cx} {K : PySem.W.Frag} {Cc : Addr} {n x : Str} {suite : List Stmt} {b₀ : Stmt} {np hpos pos : Pos} {th : TS} {tr : nM} {rest : List ExceptHandler}
end
end Dv
end L2
namespace L2
open PySem PySem.Spec PyProof.Rows
def cf (a b : Str) : Bool := !ltCps b.cps.toList a.cps.toList
def cX (ts : List Str) : List Str := ts.mergeSort cf
theorem oN {a b : Str} : cf a b = true ↔ ¬ b.cps.toList < a.cps.toList := by
 unfold cf; rw [ltCps_eq]; simp
theorem yr (a b c : Str) (h1 : cf a b = true) (h2 : cf b c = true) : cf a c = true := by
 rw [oN] at *
 exact List.not_lt.mpr (List.le_trans (List.not_lt.mp h1) (List.not_lt.mp h2))
theorem DW (a b : Str) : (cf a b || cf b a) = true := by
 cases h : cf a b with
 | true => rfl
 | false =>
  have : ¬ cf a b = true := by rw [h]; simp
  rw [oN, Classical.not_not] at this
  simp only [Bool.false_or, oN]
  exact List.not_lt.mpr (List.le_of_lt this)
theorem Dc {a b : Str} (h1 : cf a b = true) (h2 : cf b a = true) : a = b := by
 rw [oN] at *
 have := List.le_antisymm (List.not_lt.mp h1) (List.not_lt.mp h2)
 obtain ⟨x⟩ := a; obtain ⟨y⟩ := b
 exact congrArg Str.mk (Array.ext' this)
theorem zf (ts : List Str) : (cX ts).Perm ts := List.mergeSort_perm ts cf
theorem Hj (ts : List Str) : (cX ts).Pairwise (fun a b => cf a b = true) := List.pairwise_mergeSort yr DW ts
theorem wJ (ts : List Str) : (cX ts).length = ts.length := (zf ts).length_eq
theorem Av : ∀ (p : Str) (l : List Str), risingS p l = true → (p :: l).Pairwise (fun a b => cf a b = true)
 | p, [], _ => List.pairwise_singleton _ _
 | p, x :: r, h => by
  have h' : cf p x = true ∧ risingS x r = true := by simpa [risingS, cf] using h
  have ih := Av x r h'.2
  refine List.pairwise_cons.mpr ⟨fun y hy => ?_, ih⟩
  rcases List.mem_cons.mp hy with e | hy
  ·exact e ▸ h'.1
  ·exact yr p x y h'.1 (List.rel_of_pairwise_cons ih hy)
theorem wI : ∀ (l : List Str), sortedS l = true → l.Pairwise (fun a b => cf a b = true)
 | [], _ => .nil
 | x :: r, h => Av x r h
theorem oB {us ts : List Str} (hp : us.Perm ts) (hs : us.Pairwise (fun a b => cf a b = true)) : us = cX ts :=
 List.Perm.eq_of_pairwise (fun a b _ _ h1 h2 => Dc h1 h2) hs (Hj ts) (hp.trans (zf ts).symm)
theorem Hu (x : Str) : cX [x] = [x] := (oB (.refl _) (List.pairwise_singleton _ _)).symm
theorem zT : ∀ {ts : List Str} {us : List Value}, Vals (ts.map V.str) us → StrsAre us ts
 | [], _, .nil => .nil
 | x :: r, _, .cons h t => by obtain ⟨t', rfl⟩ := h; exact .cons x t' (zT t)
theorem sY : ∀ {us : List Value} {ts : List Str}, StrsAre us ts → Vals (ts.map V.str) us
 | _, _, .nil => .nil
 | _, _, .cons y t h => .cons ⟨t, rfl⟩ (sY h)
section
variable {X : Cx}
def zM (K : PySem.W.Frag) : List V → Hp → VK → Prop := fun xs H Q => ∃ p ts, xs = [.ref p] ∧ aL K H p (ts.map V.str) ∧ ts.length < 64 ∧ ∀ l, H l = none → Q (.ref l) (upd H l (.lst ((cX ts).map V.str)))
theorem Ht : bM X (.builtin "sorted") (zM X.K) := by
 intro pins s σ H xs us Q I r h
 obtain ⟨p, ts, rfl, hq, h64, q⟩ := h
 obtain ⟨u, rfl, rx⟩ := vals1 r
 cases rx
 obtain ⟨its, r', pl, hz⟩ := I.list hq
 have hlen := r'.length
 refine sorted_strs pl.isList (zT r') (by rw [← hlen]; simpa using h64) fun out ss' a1 a2 a3 => ?_
 obtain ⟨e, he⟩ := sortedAll_at s.heap its out
 have e1 : ss' = cX ts := oB a2 (wI _ a3)
 subst e1
 refine ⟨.ref (s.heap.objs.size + 1), _, I.laid (t' := s.toks) (fun _ _ => sortedAll_old) (Nat.le_succ _) (show br X.prog X.w _ _ _ (.lst ((cX ts).map V.str)) from ⟨?_, out.toList, e, sY a1, ?_⟩), rfl, q _ (I.aD.fresh (Nat.le_succ _))⟩
 ·rw [List.length_map, wJ]; simpa using hz
 ·simpa [seqObj] using he
def AV : List V → Hp → VK → Prop := fun xs H Q => ∃ p kvs, ∃ ts : List Str, xs = [.ref p] ∧ H p = some (.dK kvs) ∧ kvs.map (·.1) = ts.map Sum.inr ∧ ts.length < 64 ∧ ∀ l, H l = none → Q (.ref l) (upd H l (.lst ((cX ts).map V.str)))
theorem DX {x : Str} {v : Value} (h : gH (.inr x) v = true) : ∃ t, v = Value.str x t := Value.isStrOf_shape h
theorem Kk (hc : X.calm = true) : bM X (.builtin "sorted") AV := by
 intro pins s σ H xs us Q I r h
 obtain ⟨p, kvs, ts, rfl, hq, hk, h64, q⟩ := h
 obtain ⟨u, rfl, rx⟩ := vals1 r
 cases rx
 obtain ⟨hz, hS, vs, rv, m⟩ : kvs.length ≤ sizeLine ∧ (p == sysModules) = false ∧ ∃ vs, KV kvs vs ∧ s.heap.DictOf (cj X.prog X.w) p vs := I.aD p _ hq
 obtain ⟨ep, hat⟩ := m.dictAt
 have hkl : kvs.length = ts.length := by simpa using congrArg List.length hk
 have hvl : vs.length = ts.length := by rw [← hkl]; simpa using (congrArg List.length rv.keys).symm
 refine Calls.call_function_entry kind_sorted plain_sorted entry_sorted (args_sorted1 _) ?_
 unfold Builtin.«sorted»
 refine wpAny_bind (m := checkCount "sorted" 1 1 _) (wpAny_pure ?_)
 refine wpAny_bind (PySem.W.kdu_collect (A := X.A.in1) (PySem.W.kdl_dict (knd := cj X.prog X.w) (kvs := vs) (ep := ep) hS) (I.ok.hd hc) hat (by rw [hvl, ← hkl]; exact hz) fun h' tk acc hk' de => ?_)
 have hl : acc.toList.length = ts.length := by rw [Array.length_toList, ← hvl]; exact de.1
 have hS' : StrsAre acc.toList ts := by
  have key : ∀ (l : List Value) (us : List Str), l.length = us.length → (∀ (j : Nat) (v : Value) (x : Str), l[j]? = some v → us[j]? = some x → ∃ t, v = Value.str x t) → StrsAre l us := by
   intro l
   induction l with
   | nil => intro us e _; cases us with | nil => exact .nil | cons => cases e
   | cons v l ih =>
    intro us e hh
    cases us with
    | nil => cases e
    | cons x us =>
     obtain ⟨t, rfl⟩ := hh 0 v x rfl rfl
     exact .cons x t (ih us (by simpa using e) fun j v x h1 h2 => hh (j + 1) v x h1 h2)
  refine key _ _ hl fun j v x h1 h2 => ?_
  obtain ⟨k, y, hx, hk1⟩ := de.2 j v (by rw [← Array.getElem?_toList]; exact h1)
  have e1 : (vs.map (·.1))[j]? = some k := by rw [List.getElem?_map, hx]; rfl
  rw [← rv.keys, hk, List.getElem?_map, h2] at e1
  cases e1
  exact DX hk1
 refine wpAny_bind (wpAny_newList ?_ (by rw [hl, ← hkl]; exact hz))
 have hoL : (h'.push (seqObj "list" acc.toList.toArray 0)).get? h'.objs.size = some (seqObj "list" acc.toList.toArray 0) := Heap.get?_push_size _ rfl
 refine wpAny_bind (wpAny_holding (wpAny_call_entry slot_list_sort ⟨_, hoL, rfl⟩ entry_list_sort (list_sort_treeK strKind_oneLt hoL hS'.keysOf (fun v₁ v₂ rest e => keyKind_strs (by rw [← e]; exact hS')) (by rw [hl]; exact h64) fun st' a1 a2 => ⟨_, rfl, ?_⟩) (args_list_sort _)))
 refine wpAny_pure ⟨_, rfl, ?_⟩
 obtain ⟨ss', b1, b2, b3⟩ := sorted_out_str hS' a1 a2
 have e1 : ss' = cX ts := oB b2 (wI _ b3)
 subst e1
 obtain ⟨e, he⟩ := sortedHeap_at (out := (arrOf st').map (·.2)) hoL
 have I1 : Inv X pins σ H { s with heap := h', toks := tk } := I.kept (t' := tk) hk'
 refine ⟨.ref h'.objs.size, _, I1.laid (t' := tk) (fun b o z => ?_) (Nat.le_refl _) (show br X.prog X.w _ _ _ (.lst ((cX ts).map V.str)) from ⟨?_, _, e, sY b1, ?_⟩), rfl, q _ (I1.aD.fresh (Nat.le_refl _))⟩
 ·have hb : b < h'.objs.size := Heap.lt_size z
  rw [sortedHeap_old (Nat.ne_of_lt hb) (by have := Heap.size_push h' (seqObj "list" acc.toList.toArray 0); rw [this]; exact Nat.lt_succ_of_lt hb)]
  exact Heap.get?_push_of_some _ z
 ·rw [List.length_map, wJ, ← hkl]; exact hz
 ·rw [Array.toArray_toList]; exact he
end
end L2
namespace L2
open PySem PySem.Spec PyProof.Rows
end L2
namespace L2
open PySem PySem.Spec PyProof.Rows
section
variable {prog : Program} {w : World} {A : Around} {R : Result → Shared → Prop} {I : Addr} {fp wr : List Addr} {P : Nat → Value → Prop} {St : Nat → Heap → Prop}
theorem KR (a d : Value) : argsOk "min" ⟨[a], [("default", d)]⟩ := by unfold argsOk; kernel_rfl
theorem Eu (W : Walks prog w A.in1 I fp wr 0 P St) {S : Addr} {s : Shared} {c : Nat} {d : Value} (hst : St 0 s.heap)
  (hS : s.heap.get? S = some { cls := .type "list", dict := none, data := .seq #[] c, slots := #[] })
  (hR : ∀ h' tk, (∀ b o, b ∉ wr → s.heap.get? b = some o → h'.get? b = some o) → R (.ok (.ret d)) { s with heap := h', toks := tk }) :
  codeAny (model prog w) A (.builtin "min.loop" ⟨[.ref I, .none, .ref S], [("default", d)]⟩) R s := by
 refine codeAny_builtin F.entry_min_loop ?_
 rw [Around.under_plainId F.plain_min_loop _]
 show wpAny _ A.in1 (seqItems? (.ref S) >>= _) _ _ s
 refine wpAny_bind (wpAny_seqItems hS rfl ?_)
 show wpAny _ A.in1 (tryCatch (pyNext (.ref I)) _ >>= _) _ _ s
 refine wpAny_bind (wpAny_tryCatch (W.done s _ _ hst fun h' tk hk' => ?_))
 exact wpAny_bind (wpAny_rule (wpAny_pure (hR h' tk hk')))
theorem Io (W : Walks prog w A.in1 I fp wr 1 P St) {S : Addr} {s : Shared} {c : Nat} {d : Value} (hSf : S ∉ fp) (hst : St 0 s.heap)
  (hS : s.heap.get? S = some { cls := .type "list", dict := none, data := .seq #[] c, slots := #[] })
  (hR : ∀ v h' tk, P 0 v → (∀ b o, b ∉ wr → b ≠ S → s.heap.get? b = some o → h'.get? b = some o) → R (.ok (.ret v)) { s with heap := h', toks := tk }) :
  codeAny (model prog w) A (.builtin "min.loop" ⟨[.ref I, .none, .ref S], [("default", d)]⟩) R s := by
 have hSw : S ∉ wr := fun h => hSf (W.sub _ h)
 have vQ : (toString "min" ++ toString ".loop" : String) = "min.loop" := by decide
 refine codeAny_builtin F.entry_min_loop ?_
 rw [Around.under_plainId F.plain_min_loop _]
 show wpAny _ A.in1 (seqItems? (.ref S) >>= _) _ _ s
 refine wpAny_bind (wpAny_seqItems hS rfl ?_)
 show wpAny _ A.in1 (tryCatch (pyNext (.ref I)) _ >>= _) _ _ s
 refine wpAny_bind (wpAny_tryCatch (W.item 0 s _ _ (by decide) hst fun v h' tk hP hst' hk' => ?_))
 have hS' := hk' S _ hSw hS
 show wpAny _ A.in1 (updateSeq S (fun _ => #[v, v]) >>= _) _ _ _
 refine wpAny_bind ?_
 refine wpAny_updateSeq hS' rfl ?_
 rw [vQ]
 refine wpAny_pure ⟨plainId_quiet F.plain_min_loop _, ?_⟩
 have key : ∀ (s2 : Shared) (c2 : Nat), St 1 s2.heap → s2.heap.get? S = some { cls := .type "list", dict := none, data := .seq #[v, v] c2, slots := #[] } → (∀ h'' tk'', (∀ b o, b ∉ wr → b ≠ S → s2.heap.get? b = some o → h''.get? b = some o) → R (.ok (.ret v)) { s2 with heap := h'', toks := tk'' }) →
   codeAny (model prog w) A (.builtin "min.loop" ⟨[.ref I, .none, .ref S], [("default", d)]⟩) R s2 := fun s2 c2 st2 hS2 hR2 => by
  refine codeAny_builtin F.entry_min_loop ?_
  rw [Around.under_plainId F.plain_min_loop _]
  show wpAny _ A.in1 (seqItems? (.ref S) >>= _) _ _ s2
  refine wpAny_bind (wpAny_seqItems hS2 rfl ?_)
  show wpAny _ A.in1 (tryCatch (pyNext (.ref I)) _ >>= _) _ _ s2
  refine wpAny_bind (wpAny_tryCatch (W.done s2 _ _ st2 fun h3 tk3 hk3 => ?_))
  have hS3 := hk3 S _ hSw hS2
  show wpAny _ A.in1 (updateSeq S (fun _ => #[]) >>= _) _ _ _
  refine wpAny_bind ?_
  refine wpAny_updateSeq hS3 rfl (wpAny_bind (wpAny_letGo (wpAny_pure ?_)))
  exact hR2 _ tk3 fun b o hbw hbS e => (Heap.get?_update_other _ _ (Ne.symm hbS)).trans (hk3 b o hbw e)
 refine key _ _ (W.frame _ _ _ hst' fun b hbf o e => (Heap.get?_update_other _ _ (fun h : S = b => hSf (by rw [h]; exact hbf))).trans e) (Heap.get?_update_self _ hS' rfl) fun h'' tk'' hk'' => ?_
 exact hR v h'' tk'' hP fun b o hbw hbS e => hk'' b o hbw hbS ((Heap.get?_update_other _ _ (Ne.symm hbS)).trans (hk' b o hbw e))
theorem DK {E : Value → Shared → Prop} {s : Shared} {x d : Value} {Q : Value → Shared → Prop}
  (h : wpAny (model prog w) A.in1 (pyIter x) (fun it s₂ => ∃ I fp wr n P St, it = .ref I ∧ Walks prog w A.in1 I fp wr n P St ∧ St 0 s₂.heap ∧ (∀ b ∈ fp, b < s₂.heap.objs.size) ∧ n ≤ 1 ∧
   ∀ v h' tk, (n = 0 ∧ v = d ∨ n = 1 ∧ P 0 v) → (∀ b o, b ∉ wr → s₂.heap.get? b = some o → h'.get? b = some o) → Q v { s₂ with heap := h', toks := tk }) E s) :
  wpAny (model prog w) A (call (.builtin "min") [x] [("default", d)]) Q E s := by
 have vQ : (toString "min" ++ toString ".loop" : String) = "min.loop" := by decide
 refine wpAny_call (codeAny_call_builtin F.plain_min F.entry_min ?_)
 have BO : wpAny (model prog w) A.in1 (Builtin.«min» ⟨[x], [("default", d)]⟩) (fun fin s' => match fin with
   | .done f => (match (Except.ok f : Result) with | .ok (.ret v) => Q v s' | .ok _ => False | .error e => E e s')
   | .again c' => c'.quiet = true ∧ codeAny (model prog w) A c' (fun r s' => match r with | .ok (.ret v) => Q v s' | .ok _ => False | .error e => E e s') s') E s := by
  show wpAny _ A.in1 (Builtin.Builtins.bindParams "min" ["key", "default"] 0 ⟨[], [("default", d)]⟩ >>= _) _ _ s
  refine wpAny_bind (wpAny_of_eq (show Builtin.Builtins.bindParams "min" ["key", "default"] 0 ⟨[], [("default", d)]⟩ = pure [none, some d] from rfl) ?_)
  refine wpAny_bind (wpAny_pure ?_)
  refine wpAny_bind (wpAny_mono h (fun it s₂ h₂ => ?_) fun _ _ e => e)
  obtain ⟨I, fp, wr, n, P, St, rfl, W, hst, hfp, hn, hQ⟩ := h₂
  refine wpAny_bind (wpAny_newObj_type ?_)
  have hSf : s₂.heap.objs.size ∉ fp := fun hm => Nat.lt_irrefl _ (hfp _ hm)
  rw [vQ]
  refine wpAny_pure ⟨plainId_quiet F.plain_min_loop _, ?_⟩
  have st2 := W.frame _ _ _ hst (fun b _ o e => Heap.get?_push_of_some { cls := .type "list", data := .seq ([] : List Value).toArray } e)
  match n, hn, W, hQ with
  | 0, _, W, hQ =>
   refine Eu W st2 (Heap.get?_push_size _ rfl) fun h' tk hk => ?_
   exact hQ d h' tk (.inl ⟨rfl, rfl⟩) fun b o hbw e => hk b o hbw (Heap.get?_push_of_some _ e)
  | 1, _, W, hQ =>
   refine Io W hSf st2 (Heap.get?_push_size _ rfl) fun v h' tk hP hk => ?_
   exact hQ v h' tk (.inr ⟨rfl, hP⟩) fun b o hbw e => hk b o hbw (Nat.ne_of_lt (Heap.lt_size e)) (Heap.get?_push_of_some _ e)
 have ha := KR x d
 simp only [checkBuiltinCall, F.kind_min]
 cases hsig : Manifest.signature? "min" with
 | none => exact wpAny_pure BO
 | some sig =>
  have ha' : Bind.checkArgs "min" sig ⟨[x], [("default", d)]⟩ = pure () := by simpa only [argsOk, hsig] using ha
  simp only [ha']
  exact wpAny_pure BO
end
end L2
namespace L2
open PySem PySem.Spec PyProof.Rows
def eW (h : Heap) (d : Addr) (es : Array DictEntry) (ep : Nat) : Prop := ∃ o, h.get? d = some o ∧ o.ExactDict ∧ o.data = .dict es ep
theorem eW.at' {h h' : Heap} {d : Addr} {es : Array DictEntry} {ep : Nat} (x : eW h d es ep) (k : ∀ o, h.get? d = some o → h'.get? d = some o) : eW h' d es ep := let ⟨o, e, r⟩ := x; ⟨o, k o e, r⟩
section
variable {prog : Program} {w : World} {A : Around} {E : Value → Shared → Prop} {s : Shared} {es : Array DictEntry}
theorem eW.typeIs {d : Addr} {ep : Nat} (x : eW s.heap d es ep) : s.TypeIs (.ref d) "dict" := let ⟨o, e, c, _⟩ := x; ⟨o, e, c.1⟩
theorem yi {d : Addr} {ep : Nat} {Q : Value → Shared → Prop} (hd : (d == sysModules) = false) (hm : eW s.heap d es ep)
  (hQ : Q (.ref s.heap.objs.size) { s with heap := s.heap.push { cls := .type "dict_keyiterator", data := .fields #[.ref d, .int 0 0, .int es.size 0, .int ep 0] } }) :
  wpAny (model prog w) A (pyIter (.ref d)) Q E s := by
 obtain ⟨o, ho, hc, fU⟩ := id hm
 have hT := hm.typeIs
 refine wpAny_pyIter_slot hT F.slot_dict_iter (wpAny_call_entry F.slot_dict_iter hT F.entry_dict_iter ?_ (F.args_dict_iter_1 _))
 unfold Builtin.«dict.__iter__» Builtin.Dict.dictSlotNone
 refine wpAny_bind (wpAny_bind (wpAny_notOrdered_dict hT ?_))
 show wpAny _ _ (pure (Value.ref d)) _ _ s
 refine wpAny_pure ?_
 show wpAny _ _ (Builtin.Dict.showsAll d >>= _) _ _ s
 unfold Builtin.Dict.showsAll
 rw [if_neg (by rw [hd]; exact Bool.false_ne_true)]
 refine wpAny_bind (wpAny_pure (wpAny_bind (wpAny_dictEntries ho fU (wpAny_bind (wpAny_dictEpoch ho fU ?_)))))
 refine wpAny_bind (wpAny_newObj_type (wpAny_pure ⟨_, rfl, "dict_keyiterator", _, ⟨_, Heap.get?_push_size _ rfl, rfl⟩, F.slot_dict_keyiterator_next.lookup, ?_⟩))
 simpa [rawInt] using hQ
theorem zI {it d : Addr} {i ep : Nat} {Q : Option Value → Shared → Prop} (hit : s.heap.IsKeyIter it d i es.size ep) (hm : eW s.heap d es ep)
  (h1 : ∀ hlt : i < es.size, ∀ h', h'.IsKeyIter it d (i + 1) es.size ep → Heap.SameBut it s.heap h' → Q (some es[i].key) { s with heap := h' })
  (h2 : es.size ≤ i → A.handled = none ∧ ∀ h', Heap.ExtBut it s.heap h' → Q none { s with heap := h' }) :
  wpAny (model prog w) A (pyNext (.ref it)) Q E s := by
 obtain ⟨o, ho, hc, hd⟩ := id hit
 obtain ⟨od, hod, hcd, hdd⟩ := id hm
 unfold pyNext
 refine wpAny_bind (wpAny_attempt (wpAny_callSpecial?_slot (name := Str.ofString "__next__") hit.typeIs F.slot_dict_keyiterator_next
  (wpAny_call_entry F.slot_dict_keyiterator_next hit.typeIs F.entry_dict_keyiterator_next ?_ (F.args_dict_keyiterator_next_1 _))))
 refine wpAny_bind (wpAny_pure (wpAny_bind (wpAny_bind ?_)))
 refine wpAny_bind (wpAny_typeNameOfWhole_keyiter hit.typeIs (wpAny_pure ?_))
 refine wpAny_bind (wpAny_fieldsOf ho hd ?_)
 simp only [show Builtin.Dict_items.ownsTuple "dict_keyiterator" = false by decide, Bool.false_eq_true, if_false]
 show wpAny _ _ (if (Value.ref d == Value.none) = true then _ else _) _ _ s
 rw [if_neg (show ¬ ((Value.ref d == Value.none) = true) from Bool.false_ne_true)]
 refine wpAny_bind (wpAny_pure (wpAny_bind (wpAny_dictEntries hod hdd ?_)))
 rw [if_neg (by simp)]
 refine wpAny_bind (wpAny_pure (wpAny_bind (wpAny_dictEpoch hod hdd ?_)))
 rw [if_neg (by simp)]
 refine wpAny_pure ?_
 rcases Nat.lt_or_ge i es.size with hlt | hge
 ·simp only [show ¬ ((i : Int) < 0) from by omega, if_false, Int.toNat_natCast, Array.getElem?_eq_getElem hlt]
  refine wpAny_bind (wpAny_bind (wpAny_typeNameOfWhole_keyiter hit.typeIs (wpAny_pure ?_)))
  refine wpAny_bind (wpAny_isOneOf_keyiter hit.typeIs ?_)
  show wpAny _ _ (setField (.ref it) 1 (rawInt ((i : Int) + 1)) >>= _) _ _ s
  refine wpAny_bind (wpAny_setField ho hd (by simp) ?_)
  have hit' : (s.heap.update it (Obj.mapFields (·.setIfInBounds 1 (rawInt ((i : Int) + 1))))).IsKeyIter it d (i + 1) es.size ep :=
   ⟨_, Heap.get?_update_self _ ho (Obj.isFreed_of_fields (Obj.data_mapFields hd _)), (Obj.cls_mapFields ..).trans hc, by rw [Obj.data_mapFields hd]; simp [rawInt]⟩
  refine wpAny_bind (wpAny_holding (wpAny_bind (wpAny_isOneOf_keyiter (s := { s with heap := s.heap.update it (Obj.mapFields (·.setIfInBounds 1 (rawInt ((i : Int) + 1)))) }) hit'.typeIs ?_)))
  show wpAny _ _ (pure es[i].key) _ _ _
  exact wpAny_pure (wpAny_pure ⟨_, rfl, wpAny_pure (h1 hlt _ hit' (Heap.SameBut.update ..))⟩)
 ·obtain ⟨hh, hQ⟩ := h2 hge
  simp only [show ¬ ((i : Int) < 0) from by omega, if_false, Int.toNat_natCast, Array.getElem?_eq_none hge]
  refine wpAny_bind (wpAny_bind (wpAny_typeNameOfWhole_keyiter hit.typeIs (wpAny_pure ?_)))
  show wpAny _ _ (setField (.ref it) 0 .none >>= _) _ _ s
  refine wpAny_bind (wpAny_setField ho hd (by simp) ?_)
  show wpAny _ _ (newExc (.type "StopIteration") [] >>= _) _ _ _
  refine wpAny_bind ?_
  simp only [newExc, newTuple]
  refine wpAny_bind (wpAny_newObj_type ?_ (by size_fits))
  refine wpAny_bind (m := firstArgMember _ _) (wpAny_of_eq (a := Value.none) (by first | rfl | (simp only [firstArgMember]; rfl)) ?_)
  refine wpAny_newObj_type ?_ (by size_fits)
  simp only [raiseNew]
  refine wpAny_bind (wpAny_handled ?_)
  rw [show A.in1.handled = none from hh]
  refine wpAny_bind (wpAny_pure (wpAny_throw ?_))
  refine wpAny_bind (wpAny_isInstance (T := "StopIteration") (b := true) ⟨_, Heap.get?_push_size _ rfl, rfl⟩ isSubtype_stop ?_)
  exact wpAny_pure (hQ _ (((Heap.SameBut.update ..).extBut.push _).push _))
theorem zD (hh : A.handled = none) (I d : Addr) (hne : d ≠ I) (es : Array DictEntry) (ep : Nat) :
  Walks prog w A I [I, d] [I] es.size (fun i v => ∃ e, es[i]? = some e ∧ v = e.key) (fun i h => h.IsKeyIter I d i es.size ep ∧ eW h d es ep) where
 sub := fun b hb => by simp at hb; simp [hb]
 frame := fun _ _ _ st hk => ⟨st.1.at fun o e => hk I (by simp) o e, st.2.at' fun o e => hk d (by simp) o e⟩
 item := fun i s Q E hi st hQ => zI st.1 st.2 (fun hlt h' hit' hs' => hQ _ h' s.toks ⟨es[i], by simp [hlt], rfl⟩ ⟨hit', st.2.at' fun o e => hs'.extBut d o hne e⟩ fun b o hb e => hs'.extBut b o (fun h => hb (by simp [h])) e) fun hge => absurd hi (Nat.not_lt.mpr hge)
 done := fun s Q E st hQ => zI st.1 st.2 (fun hlt => absurd hlt (Nat.lt_irrefl _)) fun _ => ⟨hh, fun h' he' => hQ h' s.toks fun b o hb e => he' b o (fun h => hb (by simp [h])) e⟩
 self := fun _ _ _ _ st hQ => wpAny_pyIter_keyiter st.1 hQ
end
end L2
namespace L2
open PySem PySem.Spec PyProof.Rows
section
variable {X : Cx}
def rQ (te : TE) : TE := fun σ H Q => te σ H fun x H1 => ∃ a kvs, x = .ref a ∧ H1 a = some (.dT kvs) ∧ ((kvs = [] ∧ Q .aq H1) ∨ ∃ k v, kvs = [(k, v)] ∧ ∀ p, H1 p = some (.tup (k.map kV)) → Q (.ref p) H1)
theorem J2 {e : Expr} {te : TE} {p p2 p3 pos : Pos} {j : Nat} (hc : X.calm = true) (hg : Gl X "min") (hm : X.mg "min" = none) (he : PE X e te) (hs : starEach [e] X.env = [(false, eval e X.env)] := by rfl) :
  PE X (.Call (.Name "min" p) [e] [⟨some "default", .Constant .none j p2, p3⟩] pos) (rQ te) := by
 intro pins s σ H Q I h
 refine wpAny_Call_Name_kw (gm (u := .builtin "min") I hg hm (by kernel_rfl) ?_)
 refine callWith_kw ?_ (by rw [hs]; rfl) (by rw [hs]; rfl)
 rw [hs]
 show wpAny _ _ (spliced ((false, eval e X.env) :: backTo pos [])) _ _ s
 refine Calls.spliced_cons (aE (he pins s σ H _ I h) fun u s1 ⟨x, H1, I1, rx, a, kvs, ex, hd, q⟩ => Calls.spliced_nil ?_)
 subst ex
 cases (show u = Value.ref a from rx)
 refine kws_cons (Constant_none (kws_nil ?_))
 show wpAny _ _ (call (.builtin "min") [.ref a] [("default", .none)]) _ _ s1
 obtain ⟨hz, hS, xs, hp, o, es, ep, ho, hex, fU, hes, hnd⟩ := id (I1.aD a _ hd)
 refine DK (yi hS ⟨o, ho, hex, fU⟩ ?_)
 have hlt : a < s1.heap.objs.size := Heap.lt_size ho
 have hW := zD (prog := X.prog) (w := X.w) (A := X.A.in1) (I1.ok.hd hc) s1.heap.objs.size a (Nat.ne_of_lt hlt) es ep
 have st0 : (s1.heap.push { cls := .type "dict_keyiterator", data := .fields #[.ref a, .int 0 0, .int es.size 0, .int ep 0] }).IsKeyIter s1.heap.objs.size a 0 es.size ep ∧ eW (s1.heap.push { cls := .type "dict_keyiterator", data := .fields #[.ref a, .int 0 0, .int es.size 0, .int ep 0] }) a es ep :=
  ⟨⟨_, Heap.get?_push_size _ rfl, rfl, rfl⟩, ⟨o, Heap.get?_push_of_some _ ho, hex, fU⟩⟩
 have hfp : ∀ b ∈ [s1.heap.objs.size, a], b < (s1.heap.push { cls := .type "dict_keyiterator", data := .fields #[.ref a, .int 0 0, .int es.size 0, .int ep 0] }).objs.size := fun b hb => by
  rw [Heap.size_push]
  rcases List.mem_cons.mp hb with e | hb
  ·rw [e]; exact Nat.lt_succ_self _
  ·rw [List.mem_singleton.mp hb]; exact Nat.lt_succ_of_lt hlt
 have kp : ∀ h' : Heap, (∀ b o, b ∉ [s1.heap.objs.size] → (s1.heap.push { cls := .type "dict_keyiterator", data := .fields #[.ref a, .int 0 0, .int es.size 0, .int ep 0] }).get? b = some o → h'.get? b = some o) → ∀ b o, s1.heap.get? b = some o → h'.get? b = some o := fun h' k b o e =>
  k b o (fun z => by have z' := List.mem_singleton.mp z; have := Heap.lt_size e; rw [z'] at this; exact Nat.lt_irrefl _ this) (Heap.get?_push_of_some _ e)
 have hsz : es.size = xs.length := by rw [← Array.length_toList, hes, List.length_map]
 refine ⟨_, _, _, _, _, _, rfl, hW, st0, hfp, ?_, fun v h' tk hv hk => ?_⟩
 ·rcases q with ⟨rfl, _⟩ | ⟨k, v, rfl, _⟩
  ·cases hp; rw [hsz]; exact Nat.zero_le _
  ·cases hp with | cons _ t => cases t; rw [hsz]; exact Nat.le_refl _
 ·have I2 : Inv X pins σ H1 { s1 with heap := h', toks := tk } := I1.kept (t' := tk) (kp h' hk)
  rcases q with ⟨rfl, q⟩ | ⟨k, v', rfl, q⟩
  ·cases hp
   rcases hv with ⟨_, rfl⟩ | ⟨h1, _⟩
   ·exact ⟨.aq, H1, I2, rfl, q⟩
   ·rw [hsz] at h1; cases h1
  ·cases hp with
   | @cons _ y _ _ hh t =>
    cases t
    rcases hv with ⟨h1, _⟩ | ⟨_, e, he, rfl⟩
    ·rw [hsz] at h1; cases h1
    ·rw [← Array.getElem?_toList, hes] at he
     cases he
     exact ⟨.ref y.2.1, H1, I2, rfl, q _ hh.2.1⟩
end
end L2
namespace L2
open PySem PySem.Spec PyProof.Rows
theorem bh {f : Str} {v : V} {fs : List (Str × V)} {m : Nat} (h : fs.length ≤ m) : (aa f v fs).length ≤ m + 1 := Nat.le_trans (u5 f v fs) (Nat.succ_le_succ h)
def bQ (fs gs : List (Str × V)) : Prop := ∀ f, fs.lookup f = gs.lookup f
theorem bQ.refl (fs : List (Str × V)) : bQ fs fs := fun _ => rfl
theorem bQ.put {fs gs : List (Str × V)} (h : bQ fs gs) (f : Str) (v : V) : bQ (aa f v fs) (aa f v gs) := fun g => by rw [bS, bS, h g]
section
variable {X : Cx}
theorem JW {pins : List (Addr × Obj)} {σ : St} {H : Hp} {s : Shared} {Q : VK} {p : Addr} (hc : X.calm = true) (I : Inv X pins σ H s) (hd : H p = some (.dT [])) (q : ∀ l, H l = none → Q (.ref l) (upd H l (.lst []))) :
  wpAny (model X.prog X.w) X.A (call (.builtin "sorted") [.ref p]) (EP X pins σ Q) X.xe s := by
 obtain ⟨hz, hS, xs, hp, o, es, ep, ho, hex, fU, hes, hnd⟩ := id (I.aD p _ hd)
 cases hp
 have he : es = #[] := by
  have : es.toList = [] := hes
  exact Array.toList_eq_nil_iff.mp this
 subst he
 have hat : s.heap.DictAt (cj X.prog X.w) p [] ep := ⟨o, #[], ho, hex, fU, fun e z => absurd z (by simp), .nil, .nil⟩
 refine Calls.call_function_entry kind_sorted plain_sorted entry_sorted (args_sorted1 _) ?_
 unfold Builtin.«sorted»
 refine wpAny_bind (m := checkCount "sorted" 1 1 _) (wpAny_pure ?_)
 refine wpAny_bind (PySem.W.kdu_collect (A := X.A.in1) (PySem.W.kdl_dict (knd := cj X.prog X.w) (kvs := []) (ep := ep) hS) (I.ok.hd hc) hat (Nat.zero_le _) fun h' tk acc hk' de => ?_)
 have ha : acc = #[] := Array.eq_empty_of_size_eq_zero de.1
 subst ha
 refine wpAny_bind (wpAny_newList ?_ (Nat.zero_le _))
 have hoL : (h'.push (seqObj "list" ([] : List Value).toArray 0)).get? h'.objs.size = some (seqObj "list" ([] : List Value).toArray 0) := Heap.get?_push_size _ rfl
 refine wpAny_bind (wpAny_holding (wpAny_call_entry slot_list_sort ⟨_, hoL, rfl⟩ entry_list_sort (list_sort_treeK strKind_oneLt (vs := []) hoL (StrsAre.nil).keysOf (fun v₁ v₂ rest e => nomatch e) (by decide) fun st' a1 a2 => ⟨_, rfl, ?_⟩) (args_list_sort _)))
 refine wpAny_pure ⟨_, rfl, ?_⟩
 obtain ⟨e, he⟩ := sortedHeap_at (out := (arrOf st').map (·.2)) hoL
 have hst : arrOf st' = #[] := Array.eq_empty_of_size_eq_zero (a1.size_eq.trans (pairsOf_size []))
 rw [hst, Array.map_empty] at he
 have I1 : Inv X pins σ H { s with heap := h', toks := tk } := I.kept (t' := tk) hk'
 rw [hst, Array.map_empty]
 refine ⟨.ref h'.objs.size, _, I1.laid (t' := tk) (fun b o z => ?_) (Nat.le_refl _) (show br X.prog X.w _ _ _ (.lst []) from ⟨Nat.zero_le _, [], e, .nil, he⟩), rfl, q _ (I1.aD.fresh (Nat.le_refl _))⟩
 have hb : b < h'.objs.size := Heap.lt_size z
 rw [sortedHeap_old (Nat.ne_of_lt hb) (by have := Heap.size_push h' (seqObj "list" ([] : List Value).toArray 0); rw [this]; exact Nat.lt_succ_of_lt hb)]
 exact Heap.get?_push_of_some _ z
def ED (K : PySem.W.Frag) : List V → Hp → VK → Prop := fun xs H Q => zM K xs H Q ∨ AV xs H Q ∨ ∃ p, xs = [.ref p] ∧ H p = some (.dT []) ∧ ∀ l, H l = none → Q (.ref l) (upd H l (.lst []))
theorem D4 {K : PySem.W.Frag} (h : X.K = K) (hc : X.calm = true) : bM X (.builtin "sorted") (ED K) := by
 subst h
 intro pins s σ H xs us Q I r h
 rcases h with h | h | ⟨p, rfl, hd, q⟩
 ·exact Ht pins s σ H xs us Q I r h
 ·exact Kk hc pins s σ H xs us Q I r h
 ·obtain ⟨u, rfl, rx⟩ := vals1 r
  cases rx
  exact JW hc I hd q
theorem Ia : bootBuiltins "sorted" = some (.builtin "sorted") := by kernel_rfl
theorem Dv.minD {e : Expr} {te : TE} {p p2 p3 pos : Pos} {j : Nat} (hc : X.calm = true) (hm : X.mg "min" = none) (he : QE X e te) (hg : Gl X "min" := by rfl) (hs : starEach [e] X.env = [(false, eval e X.env)] := by rfl) :
  QE X (.Call (.Name "min" p) [e] [⟨some "default", .Constant .none j p2, p3⟩] pos) (rQ te) := ⟨J2 hc hg hm he.h hs⟩
end
end L2
namespace L2
open PySem PySem.Spec PyProof.Rows
structure gy (K : PySem.W.Frag) (x qual : Str) (st : Stmt) (f : Addr) (fd : FuncData) (ds : List Value) : Prop where
 ex : ∃ (oc : Value) (od : Option Addr) (dt : Addr) (kV doc pm : Value) (an : Option Addr) (cdv ct : Value) (osl : Array (Option Value)) (o : Obj) (n : Nat),
  fd = PySem.W.fnOf x qual (cB st) (aS st) (aC st) (.ref dt) kV doc pm an cdv ct ∧ K.lookup f = some ⟨oc, od, .func fd, osl⟩ ∧ PySem.W.codeIn K cdv qual = true ∧ K.lookup dt = some o ∧ o.data = .seq ds.toArray n
 kp : PySem.W.keepIn K (.ref f) = true
section
variable {P : Program} {w : World} {K : PySem.W.Frag} {mg : Str → Option Value} {base : Heap} {CX : cv} {x qual : Str} {st : Stmt} {f : Addr} {fd : FuncData} {N ps : List Str} {k : Nat} {ds : List Value}
theorem gy.iY {sp : Sp} (F : gy K x qual st f fd ds) (S : aJ N ps (aC st)) (len : ∀ vs H Q E, sp vs H Q E → vs.length = ps.length)
  (hb : ∀ (cdv : Value) (A : Around) (outer : List Env) (s : Shared) (H : Hp) (vs : List V) (Q : VK) (E : XK), bc k (A.deeper (envOfC qual (aC st) s.heap.objs.size f cdv)) → sp vs H Q E →
   ∃ t, bV (dJ CX P w K mg base N qual (aC st) f cdv A outer s H E) (aS st) t ∧ t { nx := fun _ H' => Q .aq H', rt := Q } (start N vs) H) : aB P w K mg base CX (k + 1) f fd ps sp := by
 obtain ⟨oc, od, dt, kV, doc, pm, an, cdv, ct, osl, o, n, rfl, lk, hcd, _⟩ := F.ex
 exact tR lk hcd S len fun A outer s H vs Q E hr hsp => hb cdv A outer s H vs Q E hr hsp
theorem gy.ok {sp : Sp} (F : gy K x qual st f fd ds) (S : aJ N ps (aC st)) (len : ∀ vs H Q E, sp vs H Q E → vs.length = ps.length)
  (hb : ∀ (cdv : Value) (A : Around) (outer : List Env) (s : Shared) (H : Hp) (vs : List V) (Q : VK) (E : XK), bc k (A.deeper (envOfC qual (aC st) s.heap.objs.size f cdv)) → sp vs H Q E →
   ∃ t, bV (dJ aK P w K mg base N qual (aC st) f cdv A outer s H E).iN (aS st) t ∧ t { nx := fun _ H' => Q .aq H', rt := Q } (start N vs) H) : aB P w K mg base aK (k + 1) f fd ps sp :=
 F.iY S len fun cdv A outer s H vs Q E hr hsp => by
  obtain ⟨t, h, q⟩ := hb cdv A outer s H vs Q E hr hsp
  exact ⟨t, h.iN, q⟩
theorem JO {oc : Value} {od an : Option Addr} {osl : Array (Option Value)} {kV doc pm cdv ct : Value} {dt : Addr} {o : Obj} {n : Nat} (l : K.lookup f = some ⟨oc, od, .func (PySem.W.fnOf x qual (cB st) (aS st) (aC st) (.ref dt) kV doc pm an cdv ct), osl⟩)
  (c : PySem.W.codeIn K cdv qual = true) (k : PySem.W.keepIn K (.ref f) = true) (ld : K.lookup dt = some o) (hd : o.data = .seq ds.toArray n) : gy K x qual st f (PySem.W.fnOf x qual (cB st) (aS st) (aC st) (.ref dt) kV doc pm an cdv ct) ds :=
 ⟨⟨oc, od, dt, kV, doc, pm, an, cdv, ct, osl, o, n, rfl, l, c, ld, hd⟩, k⟩
end
section
variable {X : Cx}
end
end L2
namespace L2
open PySem PySem.Spec PyProof.Rows
theorem c8 {X : Cx} : ie X (fun _ => E0) where
 pass := fun pins σ H s e s' I hc => by
  obtain ⟨ea, C, od, H', rfl, F, hE⟩ := hc
  exact hE.elim
section
variable {X : Cx}
end
end L2
namespace L2
open PySem PySem.Spec PyProof.Rows
end L2
namespace L2
open PySem PySem.Spec PyProof.Rows
section
variable {X : Cx}
def Gr (K : PySem.W.Frag) (neg : Bool) : R2 := fun x y H Q => match x, y with
 | .ref a, .ref b => ∃ xs ys : List V, aL K H a xs ∧ aL K H b ys ∧ ((ys = [] ∧ Q (.bl (neg ^^ xs.isEmpty)) H) ∨ (xs = [] ∧ Q (.bl (neg ^^ ys.isEmpty)) H))
 | _, _ => False
def qr : V → List V → Hp → VK → Prop := fun x vs H Q => match x, vs with
 | .ref l, [] => ∃ xs y, H l = some (.lst (xs ++ [y])) ∧ Q y (upd H l (.lst xs))
 | _, _ => False
theorem Eg : ck X "list.pop" qr := ck.imp (r := xi) DH fun x vs H Q h => by
 unfold qr at h
 split at h
 ·obtain ⟨xs, y, hl, q⟩ := h
  refine ⟨_, xs ++ [y], y, rfl, rfl, hl, ?_, ?_⟩
  ·simp
  ·rw [List.dropLast_concat]; exact q
 ·exact h.elim
def JT : V → List V → Hp → VK → Prop := fun x vs H Q => match x, vs with
 | .ref l, [] => ∃ xs, H l = some (.lst xs) ∧ Q .aq (upd H l (.lst []))
 | _, _ => False
def F9 : List V → Hp → VK → Prop := fun xs H Q => ∃ p kvs, xs = [.ref p] ∧ H p = some (.dT kvs) ∧ ∀ l (ks : List Addr), ks.length = kvs.length → (∀ (i : Nat) (a : Addr) (k : List Key) (v : V), ks[i]? = some a → kvs[i]? = some (k, v) → H a = some (.tup (k.map kV))) → H l = none →
 Q (.ref l) (upd H l (.lst (ks.map V.ref)))
end
end L2
namespace L2
open PySem PySem.Spec PyProof.Rows
theorem EO {prog : Program} {w : World} {d : Addr} {es : Array DictEntry} {ep : Nat} (lo : (d == sysModules) = false) : PySem.W.KdlSrc prog w "dict" d d es.size (fun i v => ∃ e, es[i]? = some e ∧ v = e.key) (fun h => eW h d es ep) where
 type := fun _ hm => hm.typeIs
 there := fun _ hm => let ⟨_, e, _⟩ := hm; ⟨Heap.lt_size e, Heap.lt_size e⟩
 keep := fun _ _ hm hk => hm.at' fun o e => hk d (.inl rfl) o e
 notList := by decide
 notTuple := by decide
 hint := fun _ _ _ _ hm hq => PySem.W.kdl_hint_dict hm.typeIs hq
 iter := fun _ _ hh hm => ⟨_, _, (fun _ _ hq => yi lo hm hq), zD hh _ d (let ⟨_, e, _⟩ := hm; Nat.ne_of_lt (Heap.lt_size e)) es ep, ⟨⟨_, Heap.get?_push_size _ rfl, rfl, rfl⟩, hm.at' fun o e => Heap.get?_push_of_some _ e⟩⟩
theorem yt {α β : Type} {F : α → β → Prop} : ∀ {l₁ : List α} {l₂ : List β}, Paired F l₁ l₂ → ∀ {i : Nat} {a : α} {b : β}, l₁[i]? = some a → l₂[i]? = some b → F a b
 | _, _, .cons h _, 0, _, _, e1, e2 => by cases e1; cases e2; exact h
 | _, _, .cons _ t, i + 1, _, _, e1, e2 => yt t e1 e2
section
variable {X : Cx}
theorem ql : ∀ {vs : List V} {us : List Value}, vs.length = us.length → (∀ (i : Nat) (v : V) (u : Value), vs[i]? = some v → us[i]? = some u → RelV v u) → Vals vs us
 | [], [], _, _ => .nil
 | v :: vs, u :: us, e, h => .cons (h 0 v u rfl rfl) (ql (by simpa using e) fun i v u h1 h2 => h (i + 1) v u h1 h2)
theorem Ko (hc : X.calm = true) : bM X (.type "list") F9 := by
 intro pins s σ H xs us Q I r h
 obtain ⟨p, kvs, rfl, hd, q⟩ := h
 obtain ⟨u, rfl, rx⟩ := vals1 r
 cases rx
 obtain ⟨hz, hS, ys, hp, o, es, ep, ho, hex, fU, hes, hnd⟩ := id (I.aD p _ hd)
 have hsz : es.size = ys.length := by rw [← Array.length_toList, hes, List.length_map]
 have hlk : kvs.length = ys.length := hp.length
 refine PySem.W.kdl_call (EO (prog := X.prog) (w := X.w) (ep := ep) (es := es) hS) (I.ok.hd hc) ⟨o, ho, hex, fU⟩ (by rw [hsz, ← hlk]; exact hz) fun h' tk acc c hk hD de => ?_
 have hal : acc.toList.length = ys.length := by rw [Array.length_toList, de.1, hsz]
 have hv : Vals ((ys.map (·.2.1)).map V.ref) acc.toList := by
  refine ql (by simp [hal]) fun i v u h1 h2 => ?_
  obtain ⟨e, he, rfl⟩ := de.2 i u (by rw [← Array.getElem?_toList]; exact h2)
  rw [← Array.getElem?_toList, hes, List.getElem?_map] at he
  rw [List.map_map, List.getElem?_map] at h1
  cases hy : ys[i]? with
  | none => rw [hy] at h1; cases h1
  | some y =>
   rw [hy] at h1 he
   cases h1; cases he
   exact rfl
 refine ⟨.ref s.heap.objs.size, _, I.laid (t' := tk) hk (Nat.le_refl _) (show br X.prog X.w _ _ _ (.lst ((ys.map (·.2.1)).map V.ref)) from ⟨?_, _, c, hv, ?_⟩), rfl, q _ (ys.map (·.2.1)) ?_ (fun i a k v h1 h2 => ?_) (I.aD.fresh (Nat.le_refl _))⟩
 ·simp only [List.length_map]; rw [← hlk]; exact hz
 ·rw [Array.toArray_toList]; exact hD
 ·rw [List.length_map, hlk]
 ·rw [List.getElem?_map] at h1
  cases hy : ys[i]? with
  | none => rw [hy] at h1; cases h1
  | some y =>
   rw [hy] at h1
   cases h1
   have z := yt hp h2 hy
   exact z.2.1
end
end L2
namespace L2
open PySem PySem.Spec PyProof.Rows
theorem FF : typeLookup (.type "list_reverseiterator") "__len__" = pure none := by rw [typeLookup_type, builtinLookup_eq_fast]; kernel_rfl
theorem Gk : typeLookup (.type "list_reverseiterator") "__length_hint__" = pure (some (.builtin "list_reverseiterator.__length_hint__")) := by rw [typeLookup_type, builtinLookup_eq_fast]; kernel_rfl
section
variable {prog : Program} {w : World} {A : Around} {E : Value → Shared → Prop} {s : Shared} {I : Addr}
theorem FY {Q : Bool → Shared → Prop} (hT : s.TypeIs (.ref I) "list_reverseiterator") (h : Q false s) : wpAny (model prog w) A (Builtin.List.listLengthHint (.ref I)) Q E s := by
 unfold Builtin.List.listLengthHint
 refine wpAny_bind (wpAny_specialOf hT FF ?_)
 show wpAny _ A (specialOf (Value.ref I) (Str.ofString "__length_hint__") >>= _) _ _ _
 refine wpAny_bind (wpAny_specialOf hT Gk ?_)
 generalize hid : ("list_reverseiterator.__length_hint__" : String) = id0
 wp_delta
 rw [show splitId id0 = some ("list_reverseiterator", "__length_hint__") from by subst hid; decide +kernel]
 subst hid
 refine wpAny_bind (wpAny_isInstance (T := "list_reverseiterator") (b := true) hT (by rw [isSubtype_type]; kernel_rfl) ?_)
 refine wpAny_ite_split (fun hab => absurd hab (by decide)) (fun _ => ?_)
 refine wpAny_ite_split (fun _ => ?_) (fun hab => absurd (by decide +kernel) hab)
 refine wpAny_ite_split (fun hab => absurd hab (by decide +kernel)) (fun _ => ?_)
 exact wpAny_pure h
theorem DP {R : Result → Shared → Prop} {l S : Addr} {items : Array Value} {res : Value} {c₀ : Nat} (hh : A.handled = none) (hit : s.heap.IsRevIter I l ((items.size : Int) - 1)) (hl : s.heap.IsList l items) (hne : l ≠ I) (hSI : S ≠ I) (hSl : S ≠ l) (hn : items.size ≤ sizeLine)
  (hS : s.heap.get? S = some { cls := .type "list", data := .seq #[] c₀ })
  (hR : ∀ h' tk acc' c', (∀ b o, b ≠ S → b ≠ I → s.heap.get? b = some o → h'.get? b = some o) → h'.get? S = some { cls := .type "list", dict := none, data := .seq acc' c', slots := #[] } → ItemsOf (fun i v => items[items.size - 1 - i]? = some v) acc' items.size → R (.ok (.ret res)) { s with heap := h', toks := tk }) :
  wpAny (model prog w) A.in1 (Builtin.List.listExtendWith (.ref S) (.ref I) res)
   (fun fin s' => match fin with | .done f => R (.ok f) s' | .again c' => c'.quiet = true ∧ codeAny (model prog w) A c' R s') (fun e s' => R (.error e) s') s := by
 have W := Walks.listRev (prog := prog) (w := w) (A := A.in1) hh I l hne items
 have hSf : S ∉ [I, l] := by simp only [List.mem_cons, List.not_mem_nil, or_false, not_or]; exact ⟨hSI, hSl⟩
 have st0 : 0 ≤ items.size ∧ s.heap.IsRevIter I l ((items.size : Int) - 1 - ((0 : Nat) : Int)) ∧ s.heap.IsList l items := ⟨Nat.zero_le _, by simpa using hit, hl⟩
 unfold Builtin.List.listExtendWith
 refine wpAny_bind (wpAny_typeOf hit.typeIs ?_)
 have h1 : Builtin.List.listSameRef (.ref S) (.ref I) = false := by simp [Builtin.List.listSameRef, hSI]
 simp only [h1, show (Value.type "list_reverseiterator" == Value.type "list") = false by decide, show (Value.type "list_reverseiterator" == Value.type "tuple") = false by decide, Bool.or_false, Bool.false_eq_true, if_false]
 refine wpAny_bind (W.self 0 _ _ _ st0 ?_)
 refine wpAny_bind (wpAny_holding (FY hit.typeIs ?_))
 refine wpAny_ite_split (fun h => absurd h (by decide)) (fun _ => wpAny_pure ⟨plainId_quiet PySem.F.plain_extend_loop _, ?_⟩)
 refine codeAny_extend_loopS W.toS hn S hSf res items.size 0 _ #[] c₀ rfl (Nat.zero_le _) st0 hS (ItemsOf.nil _) fun s' acc' c' hm hS' de => ?_
 rw [Moved.eq_with hm]
 refine hR s'.heap s'.toks acc' c' (fun b o hb hb' e => hm.heap b o (fun fT => ?_) e) hS' de
 rcases List.mem_cons.mp fT with e' | fT
 ·exact hb e'
 ·exact hb' (List.mem_singleton.mp fT)
theorem Dw {Q : Value → Shared → Prop} {l : Addr} {items : Array Value} (hh : A.handled = none) (hit : s.heap.IsRevIter I l ((items.size : Int) - 1)) (hl : s.heap.IsList l items) (hne : l ≠ I) (hn : items.size ≤ sizeLine)
  (hQ : ∀ h' tk acc' c', (∀ b o, b ≠ I → s.heap.get? b = some o → h'.get? b = some o) → h'.get? s.heap.objs.size = some { cls := .type "list", dict := none, data := .seq acc' c', slots := #[] } → ItemsOf (fun i v => items[items.size - 1 - i]? = some v) acc' items.size →
   Q (.ref s.heap.objs.size) { s with heap := h', toks := tk }) : wpAny (model prog w) A (call (.type "list") [.ref I]) Q E s := by
 have hIlt : I < s.heap.objs.size := let ⟨_, e, _⟩ := hit; Heap.lt_size e
 have hllt : l < s.heap.objs.size := let ⟨_, e, _⟩ := hl; Heap.lt_size e
 refine callType_codes (Q₁ := fun obj s₁ => obj = .ref s.heap.objs.size ∧ s₁ = { s with heap := s.heap.push { cls := .type "list", data := .seq #[] } }) PySem.F.called_list (PySem.F.typeCall_list_1 _) PySem.F.entry_list_init
  (code_list_new _ ⟨rfl, rfl⟩) fun obj s₁ h₁ => ?_
 obtain ⟨rfl, rfl⟩ := h₁
 have hS : (s.heap.push { cls := .type "list", data := .seq #[] }).get? s.heap.objs.size = some { cls := .type "list", data := .seq #[] } := Heap.get?_push_size _ rfl
 refine ⟨⟨_, hS, rfl⟩, PySem.F.args_list_init_2 _ _, ?_⟩
 show wpAny _ _ (do let old ← Builtin.List.listItems (.ref s.heap.objs.size); Builtin.List.listUpdate (.ref s.heap.objs.size) (fun _ => #[]); letGo old.toList.reverse; Builtin.List.listExtendWith (.ref s.heap.objs.size) (.ref I) .none) _ _ _
 refine wpAny_bind ?_
 unfold Builtin.List.listItems
 refine wpAny_bind (wpAny_seqItems hS rfl (wpAny_pure ?_))
 show wpAny _ _ (updateSeq s.heap.objs.size (fun _ => #[]) >>= fun _ => letGo (#[] : Array Value).toList.reverse >>= fun _ => Builtin.List.listExtendWith (.ref s.heap.objs.size) (.ref I) .none) _ _ _
 refine wpAny_bind (wpAny_updateSeq hS rfl ?_)
 have hS₂ := Heap.get?_update_self (Obj.mapSeq (fun _ => (#[] : Array Value))) hS rfl
 have oth : ∀ b o, s.heap.get? b = some o → ((s.heap.push { cls := .type "list", data := .seq #[] }).update s.heap.objs.size (Obj.mapSeq (fun _ => (#[] : Array Value)))).get? b = some o :=
  fun b o e => (Heap.get?_update_other _ _ (Nat.ne_of_gt (Heap.lt_size e))).trans (Heap.get?_push_of_some _ e)
 refine wpAny_bind (wpAny_letGo ?_)
 refine DP (A := A.in1) hh (hit.at fun o e => oth _ o e) (hl.at fun o e => oth _ o e) hne (Nat.ne_of_gt hIlt) (Nat.ne_of_gt hllt) hn hS₂ fun h' tk acc' c' hk hS' de => ?_
 exact ⟨rfl, hQ h' tk acc' c' (fun b o hb e => hk b o (Nat.ne_of_lt (Heap.lt_size e)) hb (oth b o e)) hS' de⟩
end
end L2
namespace L2
open PySem PySem.Spec PyProof.Rows
section
variable {X : Cx}
def ya (K : PySem.W.Frag) (te : TE) : TE := fun σ H Q => te σ H fun x H1 => ∃ p ys, x = .ref p ∧ aL K H1 p ys ∧ ∀ l, H1 l = none → Q (.ref l) (upd H1 l (.lst ys.reverse))
theorem Dy {e : Expr} {te : TE} {p q pos qos : Pos} (hc : X.calm = true) (hg : Gl X "list") (hm : X.mg "list" = none) (hg2 : Gl X "reversed") (hm2 : X.mg "reversed" = none) (he : PE X e te) (hs : starEach [e] X.env = [(false, eval e X.env)] := by rfl) :
  PE X (.Call (.Name "list" p) [.Call (.Name "reversed" q) [e] [] qos] [] pos) (ya X.K te) := by
 intro pins s σ H Q I h
 refine wpAny_Call_Name_kw (gm (u := .type "list") I hg hm (by kernel_rfl) ?_)
 refine PyProof.Rows.callWith_type1 ?_
 show wpAny _ _ (spliced ((false, eval (.Call (.Name "reversed" q) [e] [] qos) X.env) :: backTo pos (starEach [] X.env))) _ _ s
 refine Calls.spliced_cons ?_
 refine wpAny_Call_Name_kw (gm (u := .type "reversed") I hg2 hm2 (by kernel_rfl) ?_)
 refine PyProof.Rows.callWith_type1 ?_ (by rw [hs]; rfl) (by rfl)
 rw [hs]
 show wpAny _ _ (spliced ((false, eval e X.env) :: backTo qos [])) _ _ s
 refine Calls.spliced_cons (aE (he pins s σ H _ I h) fun u s1 ⟨x, H1, I1, rx, a, ys, ex, hl, q⟩ => Calls.spliced_nil ?_)
 subst ex
 cases (show u = Value.ref a from rx)
 obtain ⟨its, r', pl, hz⟩ := I1.list hl
 have hlen := r'.length
 obtain ⟨oa, hoa, _⟩ := pl.isList
 have halt : a < s1.heap.objs.size := Heap.lt_size hoa
 refine call_reversed_list pl.isList ?_
 refine Calls.spliced_nil ?_
 refine Dw (I1.ok.hd hc) (l := a) (items := its.toArray) ⟨_, Heap.get?_push_size _ rfl, rfl, rfl⟩ (pl.isList.at fun o e => Heap.get?_push_of_some _ e) (Nat.ne_of_lt halt) (by rw [List.size_toArray, ← hlen]; exact hz) fun h' tk acc c hk hD de => ?_
 have kp : ∀ b o, s1.heap.get? b = some o → h'.get? b = some o := fun b o e => hk b o (Nat.ne_of_lt (Heap.lt_size e)) (Heap.get?_push_of_some _ e)
 have hsz : s1.heap.objs.size ≤ (s1.heap.push (revObj a ((its.toArray.size : Int) - 1))).objs.size := by rw [Heap.size_push]; exact Nat.le_succ _
 have hv : Vals ys.reverse acc.toList := by
  have ha : acc.size = its.length := by rw [de.1, List.size_toArray]
  refine ql (by rw [List.length_reverse, hlen, ← ha]; exact Array.length_toList.symm) fun i v u h1 h2 => ?_
  have hu := de.2 i u (by rw [← Array.getElem?_toList]; exact h2)
  have hi : i < ys.length := by have := (List.getElem?_eq_some_iff.mp h1).1; rwa [List.length_reverse] at this
  rw [List.getElem?_reverse hi] at h1
  obtain ⟨w, hw, rw'⟩ := r'.get h1
  rw [List.getElem?_toArray, List.size_toArray, ← hlen, hw] at hu
  cases hu
  exact rw'
 refine ⟨.ref _, _, I1.laid (t' := tk) kp hsz (show br X.prog X.w _ _ _ (.lst ys.reverse) from ⟨by rw [List.length_reverse]; exact hz, _, c, hv, by rw [Array.toArray_toList]; exact hD⟩), rfl, q _ (I1.aD.fresh hsz)⟩
theorem Dv.listRev {e : Expr} {te : TE} {p q pos qos : Pos} {K : PySem.W.Frag} (hK : X.K = K) (hc : X.calm = true) (hm : X.mg "list" = none) (hm2 : X.mg "reversed" = none) (he : QE X e te) (hg : Gl X "list" := by rfl) (hg2 : Gl X "reversed" := by rfl) (hs : starEach [e] X.env = [(false, eval e X.env)] := by rfl) :
  QE X (.Call (.Name "list" p) [.Call (.Name "reversed" q) [e] [] qos] [] pos) (ya K te) := hK ▸ ⟨Dy hc hg hm hg2 hm2 he.h hs⟩
end
end L2
namespace L2
open PySem PySem.Spec PyProof.Rows
end L2
namespace L2
open PySem PySem.Spec PyProof.Rows
end L2
namespace L2
open PySem PySem.Spec PyProof.Rows
structure Lr (X : Cx) (scope : Scope) (cl : List (Str × Addr)) (Bm : List Str) (ix : List Nat) : Prop where
 Ls : closureFor scope X.env = pure cl
 sub : ∀ x c, cl.lookup x = some c → X.env.cells.lookup x = some c
 has : ∀ y, ((relabel scope X.env).names.lookup y = some .cell ∨ (relabel scope X.env).names.lookup y = some .free) → ∃ c, cl.lookup y = some c
 len : ix.length = Bm.length
 at' : ∀ (i j : Nat), ix[i]? = some j → ∃ x, Bm[i]? = some x ∧ X.N[j]? = some x ∧ X.env.scope.names.lookup x = some .cell ∧ (relabel scope X.env).names.lookup x = some .cell ∧ cl.lookup x = X.env.cells.lookup x
section
variable {X : Cx}
end
namespace Dv
section
variable {X : Cx}
end
end Dv
section
variable {X : Cx}
def Co : R2 := fun x y H Q => match x, y with
 | .ref a, .ref b => ∃ ts us : List Str, H a = some (.tup (ts.map V.str)) ∧ H b = some (.tup (us.map V.str)) ∧ ts.length = us.length ∧ Q (.bl (!decide (ts = us))) H
 | _, _ => False
end
end L2
namespace L2
open PySem PySem.Spec PyProof.Rows
theorem cC {f : Str} {v u : V} : ∀ {fs : List (Str × V)}, fs.lookup f = some u → (aa f v fs).length = fs.length
 | (g, x) :: r, h => by
  rw [show aa f v ((g, x) :: r) = (if g = f then (g, v) :: r else (g, x) :: aa f v r) from rfl]
  by_cases e : g = f
  ·rw [if_pos e]; rfl
  ·rw [if_neg e]
   have hb : (f == g) = false := beq_eq_false_iff_ne.mpr (Ne.symm e)
   have h' : r.lookup f = some u := by simpa [List.lookup, hb] using h
   rw [List.length_cons, cC h']; rfl
def tT (r : V → List V → Hp → VK → Prop) (to : TE) : TE := fun σ H Q => to σ H fun x H1 => match x with
 | .ref l => (match H1 l with
  | some (.lst _) => r (.ref l) [] H1 Q
  | _ => False)
 | _ => False
section
variable {X : Cx} {name : Str} {id : String} {r : V → List V → Hp → VK → Prop} {o : Expr} {to : TE} {apos bb : Pos}
theorem Ja (slot : Slot "list" name id) (hty : typeOf (.builtin id) = pure (.type "method_descriptor")) (hm : ck X id r) (ho : PE X o to)
  (eA : attributeBase o name X.env (eval o X.env) = eval o X.env := by rfl) (eB : (apos.endLine == bb.line) = true := by rfl) : PE X (.Call (.Attribute o name apos) [] [] bb) (tT r to) := by
 intro pins s σ H Q I h
 refine wpAny_Call_method0_late eA eB (aE (ho pins s σ H _ I h) fun v s1 ⟨x, H1, I1, r1, q1⟩ => ?_)
 dsimp only at q1
 split at q1
 ·rename_i l
  split at q1
  ·rename_i zs el
   obtain ⟨h1, h2⟩ := p4 (T := "list") I1 r1 (.inl ⟨rfl, zs, aL.of el⟩)
   exact ⟨"list", id, PySem.F.plainAttrs_list, slot, hty, h1, h2, Calls.callWith_builtin rfl (PySem.evalArgs_none (hm pins s1 σ H1 (.ref l) [] v [] Q I1 r1 .nil q1))⟩
  ·exact q1.elim
 ·exact q1.elim
theorem Dv.GJ (slot : Slot "list" name id) (hty : typeOf (.builtin id) = pure (.type "method_descriptor")) (hm : ck X id r) (ho : QE X o to)
  (eA : attributeBase o name X.env (eval o X.env) = eval o X.env := by rfl) (eB : (apos.endLine == bb.line) = true := by rfl) : QE X (.Call (.Attribute o name apos) [] [] bb) (tT r to) := ⟨Ja slot hty hm ho.h eA eB⟩
end
theorem ax.dk {H H1 : Hp} {l : Addr} {o : HO} (s : ax H H1) (hl : H l = none) : ax H (L2.upd H1 l o) := fun b u e => by
 rw [ah (fun z => by rw [z, hl] at e; cases e)]; exact s b u e
def C3 : R2 := fun x y H Q => match x, y with
 | .str i, .str j => Q (.bl (!(!(Builtin.Str.occurrences j i 0 j.length 1).isEmpty))) H
 | _, _ => False
end L2
namespace L2
open PySem PySem.Spec PyProof.Rows
section
variable {X : Cx}
def FE (K : PySem.W.Frag) (n : Nat) (t : d9) : TG := fun v σ H Q => ∃ a xs, v = .ref a ∧ aL K H a xs ∧ xs.length = n ∧ t xs σ H Q
def uE : List V → Hp → VK → Prop := fun xs H Q => match xs with
 | [.bl b] => Q (.int (if b then 1 else 0)) H
 | _ => False
theorem ym : bM X (.type "int") uE := by
 intro pins s σ H xs us Q I r h
 unfold uE at h
 split at h
 ·rename_i b
  obtain ⟨u, rfl, rx⟩ := vals1 r
  cases rx
  exact call_int_bool ⟨.int (if b then 1 else 0), H, I.tok _, ⟨_, rfl⟩, h⟩
 ·exact h.elim
def o6 : R2 := fun x y H Q => match x, y with
 | .ref a, .ref b => ∃ xs ys : List V, H a = some (.tup xs) ∧ H b = some (.tup ys) ∧ xs.length = ys.length ∧ xs.all cb = true ∧ ys.all cb = true ∧ (∀ i (h1 : i < xs.length) (h2 : i < ys.length), c9 xs[i] ys[i] = true) ∧ Q (.bl false) H
 | _, _ => False
theorem Fc (hu : X.A.units < cLine) : aQ X (compareOp .NotEq) o6 := by
 intro pins s σ H x y v u Q I rx ry h
 unfold o6 at h
 split at h
 ·obtain ⟨xs, ys, ha, hb, hl, f1, f2, he, q⟩ := h
  cases rx; cases ry
  obtain ⟨i1, r1, t1, _⟩ := I.tuple (bY.of ha)
  obtain ⟨i2, r2, t2, _⟩ := I.tuple (bY.of hb)
  have n1 := r1.length
  have n2 := r2.length
  have key := SeqAt.RcNeAt.tuples (A := X.A) (s := s) (e := fun _ => true) t1 t2 hu (fun j g1 g2 => by
   have j1 : j < xs.length := by rw [n1]; simpa using g1
   have j2 : j < ys.length := by rw [n2]; simpa using g2
   obtain ⟨u1, e1, ru1⟩ := r1.get (List.getElem?_eq_getElem j1)
   obtain ⟨u2, e2, ru2⟩ := r2.get (List.getElem?_eq_getElem j2)
   have w1 : i1.toArray[j] = u1 := by
    have := (List.getElem?_eq_some_iff.mp e1).2
    simpa using this
   have w2 : i2.toArray[j] = u2 := by
    have := (List.getElem?_eq_some_iff.mp e2).2
    simpa using this
   rw [w1, w2]
   have := yY (A := X.A.in1) (s := s) ru1 ru2 (List.all_eq_true.mp f1 _ (List.getElem_mem j1)) (List.all_eq_true.mp f2 _ (List.getElem_mem j2))
   rw [he j j1 j2] at this
   exact this)
  refine key _ _ _ _ ⟨.bl _, H, I, rfl, ?_⟩
  have e : (!((List.range (min i1.toArray.size i2.toArray.size)).all (fun _ => true) && i1.toArray.size == i2.toArray.size)) = false := by
   have : i1.toArray.size = i2.toArray.size := by simp only [List.size_toArray]; omega
   rw [this, beq_self_eq_true]
   simp
  rw [e]
  exact q
 ·exact h.elim
end
def uK (K : PySem.W.Frag) : R2 := fun x y H Q => match y with
 | .ref p => ∃ xs, (aL K H p xs ∨ bY K H p xs) ∧ cb x = true ∧ xs.all cb = true ∧ Q (.bl (!cW x xs)) H
 | _ => False
theorem qz {X : Cx} {K : PySem.W.Frag} (h : X.K = K) : aQ X (compareOp .NotIn) (uK K) := h ▸ Fp.imp fun x y H Q z => by
 unfold uK at z
 split at z
 ·obtain ⟨xs, z1, z2, z3, z4⟩ := z
  exact ⟨_, xs, rfl, z1, z2, z3, z4⟩
 ·exact z.elim
end L2
namespace L2
open PySem PySem.Spec PyProof.Rows
structure FT (K : PySem.W.Frag) (mg : Str → Option Value) (x y : Str) (st : Stmt) (ps : List Str) where
 f : Addr
 d : FuncData
 F : eR K x y st f d
 m : mg x = some (.ref f)
 b : Binds K d ps []
structure MT (K : PySem.W.Frag) (C : Addr) (x y : Str) (st : Stmt) (ps : List Str) where
 f : Addr
 d : FuncData
 F : eR K x y st f d
 h : Meth K C x f
 b : Binds K d ps []
def FA (K : PySem.W.Frag) (x y : Str) (st : Stmt) : Prop := ∃ (f : Addr) (oc : Value) (od : Option Addr) (kV dc pm : Value) (an : Option Addr) (cd ct : Value) (sl : Array (Option Value)),
 PySem.W.nsIn K mainGlobals x = some (some (.ref f)) ∧ K.lookup f = some ⟨oc, od, .func (PySem.W.fnOf x y (cB st) (aS st) (aC st) .none kV dc pm an cd ct), sl⟩ ∧ PySem.W.codeIn K cd y = true ∧ PySem.W.keepIn K (.ref f) = true
def MA (K : PySem.W.Frag) (C : Addr) (x y : Str) (st : Stmt) : Prop := ∃ (f : Addr) (oc : Value) (od : Option Addr) (kV dc pm : Value) (an : Option Addr) (cd ct : Value) (sl : Array (Option Value)),
 PySem.W.findIn K (.ref C) x = some (some (.ref f)) ∧ K.lookup f = some ⟨oc, od, .func (PySem.W.fnOf x y (cB st) (aS st) (aC st) .none kV dc pm an cd ct), sl⟩ ∧ PySem.W.codeIn K cd y = true ∧ PySem.W.keepIn K (.ref f) = true ∧ PySem.W.isFn K (.ref f) = true
section
variable {K : PySem.W.Frag} {mg : Str → Option Value} {h : Heap} {C : Addr} {x y : Str} {st : Stmt} {ps : List Str}
theorem FA.ft (X : K.In h) (G : h.Ns mainGlobals mg) (ps : List Str) (hb : ∀ (kV dc pm : Value) (an : Option Addr) (cd ct : Value) (us : List Value), us.length = ps.length → bindArgs (PySem.W.fnOf x y (cB st) (aS st) (aC st) .none kV dc pm an cd ct) ⟨us, []⟩ = pure (ps.zip us)) (a : FA K x y st) : Nonempty (FT K mg x y st ps) := by
 obtain ⟨f, oc, od, kV, dc, pm, an, cd, ct, sl, n, l, c, k⟩ := a
 have F := uo (st := st) l c k
 exact ⟨⟨f, _, F, PySem.W.mg_of X G n, F.binds hb⟩⟩
theorem MA.ft (ps : List Str) (hb : ∀ (kV dc pm : Value) (an : Option Addr) (cd ct : Value) (us : List Value), us.length = ps.length → bindArgs (PySem.W.fnOf x y (cB st) (aS st) (aC st) .none kV dc pm an cd ct) ⟨us, []⟩ = pure (ps.zip us)) (a : MA K C x y st) : Nonempty (MT K C x y st ps) := by
 obtain ⟨f, oc, od, kV, dc, pm, an, cd, ct, sl, n, l, c, k, t⟩ := a
 have F := uo (st := st) l c k
 exact ⟨⟨f, _, F, ⟨n, t, k⟩, F.binds hb⟩⟩
end
end L2
namespace L2
open PySem PySem.Spec PyProof.Rows
section
variable {K : PySem.W.Frag} {mg : Str → Option Value} {h : Heap} {C : Addr} {x y : Str} {st : Stmt} {ps : List Str}
theorem FA.mk {f : Addr} {oc : Value} {od : Option Addr} {kV dc pm : Value} {an : Option Addr} {cd ct : Value} {sl : Array (Option Value)} (n : PySem.W.nsIn K mainGlobals x = some (some (.ref f))) (l : K.lookup f = some ⟨oc, od, .func (PySem.W.fnOf x y (cB st) (aS st) (aC st) .none kV dc pm an cd ct), sl⟩) (c : PySem.W.codeIn K cd y = true) (k : PySem.W.keepIn K (.ref f) = true) : FA K x y st := ⟨_, _, _, _, _, _, _, _, _, _, n, l, c, k⟩
theorem MA.mk {f : Addr} {oc : Value} {od : Option Addr} {kV dc pm : Value} {an : Option Addr} {cd ct : Value} {sl : Array (Option Value)} (n : PySem.W.findIn K (.ref C) x = some (some (.ref f))) (l : K.lookup f = some ⟨oc, od, .func (PySem.W.fnOf x y (cB st) (aS st) (aC st) .none kV dc pm an cd ct), sl⟩) (c : PySem.W.codeIn K cd y = true) (k : PySem.W.keepIn K (.ref f) = true) (t : PySem.W.isFn K (.ref f) = true) : MA K C x y st := ⟨_, _, _, _, _, _, _, _, _, _, n, l, c, k, t⟩
theorem FA.gt (X : K.In h) (G : h.Ns mainGlobals mg) (hb : ∀ (kV dc pm : Value) (an : Option Addr) (cd ct : Value) (us : List Value), us.length = ps.length → bindArgs (PySem.W.fnOf x y (cB st) (aS st) (aC st) .none kV dc pm an cd ct) ⟨us, []⟩ = pure (ps.zip us)) (a : FA K x y st) : Nonempty (FT K mg x y st ps) := FA.ft X G ps hb a
theorem MA.gt (hb : ∀ (kV dc pm : Value) (an : Option Addr) (cd ct : Value) (us : List Value), us.length = ps.length → bindArgs (PySem.W.fnOf x y (cB st) (aS st) (aC st) .none kV dc pm an cd ct) ⟨us, []⟩ = pure (ps.zip us)) (a : MA K C x y st) : Nonempty (MT K C x y st ps) := MA.ft ps hb a
theorem K8 {M : MT K C "__init__" y st ps} (a : PySem.W.makesIn K C = true) (b : PySem.W.keepIn K (.ref C) = true) : Mk K C M.f := ⟨a, M.h.at_, M.h.fn, b⟩
theorem gG {dt : Addr} {kV doc pm cdv ct : Value} {an : Option Addr} {o : Obj} {n : Nat} {ds : List Value} (j : Nat) (ld : K.lookup dt = some o) (hd : o.data = .seq ds.toArray n)
  (h : ∀ (dt : Addr) (kV doc pm : Value) (an : Option Addr) (cdv ct : Value) (us : List Value), (us ++ ds.drop j).length = ps.length →
   ∃ k, bindArgs (PySem.W.fnOf x y (cB st) (aS st) (aC st) (.ref dt) kV doc pm an cdv ct) ⟨us, []⟩ = seqItems? (.ref dt) >>= k ∧ k (some ds.toArray) = pure (ps.zip (us ++ ds.drop j))) :
  Binds K (PySem.W.fnOf x y (cB st) (aS st) (aC st) (.ref dt) kV doc pm an cdv ct) ps (ds.drop j) := by
 intro s us X hl
 obtain ⟨k, h1, h2⟩ := h dt kV doc pm an cdv ct us hl
 exact BindsTo.of_defaults rfl (X _ _ ld) hd h1 h2
end
end L2
namespace L2
open PySem PySem.Spec PyProof.Rows
def nt (lo c : Int) (n : Nat) : It := ⟨fun i _ => i < n, fun i H x H' => H' = H ∧ x = .int (lo + (i : Int) * c), fun i _ => n ≤ i⟩
theorem EG {P : Program} {w : World} {K : PySem.W.Frag} {tg : Expr} (it : Addr) (lo c : Int) (n : Nat) : Turn P w K tg (nt lo c n) [it] it (fun i h => IsRangeIter h it (lo + (i : Nat) * c) ((n : Int) - (i : Nat)) c) where
 mem := by simp
 obj := fun i h st b hb => by
  have e : b = it := by simpa using hb
  subst e
  exact ⟨_, st, fun v z => by
   have z' : Data.fields _ = Data.cell v := z
   cases z'⟩
 keep := fun i h h' st k => k it (by simp) _ st
 item := by
  intro X hP hw hK hc i pins s σ H E I hf st hg
  subst hP hw hK
  obtain ⟨f0, f1, f2, f3, f4, f5⟩ := hf it (by simp)
  have W := Walks.range (prog := X.prog) (w := X.w) (I.ok.hd hc) it lo c n
  refine W.item i s _ _ hg st fun v h' tk hv st' kk => ?_
  obtain ⟨t, rfl⟩ := hv
  have I1 : Inv X pins σ H { s with heap := h', toks := tk } := I.turned (fun b o hb e => kk b o (by simpa using hb) e) f0 f1 f3 f4 f5
  exact ⟨_, rfl, mz (s := { s with heap := h', toks := tk }) (n := "range_iterator") st' rfl rfl (by decide) ⟨.int (lo + i * c), H, I1, ⟨t, rfl⟩, ⟨rfl, rfl⟩, st', fun b hb => (hf b hb).1⟩⟩
 done := by
  intro X hP hw hK hc i pins s σ H E I hf st hg
  subst hP hw hK
  obtain ⟨f0, f1, f2, f3, f4, f5⟩ := hf it (by simp)
  exact wpAny_pyNext_range_end (I.ok.hd hc) st (by have : n ≤ i := hg; omega) fun h' eb => ⟨rfl, I.turned (t' := s.toks) (fun b o hb e => eb b o hb e) f0 f1 f3 f4 f5⟩
 self := fun _ _ _ _ _ st h => wpAny_pyIter_rangeiter st h
section
variable {X : Cx} {tg : Expr}
theorem CC {pins : List (Addr × Obj)} {σ : St} {H : Hp} {s : Shared} {R : It → Hp → Prop} {E : Value → Shared → Prop} {lo hi c : Int} {t u v : Tok} {tk n : Nat} (I : Inv X pins σ H s) (hsm : Builtin.Range.small lo hi c = true) (hn : (n : Int) = Builtin.Range.rangeSize lo hi c)
  (q : R (nt lo c n) H) : wpAny (model X.prog X.w) X.A (pyIter (.ref s.heap.objs.size)) (rN X pins σ tg R) E { s with heap := s.heap.push { cls := .type "range", data := .fields #[.int lo t, .int hi u, .int c v] }, toks := tk } := by
 refine wpAny_pyIter_range (IsRange.new ..) hsm ?_
 have I1 : Inv X pins σ H { s with heap := s.heap.push { cls := .type "range", data := .fields #[.int lo t, .int hi u, .int c v] }, toks := tk } := I.kept fun b o e => Heap.get?_push_of_some _ e
 refine ⟨(s.heap.push { cls := .type "range", data := .fields #[.int lo t, .int hi u, .int c v] }).objs.size, [(s.heap.push { cls := .type "range", data := .fields #[.int lo t, .int hi u, .int c v] }).objs.size], _, _, H, rfl,
  I1.kept (t' := tk) fun b o e => Heap.get?_push_of_some _ e, EG _ lo c n, ?_, fun b hb => ?_, q⟩
 ·have e1 : lo + ((0 : Nat) : Int) * c = lo := by simp
  have e2 : ((n : Nat) : Int) - ((0 : Nat) : Int) = Builtin.Range.rangeSize lo hi c := by rw [← hn]; omega
  show IsRangeIter _ _ (lo + ((0 : Nat) : Int) * c) (((n : Nat) : Int) - ((0 : Nat) : Int)) c
  rw [e1, e2]
  exact Heap.get?_push_size _ rfl
 ·have e : b = (s.heap.push { cls := .type "range", data := .fields #[.int lo t, .int hi u, .int c v] }).objs.size := by simpa using hb
  subst e
  exact I1.mM (Nat.le_refl _) (I1.aD.fresh (Nat.le_refl _))
def yD (ta : TA) : TI := fun σ H R => ta σ H fun vs H1 => ∃ (i j c : Int) (n : Nat), vs = [.int i, .int j, .int c] ∧ c ≠ 0 ∧ Builtin.divisionGoesByPylong (j - i) c = false ∧ Builtin.Range.small i j c = true ∧ (n : Int) = Builtin.Range.rangeSize i j c ∧ R (nt i c n) H1
theorem Ib {a b d : Expr} {ta : TA} {p pos : Pos} (hg : Gl X "range") (hm : X.mg "range" = none) (ha : PA X [a, b, d] ta) (hs : noStar a = true) (hs2 : noStar b = true) (hs3 : noStar d = true) :
  PI X tg (.Call (.Name "range" p) [a, b, d] [] pos) (yD ta) := by
 intro pins s σ H R I h
 have e3 : starEach [d] X.env = [(false, eval d X.env)] := cJ hs3
 have e2 : starEach [b, d] X.env = (false, eval b X.env) :: starEach [d] X.env := by first | exact star_cons hs2 | (revert hs2; cases b <;> intro hs2 <;> first | rfl | cases hs2)
 have e1 : starEach [a, b, d] X.env = (false, eval a X.env) :: starEach [b, d] X.env := by first | exact star_cons hs | (revert hs; cases a <;> intro hs <;> first | rfl | cases hs)
 refine Call_ (gm I hg hm boot_range (PyProof.Rows.callWith_type1 (aE (ha pos pins s σ H _ I h) fun us s1 ⟨vs, H1, I1, r1, q1⟩ => ?_) e1 (by rw [e2, e3]; rfl)))
 obtain ⟨i, j, c, n, e, hc, hpy, hsm, hn, q⟩ := q1
 subst e
 cases r1 with
 | cons r rr =>
  cases rr with
  | cons r' rr =>
   cases rr with
   | cons r'' rr =>
    cases rr
    obtain ⟨t, rfl⟩ := r
    obtain ⟨t', rfl⟩ := r'
    obtain ⟨t'', rfl⟩ := r''
    exact call_range_3 hc (CC I1 hsm hn q) (.inl hpy)
end
theorem Dv.Eo {X : Cx} {tg a b d : Expr} {pos : Pos} {ta : TA} {p : Pos} (hm : X.mg "range" = none) (ha : QA X [a, b, d] ta) (hg : Gl X "range" := by rfl) (hs : noStar a = true := by rfl) (hs2 : noStar b = true := by rfl) (hs3 : noStar d = true := by rfl) : QI X tg (.Call (.Name "range" p) [a, b, d] [] pos) (yD ta) := ⟨Ib hg hm ha.h hs hs2 hs3⟩
theorem D3 {lo c : Int} {n : Nat} {g : TG} {tb : TS} {D : Ends} {σ : St} {H : Hp} (Pv : Nat → St → Hp → Prop) (h0 : Pv 0 σ H)
  (hs : ∀ i σ H, i < n → Pv i σ H → g (.int (lo + (i : Int) * c)) σ H fun σ2 H2 => tb { D with nx := Pv (i + 1), ct := Pv (i + 1), bk := D.nx } σ2 H2) (hd : ∀ σ H, Pv n σ H → D.nx σ H) : nu (nt lo c n) g tb D σ H :=
 ⟨fun i m σ H => Pv i σ H ∧ i ≤ n ∧ m = n - i, ⟨n, h0, Nat.zero_le _, rfl⟩, fun i m σ H ⟨h, hi, hm⟩ =>
  if e : i < n then .inr ⟨e, Pv (i + 1), fun σ' H' z => ⟨n - (i + 1), by omega, z, e, rfl⟩, fun x H' z => by obtain ⟨rfl, rfl⟩ := z; exact hs i σ _ e h⟩
  else .inl ⟨by show n ≤ i; omega, hd σ H (by rw [show n = i by omega]; exact h)⟩⟩
end L2
set_option maxHeartbeats 1000000
namespace L2.aV
open PySem PySem.Spec PyProof.Rows
local macro_rules | `(tactic| walk_at "s") => `(tactic| exact ⟨rfl, rfl, rfl, by decide +kernel, rfl, by decide +kernel, by decide +kernel⟩)
def top (i : Nat) : Stmt := PySem.Challenge.pw_leadnames_k22_a_deep_house.main.body.getD i (.Pass ⟨0, 0, 0, 0⟩)
abbrev zt : Stmt := top 2
abbrev A9 : Stmt := top 3
abbrev yV : Stmt := top 4
abbrev sQ : Stmt := top 5
abbrev rM : Stmt := top 6
abbrev rn : Stmt := top 7
abbrev wO : Stmt := top 25
abbrev yb : Stmt := top 26
abbrev xP : Stmt := top 27
abbrev yX : Stmt := top 28
abbrev AN : Stmt := top 29
abbrev yg : Stmt := top 30
abbrev zi : Stmt := top 31
abbrev xU : Stmt := top 32
abbrev su : Stmt := top 48
abbrev uR : Stmt := top 50
abbrev ur : Stmt := top 51
abbrev kR : Stmt := top 52
abbrev kY : Stmt := top 53
abbrev pe : Stmt := top 56
abbrev qH : Stmt := top 57
abbrev rf : Stmt := top 58
abbrev rZ : Stmt := top 59
abbrev yW : Stmt := top 60
abbrev uq : Stmt := top 61
abbrev oX : Stmt := top 62
abbrev qb : Stmt := top 63
abbrev o9 : Stmt := top 64
abbrev pP : Stmt := top 65
abbrev ud : Stmt := top 66
abbrev qQ : Stmt := top 67
abbrev iZ : Stmt := top 68
abbrev pL : Stmt := top 70
abbrev pW : Stmt := top 71
abbrev r0 : Stmt := top 72
abbrev tD : Stmt := top 73
abbrev vf : Stmt := top 74
abbrev yv : Stmt := top 76
abbrev AE : Stmt := top 77
abbrev wG : Stmt := top 78
abbrev rq : Stmt := top 79
abbrev pb : Stmt := top 80
abbrev vb : Stmt := top 81
abbrev tM : Stmt := top 82
theorem HW : aJ ["house", "folder"] ["house", "folder"] (aC zt) := by walk_at "s"
theorem u4 : aJ ["house", "folder", "base"] ["house", "folder"] (aC A9) := by walk_at "s"
theorem Bh : aJ ["house", "folder", "stack"] ["house", "folder"] (aC yV) := by walk_at "s"
theorem gI : aJ ["house", "asker", "folder", "root", "here", "stack", "place"] ["house", "asker", "folder"] (aC sQ) := by walk_at "s"
theorem jP : aJ ["house", "number", "place", "upmost", "tree"] ["house", "number"] (aC rM) := by walk_at "s"
theorem oE : aJ ["house", "one", "other", "here", "place"] ["house", "one", "other"] (aC rn) := by walk_at "s"
theorem Cs : aJ ["number"] ["number"] (aC wO) := by walk_at "s"
theorem Dz : aJ ["text"] ["text"] (aC yb) := by walk_at "s"
theorem KC : aJ ["text"] ["text"] (aC xP) := by walk_at "s"
theorem FZ : aJ ["text"] ["text"] (aC yX) := by walk_at "s"
theorem wR : aJ ["path", "parts"] ["path"] (aC AN) := by walk_at "s"
theorem HF : aJ ["text"] ["text"] (aC yg) := by walk_at "s"
theorem Ju : aJ ["text"] ["text"] (aC zi) := by walk_at "s"
theorem Cj : aJ ["text"] ["text"] (aC xU) := by walk_at "s"
theorem iX : aJ ["house", "asker", "folder", "root", "names", "stack", "place"] ["house", "asker", "folder"] (aC su) := by walk_at "s"
theorem zh : aJ ["house", "asker", "from_root", "parts", "last", "ended"] ["house", "asker", "from_root", "parts", "last"] (aC uR) := by walk_at "s"
theorem w9 : aJ ["house", "asker", "path", "last", "read"] ["house", "asker", "path", "last"] (aC ur) := by walk_at "s"
theorem D9 : aJ ["house", "asker", "path", "last"] ["house", "asker", "path", "last"] (aC kR) := by walk_at "s"
theorem Iz : aJ ["house", "asker", "path", "last"] ["house", "asker", "path", "last"] (aC kY) := by walk_at "s"
theorem xT : aJ ["path", "parts"] ["path"] (aC pe) := by walk_at "s"
theorem qy : aJ ["house", "asker", "path", "asked", "ended"] ["house", "asker", "path"] (aC qH) := by walk_at "s"
theorem Jj : aJ ["house", "seat"] ["house", "seat"] (aC rf) := by walk_at "s"
theorem JQ : aJ ["told"] ["told"] (aC rZ) := by walk_at "s"
theorem Jb : aJ ["house", "number"] ["house", "number"] (aC yW) := by walk_at "s"
theorem Ec : aJ ["house", "asker", "path"] ["house", "asker", "path"] (aC uq) := by walk_at "s"
theorem Af : aJ ["house", "asker", "path", "number"] ["house", "asker", "path"] (aC oX) := by walk_at "s"
theorem E4 : aJ ["house", "asker", "number", "right", "reason"] ["house", "asker", "number", "right", "reason"] (aC qb) := by walk_at "s"
theorem DM : aJ ["house", "asker", "folder"] ["house", "asker", "folder"] (aC o9) := by walk_at "s"
theorem FJ : aJ ["house", "seat"] ["house", "seat"] (aC pP) := by walk_at "s"
theorem yj : aJ ["house", "asker", "path", "seat"] ["house", "asker", "path"] (aC ud) := by walk_at "s"
theorem Ki : aJ ["house", "seat", "number"] ["house", "seat", "number"] (aC qQ) := by walk_at "s"
theorem AQ : aJ ["house", "asker", "path", "mine", "rest", "seat"] ["house", "asker", "path", "mine", "rest"] (aC iZ) := by walk_at "s"
theorem GL : aJ ["house", "asker", "tree"] ["house", "asker", "tree"] (aC pL) := by walk_at "s"
theorem A7 : aJ ["house", "asker", "tree", "path", "folder"] ["house", "asker", "tree", "path"] (aC pW) := by walk_at "s"
theorem nU : aJ ["house", "tree", "other", "here", "folder"] ["house", "tree", "other"] (aC r0) := by walk_at "s"
theorem K6 : aJ ["house", "asker", "path"] ["house", "asker", "path"] (aC tD) := by walk_at "s"
theorem zr : aJ ["house", "asker", "path", "folder"] ["house", "asker", "path"] (aC vf) := by walk_at "s"
theorem IE : aJ ["_law_script", "_law_k"] ["_law_script", "_law_k"] (aC yv) := by walk_at "s"
theorem rG : aJ ["_law_cell", "_law_k", "_law_number"] ["_law_cell", "_law_k"] (aC AE) := by walk_at "s"
theorem kC : aJ ["_law_cell", "_law_many", "_law_found", "_law_left", "_law_k"] ["_law_cell", "_law_many"] (aC wG) := by walk_at "s"
theorem Ax : aJ ["_law_digit", "_law_some"] ["_law_digit"] (aC rq) := by walk_at "s"
theorem lr : aJ ["_law_house", "_law_script", "_law_many", "_law_at", "_law_digits_here", "_law_names", "_law_numbers", "_law_k"] ["_law_house", "_law_script", "_law_many", "_law_at"] (aC pb) := by walk_at "s"
theorem y4 : aJ ["_law_house", "_law_asker", "_law_way", "_law_number", "_law_many", "_law_told"] ["_law_house", "_law_asker", "_law_way", "_law_number", "_law_many"] (aC vb) := by walk_at "s"
theorem d6 : aJ ["_law_script", "_law_house", "_law_many", "_law_at", "_law_deep", "_law_names", "_law_numbers", "_law_way", "_law_k", "_law_told"] ["_law_script"] (aC tM) := by walk_at "s"
abbrev yK : Stmt := inClass (top 36) 0
theorem CZ : aJ ["self", "number", "kind", "owner", "mine", "rest", "text"] ["self", "number", "kind", "owner", "mine", "rest", "text"] (aC yK) := by walk_at "s"
abbrev yH : Stmt := inClass (top 36) 1
theorem Jg : aJ ["self", "asker"] ["self", "asker"] (aC yH) := by walk_at "s"
abbrev A3 : Stmt := inClass (top 37) 0
theorem Le : aJ ["self"] ["self"] (aC A3) := by walk_at "s"
abbrev zx : Stmt := inClass (top 37) 1
theorem Bg : aJ ["self", "kind", "owner", "mine", "rest", "text", "number"] ["self", "kind", "owner", "mine", "rest", "text"] (aC zx) := by walk_at "s"
abbrev xu : Stmt := inClass (top 37) 2
theorem Jl : aJ ["self", "owner", "mine", "rest"] ["self", "owner", "mine", "rest"] (aC xu) := by walk_at "s"
abbrev KJ : Stmt := inClass (top 37) 5
abbrev xj : Stmt := inClass (top 37) 6
theorem D7 : aJ ["self", "number"] ["self", "number"] (aC xj) := by walk_at "s"
abbrev yf : Stmt := inClass (top 37) 7
theorem Lj : aJ ["self", "folder", "name"] ["self", "folder", "name"] (aC yf) := by walk_at "s"
abbrev wY : Stmt := inClass (top 37) 10
theorem Cr : aJ ["self", "number"] ["self", "number"] (aC wY) := by walk_at "s"
abbrev zj : Stmt := inClass (top 37) 13
theorem m9 : aJ ["self", "folder", "name", "number", "thing", "former", "known"] ["self", "folder", "name", "number"] (aC zj) := by walk_at "s"
abbrev Ar : Stmt := inClass (top 37) 14
theorem ye : aJ ["self", "folder", "name", "number"] ["self", "folder", "name"] (aC Ar) := by walk_at "s"
abbrev As : Stmt := inClass (top 40) 0
theorem Kd : aJ ["self", "owner"] ["self", "owner"] (aC As) := by walk_at "s"
abbrev yF : Stmt := inClass (top 40) 1
theorem Hn : aJ ["self", "name"] ["self", "name"] (aC yF) := by walk_at "s"
abbrev xo : Stmt := inClass (top 40) 3
theorem Ea : aJ ["self"] ["self"] (aC xo) := by walk_at "s"
abbrev wV : Stmt := inClass (top 40) 4
theorem CJ : aJ ["self", "asker"] ["self", "asker"] (aC wV) := by walk_at "s"
abbrev zk : Stmt := inClass (top 40) 5
theorem K0 : aJ ["self", "asker"] ["self", "asker"] (aC zk) := by walk_at "s"
abbrev yI : Stmt := inClass (top 40) 6
theorem He : aJ ["self", "number"] ["self", "number"] (aC yI) := by walk_at "s"
abbrev Ky : Stmt := inClass (top 40) 9
abbrev Be : Stmt := inClass (top 40) 10
theorem DR : aJ ["self", "number", "name"] ["self", "number", "name"] (aC Be) := by walk_at "s"
abbrev yQ : Stmt := inClass (top 40) 13
theorem Cv : aJ ["self", "number"] ["self", "number"] (aC yQ) := by walk_at "s"
abbrev xO : Stmt := inClass (top 40) 15
theorem J5 : aJ ["self", "tree"] ["self", "tree"] (aC xO) := by walk_at "s"
abbrev wL : Stmt := inClass (top 40) 16
theorem FX : aJ ["self", "tree"] ["self", "tree"] (aC wL) := by walk_at "s"
abbrev AW : Stmt := inClass (top 40) 17
theorem HG : aJ ["self", "asker", "number", "right"] ["self", "asker", "number", "right"] (aC AW) := by walk_at "s"
abbrev Aa : Stmt := inClass (top 40) 23
theorem Hx : aJ ["self", "asker"] ["self", "asker"] (aC Aa) := by walk_at "s"
abbrev zB : Stmt := inClass (top 40) 24
theorem Gb : aJ ["self", "tree"] ["self", "tree"] (aC zB) := by walk_at "s"
abbrev zF : Stmt := inClass (top 40) 25
theorem HL : aJ ["self", "number"] ["self", "number"] (aC zF) := by walk_at "s"
abbrev y3 : Stmt := inClass (top 40) 26
theorem JV : aJ ["self", "name"] ["self", "name"] (aC y3) := by walk_at "s"
abbrev zq : Stmt := inClass (top 40) 27
theorem Hm : aJ ["self", "asker", "folder"] ["self", "asker", "folder"] (aC zq) := by walk_at "s"
abbrev yT : Stmt := inClass (top 40) 28
theorem KA : aJ ["self", "asker", "folder"] ["self", "asker", "folder"] (aC yT) := by walk_at "s"
abbrev wN : Stmt := inClass (top 40) 29
theorem nv : aJ ["self", "tree", "owner", "root"] ["self", "tree", "owner"] (aC wN) := by walk_at "s"
abbrev uO : Stmt := inClass (top 40) 30
theorem x5 : aJ ["self", "tree", "folder", "root"] ["self", "tree", "folder"] (aC uO) := by walk_at "s"
abbrev yc : Stmt := inClass (top 44) 0
theorem JG : aJ ["self", "number", "way"] ["self", "number", "way"] (aC yc) := by walk_at "s"
abbrev tq : Stmt := inClass (top 47) 0
theorem Kt : aJ ["self", "house", "asker", "last"] ["self", "house", "asker", "last"] (aC tq) := by walk_at "s"
abbrev qg : Stmt := inClass (top 47) 1
theorem Bf : aJ ["self", "from_root", "parts", "start"] ["self", "from_root", "parts"] (aC qg) := by walk_at "s"
abbrev sZ : Stmt := inClass (top 47) 2
theorem z0 : aJ ["self", "part"] ["self"] (aC sZ) := by walk_at "s"
abbrev u6 : Stmt := inClass (top 47) 4
theorem Ge : aJ ["self", "part"] ["self", "part"] (aC u6) := by walk_at "s"
abbrev rl : Stmt := inClass (top 47) 5
theorem x8 : aJ ["self", "stack"] ["self"] (aC rl) := by walk_at "s"
abbrev qd : Stmt := inClass (top 47) 6
theorem ra : aJ ["self", "name", "number", "kind"] ["self", "name"] (aC qd) := by walk_at "s"
abbrev pS : Stmt := inClass (top 47) 9
theorem sG : aJ ["self", "names", "folder"] ["self"] (aC pS) := by walk_at "s"
abbrev AZ : Stmt := inClass (top 55) 0
theorem DJ : aJ ["self", "folder", "name"] ["self", "folder", "name"] (aC AZ) := by walk_at "s"
set_option genInjectivity false in
set_option genSizeOfSpec false in
structure Tx (K : PySem.W.Frag) (mg : Str → Option Value) where
 fM : FT K mg "top_of" "top_of" zt ["house", "folder"]
 jL : FT K mg "base_of" "base_of" A9 ["house", "folder"]
 bW : FT K mg "stack_of" "stack_of" yV ["house", "folder"]
 dM : FT K mg "is_seen" "is_seen" sQ ["house", "asker", "folder"]
 dX : FT K mg "tree_of" "tree_of" rM ["house", "number"]
 iD : FT K mg "is_below" "is_below" rn ["house", "one", "other"]
 fj : FT K mg "is_whole" "is_whole" wO ["number"]
 dN : FT K mg "is_name" "is_name" yb ["text"]
 iG : FT K mg "is_rights" "is_rights" xP ["text"]
 iC : FT K mg "is_part" "is_part" yX ["text"]
 cx : FT K mg "parts_of" "parts_of" AN ["path"]
 cO : FT K mg "check_name" "check_name" yg ["text"]
 fB : FT K mg "check_rights" "check_rights" zi ["text"]
 iV : FT K mg "check_one_right" "check_one_right" xU ["text"]
 iE : FT K mg "names_to" "names_to" su ["house", "asker", "folder"]
 fI : FT K mg "walk_parts" "walk_parts" uR ["house", "asker", "from_root", "parts", "last"]
 fF : FT K mg "walk_path" "walk_path" ur ["house", "asker", "path", "last"]
 {wg : Addr}
 {oR : FuncData}
 iQ : gy K "walk" "walk" kR wg oR [.bool true]
 si : mg "walk" = some (.ref wg)
 xk : Binds K oR ["house", "asker", "path", "last"] []
 kf : Binds K oR ["house", "asker", "path", "last"] [.bool true]
 {vo : Addr}
 {oU : FuncData}
 mQ : gy K "asked_of" "asked_of" kY vo oU [.bool true]
 Gv : mg "asked_of" = some (.ref vo)
 Ag : Binds K oU ["house", "asker", "path", "last"] []
 qa : Binds K oU ["house", "asker", "path", "last"] [.bool true]
 iH : FT K mg "check_seat" "check_seat" pe ["path"]
 jG : FT K mg "seat_of" "seat_of" qH ["house", "asker", "path"]
 jH : FT K mg "thing_at" "thing_at" rf ["house", "seat"]
 fv : FT K mg "number_found" "number_found" rZ ["told"]
 jb : FT K mg "is_folder" "is_folder" yW ["house", "number"]
 jN : FT K mg "find_any" "find_any" uq ["house", "asker", "path"]
 dP : FT K mg "find_folder" "find_folder" oX ["house", "asker", "path"]
 iz : FT K mg "check_may" "check_may" qb ["house", "asker", "number", "right", "reason"]
 ff : FT K mg "check_kept" "check_kept" o9 ["house", "asker", "folder"]
 jr : FT K mg "check_free" "check_free" pP ["house", "seat"]
 jk : FT K mg "free_seat_of" "free_seat_of" ud ["house", "asker", "path"]
 jE : FT K mg "seat_thing" "seat_thing" qQ ["house", "seat", "number"]
 {vz : Addr}
 {l8 : FuncData}
 {BC : Tok}
 {vM : Tok}
 n6 : gy K "make_folder" "make_folder" iZ vz l8 [.str "lgw" BC, .str "" vM]
 Lb : mg "make_folder" = some (.ref vz)
 vh : Binds K l8 ["house", "asker", "path", "mine", "rest"] []
 zp : Binds K l8 ["house", "asker", "path", "mine", "rest"] [.str "" vM]
 xN : Binds K l8 ["house", "asker", "path", "mine", "rest"] [.str "lgw" BC, .str "" vM]
 jA : FT K mg "make_tree" "make_tree" pL ["house", "asker", "tree"]
 iA : FT K mg "hang" "hang" pW ["house", "asker", "tree", "path"]
 jw : FT K mg "rests_upon" "rests_upon" r0 ["house", "tree", "other"]
 jM : FT K mg "stand" "stand" tD ["house", "asker", "path"]
 iK : FT K mg "set_root" "set_root" vf ["house", "asker", "path"]
 cw : FT K mg "_law_cell_at" "_law_cell_at" yv ["_law_script", "_law_k"]
 jt : FT K mg "_law_mixed" "_law_mixed" AE ["_law_cell", "_law_k"]
 jq : FT K mg "_law_digits" "_law_digits" wG ["_law_cell", "_law_many"]
 jm : FT K mg "_law_name" "_law_name" rq ["_law_digit"]
 jo : FT K mg "_law_row" "_law_row" pb ["_law_house", "_law_script", "_law_many", "_law_at"]
 fc : FT K mg "_law_one" "_law_one" vb ["_law_house", "_law_asker", "_law_way", "_law_number", "_law_many"]
 {mh : Addr}
 {oO : FuncData}
 mV : eR K "law" "law" tM mh oO
 HQ : mg "law" = some (.ref mh)
 yO : Binds K oO ["_law_script"] []
 {wq : Addr}
 I0 : mg "DOTS" = some (.ref wq)
 uU : ∀ H : Hp, bY K H wq [.str ".", .str ".."]
 {t_FILE : Tok}
 Kz : mg "FILE" = some (.str "file" t_FILE)
 {t_FIRST_TREE : Tok}
 zO : mg "FIRST_TREE" = some (.str "main" t_FIRST_TREE)
 {t_FOLDER : Tok}
 kT : mg "FOLDER" = some (.str "folder" t_FOLDER)
 {bH : Addr}
 oA : mg "Found" = some (.ref bH)
 {aj : Addr}
 Dd : mg "House" = some (.ref aj)
 {t_LETTERS : Tok}
 Gh : mg "LETTERS" = some (.str "abcdefghijklmnopqrstuvwxyz" t_LETTERS)
 {t_MOST_IN_NAME : Tok}
 Fb : mg "MOST_IN_NAME" = some (.int 8 t_MOST_IN_NAME)
 {t_MOST_IN_PATH : Tok}
 C4 : mg "MOST_IN_PATH" = some (.int 2000 t_MOST_IN_PATH)
 {jR : Addr}
 GP : mg "NoAsker" = some (.ref jR)
 {mq : Addr}
 IW : mg "NoRights" = some (.ref mq)
 {jX : Addr}
 ID : mg "NoThing" = some (.ref jX)
 {vq : Addr}
 G7 : mg "RIGHTS" = some (.ref vq)
 tL : ∀ H : Hp, bY K H vq [.str "", .str "l", .str "g", .str "w", .str "lg", .str "lw", .str "gw", .str "lgw"]
 {vT : Addr}
 J3 : mg "SINGLE_RIGHTS" = some (.ref vT)
 uP : ∀ H : Hp, bY K H vT [.str "l", .str "g", .str "w"]
 {dY : Addr}
 Ds : mg "Seat" = some (.ref dY)
 {aA : Addr}
 Gf : mg "Thing" = some (.ref aA)
 {ay : Addr}
 DC : mg "Things" = some (.ref ay)
 {aR : Addr}
 Gi : mg "Walk" = some (.ref aR)
 Au : mg "all" = none
 g_bool : mg "bool" = none
 rH : mg "int" = none
 ei : mg "isinstance" = none
 iB : mg "len" = none
 qY : mg "list" = none
 Hv : mg "min" = none
 pE : mg "range" = none
 Bd : mg "reversed" = none
 GI : mg "sorted" = none
 jl : mg "str" = none
 ki : MT K aA "__init__" "Thing.__init__" yK ["self", "number", "kind", "owner", "mine", "rest", "text"]
 lb : MT K aA "rights_for" "Thing.rights_for" yH ["self", "asker"]
 lP : MT K ay "__init__" "Things.__init__" A3 ["self"]
 kg : MT K ay "add_thing" "Things.add_thing" zx ["self", "kind", "owner", "mine", "rest", "text"]
 eY : MT K ay "add_folder" "Things.add_folder" xu ["self", "owner", "mine", "rest"]
 Ln : MT K ay "many" "Things.many" KJ ["self"]
 cG : MT K ay "at" "Things.at" xj ["self", "number"]
 gS : MT K ay "child" "Things.child" yf ["self", "folder", "name"]
 lQ : MT K ay "place_of" "Things.place_of" wY ["self", "number"]
 kh : MT K ay "put_name" "Things.put_name" zj ["self", "folder", "name", "number"]
 lO : MT K ay "drop_name" "Things.drop_name" Ar ["self", "folder", "name"]
 kP : MT K aj "__init__" "House.__init__" As ["self", "owner"]
 j5 : MT K aj "enroll" "House.enroll" yF ["self", "name"]
 gX : MT K aj "trees" "House.trees" xo ["self"]
 fG : MT K aj "root_of" "House.root_of" wV ["self", "asker"]
 kE : MT K aj "standing_of" "House.standing_of" zk ["self", "asker"]
 ed : MT K aj "kind_of" "House.kind_of" yI ["self", "number"]
 LB : MT K aj "many" "House.many" Ky ["self"]
 h7 : MT K aj "child" "House.child" Be ["self", "number", "name"]
 dj : MT K aj "place_of" "House.place_of" yQ ["self", "number"]
 gW : MT K aj "tree_root" "House.tree_root" xO ["self", "tree"]
 gT : MT K aj "covered_by" "House.covered_by" wL ["self", "tree"]
 hX : MT K aj "may" "House.may" AW ["self", "asker", "number", "right"]
 cF : MT K aj "check_asker" "House.check_asker" Aa ["self", "asker"]
 gN : MT K aj "check_tree" "House.check_tree" zB ["self", "tree"]
 fg : MT K aj "check_thing" "House.check_thing" zF ["self", "number"]
 gZ : MT K aj "add_asker" "House.add_asker" y3 ["self", "name"]
 fK : MT K aj "put_root" "House.put_root" zq ["self", "asker", "folder"]
 d7 : MT K aj "put_standing" "House.put_standing" yT ["self", "asker", "folder"]
 eU : MT K aj "add_tree" "House.add_tree" wN ["self", "tree", "owner"]
 lB : MT K aj "hang_tree" "House.hang_tree" uO ["self", "tree", "folder"]
 kI : MT K bH "__init__" "Found.__init__" yc ["self", "number", "way"]
 lq : MT K aR "__init__" "Walk.__init__" tq ["self", "house", "asker", "last"]
 ky : MT K aR "begin" "Walk.begin" qg ["self", "from_root", "parts"]
 lJ : MT K aR "go_on" "Walk.go_on" sZ ["self"]
 kq : MT K aR "take_step" "Walk.take_step" u6 ["self", "part"]
 jY : MT K aR "go_up" "Walk.go_up" rl ["self"]
 kX : MT K aR "go_by" "Walk.go_by" qd ["self", "name"]
 kc : MT K aR "true_path" "Walk.true_path" pS ["self"]
 ll : MT K dY "__init__" "Seat.__init__" AZ ["self", "folder", "name"]
 fH : bK K bH
 Cu : Mk K bH kI.f
 aI : bK K aj
 D8 : Mk K aj kP.f
 gM : bK K dY
 DF : Mk K dY ll.f
 cn : bK K aA
 Ke : Mk K aA ki.f
 bO : bK K ay
 Fl : Mk K ay lP.f
 aP : bK K aR
 Dr : Mk K aR lq.f
 oK : aZ K bH "number"
 yJ : aZ K bH "way"
 iF : aZ K aj "changes"
 pH : aZ K aj "first_root"
 ke : aZ K aj "folder_under"
 Fo : aZ K aj "holds"
 G0 : aZ K aj "holds_given"
 ni : aZ K aj "root_over"
 kx : aZ K aj "roots"
 sM : aZ K aj "standings"
 eI : aZ K aj "things"
 ij : aZ K aj "tree_roots"
 n9 : aZ K dY "folder"
 qi : aZ K dY "name"
 uQ : aZ K aA "kind"
 y6 : aZ K aA "mine"
 sU : aZ K aA "names"
 Dp : aZ K aA "number"
 A0 : aZ K aA "owner"
 nJ : aZ K aA "places"
 yk : aZ K aA "rest"
 Fm : aZ K aA "text"
 p0 : aZ K ay "changes"
 kL : aZ K ay "made"
 qc : aZ K aR "asked"
 km : aZ K aR "asker"
 dE : aZ K aR "here"
 dR : aZ K aR "house"
 EN : aZ K aR "last"
 GF : aZ K aR "leads_read"
 nR : aZ K aR "left"
 xt : aZ K aR "looked_up"
 Ey : aZ K aR "place"
 Hl : aZ K aR "reading"
 nA : aZ K aR "root"
 xv : aZ K aR "step"
 iT : aZ K aR "told"
 Dq : PySem.W.excIn K jR [.type "ValueError", .type "Exception", .type "BaseException", .type "object"] "ValueError.__new__" = true
 CV : PySem.W.excIn K mq [.type "ValueError", .type "Exception", .type "BaseException", .type "object"] "ValueError.__new__" = true
 KL : PySem.W.excIn K jX [.type "ValueError", .type "Exception", .type "BaseException", .type "object"] "ValueError.__new__" = true
 q1 : PySem.W.findIn K (.ref bH) "__class__" = some (some (.builtin "object.__class__"))
 q2 : PySem.W.specialIn K (.builtin "object.__class__") "__get__" = some (some (.builtin "getset_descriptor.__get__"))
 q3 : PySem.W.takesIn K (.builtin "object.__class__") = some true
 q4 : PySem.W.mroIn K bH (.type "object") = some true
 q5 : PySem.W.kitOne K (.ref bH) (.ref bH) = some true
def eF : List Nat := List.range' 97 26
def isNm (l : List Nat) : Bool := decide (1 ≤ l.length) && decide (l.length ≤ 8) && l.all (eF.contains ·)
def dw : V → Bool
 | .str z => isNm z.cps.toList
 | _ => false
def Ah : V → Prop
 | .str z => z.length ≤ 1000
 | _ => True
def tP (K : PySem.W.Frag) : Sp := fun vs H Q _ => match vs with
 | [x] => (∃ T, clsName H x = some T) ∧ Ah x ∧ ∀ H', ax H H' → Q (.bl (dw x)) H'
 | _ => False
theorem tI {nm : List Nat} (h : isNm nm = true) : 1 ≤ nm.length ∧ nm.length ≤ 8 ∧ nm.all (eF.contains ·) = true := by
 unfold isNm at h
 simp only [Bool.and_eq_true, decide_eq_true_eq] at h
 exact ⟨h.1.1, h.1.2, h.2⟩
theorem xV : Str.ofString "abcdefghijklmnopqrstuvwxyz" = Tx.S eF := by decide +kernel
theorem ou {d : Int} (h0 : 0 ≤ d) (h1 : d < 26) : ∃ c, bF (Str.ofString "abcdefghijklmnopqrstuvwxyz").cps.toList d = some c ∧ eF.contains c = true := by
 rw [xV, Tx.fb]
 obtain ⟨n, rfl⟩ := Int.eq_ofNat_of_zero_le h0
 have hl : eF.length = 26 := rfl
 have hn : n < eF.length := by omega
 exact ⟨eF[n], gR (List.getElem?_eq_getElem hn), List.elem_iff.mpr (List.getElem_mem hn)⟩
def bL (l : List Nat) : Bool := decide (l = [46]) || decide (l = [46, 46]) || isNm l
theorem gg {l : List Nat} (h : bL l = true) : 47 ∉ l ∧ l ≠ [] ∧ l.length ≤ 8 := by
 unfold bL at h
 simp only [Bool.or_eq_true, decide_eq_true_eq] at h
 rcases h with (rfl | rfl) | h
 ·exact ⟨by decide, by decide, by decide⟩
 ·exact ⟨by decide, by decide, by decide⟩
 ·obtain ⟨h1, h2, h3⟩ := tI h
  refine ⟨fun m => ?_, fun e => by rw [e] at h1; simp at h1, h2⟩
  have := List.all_eq_true.mp h3 47 m
  exact absurd this (by decide +kernel)
abbrev PV (ps : List (List Nat)) : List V := (ps.map Tx.S).map V.str
def told (ps : List (List Nat)) (t : List Nat) : List (List Nat) := if ps ≠ [] ∧ t.getLast? = some 47 then ps ++ [[46]] else ps
def cy (t : List Nat) : Bool := decide (t.head? = some 47)
theorem zc {W : List (List Nat)} (h : W.all bL = true) : told W (47 :: Tx.bB 47 W) = W := by
 have hw : ∀ w' ∈ W, 47 ∉ w' ∧ w' ≠ [] := fun w' hw' => let q := gg (List.all_eq_true.mp h w' hw'); ⟨q.1, q.2.1⟩
 unfold told
 refine if_neg fun z => ?_
 have e : (47 :: Tx.bB 47 W) = [47] ++ Tx.bB 47 W := rfl
 rw [e, Tx.pY _ _ (Tx.zU 47 W hw z.1)] at z
 exact Tx.AF 47 W hw z.2
def u3 (K : PySem.W.Frag) : Sp := fun vs H Q _ => match vs with
 | [.str z] => ∃ w : List Nat, z = Tx.S w ∧ w.length ≤ 1000 ∧ ∀ H', ax H H' → Q (.bl (bL w)) H'
 | _ => False
def qw (K : PySem.W.Frag) : Sp := fun vs H Q _ => match vs with
 | [.str z] => ∃ t : List Nat, z = Tx.S t ∧ 1 ≤ t.length ∧ t.length ≤ 2000 ∧ (Tx.words 47 t).all bL = true ∧
   ∀ (H' : Hp) (l p : Addr), ax H H' → H l = none → H' l = some (.lst (PV (told (Tx.words 47 t) t))) → H' p = some (.tup [.bl (cy t), .ref l]) → Q (.ref p) H'
 | _ => False
structure Lv (ps : List (List Nat)) (t : List Nat) : Prop where
 words : Tx.words 47 t = ps
 one : 1 ≤ t.length
 most : t.length ≤ 150
def lL (n kd ow mi re tx nm pl : V) : List (Str × V) := [("number", n), ("kind", kd), ("owner", ow), ("mine", mi), ("rest", re), ("text", tx), ("names", nm), ("places", pl)]
def lx (ml : Addr) (c : Int) : List (Str × V) := [("made", .ref ml), ("changes", .int c)]
structure Th where
 kd : Str
 ow : Str
 mi : Str
 re : Str
 tx : Str
 aW : List (Str × Nat)
 bz : List (Nat × Str)
structure Hs where
 ts : List Th
 ro : List (Str × Nat)
 st : List (Str × Nat)
 tr : List (Str × Nat)
 ov : List (Nat × Nat)
 un : List (Nat × Nat)
structure Ta where
 th : Addr
 bJ : Addr
 nm : Addr
 pl : Addr
structure Ad where
 a : Addr
 dx : Addr
 t : Addr
 dt : Addr
 ml : Addr
 ro : Addr
 st : Addr
 tr : Addr
 ov : Addr
 un : Addr
 ho : Addr
def jQ (c : Int) (A : Ad) : List (Str × V) := [("things", .ref A.t), ("changes", .int c), ("roots", .ref A.ro), ("standings", .ref A.st), ("tree_roots", .ref A.tr), ("root_over", .ref A.ov), ("folder_under", .ref A.un), ("holds", .ref A.ho), ("holds_given", .int 0), ("first_root", .int 0)]
theorem JN {f : Str} {c c' : Int} {A : Ad} (h : f ≠ "changes") : (jQ c A).lookup f = (jQ c' A).lookup f := by
 unfold jQ
 simp only [List.lookup]
 have : (f == ("changes" : Str)) = false := beq_eq_false_iff_ne.mpr h
 rw [this]
def sD (l : List (Str × Nat)) : List (Key × V) := l.map fun e => (.inr e.1, .int e.2)
def nD (l : List (Nat × Nat)) : List (Key × V) := l.map fun e => (.inl (e.1 : Int), .int e.2)
def pD (l : List (Nat × Str)) : List (List Key × V) := l.map fun e => ([.inl (e.1 : Int), .inr e.2], .bl true)
structure gU (CT : Addr) (H : Hp) (a : Ta) (i : Nat) (t : Th) : Prop where
 o : ∃ fs, H a.th = some (.ins CT a.bJ fs) ∧ fs.length ≤ 40 ∧ bQ fs (lL (.int i) (.str t.kd) (.str t.ow) (.str t.mi) (.str t.re) (.str t.tx) (.ref a.nm) (.ref a.pl))
 nm : H a.nm = some (.dK (sD t.aW))
 pl : H a.pl = some (.dT (pD t.bz))
def Ad.w (A : Ad) : List Addr := [A.a, A.t, A.ml, A.ro, A.st, A.tr, A.ov, A.un]
def Ta.l (a : Ta) : List Addr := [a.th, a.nm, a.pl]
structure aG (CH CS CT : Addr) (H : Hp) (A : Ad) (L : List Ta) (M : Hs) : Prop where
 h : ∃ fs c, H A.a = some (.ins CH A.dx fs) ∧ fs.length ≤ 40 ∧ bQ fs (jQ c A)
 t : ∃ fs c, H A.t = some (.ins CS A.dt fs) ∧ fs.length ≤ 40 ∧ bQ fs (lx A.ml c)
 ml : H A.ml = some (.lst (L.map fun a => .ref a.th))
 len : L.length = M.ts.length
 th : ∀ i t, M.ts[i]? = some t → ∃ a, L[i]? = some a ∧ gU CT H a i t
 ro : H A.ro = some (.dK (sD M.ro))
 st : H A.st = some (.dK (sD M.st))
 tr : H A.tr = some (.dK (sD M.tr))
 ov : H A.ov = some (.dK (nD M.ov))
 un : H A.un = some (.dK (nD M.un))
 nd : (A.w ++ L.flatMap Ta.l).Nodup
def Kp (W : List Addr) (H H' : Hp) : Prop := ∀ b o, b ∉ W → H b = some o → H' b = some o
theorem Kp.trans {W : List Addr} {H H1 H2 : Hp} (a : Kp W H H1) (b : Kp W H1 H2) : Kp W H H2 := fun c o h e => b c o h (a c o h e)
theorem Kp.of {W : List Addr} {H H' : Hp} (s : ax H H') : Kp W H H' := fun b o _ e => s b o e
theorem Kp.more {V W : List Addr} {H H' : Hp} (k : Kp V H H') (h : ∀ b ∈ V, b ∈ W) : Kp W H H' := fun b o hb e => k b o (fun z => hb (h b z)) e
theorem bu {H : Hp} {a b : Addr} {o u : HO} (h1 : H a = some o) (h2 : H b = some u) (h : o ≠ u) : a ≠ b := fun e => h (by rw [e, h2] at h1; cases h1; rfl)
theorem aF {H : Hp} {a b : Addr} {o : HO} (h1 : H a = some o) (h2 : H b = none) : a ≠ b := fun e => by rw [e, h2] at h1; cases h1
theorem fw {H : Hp} {x d : Addr} {o O oo : HO} (hn : H d = none) (hx : H x = some oo) : upd (upd H d o) x O x = some O ∧ upd (upd H d o) x O d = some o ∧ (∀ b u, b ≠ x → H b = some u → upd (upd H d o) x O b = some u) ∧ d ≠ x := by
 have n := aF hx hn
 refine ⟨az, by rw [ah (Ne.symm n), az], fun b u hb e => ?_, Ne.symm n⟩
 rw [ah hb, ah (aF e hn)]; exact e
section
variable {CH CS CT : Addr} {H H' : Hp} {A : Ad} {L : List Ta} {M : Hs}
theorem gU.keep {W : List Addr} {a : Ta} {i : Nat} {t : Th} (h : gU CT H a i t) (k : Kp W H H') (hw : ∀ b ∈ a.l, b ∉ W) : gU CT H' a i t where
 o := let ⟨fs, e, r⟩ := h.o; ⟨fs, k _ _ (hw _ (by simp [Ta.l])) e, r⟩
 nm := k _ _ (hw _ (by simp [Ta.l])) h.nm
 pl := k _ _ (hw _ (by simp [Ta.l])) h.pl
theorem eZ {i : Nat} {a : Ta} (h : L[i]? = some a) {b : Addr} (hb : b ∈ a.l) : b ∈ L.flatMap Ta.l := List.mem_flatMap.mpr ⟨a, List.mem_of_getElem? h, hb⟩
theorem aG.keep {W : List Addr} (i : aG CH CS CT H A L M) (k : Kp W H H') (hw : ∀ b ∈ A.w ++ L.flatMap Ta.l, b ∉ W) : aG CH CS CT H' A L M where
 h := let ⟨fs, c, e, r⟩ := i.h; ⟨fs, c, k _ _ (hw _ (by simp [Ad.w])) e, r⟩
 t := let ⟨fs, c, e, r⟩ := i.t; ⟨fs, c, k _ _ (hw _ (by simp [Ad.w])) e, r⟩
 ml := k _ _ (hw _ (by simp [Ad.w])) i.ml
 len := i.len
 th := fun j t e => let ⟨a, e1, h⟩ := i.th j t e; ⟨a, e1, h.keep k fun b hb => hw b (List.mem_append_right _ (eZ e1 hb))⟩
 ro := k _ _ (hw _ (by simp [Ad.w])) i.ro
 st := k _ _ (hw _ (by simp [Ad.w])) i.st
 tr := k _ _ (hw _ (by simp [Ad.w])) i.tr
 ov := k _ _ (hw _ (by simp [Ad.w])) i.ov
 un := k _ _ (hw _ (by simp [Ad.w])) i.un
 nd := i.nd
theorem aG.same (i : aG CH CS CT H A L M) (s : ax H H') : aG CH CS CT H' A L M := i.keep (W := []) (.of s) fun _ _ => by simp
theorem m5 : ∀ {L : List Ta} {i j : Nat} {a a' : Ta} {b : Addr}, (L.flatMap Ta.l).Nodup → L[i]? = some a → L[j]? = some a' → b ∈ a.l → b ∈ a'.l → i = j
 | [], _, _, _, _, _, _, h, _, _, _ => by simp at h
 | c :: r, 0, 0, _, _, _, _, _, _, _, _ => rfl
 | c :: r, 0, j + 1, a, a', b, nd, h1, h2, m1, m2 => by
  rw [List.flatMap_cons, List.nodup_append] at nd
  simp only [List.getElem?_cons_zero, Option.some.injEq] at h1
  simp only [List.getElem?_cons_succ] at h2
  subst h1
  exact absurd rfl (nd.2.2 b m1 b (eZ h2 m2))
 | c :: r, i + 1, 0, a, a', b, nd, h1, h2, m1, m2 => by
  rw [List.flatMap_cons, List.nodup_append] at nd
  simp only [List.getElem?_cons_zero, Option.some.injEq] at h2
  simp only [List.getElem?_cons_succ] at h1
  subst h2
  exact absurd rfl (nd.2.2 b m2 b (eZ h1 m1))
 | c :: r, i + 1, j + 1, a, a', b, nd, h1, h2, m1, m2 => by
  rw [List.flatMap_cons, List.nodup_append] at nd
  simp only [List.getElem?_cons_succ] at h1 h2
  rw [m5 nd.2.1 h1 h2 m1 m2]
theorem aG.write {k : Nat} {a : Ta} {t' : Th} (i : aG CH CS CT H A L M) (hk : L[k]? = some a) (hh : ∃ fs c, H' A.a = some (.ins CH A.dx fs) ∧ fs.length ≤ 40 ∧ bQ fs (jQ c A)) (ht : ∃ fs c, H' A.t = some (.ins CS A.dt fs) ∧ fs.length ≤ 40 ∧ bQ fs (lx A.ml c))
  (hth : gU CT H' a k t') (kp : Kp [A.a, A.t, a.th, a.nm, a.pl] H H') : aG CH CS CT H' A L { M with ts := M.ts.set k t' } := by
 have nd := i.nd
 rw [List.nodup_append] at nd
 obtain ⟨n1, n2, n3⟩ := nd
 have ma : ∀ b ∈ a.l, b ∈ L.flatMap Ta.l := fun b hb => eZ hk hb
 have jT : ∀ b ∈ [A.ml, A.ro, A.st, A.tr, A.ov, A.un], b ∉ [A.a, A.t, a.th, a.nm, a.pl] := by
  intro b hb hm
  have hw : b ∈ A.w := by
   simp only [Ad.w, List.mem_cons, List.not_mem_nil, or_false] at hb ⊢
   rcases hb with h | h | h | h | h | h <;> simp [h]
  simp only [List.mem_cons, List.not_mem_nil, or_false] at hm
  rcases hm with rfl | rfl | rfl | rfl | rfl
  ·have := (List.nodup_cons.mp n1).1
   simp only [List.mem_cons, List.not_mem_nil, or_false, not_or] at hb this
   rcases hb with h | h | h | h | h | h <;> simp [h] at this
  ·have := (List.nodup_cons.mp (List.nodup_cons.mp n1).2).1
   simp only [List.mem_cons, List.not_mem_nil, or_false, not_or] at hb this
   rcases hb with h | h | h | h | h | h <;> simp [h] at this
  ·exact n3 _ hw _ (ma _ (by simp [Ta.l])) rfl
  ·exact n3 _ hw _ (ma _ (by simp [Ta.l])) rfl
  ·exact n3 _ hw _ (ma _ (by simp [Ta.l])) rfl
 refine ⟨hh, ht, kp _ _ (jT _ (by simp)) i.ml, by rw [i.len]; simp, fun j t e => ?_, kp _ _ (jT _ (by simp)) i.ro, kp _ _ (jT _ (by simp)) i.st, kp _ _ (jT _ (by simp)) i.tr, kp _ _ (jT _ (by simp)) i.ov, kp _ _ (jT _ (by simp)) i.un, i.nd⟩
 by_cases hj : j = k
 ·subst hj
  have hlt : j < M.ts.length := by rw [← i.len]; exact (List.getElem?_eq_some_iff.mp hk).1
  have e' : (M.ts.set j t')[j]? = some t := e
  rw [List.getElem?_set_self hlt] at e'
  cases e'
  exact ⟨a, hk, hth⟩
 ·have e' : (M.ts.set k t')[j]? = some t := e
  rw [List.getElem?_set_ne (Ne.symm hj)] at e'
  obtain ⟨a', e1, h1⟩ := i.th j t e'
  refine ⟨a', e1, h1.keep kp fun b hb hm => ?_⟩
  have hbf := eZ e1 hb
  simp only [List.mem_cons, List.not_mem_nil, or_false] at hm
  rcases hm with rfl | rfl | rfl | rfl | rfl
  ·exact n3 _ (by simp [Ad.w]) _ hbf rfl
  ·exact n3 _ (by simp [Ad.w]) _ hbf rfl
  ·exact hj (m5 n2 e1 hk hb (by simp [Ta.l]))
  ·exact hj (m5 n2 e1 hk hb (by simp [Ta.l]))
  ·exact hj (m5 n2 e1 hk hb (by simp [Ta.l]))
end
def yd : V → Bool
 | .int _ => true
 | _ => false
def qS : Sp := fun vs H Q _ => match vs with
 | [v] => (∃ T, clsName H v = some T) ∧ Q (.bl (yd v)) H
 | _ => False
def sH : Sp := fun vs H Q _ => match vs with
 | [x] => (∃ T, clsName H x = some T) ∧ Ah x ∧ dw x = true ∧ ∀ H', ax H H' → Q .aq H'
 | _ => False
def tJ (C : Addr) : Sp := fun vs H Q _ => match vs with
 | [.ref x, n, kd, ow, mi, re, tx] => ∃ dx, H x = some (.ins C dx []) ∧ ∀ l1 l2 H', H l1 = none → H l2 = none → l1 ≠ l2 → l1 ≠ x → l2 ≠ x → (∀ b, b ≠ x → b ≠ l1 → b ≠ l2 → H' b = H b) → H' l1 = some (.dK []) → H' l2 = some (.dT []) →
   (∀ fs, fs.length ≤ 40 → bQ fs (lL n kd ow mi re tx (.ref l1) (.ref l2)) → H' x = some (.ins C dx fs) → Q .aq H')
 | _ => False
def pG (C : Addr) : Sp := fun vs H Q _ => match vs with
 | [.ref x] => ∃ dx, H x = some (.ins C dx []) ∧ ∀ l H', H l = none → l ≠ x → (∀ b, b ≠ x → b ≠ l → H' b = H b) → H' l = some (.lst []) → (∀ fs, fs.length ≤ 40 → bQ fs (lx l 0) → H' x = some (.ins C dx fs) → Q .aq H')
 | _ => False
structure ik (CS : Addr) (H : Hp) (x dt ml : Addr) (rs : List V) : Prop where
 o : ∃ fs c, H x = some (.ins CS dt fs) ∧ fs.length ≤ 40 ∧ bQ fs (lx ml c)
 ml : H ml = some (.lst rs)
def qj (CS CT : Addr) (x dt ml : Addr) (rs : List V) (kd ow mi re tx : V) (H : Hp) (Q : VK) : Prop :=
 ∀ th bJ nm pl ks H', H th = none → H nm = none → H pl = none → ik CS H' x dt ml (rs ++ [.ref th]) → H' th = some (.ins CT bJ ks) → ks.length ≤ 40 → bQ ks (lL (.int rs.length) kd ow mi re tx (.ref nm) (.ref pl)) →
  H' nm = some (.dK []) → H' pl = some (.dT []) → Kp [x, ml] H H' → Q (.int rs.length) H'
def uH (CS CT : Addr) : Sp := fun vs H Q _ => match vs with
 | [.ref x, kd, ow, mi, re, tx] => ∃ dt ml rs, ik CS H x dt ml rs ∧ rs.length ≤ 500 ∧ qj CS CT x dt ml rs kd ow mi re tx H Q
 | _ => False
def qV (CS CT : Addr) : Sp := fun vs H Q _ => match vs with
 | [.ref x, ow, mi, re] => ∃ dt ml rs, ik CS H x dt ml rs ∧ rs.length ≤ 500 ∧ qj CS CT x dt ml rs (.str "folder") ow mi re (.str "") H Q
 | _ => False
def nk (CH CS CT CN : Addr) : Sp := fun vs H Q E => match vs with
 | [.ref x, v] => ∃ A L M, aG CH CS CT H A L M ∧ A.t = x ∧ (∃ T, clsName H v = some T) ∧ (∀ (k : Nat) a t, v = .int k → L[k]? = some a → M.ts[k]? = some t → Q (.ref a.th) H) ∧ ((∀ k : Nat, v = .int k → ¬ k < M.ts.length) → E (.ref CN) none H)
 | _ => False
abbrev gr := Ad → List Ta → Hs → Nat → Ta → Th → Hp → VK → Prop
def cQ (CH CS CT : Addr) (sel : Ad → Addr) (f : gr) : Sp := fun vs H Q _ => match vs with
 | [.ref x, .int n] => ∃ A L M, ∃ k : Nat, ∃ a t, aG CH CS CT H A L M ∧ sel A = x ∧ n = (k : Int) ∧ L[k]? = some a ∧ M.ts[k]? = some t ∧ f A L M k a t H Q
 | _ => False
def tw (CH CS CT : Addr) (sel : Ad → Addr) : Sp := fun vs H Q _ => match vs with
 | [.ref x, .int n, .str z] => ∃ A L M, ∃ k : Nat, ∃ a t, aG CH CS CT H A L M ∧ sel A = x ∧ n = (k : Int) ∧ L[k]? = some a ∧ M.ts[k]? = some t ∧ Q ((aH (sD t.aW) (.inr z)).getD .aq) H
 | _ => False
def sP (CH CS CT : Addr) : Sp := fun vs H Q _ => match vs with
 | [.ref x, .int n, .str z] => ∃ A L M, ∃ k : Nat, ∃ a t, aG CH CS CT H A L M ∧ A.a = x ∧ n = (k : Int) ∧ L[k]? = some a ∧ M.ts[k]? = some t ∧ dw (.str z) = true ∧ z.length ≤ 1000 ∧ ∀ H', ax H H' → Q ((aH (sD t.aW) (.inr z)).getD .aq) H'
 | _ => False
abbrev LF : gr := fun _ _ _ _ _ t H Q => t.aW.length < 64 ∧ ∀ l, H l = none → Q (.ref l) (upd H l (.lst ((cX (t.aW.map (·.1))).map V.str)))
abbrev tF : gr := fun _ _ _ _ _ t H Q => (t.bz = [] ∧ Q .aq H) ∨ ∃ f z, t.bz = [(f, z)] ∧ ∀ p, H p = some (.tup [.int (f : Nat), .str z]) → Q (.ref p) H
abbrev mZ : gr := fun _ _ _ _ _ t H Q => Q (.str t.kd) H
abbrev Lw : gr := fun _ _ _ _ _ t H Q => Q (.str t.ow) H
abbrev LL : gr := fun _ _ _ _ _ t H Q => Q (.str t.tx) H
abbrev Ly : gr := fun _ _ _ _ _ t H Q => ∀ l, H l = none → Q (.ref l) (upd H l (.tup [.str t.mi, .str t.re]))
abbrev Fq : gr := fun _ _ _ _ _ _ H Q => Q .aq H
def oH (CH CS CT CA : Addr) : Sp := fun vs H Q E => match vs with
 | [.ref x, v] => ∃ A L M, aG CH CS CT H A L M ∧ A.a = x ∧ (∃ T, clsName H v = some T) ∧ (∀ z, v = .str z → (aH (sD M.ro) (.inr z)).isSome = true → Q .aq H) ∧ ((∀ z, v = .str z → aH (sD M.ro) (.inr z) = none) → E (.ref CA) none H)
 | _ => False
def rD (CH CS CT : Addr) : Sp := fun vs H Q _ => match vs with
 | [.ref x, .str z] => ∃ A L M, ∃ r : Nat, aG CH CS CT H A L M ∧ A.a = x ∧ aH (sD M.ro) (.inr z) = some (.int r) ∧ Q (.int r) H
 | _ => False
def cU (t : Th) (asker : Str) : Str := if asker = t.ow then t.mi else t.re
def tE (CT : Addr) : Sp := fun vs H Q _ => match vs with
 | [.ref x, .str z] => ∃ a i t, gU CT H a i t ∧ a.th = x ∧ Q (.str (cU t z)) H
 | _ => False
def eK (v : V) : Bool := decide (v = .str "l") || decide (v = .str "g") || decide (v = .str "w")
def rP (CR : Addr) : Sp := fun vs H Q E => match vs with
 | [v] => (∃ T, clsName H v = some T) ∧ (eK v = true → Q .aq H) ∧ (eK v = false → E (.ref CR) none H)
 | _ => False
def eM (s : Str) (z : Str) : Bool := !(Builtin.Str.occurrences z s 0 z.length 1).isEmpty
def mR (CH CS CT CA CR CN : Addr) : Sp := fun vs H Q E => match vs with
 | [.ref x, w, v, r] => ∃ A L M, aG CH CS CT H A L M ∧ A.a = x ∧ (∃ T, clsName H w = some T) ∧ (∃ T, clsName H v = some T) ∧ (∃ T, clsName H r = some T) ∧
   ((∀ z, w = .str z → aH (sD M.ro) (.inr z) = none) → E (.ref CA) none H) ∧
   ∀ z, w = .str z → (aH (sD M.ro) (.inr z)).isSome = true → (eK r = false → E (.ref CR) none H) ∧
    ∀ s, r = .str s → eK r = true → ((∀ k : Nat, v = .int k → ¬ k < M.ts.length) → E (.ref CN) none H) ∧ ∀ (k : Nat) t, v = .int k → M.ts[k]? = some t → Q (.bl (eM s (cU t z))) H
 | _ => False
local macro_rules | `(tactic| walk_at "rd") => `(tactic| simp only [qm, qu, qJ, KW, gL, gj, sR, om, tC, fO, o1, mJ, g7, nF, ib, oW, sS, uW, qU, ub, FH, pX, rO, lA, et, lM, mB, mT, gB, p9, pa, pC, o7, nY, tK, m8, pU, EL, Im, IA, Ft, mP, oj, pM, rh, Hd, Gy, vj, pV, qN, tQ, rJoin, uu, uC, kJ, Co, ES, tX, pI, p5, pO, xy, JT, qr, C3, uK, uE, o6, FE, tT, sT, lK, lU, rX, GS, Jq, uM, KD, DG, pJ, JX, um, uJ, rF, uT, pA, uk, rQ, o8, F2, Gr, Ends.xm, sF, tS, pB, sV, u7, rS, uj, oZ, sW, u0, pF, tN, D5, G5, qC, CM, oM, oC, Gd, List.getElem?_cons_zero, List.getElem?_cons_succ, List.set_cons_zero, List.set_cons_succ, List.append_nil, Bool.false_bne, Bool.true_bne])
local macro_rules | `(tactic| walk_at "w") => `(tactic| (first | walk_at "rd" | skip))
section
variable {P : Program} {w : World} {K : PySem.W.Frag} {mg : Str → Option Value} {base : Heap}
theorem qe (T : Tx K mg) : aB P w K mg base aK 1 T.dN.f T.dN.d ["text"] (tP K) := by
 refine T.dN.F.ok Dz (fun vs H Q E h => ?_) (fun cdv A outer s H vs Q E hr h => ?_)
 ·unfold tP at h
  split at h
  ·rfl
  ·exact h.elim
 ·unfold tP at h
  split at h
  ·rename_i x
   obtain ⟨⟨ty, h1⟩, hsh, q⟩ := h
   refine ⟨_, ((Dv.cut (Dv.ba (Dv.dq (Dv.w_or (Dv.b8 (Dv.bT (Dv.bZ gu T.ei eh (Dv.ag (Dv.v 0) (Dv.ag (Dv.gf (.ty "str") T.jl iJ rfl) Dv.ai))))) (Dv.fL (Dv.b8 (Dv.rm kD kD Dv.int (Dv.bZ (lz (K := K) rfl) T.iB PySem.boot_len (Dv.ag (Dv.v 0) Dv.ai)) (Dv.glob (.int 8) T.Fb ⟨_, rfl⟩)))))) (Dv.au (Dv.aM Dv.bl)) Dv.nil)
   (Dv.au (Dv.aM (Dv.bZ (yL (K := K) rfl rfl) T.Au AS (Dv.ag (Dv.comp rfl (Dv.Hk (Dv.v 0)) (fun _ _ _ _ => by exact Dv.rA) (fun _ _ _ _ => by exact (Dv.cmp (oh (K := K) rfl) (Dv.v 0) (Dv.glob (.str "abcdefghijklmnopqrstuvwxyz") T.Gh ⟨_, rfl⟩)))) Dv.ai)))))).h, ?_⟩
   rw [show start ["text"] [x] = [some x] from rfl]
   refine ao ?_
   walk_at "rd"
   simp only [h1, tH h1]
   refine ⟨ot _ rfl, ?_⟩
   cases x with
   | str z =>
    simp only [my, Bool.not_true, Bool.false_eq_true, if_false]
    have hsh' : z.length ≤ 1000 := hsh
    have hl : z.cps.toList.length = z.length := by simp [Str.length]
    refine ⟨fits hsh', ?_⟩
    by_cases a1 : 1 ≤ z.length
    ·rw [decide_eq_true (show (1 : Int) ≤ (z.length : Int) by omega)]
     refine bo ?_
     by_cases a2 : z.length ≤ 8
     ·rw [decide_eq_true (show (z.length : Int) ≤ 8 by omega)]
      refine aO ?_
      refine Hz (fun c => .bl (eF.contains c)) (fits hsh') ?_ ?_
      ·intro c _ H1 _ R hR
       walk_at "rd"
       rw [xV, show (⟨#[c]⟩ : Str) = Tx.S [c] from rfl, Tx.GK]
       exact hR H1 (ax.refl H1)
      ·intro H1 s1 l mF
       refine ⟨_, aL.of az, z.cps.toList.map (eF.contains ·), by rw [List.map_map]; rfl, ?_⟩
       have e : ((z.cps.toList.map (eF.contains ·)).all id) = dw (.str z) := by
        show _ = isNm z.cps.toList
        unfold isNm
        rw [hl, decide_eq_true a1, decide_eq_true a2, List.all_map]
        rfl
       rw [e]
       exact q _ (s1.trans (ax.upd mF))
     ·rw [decide_eq_false (show ¬ (z.length : Int) ≤ 8 by omega)]
      refine bo ?_
      have e : dw (.str z) = false := by
       show isNm z.cps.toList = false
       unfold isNm
       rw [hl, decide_eq_false a2, Bool.and_false, Bool.false_and]
      have := q H (ax.refl H)
      rw [e] at this
      exact this
    ·rw [decide_eq_false (show ¬ (1 : Int) ≤ (z.length : Int) by omega)]
     refine aO (bo ?_)
     have e : dw (.str z) = false := by
      show isNm z.cps.toList = false
      unfold isNm
      rw [hl, decide_eq_false a1, Bool.false_and, Bool.false_and]
     have := q H (ax.refl H)
     rw [e] at this
     exact this
   | _ => exact q H (ax.refl H)
  ·exact h.elim
theorem bj {X : Cx} {b : List Stmt} {t : TS} {D : Ends} {σ : St} {H : Hp} (h : QB X b t) (q : t D σ H) : ∃ t, bV X b t ∧ t D σ H := ⟨t, h.h, q⟩
def KO : V → Bool
 | .int _ => true
 | .bl _ => true
 | _ => false
theorem J6 {H : Hp} {v : V} {ty : String} (h : clsName H v = some ty) : lh ty "int" = KO v := by
 unfold clsName at h
 split at h
 ·cases h; rfl
 ·cases h; rfl
 ·cases h; rfl
 ·cases h; rfl
 ·split at h
  ·cases h; rfl
  ·cases h; rfl
  ·cases h; rfl
  ·cases h
 ·cases h
theorem x3 (T : Tx K mg) : aB P w K mg base aK 1 T.fj.f T.fj.d ["number"] qS := by
 refine T.fj.F.ok Cs (fun vs H Q E h => ?_) (fun cdv A outer s H vs Q E hr h => ?_)
 ·unfold qS at h
  split at h
  ·rfl
  ·exact h.elim
 ·unfold qS at h
  split at h
  ·rename_i v
   obtain ⟨⟨ty, hty⟩, q⟩ := h
   refine ⟨_, ((Dv.au (Dv.aM (Dv.mX (Dv.bZ gu T.ei eh (Dv.ag (Dv.v 0) (Dv.ag (Dv.gf (.ty "int") T.rH sX rfl) Dv.ai))) (Dv.one (Dv.GD (Dv.bZ gu T.ei eh (Dv.ag (Dv.v 0) (Dv.ag (Dv.gf (.ty "bool") T.g_bool JB rfl) Dv.ai))))))))).h, ?_⟩
   rw [show start ["number"] [v] = [some v] from rfl]
   walk_at "w"
   simp only [hty]
   refine ⟨by decide, ?_⟩
   cases v with
   | int i => cases hty; exact bo ⟨by decide, q⟩
   | bl b => cases hty; exact bo ⟨by decide, q⟩
   | _ =>
    rw [J6 hty]
    exact aO q
  ·exact h.elim
theorem nZ (T : Tx K mg) : aB P w K mg base aK 2 T.cO.f T.cO.d ["text"] sH := by
 have mj := qe (P := P) (w := w) (base := base) T
 refine T.cO.F.ok HF (fun vs H Q E h => ?_) (fun cdv A outer s H vs Q E hr h => ?_)
 ·unfold sH at h
  split at h
  ·rfl
  ·exact h.elim
 ·unfold sH at h
  split at h
  ·rename_i x
   obtain ⟨hc, hsh, hn, q1⟩ := h
   refine ⟨_, ((Dv.au (Dv.ba (Dv.b8 (Dv.bT (Dv.call mj (hr.mono (by decide)) T.dN.m T.dN.F.kp T.dN.b .nil aw (Dv.ag (Dv.v 0) Dv.ai)))) (Dv.au Dv.bE) Dv.nil))).h, ?_⟩
   rw [show start ["text"] [x] = [some x] from rfl]
   walk_at "w"
   refine ⟨hc, hsh, fun H' s' => ?_⟩
   rw [hn]
   exact aO (q1 H' s')
  ·exact h.elim
def j8 : List Str := ["", "l", "g", "w", "lg", "lw", "gw", "lgw"]
def qf : Sp := fun vs H Q _ => match vs with
 | [.str z] => z ∈ j8 ∧ Q (.bl true) H
 | _ => False
def va : Sp := fun vs H Q _ => match vs with
 | [.str z] => z ∈ j8 ∧ Q .aq H
 | _ => False
theorem K1 {z : Str} {zs : List Str} (h : z ∈ zs) : cW (V.str z) (zs.map V.str) = true := by
 unfold cW
 rw [List.any_map, List.any_eq_true]
 exact ⟨z, h, show (z == z) = true from beq_self_eq_true z⟩
theorem Gq (T : Tx K mg) : aB P w K mg base aK 1 T.iG.f T.iG.d ["text"] qf := by
 refine T.iG.F.ok KC (fun vs H Q E h => ?_) (fun cdv A outer s H vs Q E hr h => ?_)
 ·unfold qf at h
  split at h
  ·rfl
  ·exact h.elim
 ·unfold qf at h
  split at h
  ·rename_i z
   obtain ⟨hz, q⟩ := h
   refine ⟨_, ((Dv.au (Dv.aM (Dv.mX (Dv.bZ gu T.ei eh (Dv.ag (Dv.v 0) (Dv.ag (Dv.gf (.ty "str") T.jl iJ rfl) Dv.ai))) (Dv.one (Dv.cmp (xZ (K := K) rfl) (Dv.v 0) (Dv.glob (.ref T.vq) T.G7 rfl))))))).h, ?_⟩
   rw [show start ["text"] [V.str z] = [some (V.str z)] from rfl]
   walk_at "w"
   refine ⟨by decide, bo ⟨_, .inr (T.tL H), rfl, rfl, ?_⟩⟩
   rw [show [V.str (Str.ofString ""), V.str (Str.ofString "l"), V.str (Str.ofString "g"), V.str (Str.ofString "w"), V.str (Str.ofString "lg"), V.str (Str.ofString "lw"), V.str (Str.ofString "gw"), V.str (Str.ofString "lgw")] = j8.map V.str from rfl, K1 hz]
   exact q
  ·exact h.elim
theorem Em (T : Tx K mg) : aB P w K mg base aK 2 T.fB.f T.fB.d ["text"] va := by
 have G_is_rights := Gq (P := P) (w := w) (base := base) T
 refine T.fB.F.ok Ju (fun vs H Q E h => ?_) (fun cdv A outer s H vs Q E hr h => ?_)
 ·unfold va at h
  split at h
  ·rfl
  ·exact h.elim
 ·unfold va at h
  split at h
  ·rename_i z
   obtain ⟨hz, q⟩ := h
   refine ⟨_, ((Dv.au (Dv.ba (Dv.b8 (Dv.bT (Dv.call G_is_rights (hr.mono (by decide)) T.iG.m T.iG.F.kp T.iG.b .nil aw (Dv.ag (Dv.v 0) Dv.ai)))) (Dv.au Dv.bE) Dv.nil))).h, ?_⟩
   rw [show start ["text"] [V.str z] = [some (V.str z)] from rfl]
   walk_at "w"
   exact ⟨hz, aO q⟩
  ·exact h.elim
theorem Js (v : V) : cW v [V.str (Str.ofString "l"), V.str (Str.ofString "g"), V.str (Str.ofString "w")] = eK v := by
 unfold cW eK
 simp only [List.any_cons, List.any_nil, Bool.or_false]
 have key : ∀ z : Str, c9 (.str z) v = decide (v = .str z) := fun z => by
  cases v with
  | str y =>
   show (z == y) = decide (V.str y = V.str z)
   by_cases e : z = y
   ·subst e; simp
   ·rw [decide_eq_false (by intro h; injection h with h; exact e h.symm)]
    exact beq_eq_false_iff_ne.mpr e
  | _ => rfl
 rw [key, key, key, Bool.or_assoc]
theorem JS (T : Tx K mg) : aB P w K mg base (dS P w) 1 T.iV.f T.iV.d ["text"] (rP T.mq) := by
 refine T.iV.F.iY Cj (fun vs H Q E h => ?_) (fun cdv A outer s H vs Q E hr h => ?_)
 ·unfold rP at h
  split at h
  ·rfl
  ·exact h.elim
 ·unfold rP at h
  split at h
  ·rename_i v
   obtain ⟨⟨ty, hty⟩, q1, q2⟩ := h
   refine ⟨_, ((Dv.au (Dv.ba (Dv.dq (Dv.w_or (Dv.b8 (Dv.bT (Dv.bZ gu T.ei eh (Dv.ag (Dv.v 0) (Dv.ag (Dv.gf (.ty "str") T.jl iJ rfl) Dv.ai))))) (Dv.fL (Dv.bg (qz (K := K) rfl) (Dv.v 0) (Dv.glob (.ref T.vT) T.J3 rfl))))) (Dv.au (Dv.ux pR rfl T.IW T.CV (Dv.ag Dv.str Dv.ai))) Dv.nil))).h, ?_⟩
   rw [show start ["text"] [v] = [some v] from rfl]
   walk_at "w"
   simp only [hty, tH hty]
   refine ⟨ot _ rfl, ?_⟩
   cases v with
   | str z =>
    simp only [my, Bool.not_true, Bool.false_eq_true, if_false]
    refine ⟨_, .inr (T.uP H), rfl, rfl, ?_⟩
    rw [Js]
    cases ho : eK (.str z) with
    | true => exact aO (q1 ho)
    | false => exact bo ⟨fits (by simp), q2 ho⟩
   | _ => exact ⟨fits (by simp), q2 rfl⟩
  ·exact h.elim
theorem D6 (T : Tx K mg) : aB P w K mg base aK 2 T.iC.f T.iC.d ["text"] (u3 K) := by
 have mj := qe (P := P) (w := w) (base := base) T
 refine T.iC.F.ok FZ (fun vs H Q E h => ?_) (fun cdv A outer s H vs Q E hr h => ?_)
 ·unfold u3 at h
  split at h
  ·rfl
  ·exact h.elim
 ·unfold u3 at h
  split at h
  ·rename_i z
   obtain ⟨w', rfl, hw, q⟩ := h
   refine ⟨_, ((Dv.au (Dv.aM (Dv.xh (Dv.cmp (xZ (K := K) rfl) (Dv.v 0) (Dv.glob (.ref T.wq) T.I0 rfl)) (Dv.one (Dv.call mj (hr.mono (by decide)) T.dN.m T.dN.F.kp T.dN.b .nil aw (Dv.ag (Dv.v 0) Dv.ai))))))).h, ?_⟩
   rw [show start ["text"] [V.str (Tx.S w')] = [some (V.str (Tx.S w'))] from rfl]
   walk_at "rd"
   refine ⟨_, .inr (T.uU H), rfl, rfl, ?_⟩
   have e : cW (V.str (Tx.S w')) [V.str (Str.ofString "."), V.str (Str.ofString "..")] = (decide (w' = [46]) || decide (w' = [46, 46])) := by
    rw [show Str.ofString "." = Tx.S [46] from by decide +kernel, show Str.ofString ".." = Tx.S [46, 46] from by decide +kernel]
    unfold cW c9
    simp only [List.any_cons, List.any_nil, Bool.or_false]
    have b : ∀ m : List Nat, (Tx.S m == Tx.S w') = decide (w' = m) := fun m => by
     by_cases h : w' = m
     ·rw [h]; simp
     ·have : Tx.S m ≠ Tx.S w' := fun e => h (Tx.mO e).symm
      rw [decide_eq_false h]
      exact beq_eq_false_iff_ne.mpr this
    rw [b, b]
   rw [e]
   cases hd : (decide (w' = [46]) || decide (w' = [46, 46])) with
   | true =>
    refine bo ?_
    have := q H (ax.refl H)
    unfold bL at this
    rw [hd] at this
    exact this
   | false =>
    refine aO ?_
    refine ⟨⟨_, rfl⟩, (by show (Tx.S w').length ≤ 1000; rw [Tx.b7]; exact hw), fun H' s' => ?_⟩
    have := q H' s'
    unfold bL at this
    rw [hd, Bool.false_or] at this
    have e2 : dw (V.str (Tx.S w')) = isNm w' := by show isNm _ = _; rw [Tx.fb]
    rw [e2]
    exact this
  ·exact h.elim
theorem lW (T : Tx K mg) : aB P w K mg base aK 3 T.cx.f T.cx.d ["path"] (qw K) := by
 have G_is_part := D6 (P := P) (w := w) (base := base) T
 refine T.cx.F.ok wR (fun vs H Q E h => ?_) (fun cdv A outer s H vs Q E hr h => ?_)
 ·unfold qw at h
  split at h
  ·rfl
  ·exact h.elim
 ·unfold qw at h
  split at h
  ·rename_i z
   obtain ⟨t, rfl, t1, t2, d0, q⟩ := h
   refine ⟨_, ((Dv.cut (Dv.ba (Dv.dq (Dv.w_or (Dv.b8 (Dv.bT (Dv.bZ gu T.ei eh (Dv.ag (Dv.v 0) (Dv.ag (Dv.gf (.ty "str") T.jl iJ rfl) Dv.ai))))) (Dv.fL (Dv.b8 (Dv.rm kD kD Dv.int (Dv.bZ (lz (K := K) rfl) T.iB PySem.boot_len (Dv.ag (Dv.v 0) Dv.ai)) (Dv.glob (.int 2000) T.C4 ⟨_, rfl⟩)))))) (Dv.au Dv.bE) Dv.nil)
   (Dv.cut (Dv.AM 1 rfl wR.nd (Dv.lV (K := K) rfl (Dv.gz PySem.F.slot_str_split PySem.F.type_str_split CG (Dv.v 0) (Dv.ag Dv.str Dv.ai))) (fun _ _ _ _ => by exact (Dv.FL (Dv.bg eP (Dv.v 0) Dv.str))) (fun _ _ _ _ => by exact (Dv.v 0)))
   (Dv.cut (Dv.ba (Dv.b8 (Dv.bT (Dv.bZ (yL (K := K) rfl rfl) T.Au AS (Dv.ag (Dv.comp rfl (Dv.lV (K := K) rfl (Dv.v 1)) (fun _ _ _ _ => by exact Dv.rA) (fun _ _ _ _ => by exact (Dv.call G_is_part (hr.mono (by decide)) T.iC.m T.iC.F.kp T.iC.b .nil aw (Dv.ag (Dv.v 0) Dv.ai)))) Dv.ai)))) (Dv.au Dv.bE) Dv.nil)
   (Dv.cut (Dv.ba (Dv.dq (Dv.w_and (Dv.bg (zg hr.oy) (Dv.v 1) (Dv.lst Dv.ai)) (Dv.oI (Dv.bT (Dv.gz PySem.F.slot_str_endswith PySem.F.type_str_endswith Ck (Dv.v 0) (Dv.ag Dv.str Dv.ai)))))) (Dv.au (Dv.aU (Dv.gx PySem.F.slot_list_append PySem.F.type_list_append fZ (Dv.v 1) (Dv.ag Dv.str Dv.ai)))) Dv.nil)
   (Dv.au (Dv.aM (Dv.tup (Dv.ag (Dv.gz PySem.F.slot_str_startswith PySem.F.type_str_startswith Jm (Dv.v 0) (Dv.ag Dv.str Dv.ai)) (Dv.ag (Dv.v 1) Dv.ai)))))))))).h, ?_⟩
   rw [show start ["path", "parts"] [V.str (Tx.S t)] = [some (V.str (Tx.S t)), none] from rfl]
   refine ao ?_
   walk_at "rd"
   have e47 : Str.ofString "/" = Tx.S [47] := by decide +kernel
   have e0 : Str.ofString "" = Tx.S [] := by decide +kernel
   simp only [Tx.b7, e47, e0]
   refine ⟨ot _ rfl, aO ⟨Nat.le_trans t2 (by decide), ?_⟩⟩
   rw [decide_eq_true (show (1 : Int) ≤ (t.length : Int) by omega), decide_eq_true (show (t.length : Int) ≤ 2000 by omega)]
   refine bo (aO (ao ?_))
   walk_at "rd"
   have hcl := Tx.AU 47 t
   refine ⟨rfl, by rw [Tx.b7]; exact Nat.le_trans t2 (by decide), ?_, ?_⟩
   ·rw [Tx.xH, Tx.eS, Tx.yP, Tx.nj, List.length_map]
    exact Nat.le_trans (show _ ≤ 2001 by omega) (by decide)
   intro l hl
   rw [Tx.GB t 47 (by decide)]
   have s1 := ax.upd (o := .lst (((Tx.cut 47 t).map Tx.S).map V.str)) hl
   have b1 : upd H l (.lst (((Tx.cut 47 t).map Tx.S).map V.str)) l = some (.lst (((Tx.cut 47 t).map Tx.S).map V.str)) := az
   generalize upd H l (.lst (((Tx.cut 47 t).map Tx.S).map V.str)) = H1 at s1 b1 ⊢
   refine ⟨⟨_, aL.of b1⟩, uN (fun x => match x with | .str z => !decide (z = Tx.S []) | _ => false) id (aL.of b1) (by rw [List.length_map, List.length_map]; exact Nat.le_trans (show _ ≤ 2001 by omega) (by decide)) ?_ ?_ ?_⟩
   ·intro x hx H2 _ R hR
    obtain ⟨z, _, rfl⟩ := List.mem_map.mp hx
    walk_at "rd"
    exact hR H2 (ax.refl H2)
   ·intro x hx _ H2 _ R hR
    walk_at "rd"
    exact hR H2 (ax.refl H2)
   intro H2 s2 l2 cu
   have ew : ((((Tx.cut 47 t).map Tx.S).map V.str).filter (fun x => match x with | .str z => !decide (z = Tx.S []) | _ => false)).map id = PV (Tx.words 47 t) := by
    rw [List.map_id, List.filter_map]
    show ((((Tx.cut 47 t).map Tx.S)).filter _).map V.str = _
    congr 1
    rw [← Tx.Lc]
    refine List.filter_congr fun z _ => ?_
    show (!decide (z = Tx.S [])) = decide (z ≠ Tx.S [])
    by_cases h : z = Tx.S [] <;> simp [h]
   rw [ew]
   have hn2 : H l2 = none := (s1.trans s2).free cu
   have s3 := ax.upd (o := .lst (PV (Tx.words 47 t))) cu
   have b3 : upd H2 l2 (.lst (PV (Tx.words 47 t))) l2 = some (.lst (PV (Tx.words 47 t))) := az
   generalize upd H2 l2 (.lst (PV (Tx.words 47 t))) = H3 at s3 b3 ⊢
   have sH3 : ax H H3 := (s1.trans s2).trans s3
   have hwl : (Tx.words 47 t).length ≤ 2001 := Nat.le_trans (List.length_filter_le _ _) (by omega)
   refine ao ?_
   walk_at "rd"
   refine ⟨⟨_, aL.of b3⟩, uN (fun _ => true) (fun x => match x with | .str z => .bl (bL z.cps.toList) | _ => .bl false) (aL.of b3) (by rw [List.length_map, List.length_map]; exact Nat.le_trans hwl (by decide)) ?_ ?_ ?_⟩
   ·intro x _ H4 _ R hR
    exact hR H4 (ax.refl H4)
   ·intro x hx _ H4 _ R hR
    obtain ⟨z, hz, rfl⟩ := List.mem_map.mp hx
    obtain ⟨w', hw, rfl⟩ := List.mem_map.mp hz
    walk_at "rd"
    obtain ⟨_, _, g3⟩ := gg (List.all_eq_true.mp d0 w' hw)
    refine ⟨w', rfl, by omega, fun H5 s5 => ?_⟩
    have := hR H5 s5
    simp only [Tx.fb] at this
    exact this
   intro H4 s4 l4 hl4
   have eb : ((PV (Tx.words 47 t)).filter (fun _ => true)).map (fun x => match x with | .str z => V.bl (bL z.cps.toList) | _ => V.bl false) = ((Tx.words 47 t).map bL).map V.bl := by
    rw [List.filter_eq_self.mpr (fun _ _ => rfl), List.map_map, List.map_map, List.map_map]
    refine List.map_congr_left fun w' _ => ?_
    show V.bl (bL (Tx.S w').cps.toList) = V.bl (bL w')
    rw [Tx.fb]
   rw [eb]
   refine ⟨_, aL.of az, _, rfl, ?_⟩
   have ea : ((Tx.words 47 t).map bL).all id = true := by rw [List.all_map]; exact d0
   rw [ea]
   refine aO ?_
   have s5 := ax.upd (o := .lst (((Tx.words 47 t).map bL).map V.bl)) hl4
   generalize upd H4 l4 (.lst (((Tx.words 47 t).map bL).map V.bl)) = H5 at s5 ⊢
   have b5 : H5 l2 = some (.lst (PV (Tx.words 47 t))) := s5 _ _ (s4 _ _ b3)
   have sH5 : ax H H5 := (sH3.trans s4).trans s5
   refine b0 (fun σ' H' => σ' = [some (V.str (Tx.S t)), some (V.ref l2)] ∧ ax H H' ∧ H' l2 = some (.lst (PV (told (Tx.words 47 t) t)))) ?_ ?_
   ·walk_at "rd"
    refine ⟨fits (by simp), fun p hp => ?_⟩
    have s6 := ax.upd (o := .lst []) hp
    have c6 : upd H5 p (.lst []) p = some (.lst ((([] : List Str)).map V.str)) := az
    generalize upd H5 p (.lst []) = H6 at s6 c6 ⊢
    have b6 : H6 l2 = some (.lst (PV (Tx.words 47 t))) := s6 _ _ b5
    refine ⟨(Tx.words 47 t).map Tx.S, [], b6, c6, ?_⟩
    by_cases hw0 : Tx.words 47 t = []
    ·rw [decide_eq_true (show (Tx.words 47 t).map Tx.S = [] by rw [hw0]; rfl)]
     refine aO (aO ⟨trivial, sH5.trans s6, ?_⟩)
     unfold told
     rw [if_neg (fun z => z.1 hw0)]
     exact b6
    ·rw [decide_eq_false (show ¬ (Tx.words 47 t).map Tx.S = [] by simpa using hw0)]
     refine bo ?_
     rw [Tx.Ih]
     by_cases oP : t.getLast? = some 47
     ·rw [decide_eq_true oP]
      refine bo ?_
      simp only [b6]
      refine ⟨by rw [List.length_map, List.length_map]; exact Nat.lt_of_le_of_lt hwl (by decide), trivial, iR.same (sH5.trans s6) hn2 iR.upd, ?_⟩
      unfold told
      rw [if_pos ⟨hw0, oP⟩, az, show Str.ofString "." = Tx.S [46] from by decide +kernel]
      simp only [PV, List.map_append, List.map_cons, List.map_nil]
     ·rw [decide_eq_false oP]
      refine aO ⟨trivial, sH5.trans s6, ?_⟩
      unfold told
      rw [if_neg (fun z => oP z.2)]
      exact b6
   ·rintro σ' H6 ⟨rfl, s6, b6⟩
    walk_at "rd"
    simp only [e47, Tx.KS]
    refine ⟨fits (by simp), fun p hp => ?_⟩
    exact q _ l2 p (s6.trans (ax.upd hp)) hn2 (CO b6 hp) az
  ·exact h.elim
theorem EE (T : Tx K mg) : aB P w K mg base aK 1 T.ki.f T.ki.d ["self", "number", "kind", "owner", "mine", "rest", "text"] (tJ T.aA) := by
 refine T.ki.F.ok CZ (fun vs H Q E h => ?_) (fun cdv A outer s H vs Q E hr h => ?_)
 ·unfold tJ at h
  split at h
  ·rfl
  ·exact h.elim
 ·unfold tJ at h
  split at h
  ·rename_i x n kd ow mi re tx
   obtain ⟨dx, hx, q⟩ := h
   refine ⟨_, ((Dv.cut (Dv.bf T.cn T.Dp (Dv.v 0) (Dv.v 1))
   (Dv.cut (Dv.bf T.cn T.uQ (Dv.v 0) (Dv.v 2))
   (Dv.cut (Dv.bf T.cn T.A0 (Dv.v 0) (Dv.v 3))
   (Dv.cut (Dv.bf T.cn T.y6 (Dv.v 0) (Dv.v 4))
   (Dv.cut (Dv.bf T.cn T.yk (Dv.v 0) (Dv.v 5))
   (Dv.cut (Dv.bf T.cn T.Fm (Dv.v 0) (Dv.v 6))
   (Dv.cut (Dv.bf T.cn T.sU (Dv.v 0) Dv.gP)
   (Dv.au (Dv.bf T.cn T.nJ (Dv.v 0) Dv.Kh)))))))))).h, ?_⟩
   rw [show start ["self", "number", "kind", "owner", "mine", "rest", "text"] [V.ref x, n, kd, ow, mi, re, tx] = [some (.ref x), some n, some kd, some ow, some mi, some re, some tx] from rfl]
   refine ao ?_
   walk_at "rd"
   refine ⟨x, dx, _, rfl, hx, by decide, ao ?_⟩
   walk_at "rd"
   refine ⟨x, dx, _, rfl, az, by (refine Nat.lt_of_le_of_lt (m := 40) ?_ (by decide); (repeat (refine bh ?_)); exact Nat.zero_le _), ao ?_⟩
   walk_at "rd"
   refine ⟨x, dx, _, rfl, az, by (refine Nat.lt_of_le_of_lt (m := 40) ?_ (by decide); (repeat (refine bh ?_)); exact Nat.zero_le _), ao ?_⟩
   walk_at "rd"
   refine ⟨x, dx, _, rfl, az, by (refine Nat.lt_of_le_of_lt (m := 40) ?_ (by decide); (repeat (refine bh ?_)); exact Nat.zero_le _), ao ?_⟩
   walk_at "rd"
   refine ⟨x, dx, _, rfl, az, by (refine Nat.lt_of_le_of_lt (m := 40) ?_ (by decide); (repeat (refine bh ?_)); exact Nat.zero_le _), ao ?_⟩
   walk_at "rd"
   refine ⟨x, dx, _, rfl, az, by (refine Nat.lt_of_le_of_lt (m := 40) ?_ (by decide); (repeat (refine bh ?_)); exact Nat.zero_le _), ao ?_⟩
   simp only [hJ]
   walk_at "rd"
   intro l1 h1
   have n1 : l1 ≠ x := fun e => by rw [e, az] at h1; cases h1
   have h1' : H l1 = none := by rw [ah n1] at h1; exact h1
   refine ⟨x, dx, _, rfl, by rw [ah (Ne.symm n1), az], by (refine Nat.lt_of_le_of_lt (m := 40) ?_ (by decide); (repeat (refine bh ?_)); exact Nat.zero_le _), fun l2 h2 => ?_⟩
   have n2 : l2 ≠ x := fun e => by rw [e, az] at h2; cases h2
   rw [ah n2] at h2
   have n3 : l2 ≠ l1 := fun e => by rw [e, az] at h2; cases h2
   rw [ah n3, ah n2] at h2
   refine ⟨x, dx, _, rfl, by rw [ah (Ne.symm n2), az], by (refine Nat.lt_of_le_of_lt (m := 40) ?_ (by decide); (repeat (refine bh ?_)); exact Nat.zero_le _), ?_⟩
   refine q l1 l2 _ h1' h2 (Ne.symm n3) n1 n2 (fun b b1 b2 b3 => ?_) ?_ ?_ _ ?_ (fun f => ?_) az
   ·rw [ah b1, ah b3, ah b1, ah b2, ah b1]
   ·rw [ah n1, ah (Ne.symm n3), ah n1, az]
   ·rw [ah n2, az]
   ·exact Nat.le_trans (by (repeat (refine bh ?_)); exact Nat.zero_le _) (Nat.le_refl 40)
   ·rfl
  ·exact h.elim
theorem EY (T : Tx K mg) : aB P w K mg base aK 1 T.lP.f T.lP.d ["self"] (pG T.ay) := by
 refine T.lP.F.ok Le (fun vs H Q E h => ?_) (fun cdv A outer s H vs Q E hr h => ?_)
 ·unfold pG at h
  split at h
  ·rfl
  ·exact h.elim
 ·unfold pG at h
  split at h
  ·rename_i x
   obtain ⟨dx, hx, q⟩ := h
   refine ⟨_, ((Dv.cut (Dv.bf T.bO T.kL (Dv.v 0) (Dv.lst Dv.ai))
   (Dv.au (Dv.bf T.bO T.p0 (Dv.v 0) Dv.int)))).h, ?_⟩
   rw [show start ["self"] [V.ref x] = [some (.ref x)] from rfl]
   refine ao ?_
   walk_at "rd"
   refine ⟨fits (by simp), fun l hl => ?_⟩
   have n1 : l ≠ x := fun e => by rw [e, hx] at hl; cases hl
   refine ⟨x, dx, _, rfl, by rw [ah (Ne.symm n1)]; exact hx, by decide, ?_⟩
   refine ⟨x, dx, _, rfl, az, by (refine Nat.lt_of_le_of_lt (m := 40) ?_ (by decide); (repeat (refine bh ?_)); exact Nat.zero_le _), ?_⟩
   refine q l _ hl n1 (fun b b1 b2 => ?_) ?_ _ ?_ (fun f => ?_) az
   ·rw [ah b1, ah b1, ah b2]
   ·rw [ah n1, ah n1, az]
   ·exact Nat.le_trans (bh (bh (Nat.zero_le _))) (show 0 + 1 + 1 ≤ 40 by decide)
   ·rfl
  ·exact h.elim
theorem CP (T : Tx K mg) : aB P w K mg base aK 1 T.lb.f T.lb.d ["self", "asker"] (tE T.aA) := by
 refine T.lb.F.ok Jg (fun vs H Q E h => ?_) (fun cdv A outer s H vs Q E hr h => ?_)
 ·unfold tE at h
  split at h
  ·rfl
  ·exact h.elim
 ·unfold tE at h
  split at h
  ·rename_i x z
   obtain ⟨a, i, t, ith, rfl, q⟩ := h
   obtain ⟨fs, hx, hfl, sf⟩ := ith.o
   refine ⟨_, ((Dv.au (Dv.aM (Dv.AJ (Dv.bg dm (Dv.v 1) (Dv.fld T.cn T.A0 (Dv.v 0))) (Dv.fld T.cn T.y6 (Dv.v 0)) (Dv.fld T.cn T.yk (Dv.v 0)))))).h, ?_⟩
   rw [show start ["self", "asker"] [V.ref a.th, V.str z] = [some (V.ref a.th), some (V.str z)] from rfl]
   walk_at "w"
   refine ⟨a.th, _, _, _, rfl, hx, (sf _).trans rfl, ?_⟩
   dsimp only
   unfold cU at q
   by_cases e : z = t.ow
   ·rw [decide_eq_true e]
    rw [if_pos e] at q
    exact bo ⟨a.th, _, _, _, rfl, hx, (sf _).trans rfl, q⟩
   ·rw [decide_eq_false e]
    rw [if_neg e] at q
    exact aO ⟨a.th, _, _, _, rfl, hx, (sf _).trans rfl, q⟩
  ·exact h.elim
theorem Ff (T : Tx K mg) : aB P w K mg base aK 3 T.kg.f T.kg.d ["self", "kind", "owner", "mine", "rest", "text"] (uH T.ay T.aA) := by
 have G_Thing___init__ := EE (P := P) (w := w) (base := base) T
 refine T.kg.F.ok Bg (fun vs H Q E h => ?_) (fun cdv A outer s H vs Q E hr h => ?_)
 ·unfold uH at h
  split at h
  ·rfl
  ·exact h.elim
 ·unfold uH at h
  split at h
  case h_2 => exact h.elim
  rename_i x kd ow mi re tx
  obtain ⟨dt, ml, rs, ⟨⟨fs, c, hx, hfl, sf⟩, hml⟩, hrl, q⟩ := h
  refine ⟨_, ((Dv.cut (Dv.fi T.bO T.p0 eX (Dv.v 0) Dv.int)
   (Dv.cut (Dv.aN 6 Bg.nd (Dv.bZ (lz (K := K) rfl) T.iB PySem.boot_len (Dv.ag (Dv.fld T.bO T.kL (Dv.v 0)) Dv.ai)))
   (Dv.cut (Dv.aU (Dv.gx PySem.F.slot_list_append PySem.F.type_list_append fZ (Dv.fld T.bO T.kL (Dv.v 0)) (Dv.ag (Dv.make T.Ke G_Thing___init__ (hr.mono (by decide)) T.Gf T.ki.b .nil aw (Dv.ag (Dv.v 6) (Dv.ag (Dv.v 1) (Dv.ag (Dv.v 2) (Dv.ag (Dv.v 3) (Dv.ag (Dv.v 4) (Dv.ag (Dv.v 5) Dv.ai))))))) Dv.ai)))
   (Dv.au (Dv.aM (Dv.v 6))))))).h, ?_⟩
  rw [show start ["self", "kind", "owner", "mine", "rest", "text", "number"] [V.ref x, kd, ow, mi, re, tx] = [some (.ref x), some kd, some ow, some mi, some re, some tx, none] from rfl]
  have hne : ml ≠ x := fun e => by rw [e, hx] at hml; cases hml
  refine ao ?_
  walk_at "rd"
  refine ⟨x, dt, fs, .int c, rfl, hx, (sf _).trans rfl, _, _, rfl, rfl, dt, fs, hx, by omega, ao ?_⟩
  have sf1 : bQ (aa "changes" (.int (c + 1)) fs) (lx ml (c + 1)) := fun f => by rw [(sf.put "changes" (.int (c + 1))) f]; rfl
  have dC : (aa "changes" (.int (c + 1)) fs).length ≤ 41 := bh hfl
  have hx1 : upd H x (.ins T.ay dt (aa "changes" (.int (c + 1)) fs)) x = some (.ins T.ay dt (aa "changes" (.int (c + 1)) fs)) := az
  have fP : upd H x (.ins T.ay dt (aa "changes" (.int (c + 1)) fs)) ml = some (.lst rs) := by rw [ah hne]; exact hml
  have kp1 : Kp [x] H (upd H x (.ins T.ay dt (aa "changes" (.int (c + 1)) fs))) := fun b o hb e => by rw [ah (fun z => hb (by simp [z]))]; exact e
  have fr1 : ∀ b, b ≠ x → upd H x (.ins T.ay dt (aa "changes" (.int (c + 1)) fs)) b = H b := fun b hb => ah hb
  generalize upd H x (.ins T.ay dt (aa "changes" (.int (c + 1)) fs)) = H1 at hx1 fP kp1 fr1 ⊢
  walk_at "rd"
  refine ⟨x, dt, _, .ref ml, rfl, hx1, (sf1 _).trans rfl, ?_⟩
  simp only [bp, fP]
  refine ao ?_
  walk_at "rd"
  refine ⟨x, dt, _, .ref ml, rfl, hx1, (sf1 _).trans rfl, ?_⟩
  simp only [fP]
  intro th bJ hth hdth hdn
  refine ⟨bJ, az, fun nm pl H2 hnm hpl hnp hn1 hn2 fr2 hnm2 hpl2 ks hkl sk hth2 => ⟨rfl, ?_⟩⟩
  have we : ∀ b o, H1 b = some o → upd (upd H1 bJ (HO.own th)) th (HO.ins T.aA bJ []) b = some o := fun b o e => by
   rw [ah (aF e hth), ah (aF e hdth)]; exact e
  have vZ : ∀ b o, H1 b = some o → H2 b = some o := fun b o e => by
   rw [fr2 b (aF e hth) (aF (we b o e) hnm) (aF (we b o e) hpl)]; exact we b o e
  have dn : ∀ d, d ≠ th → upd (upd H1 bJ (HO.own th)) th (HO.ins T.aA bJ []) d = none → H1 d = none := fun d n e => by
   rw [ah n] at e
   by_cases z : d = bJ
   ·rw [z, az] at e; cases e
   ·rw [ah z] at e; exact e
  have nm1 := dn nm hn1 hnm
  have pl1 := dn pl hn2 hpl
  have toH : ∀ d, H1 d = none → H d = none := fun d e => by rw [← fr1 d (Ne.symm (aF hx1 e))]; exact e
  simp only [vZ _ _ fP]
  refine ⟨di (by omega), ?_⟩
  refine q th bJ nm pl ks _ (toH _ hth) (toH _ nm1) (toH _ pl1) ⟨⟨_, c + 1, by rw [ah (Ne.symm hne)]; exact vZ _ _ hx1, ?_, sf1⟩, az⟩ (by rw [ah (Ne.symm (aF fP hth))]; exact hth2) hkl sk
   (by rw [ah (Ne.symm (aF fP nm1))]; exact hnm2) (by rw [ah (Ne.symm (aF fP pl1))]; exact hpl2) (fun b o hb e => ?_)
  ·rw [cC (u := .int c) ((sf _).trans rfl)]; exact hfl
  ·simp only [List.mem_cons, List.not_mem_nil, or_false, not_or] at hb
   rw [ah hb.2]
   exact vZ _ _ (kp1 b o (by simp [hb.1]) e)
theorem qD (T : Tx K mg) : aB P w K mg base aK 4 T.eY.f T.eY.d ["self", "owner", "mine", "rest"] (qV T.ay T.aA) := by
 have G_Things_add_thing := Ff (P := P) (w := w) (base := base) T
 refine T.eY.F.ok Jl (fun vs H Q E h => ?_) (fun cdv A outer s H vs Q E hr h => ?_)
 ·unfold qV at h
  split at h
  ·rfl
  ·exact h.elim
 ·unfold qV at h
  split at h
  ·rename_i x ow mi re
   obtain ⟨dt, ml, rs, at', hrl, q⟩ := h
   obtain ⟨fs, c, hx, hfl, sf⟩ := at'.o
   refine ⟨_, ((Dv.au (Dv.aM (Dv.aY T.bO T.kg.h G_Things_add_thing (hr.mono (by decide)) T.kg.b .nil aw (Dv.v 0) (Dv.ag (Dv.glob (.str "folder") T.kT ⟨_, rfl⟩) (Dv.ag (Dv.v 1) (Dv.ag (Dv.v 2) (Dv.ag (Dv.v 3) (Dv.ag Dv.str Dv.ai))))))))).h, ?_⟩
   rw [show start ["self", "owner", "mine", "rest"] [V.ref x, ow, mi, re] = [some (.ref x), some ow, some mi, some re] from rfl]
   walk_at "w"
   exact ⟨x, dt, fs, rfl, hx, (sf _).trans rfl, dt, ml, rs, at', hrl, q⟩
  ·exact h.elim
theorem jv (T : Tx K mg) : aB P w K mg base (dS P w) 2 T.cG.f T.cG.d ["self", "number"] (nk T.aj T.ay T.aA T.jX) := by
 have vO := x3 (P := P) (w := w) (base := base) T
 refine T.cG.F.iY D7 (fun vs H Q E h => ?_) (fun cdv A outer s H vs Q E hr h => ?_)
 ·unfold nk at h
  split at h
  ·rfl
  ·exact h.elim
 ·unfold nk at h
  split at h
  ·rename_i x v
   obtain ⟨AA, L, M, i, rfl, hcl, q1, q2⟩ := h
   obtain ⟨fs, c, hx, hfl, sf⟩ := i.t
   refine ⟨_, ((Dv.cut (Dv.ba (Dv.dq (Dv.w_or (Dv.b8 (Dv.bT (Dv.call vO (hr.mono (by decide)) T.fj.m T.fj.F.kp T.fj.b .nil aw (Dv.ag (Dv.v 1) Dv.ai)))) (Dv.fL (Dv.b8 (Dv.rm kD z9 Dv.int (Dv.v 1) (Dv.bZ (lz (K := K) rfl) T.iB PySem.boot_len (Dv.ag (Dv.fld T.bO T.kL (Dv.v 0)) Dv.ai))))))) (Dv.au (Dv.ux pR rfl T.ID T.KL (Dv.ag Dv.str Dv.ai))) Dv.nil)
   (Dv.au (Dv.aM (Dv.ix (bq (K := K) rfl) (Dv.fld T.bO T.kL (Dv.v 0)) (Dv.v 1)))))).h, ?_⟩
   rw [show start ["self", "number"] [V.ref AA.t, v] = [some (.ref AA.t), some v] from rfl]
   refine ao ?_
   walk_at "w"
   refine ⟨hcl, ?_⟩
   cases v with
   | int n =>
    simp only [yd, Bool.not_true, Bool.false_eq_true, if_false]
    refine lI (fun h0 => ?_) (fun h0 => bo ⟨fits (by simp), q2 fun j e => ?_⟩)
    ·have h0' : 0 ≤ n := of_decide_eq_true h0
     refine ⟨AA.t, _, _, .ref AA.ml, rfl, hx, (sf _).trans rfl, ?_⟩
     simp only [bp, i.ml, List.length_map, i.len]
     obtain ⟨k, rfl⟩ := Int.eq_ofNat_of_zero_le h0'
     by_cases hk : k < M.ts.length
     ·rw [decide_eq_true (show (k : Int) < (M.ts.length : Int) by omega)]
      refine aO ⟨AA.t, _, _, .ref AA.ml, rfl, hx, (sf _).trans rfl, ?_⟩
      simp only [bp, i.ml]
      have hkL : k < L.length := by rw [i.len]; exact hk
      rw [gR (xs := L.map fun a => V.ref a.th) (j := k) (by rw [List.getElem?_map, List.getElem?_eq_getElem hkL]; rfl)]
      exact q1 k _ _ rfl (List.getElem?_eq_getElem hkL) (List.getElem?_eq_getElem hk)
     ·rw [decide_eq_false (show ¬ (k : Int) < (M.ts.length : Int) by omega)]
      refine bo ⟨fits (by simp), q2 fun j e => ?_⟩
      injection e with e
      have : k = j := by omega
      rw [← this]; exact hk
    ·injection e with e
     exact absurd (decide_eq_true (show (0 : Int) ≤ n by omega)) h0
   | _ => exact ⟨fits (by simp), q2 fun k e => by cases e⟩
  ·exact h.elim
section
variable {T : Tx K mg} {H : Hp} {A : Ad} {L : List Ta} {M : Hs}
theorem jn {k : Nat} {a : Ta} {t : Th} {Q : VK} {E : XK} (i : aG T.aj T.ay T.aA H A L M) (ha : L[k]? = some a) (ht : M.ts[k]? = some t) (q : Q (.ref a.th) H) : nk T.aj T.ay T.aA T.jX [.ref A.t, .int (k : Int)] H Q E :=
 ⟨A, L, M, i, rfl, ⟨_, rfl⟩, fun j a' t' e h1 h2 => by
  injection e with e
  have : k = j := by omega
  subst this
  rw [ha] at h1; cases h1
  exact q, fun h => absurd (List.getElem?_eq_some_iff.mp ht).1 (h k rfl)⟩
theorem dG {k : Nat} {a : Ta} {t : Th} (i : aG T.aj T.ay T.aA H A L M) (ha : L[k]? = some a) (ht : M.ts[k]? = some t) : gU T.aA H a k t := by
 obtain ⟨a', e, h⟩ := i.th k t ht
 rw [ha] at e; cases e
 exact h
end
theorem Aj (T : Tx K mg) : aB P w K mg base aK 3 T.gS.f T.gS.d ["self", "folder", "name"] (tw T.aj T.ay T.aA Ad.t) := by
 have dZ := jv (P := P) (w := w) (base := base) T
 refine T.gS.F.ok Lj (fun vs H Q E h => ?_) (fun cdv A outer s H vs Q E hr h => ?_)
 ·unfold tw at h
  split at h
  ·rfl
  ·exact h.elim
 ·unfold tw at h
  split at h
  ·rename_i x n z
   obtain ⟨AA, L, M, k, a, t, i, rfl, rfl, ha, hth, q⟩ := h
   obtain ⟨fs, c, hx, hfl, sf⟩ := i.h
   obtain ⟨gs, c2, ht, hgl, sg⟩ := i.t
   have ith := dG i ha hth
   obtain ⟨ks, ho, hol, so⟩ := ith.o
   refine ⟨_, ((Dv.au (Dv.aM (Dv.Ae (bX hr) (Dv.fld T.cn T.sU (Dv.cK T.bO T.cG.h dZ (hr.mono (by decide)) T.cG.b .nil c8 (Dv.v 0) (Dv.ag (Dv.v 1) Dv.ai))) (Dv.v 2))))).h, ?_⟩
   rw [show start ["self", "folder", "name"] [V.ref AA.t, V.int (k : Int), V.str z] = [some (V.ref AA.t), some (V.int (k : Int)), some (V.str z)] from rfl]
   walk_at "w"
   refine ⟨AA.t, _, _, rfl, ht, (sg _).trans rfl, jn i ha hth ⟨a.th, _, _, .ref a.nm, rfl, ho, (so _).trans rfl, a.nm, rfl, .inl ⟨_, .inl ith.nm⟩, _, bP.k (k := .inr z) ith.nm, q⟩⟩
  ·exact h.elim
theorem Ez (T : Tx K mg) : aB P w K mg base aK 3 T.lQ.f T.lQ.d ["self", "number"] (cQ T.aj T.ay T.aA Ad.t tF) := by
 have dZ := jv (P := P) (w := w) (base := base) T
 refine T.lQ.F.ok Cr (fun vs H Q E h => ?_) (fun cdv A outer s H vs Q E hr h => ?_)
 ·unfold cQ at h
  split at h
  ·rfl
  ·exact h.elim
 ·unfold cQ at h
  split at h
  ·rename_i x n
   obtain ⟨AA, L, M, k, a, t, i, rfl, rfl, ha, hth, q⟩ := h
   obtain ⟨fs, c, hx, hfl, sf⟩ := i.h
   obtain ⟨gs, c2, ht, hgl, sg⟩ := i.t
   have ith := dG i ha hth
   obtain ⟨ks, ho, hol, so⟩ := ith.o
   refine ⟨_, ((Dv.au (Dv.aM (Dv.minD rfl T.Hv (Dv.fld T.cn T.nJ (Dv.cK T.bO T.cG.h dZ (hr.mono (by decide)) T.cG.b .nil c8 (Dv.v 0) (Dv.ag (Dv.v 1) Dv.ai))))))).h, ?_⟩
   rw [show start ["self", "number"] [V.ref AA.t, V.int (k : Int)] = [some (V.ref AA.t), some (V.int (k : Int))] from rfl]
   walk_at "w"
   refine ⟨AA.t, _, _, rfl, ht, (sg _).trans rfl, jn i ha hth ⟨a.th, _, _, .ref a.pl, rfl, ho, (so _).trans rfl, a.pl, _, rfl, ith.pl, ?_⟩⟩
   rcases q with ⟨e, q⟩ | ⟨f, z, e, q⟩
   ·rw [e]; exact .inl ⟨rfl, q⟩
   ·rw [e]; exact .inr ⟨_, _, rfl, q⟩
  ·exact h.elim
theorem nq (T : Tx K mg) : aB P w K mg base aK 3 T.ed.f T.ed.d ["self", "number"] (cQ T.aj T.ay T.aA Ad.a mZ) := by
 have dZ := jv (P := P) (w := w) (base := base) T
 refine T.ed.F.ok He (fun vs H Q E h => ?_) (fun cdv A outer s H vs Q E hr h => ?_)
 ·unfold cQ at h
  split at h
  ·rfl
  ·exact h.elim
 ·unfold cQ at h
  split at h
  ·rename_i x n
   obtain ⟨AA, L, M, k, a, t, i, rfl, rfl, ha, hth, q⟩ := h
   obtain ⟨fs, c, hx, hfl, sf⟩ := i.h
   obtain ⟨gs, c2, ht, hgl, sg⟩ := i.t
   have ith := dG i ha hth
   obtain ⟨ks, ho, hol, so⟩ := ith.o
   refine ⟨_, ((Dv.au (Dv.aM (Dv.fld T.cn T.uQ (Dv.cK T.bO T.cG.h dZ (hr.mono (by decide)) T.cG.b .nil c8 (Dv.fld T.aI T.eI (Dv.v 0)) (Dv.ag (Dv.v 1) Dv.ai)))))).h, ?_⟩
   rw [show start ["self", "number"] [V.ref AA.a, V.int (k : Int)] = [some (V.ref AA.a), some (V.int (k : Int))] from rfl]
   walk_at "w"
   exact ⟨AA.a, _, _, .ref AA.t, rfl, hx, (sf _).trans rfl, AA.t, _, _, rfl, ht, (sg _).trans rfl, jn i ha hth ⟨a.th, _, _, _, rfl, ho, (so _).trans rfl, q⟩⟩
  ·exact h.elim
theorem mS (T : Tx K mg) : aB P w K mg base aK 4 T.dj.f T.dj.d ["self", "number"] (cQ T.aj T.ay T.aA Ad.a tF) := by
 have G_Things_place_of := Ez (P := P) (w := w) (base := base) T
 refine T.dj.F.ok Cv (fun vs H Q E h => ?_) (fun cdv A outer s H vs Q E hr h => ?_)
 ·unfold cQ at h
  split at h
  ·rfl
  ·exact h.elim
 ·unfold cQ at h
  split at h
  ·rename_i x n
   obtain ⟨AA, L, M, k, a, t, i, rfl, rfl, ha, hth, q⟩ := h
   obtain ⟨fs, c, hx, hfl, sf⟩ := i.h
   obtain ⟨gs, c2, ht, hgl, sg⟩ := i.t
   have ith := dG i ha hth
   obtain ⟨ks, ho, hol, so⟩ := ith.o
   refine ⟨_, ((Dv.au (Dv.aM (Dv.aY T.bO T.lQ.h G_Things_place_of (hr.mono (by decide)) T.lQ.b .nil aw (Dv.fld T.aI T.eI (Dv.v 0)) (Dv.ag (Dv.v 1) Dv.ai))))).h, ?_⟩
   rw [show start ["self", "number"] [V.ref AA.a, V.int (k : Int)] = [some (V.ref AA.a), some (V.int (k : Int))] from rfl]
   walk_at "w"
   exact ⟨AA.a, _, _, .ref AA.t, rfl, hx, (sf _).trans rfl, AA.t, _, _, rfl, ht, (sg _).trans rfl, AA, L, M, k, a, t, i, rfl, rfl, ha, hth, q⟩
  ·exact h.elim
theorem x6 (T : Tx K mg) : aB P w K mg base aK 3 T.fg.f T.fg.d ["self", "number"] (cQ T.aj T.ay T.aA Ad.a Fq) := by
 have dZ := jv (P := P) (w := w) (base := base) T
 refine T.fg.F.ok HL (fun vs H Q E h => ?_) (fun cdv A outer s H vs Q E hr h => ?_)
 ·unfold cQ at h
  split at h
  ·rfl
  ·exact h.elim
 ·unfold cQ at h
  split at h
  ·rename_i x n
   obtain ⟨AA, L, M, k, a, t, i, rfl, rfl, ha, hth, q⟩ := h
   obtain ⟨fs, c, hx, hfl, sf⟩ := i.h
   obtain ⟨gs, c2, ht, hgl, sg⟩ := i.t
   have ith := dG i ha hth
   obtain ⟨ks, ho, hol, so⟩ := ith.o
   refine ⟨_, ((Dv.au (Dv.aU (Dv.cK T.bO T.cG.h dZ (hr.mono (by decide)) T.cG.b .nil c8 (Dv.fld T.aI T.eI (Dv.v 0)) (Dv.ag (Dv.v 1) Dv.ai))))).h, ?_⟩
   rw [show start ["self", "number"] [V.ref AA.a, V.int (k : Int)] = [some (V.ref AA.a), some (V.int (k : Int))] from rfl]
   walk_at "w"
   exact ⟨AA.a, _, _, .ref AA.t, rfl, hx, (sf _).trans rfl, AA.t, _, _, rfl, ht, (sg _).trans rfl, jn i ha hth q⟩
  ·exact h.elim
section
variable {CH CS CT : Addr} {H : Hp} {A : Ad} {L : List Ta} {M : Hs}
theorem aG.iU (i : aG CH CS CT H A L M) {k : Nat} {a : Ta} (ha : L[k]? = some a) : ∀ b ∈ A.w, ∀ c ∈ a.l, b ≠ c := fun b hb c hc => by
 have nd := i.nd
 rw [List.nodup_append] at nd
 exact nd.2.2 b hb c (eZ ha hc)
theorem aG.aT (i : aG CH CS CT H A L M) : A.a ≠ A.t := by
 have nd := i.nd
 rw [List.nodup_append] at nd
 have := (List.nodup_cons.mp nd.1).1
 exact fun e => this (by rw [e]; simp)
theorem Bb : ∀ {L : List Ta} {k : Nat} {a : Ta}, (L.flatMap Ta.l).Nodup → L[k]? = some a → a.l.Nodup
 | c :: r, 0, a, nd, h => by
  rw [List.flatMap_cons, List.nodup_append] at nd
  simp only [List.getElem?_cons_zero, Option.some.injEq] at h
  subst h; exact nd.1
 | c :: r, k + 1, a, nd, h => by
  rw [List.flatMap_cons, List.nodup_append] at nd
  simp only [List.getElem?_cons_succ] at h
  exact Bb nd.2.1 h
theorem aG.own (i : aG CH CS CT H A L M) {k : Nat} {a : Ta} (ha : L[k]? = some a) : a.th ≠ a.nm ∧ a.th ≠ a.pl ∧ a.nm ≠ a.pl := by
 have nd := i.nd
 rw [List.nodup_append] at nd
 have := Bb nd.2.1 ha
 simp only [Ta.l, List.nodup_cons, List.mem_cons, List.not_mem_nil, or_false, not_or, not_false_eq_true, List.nodup_nil, and_true] at this
 exact ⟨this.1.1, this.1.2, this.2⟩
end
def pj (CH CS CT : Addr) : Sp := fun vs H Q _ => match vs with
 | [.ref x, .int n, .str z] => ∃ A L M, ∃ k : Nat, ∃ a t, aG CH CS CT H A L M ∧ A.t = x ∧ n = (k : Int) ∧ L[k]? = some a ∧ M.ts[k]? = some t ∧ aH (sD t.aW) (.inr z) = none ∧ Q .aq H
 | _ => False
theorem EB (T : Tx K mg) : aB P w K mg base aK 4 T.lO.f T.lO.d ["self", "folder", "name"] (pj T.aj T.ay T.aA) := by
 have vp := Aj (P := P) (w := w) (base := base) T
 refine T.lO.F.ok ye (fun vs H Q E h => ?_) (fun cdv A outer s H vs Q E hr h => ?_)
 ·unfold pj at h
  split at h
  ·rfl
  ·exact h.elim
 ·unfold pj at h
  split at h
  ·rename_i x n z
   obtain ⟨AA, L, M, k, a, t, i, rfl, rfl, ha, hth, hv, q⟩ := h
   obtain ⟨gs, c2, ht, hgl, sg⟩ := i.t
   refine ⟨_, ((Dv.cut (Dv.aN 3 ye.nd (Dv.aY T.bO T.gS.h vp (hr.mono (by decide)) T.gS.b .nil aw (Dv.v 0) (Dv.ag (Dv.v 1) (Dv.ag (Dv.v 2) Dv.ai))))
   (Dv.au (Dv.ba (Dv.bg mC (Dv.v 3) Dv.aq) (Dv.cut Dv.bE
   (Dv.cut Dv.bE
   (Dv.au Dv.bE))) Dv.nil)))).h, ?_⟩
   rw [show start ["self", "folder", "name", "number"] [V.ref AA.t, V.int (k : Int), V.str z] = [some (V.ref AA.t), some (V.int (k : Int)), some (V.str z), none] from rfl]
   refine ao ?_
   walk_at "w"
   refine ⟨AA.t, _, _, rfl, ht, (sg _).trans rfl, AA, L, M, k, a, t, i, rfl, rfl, ha, hth, ?_⟩
   rw [hv]
   refine ⟨trivial, ?_⟩
   exact aO q
  ·exact h.elim
def qR (CH CS CT : Addr) : Sp := fun vs H Q _ => match vs with
 | [.ref x, .int fn, .str z, .int kn] => ∃ A L M, ∃ f k : Nat, ∃ af tf ak tk, aG CH CS CT H A L M ∧ A.t = x ∧ fn = (f : Int) ∧ kn = (k : Int) ∧ L[f]? = some af ∧ M.ts[f]? = some tf ∧ L[k]? = some ak ∧ M.ts[k]? = some tk ∧ f ≠ k ∧ aH (sD tf.aW) (.inr z) = none ∧ tf.aW.length ≤ 500 ∧ tk.bz = [] ∧
   ∀ H', aG CH CS CT H' A L { M with ts := (M.ts.set f { tf with aW := tf.aW ++ [(z, k)] }).set k { tk with bz := [(f, z)] } } → Kp [A.t, af.nm, ak.pl] H H' → Q .aq H'
 | _ => False
theorem oF {l : List (Str × Nat)} {z : Str} {k : Nat} (h : aH (sD l) (.inr z) = none) : putK (sD l) (.inr z) (.int (k : Int)) = sD (l ++ [(z, k)]) := by
 have e : ((sD l).any fun kv => decide (kv.1 = (Sum.inr z : Key))) = false := by rw [ka, h]; rfl
 unfold putK
 rw [e]
 simp [sD]
theorem HV (T : Tx K mg) : aB P w K mg base aK 5 T.kh.f T.kh.d ["self", "folder", "name", "number"] (qR T.aj T.ay T.aA) := by
 have dZ := jv (P := P) (w := w) (base := base) T
 have G_Things_drop_name := EB (P := P) (w := w) (base := base) T
 refine T.kh.F.ok m9 (fun vs H Q E h => ?_) (fun cdv A outer s H vs Q E hr h => ?_)
 ·unfold qR at h
  split at h
  ·rfl
  ·exact h.elim
 ·unfold qR at h
  split at h
  ·rename_i x fn z kn
   obtain ⟨AA, L, M, f, k, af, tf, ak, tk, i, rfl, rfl, rfl, haf, htf, hak, cR, hfk, hv, hnl, hpl, q⟩ := h
   obtain ⟨fs, c, hx, hfl, sf⟩ := i.h
   obtain ⟨gs, c2, ht, hgl, sg⟩ := i.t
   have Bq := dG i hak cR
   obtain ⟨ks, ho, hol, so⟩ := Bq.o
   refine ⟨_, ((Dv.cut (Dv.aN 4 m9.nd (Dv.cK T.bO T.cG.h dZ (hr.mono (by decide)) T.cG.b .nil c8 (Dv.v 0) (Dv.ag (Dv.v 3) Dv.ai)))
   (Dv.cut (Dv.fi T.bO T.p0 eX (Dv.v 0) Dv.int)
   (Dv.cut (Dv.aU (Dv.aY T.bO T.lO.h G_Things_drop_name (hr.mono (by decide)) T.lO.b .nil aw (Dv.v 0) (Dv.ag (Dv.v 1) (Dv.ag (Dv.v 2) Dv.ai))))
   (Dv.cut (Dv.ba (Dv.bg eP (Dv.fld T.cn T.uQ (Dv.v 4)) (Dv.glob (.str "file") T.Kz ⟨_, rfl⟩)) (Dv.au (Dv.j0 PassesOwn.never rfl (Dv.lV (K := K) rfl (Dv.qA (Ko rfl) T.qY Gx (Dv.ag (Dv.fld T.cn T.nJ (Dv.v 4)) Dv.ai))) (Dv.xD (K := K) rfl rfl (Dv.nI (Dv.f6 5 m9.nd) (Dv.nI (Dv.f6 6 m9.nd) Dv.wQ))) (Dv.au Dv.bE))) Dv.nil)
   (Dv.cut (Dv.f7 (bX hr) (Dv.fld T.cn T.sU (Dv.cK T.bO T.cG.h dZ (hr.mono (by decide)) T.cG.b .nil c8 (Dv.v 0) (Dv.ag (Dv.v 1) Dv.ai))) (Dv.v 2) (Dv.v 3))
   (Dv.au (Dv.f7 (bX hr) (Dv.fld T.cn T.nJ (Dv.v 4)) (Dv.tup (Dv.ag (Dv.v 1) (Dv.ag (Dv.v 2) Dv.ai))) Dv.bl)))))))).h, ?_⟩
   rw [show start ["self", "folder", "name", "number", "thing", "former", "known"] [V.ref AA.t, V.int (f : Int), V.str z, V.int (k : Int)] = [some (V.ref AA.t), some (V.int (f : Int)), some (V.str z), some (V.int (k : Int)), none, none, none] from rfl]
   refine ao ?_
   walk_at "w"
   refine ⟨AA.t, _, _, rfl, ht, (sg _).trans rfl, jn i hak cR ?_⟩
   refine ao ?_
   walk_at "w"
   refine ⟨AA.t, _, _, .int c2, rfl, ht, (sg _).trans rfl, _, _, rfl, rfl, _, _, ht, by omega, ao ?_⟩
   have tn : ∀ b ∈ ak.l, AA.t ≠ b := i.iU hak _ (by simp [Ad.w])
   have i1 : aG T.aj T.ay T.aA (upd H AA.t (.ins T.ay AA.dt (aa "changes" (.int (c2 + 1)) gs))) AA L M := by
    have w := i.write (H' := upd H AA.t (.ins T.ay AA.dt (aa "changes" (.int (c2 + 1)) gs))) (t' := tk) hak ⟨fs, c, by rw [ah i.aT]; exact hx, hfl, sf⟩ ⟨_, c2 + 1, az, by rw [cC (u := .int c2) ((sg _).trans rfl)]; exact hgl, fun f => by rw [(sg.put "changes" (.int (c2 + 1))) f]; rfl⟩
     (Bq.keep (W := [AA.t]) (fun b o hb e => by rw [ah (fun z => hb (by simp [z]))]; exact e) fun b hb => by simp [Ne.symm (tn b hb)]) (fun b o hb e => by simp only [List.mem_cons, List.not_mem_nil, or_false, not_or] at hb; rw [ah hb.2.1]; exact e)
    have e : M.ts.set k tk = M.ts := by
     apply List.ext_getElem?
     intro j
     by_cases hj : k = j
     ·subst hj; rw [List.getElem?_set_self (List.getElem?_eq_some_iff.mp cR).1, cR]
     ·rw [List.getElem?_set_ne hj]
    rw [e] at w
    exact w
   have kp1 : Kp [AA.t] H (upd H AA.t (.ins T.ay AA.dt (aa "changes" (.int (c2 + 1)) gs))) := fun b o hb e => by rw [ah (fun z => hb (by simp [z]))]; exact e
   generalize upd H AA.t (.ins T.ay AA.dt (aa "changes" (.int (c2 + 1)) gs)) = H1 at i1 kp1 ⊢
   obtain ⟨gs1, c3, ht1, B8, sg1⟩ := i1.t
   have BY := dG i1 hak cR
   have ithf1 := dG i1 haf htf
   obtain ⟨ks1, ho1, hol1, so1⟩ := BY.o
   obtain ⟨fs1, hf1, dC, sf1⟩ := ithf1.o
   walk_at "w"
   refine ⟨AA.t, _, _, rfl, ht1, (sg1 _).trans rfl, AA, L, M, f, af, tf, i1, rfl, rfl, haf, htf, hv, ?_⟩
   refine b0 (fun σ' H' => ax H1 H' ∧ ∃ t5 t6, σ' = [some (V.ref AA.t), some (V.int (f : Int)), some (V.str z), some (V.int (k : Int)), some (.ref ak.th), t5, t6]) ?_ ?_
   ·walk_at "w"
    refine ⟨ak.th, _, _, _, rfl, ho1, (so1 _).trans rfl, ?_⟩
    refine lI (fun _ => ?_) (fun _ => ⟨ax.refl _, _, _, rfl⟩)
    refine ⟨ak.th, _, _, _, rfl, ho1, (so1 _).trans rfl, ?_⟩
    have md : H1 ak.pl = some (.dT []) := by have := BY.pl; rw [hpl] at this; exact this
    refine ⟨ak.pl, _, rfl, md, ?_⟩
    intro l ks hk _ hl
    have hks : ks = [] := List.length_eq_zero_iff.mp hk
    subst hks
    refine ⟨⟨_, aL.of az⟩, AL (xs := []) (fun _ σ' H' => H' = upd H1 l (.lst []) ∧ σ' = [some (V.ref AA.t), some (V.int (f : Int)), some (V.str z), some (V.int (k : Int)), some (.ref ak.th), none, none]) ⟨rfl, rfl⟩ (fun _ σ' H' _ h => by rw [h.1]; exact aL.of az) (fun j x σ' H' hx _ => by simp at hx) (fun σ' H' h => ?_)⟩
    obtain ⟨rfl, rfl⟩ := h
    exact ⟨ax.upd hl, _, _, rfl⟩
   ·rintro σ' H2 ⟨s2, t5, t6, rfl⟩
    have i2 := i1.same s2
    obtain ⟨gs2, c4, ht2, hgl2, sg2⟩ := i2.t
    obtain ⟨hs2, d2, hx2, hxl2, sx2⟩ := i2.h
    have v7 := dG i2 haf htf
    obtain ⟨fs2, hf2, fX, sf2⟩ := v7.o
    have Bu := i2.own haf
    have B0 := i2.own hak
    have BB := i2.iU haf
    have Bv := i2.iU hak
    refine ao ?_
    walk_at "w"
    refine ⟨AA.t, _, _, rfl, ht2, (sg2 _).trans rfl, jn i2 haf htf ⟨af.th, _, _, .ref af.nm, rfl, hf2, (sf2 _).trans rfl, af.nm, _, rfl, cZ.k (k := .inr z) v7.nm (di (by unfold sD; rw [List.length_map]; omega)), ?_⟩⟩
    rw [oF hv]
    have i3 : aG T.aj T.ay T.aA (upd H2 af.nm (.dK (sD (tf.aW ++ [(z, k)])))) AA L { M with ts := M.ts.set f { tf with aW := tf.aW ++ [(z, k)] } } := by
     refine i2.write haf ⟨hs2, d2, by rw [ah (BB _ (by simp [Ad.w]) _ (by simp [Ta.l]))]; exact hx2, hxl2, sx2⟩ ⟨gs2, c4, by rw [ah (BB _ (by simp [Ad.w]) _ (by simp [Ta.l]))]; exact ht2, hgl2, sg2⟩ ⟨⟨fs2, by rw [ah Bu.1]; exact hf2, fX, sf2⟩, az, by rw [ah (Ne.symm Bu.2.2)]; exact v7.pl⟩ (fun b o hb e => ?_)
     simp only [List.mem_cons, List.not_mem_nil, or_false, not_or] at hb
     rw [ah hb.2.2.2.1]; exact e
    have kp3 : Kp [AA.t, af.nm] H (upd H2 af.nm (.dK (sD (tf.aW ++ [(z, k)])))) := fun b o hb e => by
     simp only [List.mem_cons, List.not_mem_nil, or_false, not_or] at hb
     rw [ah hb.2]
     exact s2 _ _ (kp1 b o (by simp [hb.1]) e)
    generalize upd H2 af.nm (.dK (sD (tf.aW ++ [(z, k)]))) = H3 at i3 kp3 ⊢
    have Bo : (M.ts.set f { tf with aW := tf.aW ++ [(z, k)] })[k]? = some tk := by rw [List.getElem?_set_ne hfk]; exact cR
    have ithk3 := dG i3 hak Bo
    obtain ⟨ks3, ho3, hol3, so3⟩ := ithk3.o
    walk_at "w"
    refine ⟨ak.th, _, _, .ref ak.pl, rfl, ho3, (so3 _).trans rfl, fits (by simp), fun p hp => ?_⟩
    have s4 := ax.upd (o := .tup [V.int (f : Int), V.str z]) hp
    have b4 : upd H3 p (.tup [V.int (f : Int), V.str z]) p = some (.tup [V.int (f : Int), V.str z]) := az
    generalize upd H3 p (.tup [V.int (f : Int), V.str z]) = H4 at s4 b4 ⊢
    have i4 := i3.same s4
    have wo := dG i4 hak Bo
    obtain ⟨ks4, ho4, hol4, so4⟩ := wo.o
    obtain ⟨gs4, c5, ht4, hgl4, sg4⟩ := i4.t
    obtain ⟨hs4, d4, hx4, hxl4, sx4⟩ := i4.h
    have hpl4 : H4 ak.pl = some (.dT []) := by have := wo.pl; rw [hpl] at this; exact this
    refine ⟨ak.pl, _, rfl, cZ.t (k := [.inl (f : Int), .inr z]) hpl4 b4 (by decide), ?_⟩
    refine q _ (i4.write hak ⟨hs4, d4, by rw [ah (Bv _ (by simp [Ad.w]) _ (by simp [Ta.l]))]; exact hx4, hxl4, sx4⟩ ⟨gs4, c5, by rw [ah (Bv _ (by simp [Ad.w]) _ (by simp [Ta.l]))]; exact ht4, hgl4, sg4⟩ ⟨⟨ks4, by rw [ah B0.2.1]; exact ho4, hol4, so4⟩, by rw [ah B0.2.2]; exact wo.nm, az⟩ (fun b o hb e => ?_)) (fun b o hb e => ?_)
    ·simp only [List.mem_cons, List.not_mem_nil, or_false, not_or] at hb
     rw [ah hb.2.2.2.2]; exact e
    ·simp only [List.mem_cons, List.not_mem_nil, or_false, not_or] at hb
     rw [ah hb.2.2]
     exact s4 _ _ (kp3 b o (by simp [hb.1, hb.2.1]) e)
  ·exact h.elim
def i0 (CH : Addr) (fld : Str) : Sp := fun vs H Q _ => match vs with
 | [.ref x, .str z, .int n] => ∃ dx fs c d kvs, H x = some (.ins CH dx fs) ∧ fs.length ≤ 40 ∧ fs.lookup ("changes" : Str) = some (.int c) ∧ fs.lookup fld = some (.ref d) ∧ H d = some (.dK kvs) ∧ kvs.length ≤ 40 ∧
   Q .aq (upd (upd H x (.ins CH dx (aa "changes" (.int (c + 1)) fs))) d (.dK (putK kvs (.inr z) (.int n))))
 | _ => False
def qp (CH : Addr) : Sp := fun vs H Q _ => match vs with
 | [.ref x, .str z] => ∃ dx fs c ro st kr ks, H x = some (.ins CH dx fs) ∧ fs.length ≤ 40 ∧ fs.lookup ("changes" : Str) = some (.int c) ∧ fs.lookup ("roots" : Str) = some (.ref ro) ∧ fs.lookup ("standings" : Str) = some (.ref st) ∧ fs.lookup ("first_root" : Str) = some (.int 0) ∧ fs.lookup ("put_root" : Str) = none ∧ fs.lookup ("put_standing" : Str) = none ∧
   H ro = some (.dK kr) ∧ kr.length ≤ 40 ∧ H st = some (.dK ks) ∧ ks.length ≤ 40 ∧ ro ≠ st ∧
   ∀ fs' c' H', H' x = some (.ins CH dx fs') → fs'.length ≤ 40 → bQ fs' (aa "changes" (.int c') fs) → H' ro = some (.dK (putK kr (.inr z) (.int 0))) → H' st = some (.dK (putK ks (.inr z) (.int 0))) → (∀ b, b ≠ x → b ≠ ro → b ≠ st → H' b = H b) → Q .aq H'
 | _ => False
theorem Ao (T : Tx K mg) : aB P w K mg base aK 1 T.fK.f T.fK.d ["self", "asker", "folder"] (i0 T.aj "roots") := by
 refine T.fK.F.ok Hm (fun vs H Q E h => ?_) (fun cdv A outer s H vs Q E hr h => ?_)
 ·unfold i0 at h
  split at h
  ·rfl
  ·exact h.elim
 ·unfold i0 at h
  split at h
  ·rename_i x z n
   obtain ⟨dx, fs, c, d, kvs, hx, hfl, hc, hd, hD, hkl, q⟩ := h
   refine ⟨_, ((Dv.cut (Dv.fi T.aI T.iF eX (Dv.v 0) Dv.int)
   (Dv.au (Dv.f7 (bX hr) (Dv.fld T.aI T.kx (Dv.v 0)) (Dv.v 1) (Dv.v 2))))).h, ?_⟩
   rw [show start ["self", "asker", "folder"] [V.ref x, V.str z, V.int n] = [some (V.ref x), some (V.str z), some (V.int n)] from rfl]
   have hne : d ≠ x := fun e => by rw [e, hx] at hD; cases hD
   refine ao ?_
   walk_at "w"
   refine ⟨x, dx, fs, .int c, rfl, hx, hc, _, _, rfl, rfl, dx, fs, hx, by omega, ?_⟩
   walk_at "w"
   refine ⟨x, dx, _, .ref d, rfl, az, by rw [bS, if_neg (by decide)]; exact hd, d, _, rfl, cZ.k (k := .inr z) (by rw [ah hne]; exact hD) (di (by omega)), q⟩
  ·exact h.elim
theorem zS (T : Tx K mg) : aB P w K mg base aK 1 T.d7.f T.d7.d ["self", "asker", "folder"] (i0 T.aj "standings") := by
 refine T.d7.F.ok KA (fun vs H Q E h => ?_) (fun cdv A outer s H vs Q E hr h => ?_)
 ·unfold i0 at h
  split at h
  ·rfl
  ·exact h.elim
 ·unfold i0 at h
  split at h
  ·rename_i x z n
   obtain ⟨dx, fs, c, d, kvs, hx, hfl, hc, hd, hD, hkl, q⟩ := h
   refine ⟨_, ((Dv.cut (Dv.fi T.aI T.iF eX (Dv.v 0) Dv.int)
   (Dv.au (Dv.f7 (bX hr) (Dv.fld T.aI T.sM (Dv.v 0)) (Dv.v 1) (Dv.v 2))))).h, ?_⟩
   rw [show start ["self", "asker", "folder"] [V.ref x, V.str z, V.int n] = [some (V.ref x), some (V.str z), some (V.int n)] from rfl]
   have hne : d ≠ x := fun e => by rw [e, hx] at hD; cases hD
   refine ao ?_
   walk_at "w"
   refine ⟨x, dx, fs, .int c, rfl, hx, hc, _, _, rfl, rfl, dx, fs, hx, by omega, ?_⟩
   walk_at "w"
   refine ⟨x, dx, _, .ref d, rfl, az, by rw [bS, if_neg (by decide)]; exact hd, d, _, rfl, cZ.k (k := .inr z) (by rw [ah hne]; exact hD) (di (by omega)), q⟩
  ·exact h.elim
theorem wK (T : Tx K mg) : aB P w K mg base aK 2 T.gZ.f T.gZ.d ["self", "name"] (qp T.aj) := by
 have wa := Ao (P := P) (w := w) (base := base) T
 have l9 := zS (P := P) (w := w) (base := base) T
 refine T.gZ.F.ok JV (fun vs H Q E h => ?_) (fun cdv A outer s H vs Q E hr h => ?_)
 ·unfold qp at h
  split at h
  ·rfl
  ·exact h.elim
 ·unfold qp at h
  split at h
  ·rename_i x z
   obtain ⟨dx, fs, c, ro, st, kr, ks, hx, hfl, hc, hro, hst, hfr, hp1, hp2, hRo, hkr, hSt, hks, hrs, q⟩ := h
   refine ⟨_, ((Dv.cut (Dv.aU (Dv.aY T.aI T.fK.h wa (hr.mono (by decide)) T.fK.b .nil aw (Dv.v 0) (Dv.ag (Dv.v 1) (Dv.ag (Dv.fld T.aI T.pH (Dv.v 0)) Dv.ai))))
   (Dv.au (Dv.aU (Dv.aY T.aI T.d7.h l9 (hr.mono (by decide)) T.d7.b .nil aw (Dv.v 0) (Dv.ag (Dv.v 1) (Dv.ag (Dv.fld T.aI T.pH (Dv.v 0)) Dv.ai))))))).h, ?_⟩
   rw [show start ["self", "name"] [V.ref x, V.str z] = [some (V.ref x), some (V.str z)] from rfl]
   have n1 : ro ≠ x := fun e => by rw [e, hx] at hRo; cases hRo
   have n2 : st ≠ x := fun e => by rw [e, hx] at hSt; cases hSt
   refine ao ?_
   walk_at "w"
   refine ⟨x, dx, fs, rfl, hx, hp1, x, dx, fs, .int 0, rfl, hx, hfr, ?_⟩
   refine ⟨dx, fs, c, ro, kr, hx, by omega, hc, hro, hRo, hkr, ?_⟩
   have hx1 : upd (upd H x (.ins T.aj dx (aa "changes" (.int (c + 1)) fs))) ro (.dK (putK kr (.inr z) (.int 0))) x = some (.ins T.aj dx (aa "changes" (.int (c + 1)) fs)) := by rw [ah (Ne.symm n1), az]
   have hr1 : upd (upd H x (.ins T.aj dx (aa "changes" (.int (c + 1)) fs))) ro (.dK (putK kr (.inr z) (.int 0))) ro = some (.dK (putK kr (.inr z) (.int 0))) := az
   have hs1 : upd (upd H x (.ins T.aj dx (aa "changes" (.int (c + 1)) fs))) ro (.dK (putK kr (.inr z) (.int 0))) st = some (.dK ks) := by rw [ah (Ne.symm hrs), ah n2]; exact hSt
   have fr1 : ∀ b, b ≠ x → b ≠ ro → upd (upd H x (.ins T.aj dx (aa "changes" (.int (c + 1)) fs))) ro (.dK (putK kr (.inr z) (.int 0))) b = H b := fun b b1 b2 => by rw [ah b2, ah b1]
   generalize upd (upd H x (.ins T.aj dx (aa "changes" (.int (c + 1)) fs))) ro (.dK (putK kr (.inr z) (.int 0))) = H1 at hx1 hr1 hs1 fr1 ⊢
   have lk : ∀ f : Str, f ≠ "changes" → (aa "changes" (.int (c + 1)) fs).lookup f = fs.lookup f := fun f hf => by rw [bS, if_neg hf]
   walk_at "w"
   refine ⟨x, dx, _, rfl, hx1, (lk _ (by decide)).trans hp2, x, dx, _, .int 0, rfl, hx1, (lk _ (by decide)).trans hfr, ?_⟩
   refine ⟨dx, _, c + 1, st, ks, hx1, by rw [cC hc]; exact hfl, by rw [bS, if_pos rfl], (lk _ (by decide)).trans hst, hs1, hks, ?_⟩
   refine q _ (c + 1 + 1) _ (by rw [ah (Ne.symm n2), az]) (by rw [cC (u := .int (c + 1)) (by rw [bS, if_pos rfl]), cC hc]; exact hfl) (fun f => ?_) (by rw [ah hrs, ah n1]; exact hr1) az (fun b b1 b2 b3 => by rw [ah b3, ah b1]; exact fr1 b b1 b2)
   rw [bS, bS, bS]
   by_cases e : f = "changes"
   ·rw [if_pos e, if_pos e]
   ·rw [if_neg e, if_neg e, if_neg e]
  ·exact h.elim
def rR (CH CS CT : Addr) : Sp := fun vs H Q _ => match vs with
 | [.ref x, .str m, .str own] => m = "main" ∧ ∃ dx fs c t dt ml tr, H x = some (.ins CH dx fs) ∧ fs.length ≤ 40 ∧ fs.lookup ("things" : Str) = some (.ref t) ∧ fs.lookup ("changes" : Str) = some (.int c) ∧ fs.lookup ("tree_roots" : Str) = some (.ref tr) ∧ fs.lookup ("add_folder" : Str) = none ∧
   ik CS H t dt ml [] ∧ H tr = some (.dK []) ∧
   ∀ th bJ nm pl fs' ks c' H', H th = none → H nm = none → H pl = none → H' x = some (.ins CH dx fs') → fs'.length ≤ fs.length → bQ fs' (aa "changes" (.int c') fs) → ik CS H' t dt ml [.ref th] → H' th = some (.ins CT bJ ks) → ks.length ≤ 40 →
    bQ ks (lL (.int 0) (.str "folder") (.str own) (.str "lgw") (.str "lg") (.str "") (.ref nm) (.ref pl)) → H' nm = some (.dK []) → H' pl = some (.dT []) → H' tr = some (.dK [(.inr "main", .int 0)]) → Kp [x, t, ml, tr] H H' → Q (.int 0) H'
 | _ => False
theorem Jf (T : Tx K mg) : aB P w K mg base aK 5 T.eU.f T.eU.d ["self", "tree", "owner"] (rR T.aj T.ay T.aA) := by
 have mw := qD (P := P) (w := w) (base := base) T
 refine T.eU.F.ok nv (fun vs H Q E h => ?_) (fun cdv A outer s H vs Q E hr h => ?_)
 ·unfold rR at h
  split at h
  ·rfl
  ·exact h.elim
 ·unfold rR at h
  split at h
  ·rename_i x m own
   obtain ⟨rfl, dx, fs, c, t, dt, ml, tr, hx, hfl, hth, hc, htr, haf, at0, hTr, q⟩ := h
   obtain ⟨gs, d, ht, hgl, sg⟩ := at0.o
   have hml := at0.ml
   refine ⟨_, ((Dv.cut (Dv.aN 3 nv.nd (Dv.aY T.bO T.eY.h mw (hr.mono (by decide)) T.eY.b .nil aw (Dv.fld T.aI T.eI (Dv.v 0)) (Dv.ag (Dv.v 2) (Dv.ag Dv.str (Dv.ag Dv.str Dv.ai)))))
   (Dv.cut (Dv.fi T.aI T.iF eX (Dv.v 0) Dv.int)
   (Dv.cut (Dv.f7 (bX hr) (Dv.fld T.aI T.ij (Dv.v 0)) (Dv.v 1) (Dv.v 3))
   (Dv.au (Dv.aM (Dv.v 3))))))).h, ?_⟩
   rw [show start ["self", "tree", "owner", "root"] [V.ref x, V.str "main", V.str own] = [some (V.ref x), some (V.str "main"), some (V.str own), none] from rfl]
   have n1 : t ≠ x ∨ True := .inr trivial
   refine ao ?_
   walk_at "w"
   refine ⟨x, dx, fs, .ref t, rfl, hx, hth, t, dt, gs, rfl, ht, (sg _).trans rfl, ?_⟩
   refine ⟨dt, ml, [], at0, by simp, ?_⟩
   intro th bJ nm pl ks H1 fth fnm fpl at1 hth1 hkl1 sk1 hnm1 md kp1
   obtain ⟨gs', d', ht1, B8, sg1⟩ := at1.o
   have fP := at1.ml
   have nxt : x ≠ t := fun e => by
    rw [e, ht] at hx
    injection hx with hx
    injection hx with _ _ hfs
    rw [← hfs] at hth
    have := (sg "things").symm.trans hth
    cases this
   have nxm : x ≠ ml := fun e => by rw [e, hml] at hx; cases hx
   have Cb : tr ≠ t := fun e => by rw [e, ht] at hTr; cases hTr
   have By : tr ≠ ml := fun e => by rw [e, hml] at hTr; cases hTr
   have BK : tr ≠ x := fun e => by rw [e, hx] at hTr; cases hTr
   have hx1 : H1 x = some (.ins T.aj dx fs) := kp1 _ _ (by simp [nxt, nxm]) hx
   have hTr1 : H1 tr = some (.dK []) := kp1 _ _ (by simp [Cb, By]) hTr
   refine ao ?_
   walk_at "w"
   refine ⟨x, dx, fs, .int c, rfl, hx1, hc, _, _, rfl, rfl, dx, fs, hx1, by omega, ao ?_⟩
   walk_at "w"
   refine ⟨x, dx, _, .ref tr, rfl, az, by rw [bS, if_neg (by decide)]; exact htr, tr, _, rfl, cZ.k (k := .inr "main") (by rw [ah BK]; exact hTr1) (by decide), ?_⟩
   walk_at "w"
   have old : ∀ b o, H1 b = some o → b ≠ x → b ≠ tr → upd (upd H1 x (.ins T.aj dx (aa "changes" (.int (c + 1)) fs))) tr (.dK (putK [] (.inr "main") (.int 0))) b = some o := fun b o e b1 b2 => by rw [ah b2, ah b1]; exact e
   have nth : th ≠ x ∧ th ≠ tr := ⟨Ne.symm (aF hx fth), Ne.symm (aF hTr fth)⟩
   have nnm : nm ≠ x ∧ nm ≠ tr := ⟨Ne.symm (aF hx fnm), Ne.symm (aF hTr fnm)⟩
   have npl : pl ≠ x ∧ pl ≠ tr := ⟨Ne.symm (aF hx fpl), Ne.symm (aF hTr fpl)⟩
   refine q th bJ nm pl _ ks (c + 1) _ fth fnm fpl (by rw [ah (Ne.symm BK), az]) (Nat.le_of_eq (cC hc)) (bQ.refl _) ⟨⟨gs', d', old _ _ ht1 (Ne.symm nxt) (Ne.symm Cb), B8, sg1⟩, old _ _ fP (Ne.symm nxm) (Ne.symm By)⟩ (old _ _ hth1 nth.1 nth.2) hkl1 sk1 (old _ _ hnm1 nnm.1 nnm.2) (old _ _ md npl.1 npl.2) az ?_
   intro b o hb e
   simp only [List.mem_cons, List.not_mem_nil, or_false, not_or] at hb
   exact old _ _ (kp1 b o (by simp [hb.2.1, hb.2.2.1]) e) hb.1 hb.2.2.2
  ·exact h.elim
theorem ic (T : Tx K mg) : aB P w K mg base (dS P w) 1 T.cF.f T.cF.d ["self", "asker"] (oH T.aj T.ay T.aA T.jR) := by
 refine T.cF.F.iY Hx (fun vs H Q E h => ?_) (fun cdv A outer s H vs Q E hr h => ?_)
 ·unfold oH at h
  split at h
  ·rfl
  ·exact h.elim
 ·unfold oH at h
  split at h
  ·rename_i x v
   obtain ⟨AA, L, M, i, rfl, ⟨ty, hty⟩, q1, q2⟩ := h
   obtain ⟨fs, c, hx, hfl, sf⟩ := i.h
   refine ⟨_, ((Dv.au (Dv.ba (Dv.dq (Dv.w_or (Dv.b8 (Dv.bT (Dv.bZ gu T.ei eh (Dv.ag (Dv.v 1) (Dv.ag (Dv.gf (.ty "str") T.jl iJ rfl) Dv.ai))))) (Dv.fL (Dv.yq (bX hr) (Dv.v 1) (Dv.fld T.aI T.kx (Dv.v 0)))))) (Dv.au (Dv.ux pR rfl T.GP T.Dq (Dv.ag Dv.str Dv.ai))) Dv.nil))).h, ?_⟩
   rw [show start ["self", "asker"] [V.ref AA.a, v] = [some (V.ref AA.a), some v] from rfl]
   walk_at "w"
   simp only [hty, tH hty]
   refine ⟨ot _ rfl, ?_⟩
   cases v with
   | str z =>
    simp only [my, Bool.not_true, Bool.false_eq_true, if_false]
    refine ⟨AA.a, _, _, .ref AA.ro, rfl, hx, (sf _).trans rfl, AA.ro, _, rfl, bP.k (k := .inr z) i.ro, ?_⟩
    cases hz : aH (sD M.ro) (.inr z) with
    | none => exact bo ⟨fits (by simp), q2 fun z' e => by cases e; exact hz⟩
    | some u => exact aO (q1 z rfl (by rw [hz]; rfl))
   | _ => exact ⟨fits (by simp), q2 fun z' e => by cases e⟩
  ·exact h.elim
section
variable {T : Tx K mg} {H : Hp} {A : Ad} {L : List Ta} {M : Hs}
theorem jx {z : Str} {Q : VK} {E : XK} (i : aG T.aj T.ay T.aA H A L M) (hz : (aH (sD M.ro) (.inr z)).isSome = true) (q : Q .aq H) : oH T.aj T.ay T.aA T.jR [.ref A.a, .str z] H Q E :=
 ⟨A, L, M, i, rfl, ⟨_, rfl⟩, fun _ _ _ => q, fun h => by rw [h z rfl] at hz; cases hz⟩
end
theorem tG (T : Tx K mg) : aB P w K mg base aK 2 T.fG.f T.fG.d ["self", "asker"] (rD T.aj T.ay T.aA) := by
 have dB := ic (P := P) (w := w) (base := base) T
 refine T.fG.F.ok CJ (fun vs H Q E h => ?_) (fun cdv A outer s H vs Q E hr h => ?_)
 ·unfold rD at h
  split at h
  ·rfl
  ·exact h.elim
 ·unfold rD at h
  split at h
  ·rename_i x z
   obtain ⟨AA, L, M, r, i, rfl, hz, q⟩ := h
   obtain ⟨fs, c, hx, hfl, sf⟩ := i.h
   refine ⟨_, ((Dv.cut (Dv.aU (Dv.cK T.aI T.cF.h dB (hr.mono (by decide)) T.cF.b .nil c8 (Dv.v 0) (Dv.ag (Dv.v 1) Dv.ai)))
   (Dv.au (Dv.aM (Dv.jy (bX hr) (Dv.fld T.aI T.kx (Dv.v 0)) (Dv.v 1)))))).h, ?_⟩
   rw [show start ["self", "asker"] [V.ref AA.a, V.str z] = [some (V.ref AA.a), some (V.str z)] from rfl]
   refine ao ?_
   walk_at "w"
   refine ⟨AA.a, _, _, rfl, hx, (sf _).trans rfl, jx i (by rw [hz]; rfl) ?_⟩
   refine ⟨AA.a, _, _, .ref AA.ro, rfl, hx, (sf _).trans rfl, AA.ro, .int r, rfl, ?_, q⟩
   have := bP.k (k := .inr z) i.ro
   rw [hz] at this
   exact this
  ·exact h.elim
def uv (CH CS CT : Addr) : Sp := fun vs H Q _ => match vs with
 | [.ref x, .str z] => ∃ A L M, ∃ r : Nat, aG CH CS CT H A L M ∧ A.a = x ∧ (aH (sD M.ro) (.inr z)).isSome = true ∧ aH (sD M.st) (.inr z) = some (.int r) ∧ Q (.int r) H
 | _ => False
theorem EZ (T : Tx K mg) : aB P w K mg base aK 2 T.kE.f T.kE.d ["self", "asker"] (uv T.aj T.ay T.aA) := by
 have dB := ic (P := P) (w := w) (base := base) T
 refine T.kE.F.ok K0 (fun vs H Q E h => ?_) (fun cdv A outer s H vs Q E hr h => ?_)
 ·unfold uv at h
  split at h
  ·rfl
  ·exact h.elim
 ·unfold uv at h
  split at h
  ·rename_i x z
   obtain ⟨AA, L, M, r, i, rfl, hzr, hz, q⟩ := h
   obtain ⟨fs, c, hx, hfl, sf⟩ := i.h
   refine ⟨_, ((Dv.cut (Dv.aU (Dv.cK T.aI T.cF.h dB (hr.mono (by decide)) T.cF.b .nil c8 (Dv.v 0) (Dv.ag (Dv.v 1) Dv.ai)))
   (Dv.au (Dv.aM (Dv.jy (bX hr) (Dv.fld T.aI T.sM (Dv.v 0)) (Dv.v 1)))))).h, ?_⟩
   rw [show start ["self", "asker"] [V.ref AA.a, V.str z] = [some (V.ref AA.a), some (V.str z)] from rfl]
   refine ao ?_
   walk_at "w"
   refine ⟨AA.a, _, _, rfl, hx, (sf _).trans rfl, jx i hzr ?_⟩
   refine ⟨AA.a, _, _, .ref AA.st, rfl, hx, (sf _).trans rfl, AA.st, .int r, rfl, ?_, q⟩
   have := bP.k (k := .inr z) i.st
   rw [hz] at this
   exact this
  ·exact h.elim
theorem yN (T : Tx K mg) : aB P w K mg base aK 4 T.h7.f T.h7.d ["self", "number", "name"] (sP T.aj T.ay T.aA) := by
 have il := nZ (P := P) (w := w) (base := base) T
 have vp := Aj (P := P) (w := w) (base := base) T
 refine T.h7.F.ok DR (fun vs H Q E h => ?_) (fun cdv A outer s H vs Q E hr h => ?_)
 ·unfold sP at h
  split at h
  ·rfl
  ·exact h.elim
 ·unfold sP at h
  split at h
  ·rename_i x n z
   obtain ⟨AA, L, M, k, a, t, i, rfl, rfl, ha, hth, hn, hl, q⟩ := h
   refine ⟨_, ((Dv.cut (Dv.aU (Dv.call il (hr.mono (by decide)) T.cO.m T.cO.F.kp T.cO.b .nil aw (Dv.ag (Dv.v 2) Dv.ai)))
   (Dv.au (Dv.aM (Dv.aY T.bO T.gS.h vp (hr.mono (by decide)) T.gS.b .nil aw (Dv.fld T.aI T.eI (Dv.v 0)) (Dv.ag (Dv.v 1) (Dv.ag (Dv.v 2) Dv.ai))))))).h, ?_⟩
   rw [show start ["self", "number", "name"] [V.ref AA.a, V.int (k : Int), V.str z] = [some (V.ref AA.a), some (V.int (k : Int)), some (V.str z)] from rfl]
   refine ao ?_
   walk_at "w"
   refine ⟨⟨_, rfl⟩, hl, hn, fun H1 s1 => ?_⟩
   have i1 := i.same s1
   obtain ⟨fs, c, hx, hfl, sf⟩ := i1.h
   obtain ⟨gs, c2, ht, hgl, sg⟩ := i1.t
   exact ⟨AA.a, _, _, .ref AA.t, rfl, hx, (sf _).trans rfl, AA.t, _, _, rfl, ht, (sg _).trans rfl, AA, L, M, k, a, t, i1, rfl, rfl, ha, hth, q H1 s1⟩
  ·exact h.elim
theorem xK (T : Tx K mg) : aB P w K mg base (dS P w) 3 T.hX.f T.hX.d ["self", "asker", "number", "right"] (mR T.aj T.ay T.aA T.jR T.mq T.jX) := by
 have dB := ic (P := P) (w := w) (base := base) T
 have G_check_one_right := JS (P := P) (w := w) (base := base) T
 have dZ := jv (P := P) (w := w) (base := base) T
 have G_Thing_rights_for := CP (P := P) (w := w) (base := base) T
 refine T.hX.F.iY HG (fun vs H Q E h => ?_) (fun cdv A outer s H vs Q E hr h => ?_)
 ·unfold mR at h
  split at h
  ·rfl
  ·exact h.elim
 ·unfold mR at h
  split at h
  ·rename_i x wv v r
   obtain ⟨AA, L, M, i, rfl, hcw, hcv, hcr, q1, q2⟩ := h
   obtain ⟨fs, c, hx, hfl, sf⟩ := i.h
   obtain ⟨gs, c2, ht, hgl, sg⟩ := i.t
   refine ⟨_, ((Dv.cut (Dv.aU (Dv.cK T.aI T.cF.h dB (hr.mono (by decide)) T.cF.b .nil rC (Dv.v 0) (Dv.ag (Dv.v 1) Dv.ai)))
   (Dv.cut (Dv.aU (Dv.Gp G_check_one_right (hr.mono (by decide)) T.iV.m T.iV.F.kp T.iV.b .nil rC (Dv.ag (Dv.v 3) Dv.ai)))
   (Dv.au (Dv.aM (Dv.cmp (oh (K := K) rfl) (Dv.v 3) (Dv.aY T.cn T.lb.h G_Thing_rights_for (hr.mono (by decide)) T.lb.b .nil aw (Dv.cK T.bO T.cG.h dZ (hr.mono (by decide)) T.cG.b .nil rC (Dv.fld T.aI T.eI (Dv.v 0)) (Dv.ag (Dv.v 2) Dv.ai)) (Dv.ag (Dv.v 1) Dv.ai)))))))).h, ?_⟩
   rw [show start ["self", "asker", "number", "right"] [V.ref AA.a, wv, v, r] = [some (V.ref AA.a), some wv, some v, some r] from rfl]
   refine ao ?_
   walk_at "w"
   refine ⟨AA.a, _, _, rfl, hx, (sf _).trans rfl, AA, L, M, i, rfl, hcw, fun z ez hz => ?_, q1⟩
   obtain ⟨q3, q4⟩ := q2 z ez hz
   subst ez
   refine ao ?_
   walk_at "w"
   refine ⟨hcr, fun h1 => ?_, q3⟩
   obtain ⟨st, rfl⟩ : ∃ st, r = .str st := by
    unfold eK at h1
    simp only [Bool.or_eq_true, decide_eq_true_eq] at h1
    rcases h1 with (h1 | h1) | h1 <;> exact ⟨_, h1⟩
   obtain ⟨q5, q6⟩ := q4 st rfl h1
   refine ⟨AA.a, _, _, .ref AA.t, rfl, hx, (sf _).trans rfl, AA.t, _, _, rfl, ht, (sg _).trans rfl, AA, L, M, i, rfl, hcv, fun k a t ev ha hth => ?_, q5⟩
   have ith := dG i ha hth
   obtain ⟨ks, ho, hol, so⟩ := ith.o
   exact ⟨a.th, _, _, rfl, ho, (so _).trans rfl, a, k, t, ith, rfl, q6 k t ev hth⟩
  ·exact h.elim
def M0 (z : Str) : Hs := { ts := [{ kd := "folder", ow := z, mi := "lgw", re := "lg", tx := "", aW := [], bz := [] }], ro := [(z, 0)], st := [(z, 0)], tr := [("main", 0)], ov := [], un := [] }
def rE (CH CS CT : Addr) : Sp := fun vs H Q _ => match vs with
 | [.ref x, .str z] => (∃ dx, H x = some (.ins CH dx [])) ∧ z.length ≤ 1000 ∧ dw (.str z) = true ∧ ∀ A L H', A.a = x → aG CH CS CT H' A L (M0 z) → (∀ b ∈ A.w ++ L.flatMap Ta.l, b ≠ x → H b = none) → Kp [x] H H' → Q .aq H'
 | _ => False
theorem Du (T : Tx K mg) : aB P w K mg base aK 6 T.kP.f T.kP.d ["self", "owner"] (rE T.aj T.ay T.aA) := by
 have il := nZ (P := P) (w := w) (base := base) T
 have G_Things___init__ := EY (P := P) (w := w) (base := base) T
 have vH := Jf (P := P) (w := w) (base := base) T
 have wF := wK (P := P) (w := w) (base := base) T
 refine T.kP.F.ok Kd (fun vs H Q E h => ?_) (fun cdv A outer s H vs Q E hr h => ?_)
 ·unfold rE at h
  split at h
  ·rfl
  ·exact h.elim
 ·unfold rE at h
  split at h
  ·rename_i x z
   obtain ⟨⟨dx, hx0⟩, hsh, hn, q⟩ := h
   refine ⟨_, ((Dv.cut (Dv.aU (Dv.call il (hr.mono (by decide)) T.cO.m T.cO.F.kp T.cO.b .nil aw (Dv.ag (Dv.v 1) Dv.ai)))
   (Dv.cut (Dv.bf T.aI T.eI (Dv.v 0) (Dv.Dg T.Fl G_Things___init__ (hr.mono (by decide)) T.DC T.lP.b .nil aw))
   (Dv.cut (Dv.bf T.aI T.iF (Dv.v 0) Dv.int)
   (Dv.cut (Dv.bf T.aI T.kx (Dv.v 0) Dv.gP)
   (Dv.cut (Dv.bf T.aI T.sM (Dv.v 0) Dv.gP)
   (Dv.cut (Dv.bf T.aI T.ij (Dv.v 0) Dv.gP)
   (Dv.cut (Dv.bf T.aI T.ni (Dv.v 0) Dv.gP)
   (Dv.cut (Dv.bf T.aI T.ke (Dv.v 0) Dv.gP)
   (Dv.cut (Dv.bf T.aI T.Fo (Dv.v 0) Dv.gP)
   (Dv.cut (Dv.bf T.aI T.G0 (Dv.v 0) Dv.int)
   (Dv.cut (Dv.bf T.aI T.pH (Dv.v 0) (Dv.aY T.aI T.eU.h vH (hr.mono (by decide)) T.eU.b .nil aw (Dv.v 0) (Dv.ag (Dv.glob (.str "main") T.zO ⟨_, rfl⟩) (Dv.ag (Dv.v 1) Dv.ai))))
   (Dv.au (Dv.aU (Dv.aY T.aI T.gZ.h wF (hr.mono (by decide)) T.gZ.b .nil aw (Dv.v 0) (Dv.ag (Dv.v 1) Dv.ai)))))))))))))))).h, ?_⟩
   rw [show start ["self", "owner"] [V.ref x, V.str z] = [some (V.ref x), some (V.str z)] from rfl]
   refine ao ?_
   walk_at "w"
   refine ⟨⟨_, rfl⟩, hsh, hn, fun H1 s1 => ?_⟩
   have hx1 := s1 _ _ hx0
   refine ao ?_
   walk_at "w"
   intro t dt ht hdt hdn
   refine ⟨dt, az, fun ml H2 hml nml fr2 hml2 gs hgl sg ht2 => ⟨rfl, ?_⟩⟩
   have nxt : x ≠ t := aF hx1 ht
   have nxd : x ≠ dt := aF hx1 hdt
   have hml' : H1 ml = none := by
    rw [ah nml] at hml
    by_cases e : ml = dt
    ·rw [e, az] at hml; cases hml
    ·rw [ah e] at hml; exact hml
   have s2 : ax H1 H2 := fun b o e => by
    rw [fr2 b (aF e ht) (aF e hml'), ah (aF e ht), ah (aF e hdt)]; exact e
   refine ⟨x, dx, _, rfl, s2 _ _ hx1, by decide, ao ?_⟩
   have n1 : t ≠ x := Ne.symm nxt
   have n2 : ml ≠ x := Ne.symm (aF hx1 hml')
   have hx2 : upd H2 x (.ins T.aj dx (aa "things" (.ref t) [])) x = some (.ins T.aj dx (aa "things" (.ref t) [])) := az
   have t2 : upd H2 x (.ins T.aj dx (aa "things" (.ref t) [])) t = some (.ins T.ay dt gs) := by rw [ah n1]; exact ht2
   have m2 : upd H2 x (.ins T.aj dx (aa "things" (.ref t) [])) ml = some (.lst []) := by rw [ah n2]; exact hml2
   have k2 : Kp [x] H (upd H2 x (.ins T.aj dx (aa "things" (.ref t) []))) := fun b o hb e => by
    rw [ah (fun z => hb (by simp [z]))]; exact s2 _ _ (s1 _ _ e)
   have ft : H t = none := by
    cases e : H t with
    | none => rfl
    | some o => rw [s1 _ _ e] at ht; cases ht
   have fml : H ml = none := by
    cases e : H ml with
    | none => rfl
    | some o => rw [s1 _ _ e] at hml'; cases hml'
   clear fr2
   generalize upd H2 x (.ins T.aj dx (aa "things" (.ref t) [])) = H3 at hx2 t2 m2 k2 ⊢
   walk_at "w"
   refine ⟨x, dx, _, rfl, hx2, by (refine Nat.lt_of_le_of_lt (m := 40) ?_ (by decide); (repeat (refine bh ?_)); exact Nat.zero_le _), ao ?_⟩
   have hx3 : upd H3 x (.ins T.aj dx (aa "changes" (.int 0) (aa "things" (.ref t) []))) x = some (.ins T.aj dx (aa "changes" (.int 0) (aa "things" (.ref t) []))) := az
   have t3 : upd H3 x (.ins T.aj dx (aa "changes" (.int 0) (aa "things" (.ref t) []))) t = some (.ins T.ay dt gs) := by rw [ah n1]; exact t2
   have m3 : upd H3 x (.ins T.aj dx (aa "changes" (.int 0) (aa "things" (.ref t) []))) ml = some (.lst []) := by rw [ah n2]; exact m2
   have k3 : Kp [x] H (upd H3 x (.ins T.aj dx (aa "changes" (.int 0) (aa "things" (.ref t) [])))) := fun b o hb e => by
    rw [ah (fun z => hb (by simp [z]))]; exact k2 _ _ hb e
   generalize upd H3 x (.ins T.aj dx (aa "changes" (.int 0) (aa "things" (.ref t) []))) = H4 at hx3 t3 m3 k3 ⊢
   have fresh : ∀ {J : Hp} {d : Addr}, Kp [x] H J → d ≠ x → J d = none → H d = none := fun {J d} k hd hn => by
    cases e : H d with
    | none => rfl
    | some o => rw [k d o (by simp [hd]) e] at hn; cases hn
   walk_at "w"
   intro ro hro
   refine ⟨x, dx, _, rfl, by rw [ah (aF hx3 hro)]; exact hx3, by (refine Nat.lt_of_le_of_lt (m := 40) ?_ (by decide); (repeat (refine bh ?_)); exact Nat.zero_le _), ao ?_⟩
   obtain ⟨hx5, vF, gD, nro⟩ := fw (o := .dK []) (O := .ins T.aj dx (aa "roots" (.ref ro) (aa "changes" (.int 0) (aa "things" (.ref t) [])))) hro hx3
   have BM : H ro = none := fresh k3 nro hro
   have k5 : Kp [x] H (upd (upd H4 ro (.dK [])) x (.ins T.aj dx (aa "roots" (.ref ro) (aa "changes" (.int 0) (aa "things" (.ref t) []))))) := fun b o hb e => gD b o (fun z => hb (by simp [z])) (k3 b o hb e)
   have gt5 := gD t _ n1 t3
   have B2 := gD ml _ n2 m3
   clear gD
   generalize upd (upd H4 ro (.dK [])) x (.ins T.aj dx (aa "roots" (.ref ro) (aa "changes" (.int 0) (aa "things" (.ref t) [])))) = H5 at hx5 vF k5 gt5 B2 ⊢
   walk_at "w"
   intro st hst
   refine ⟨x, dx, _, rfl, by rw [ah (aF hx5 hst)]; exact hx5, by (refine Nat.lt_of_le_of_lt (m := 40) ?_ (by decide); (repeat (refine bh ?_)); exact Nat.zero_le _), ao ?_⟩
   obtain ⟨hx6, wb, me, nst⟩ := fw (o := .dK []) (O := .ins T.aj dx (aa "standings" (.ref st) (aa "roots" (.ref ro) (aa "changes" (.int 0) (aa "things" (.ref t) []))))) hst hx5
   have Bp : H st = none := fresh k5 nst hst
   have BG : ro ≠ st := aF vF hst
   have k6 : Kp [x] H (upd (upd H5 st (.dK [])) x (.ins T.aj dx (aa "standings" (.ref st) (aa "roots" (.ref ro) (aa "changes" (.int 0) (aa "things" (.ref t) [])))))) := fun b o hb e => me b o (fun z => hb (by simp [z])) (k5 b o hb e)
   have gt6 := me t _ n1 gt5
   have B3 := me ml _ n2 B2
   have vy := me ro _ nro vF
   clear me
   generalize upd (upd H5 st (.dK [])) x (.ins T.aj dx (aa "standings" (.ref st) (aa "roots" (.ref ro) (aa "changes" (.int 0) (aa "things" (.ref t) []))))) = H6 at hx6 wb k6 gt6 B3 vy ⊢
   walk_at "w"
   intro tr htr
   refine ⟨x, dx, _, rfl, by rw [ah (aF hx6 htr)]; exact hx6, by (refine Nat.lt_of_le_of_lt (m := 40) ?_ (by decide); (repeat (refine bh ?_)); exact Nat.zero_le _), ao ?_⟩
   obtain ⟨hx7, wm, jU, ntr⟩ := fw (o := .dK []) (O := .ins T.aj dx (aa "tree_roots" (.ref tr) (aa "standings" (.ref st) (aa "roots" (.ref ro) (aa "changes" (.int 0) (aa "things" (.ref t) [])))))) htr hx6
   have BF : H tr = none := fresh k6 ntr htr
   have vm : ro ≠ tr := aF vy htr
   have vR : st ≠ tr := aF wb htr
   have k7 : Kp [x] H (upd (upd H6 tr (.dK [])) x (.ins T.aj dx (aa "tree_roots" (.ref tr) (aa "standings" (.ref st) (aa "roots" (.ref ro) (aa "changes" (.int 0) (aa "things" (.ref t) []))))))) := fun b o hb e => jU b o (fun z => hb (by simp [z])) (k6 b o hb e)
   have gt7 := jU t _ n1 gt6
   have B4 := jU ml _ n2 B3
   have vA := jU ro _ nro vy
   have wd := jU st _ nst wb
   clear jU
   generalize upd (upd H6 tr (.dK [])) x (.ins T.aj dx (aa "tree_roots" (.ref tr) (aa "standings" (.ref st) (aa "roots" (.ref ro) (aa "changes" (.int 0) (aa "things" (.ref t) [])))))) = H7 at hx7 wm k7 gt7 B4 vA wd ⊢
   walk_at "w"
   intro ov hov
   refine ⟨x, dx, _, rfl, by rw [ah (aF hx7 hov)]; exact hx7, by (refine Nat.lt_of_le_of_lt (m := 40) ?_ (by decide); (repeat (refine bh ?_)); exact Nat.zero_le _), ao ?_⟩
   obtain ⟨hx8, vU, iy, nov⟩ := fw (o := .dK []) (O := .ins T.aj dx (aa "root_over" (.ref ov) (aa "tree_roots" (.ref tr) (aa "standings" (.ref st) (aa "roots" (.ref ro) (aa "changes" (.int 0) (aa "things" (.ref t) []))))))) hov hx7
   have fr_ov : H ov = none := fresh k7 nov hov
   have Bn : ro ≠ ov := aF vA hov
   have Bw : st ≠ ov := aF wd hov
   have B7 : tr ≠ ov := aF wm hov
   have k8 : Kp [x] H (upd (upd H7 ov (.dK [])) x (.ins T.aj dx (aa "root_over" (.ref ov) (aa "tree_roots" (.ref tr) (aa "standings" (.ref st) (aa "roots" (.ref ro) (aa "changes" (.int 0) (aa "things" (.ref t) [])))))))) := fun b o hb e => iy b o (fun z => hb (by simp [z])) (k7 b o hb e)
   have gt8 := iy t _ n1 gt7
   have BR := iy ml _ n2 B4
   have wx := iy ro _ nro vA
   have wu := iy st _ nst wd
   have vX := iy tr _ ntr wm
   clear iy
   generalize upd (upd H7 ov (.dK [])) x (.ins T.aj dx (aa "root_over" (.ref ov) (aa "tree_roots" (.ref tr) (aa "standings" (.ref st) (aa "roots" (.ref ro) (aa "changes" (.int 0) (aa "things" (.ref t) []))))))) = H8 at hx8 vU k8 gt8 BR wx wu vX ⊢
   walk_at "w"
   intro un hun
   refine ⟨x, dx, _, rfl, by rw [ah (aF hx8 hun)]; exact hx8, by (refine Nat.lt_of_le_of_lt (m := 40) ?_ (by decide); (repeat (refine bh ?_)); exact Nat.zero_le _), ao ?_⟩
   obtain ⟨hx9, vV, gF, nun⟩ := fw (o := .dK []) (O := .ins T.aj dx (aa "folder_under" (.ref un) (aa "root_over" (.ref ov) (aa "tree_roots" (.ref tr) (aa "standings" (.ref st) (aa "roots" (.ref ro) (aa "changes" (.int 0) (aa "things" (.ref t) [])))))))) hun hx8
   have fr_un : H un = none := fresh k8 nun hun
   have BL : ro ≠ un := aF wx hun
   have BX : st ≠ un := aF wu hun
   have BV : tr ≠ un := aF vX hun
   have eovun : ov ≠ un := aF vU hun
   have k9 : Kp [x] H (upd (upd H8 un (.dK [])) x (.ins T.aj dx (aa "folder_under" (.ref un) (aa "root_over" (.ref ov) (aa "tree_roots" (.ref tr) (aa "standings" (.ref st) (aa "roots" (.ref ro) (aa "changes" (.int 0) (aa "things" (.ref t) []))))))))) := fun b o hb e => gF b o (fun z => hb (by simp [z])) (k8 b o hb e)
   have gt9 := gF t _ n1 gt8
   have BU := gF ml _ n2 BR
   have vx := gF ro _ nro wx
   have vw := gF st _ nst wu
   have wC := gF tr _ ntr vX
   have vN := gF ov _ nov vU
   clear gF
   generalize upd (upd H8 un (.dK [])) x (.ins T.aj dx (aa "folder_under" (.ref un) (aa "root_over" (.ref ov) (aa "tree_roots" (.ref tr) (aa "standings" (.ref st) (aa "roots" (.ref ro) (aa "changes" (.int 0) (aa "things" (.ref t) [])))))))) = H9 at hx9 vV k9 gt9 BU vx vw wC vN ⊢
   walk_at "w"
   intro ho hho
   refine ⟨x, dx, _, rfl, by rw [ah (aF hx9 hho)]; exact hx9, by (refine Nat.lt_of_le_of_lt (m := 40) ?_ (by decide); (repeat (refine bh ?_)); exact Nat.zero_le _), ao ?_⟩
   obtain ⟨Bz, B9, fY, nho⟩ := fw (o := .dK []) (O := .ins T.aj dx (aa "holds" (.ref ho) (aa "folder_under" (.ref un) (aa "root_over" (.ref ov) (aa "tree_roots" (.ref tr) (aa "standings" (.ref st) (aa "roots" (.ref ro) (aa "changes" (.int 0) (aa "things" (.ref t) []))))))))) hho hx9
   have fr_ho : H ho = none := fresh k9 nho hho
   have eroho : ro ≠ ho := aF vx hho
   have estho : st ≠ ho := aF vw hho
   have etrho : tr ≠ ho := aF wC hho
   have eovho : ov ≠ ho := aF vN hho
   have eunho : un ≠ ho := aF vV hho
   have k10 : Kp [x] H (upd (upd H9 ho (.dK [])) x (.ins T.aj dx (aa "holds" (.ref ho) (aa "folder_under" (.ref un) (aa "root_over" (.ref ov) (aa "tree_roots" (.ref tr) (aa "standings" (.ref st) (aa "roots" (.ref ro) (aa "changes" (.int 0) (aa "things" (.ref t) [])))))))))) := fun b o hb e => fY b o (fun z => hb (by simp [z])) (k9 b o hb e)
   have Bs := fY t _ n1 gt9
   have B1 := fY ml _ n2 BU
   have BA := fY ro _ nro vx
   have Bx := fY st _ nst vw
   have BD := fY tr _ ntr wC
   have BJ := fY ov _ nov vN
   have Ca := fY un _ nun vV
   clear fY
   generalize upd (upd H9 ho (.dK [])) x (.ins T.aj dx (aa "holds" (.ref ho) (aa "folder_under" (.ref un) (aa "root_over" (.ref ov) (aa "tree_roots" (.ref tr) (aa "standings" (.ref st) (aa "roots" (.ref ro) (aa "changes" (.int 0) (aa "things" (.ref t) []))))))))) = H10 at Bz B9 k10 Bs B1 BA Bx BD BJ Ca ⊢
   walk_at "w"
   refine ⟨x, dx, _, rfl, Bz, by (refine Nat.lt_of_le_of_lt (m := 40) ?_ (by decide); (repeat (refine bh ?_)); exact Nat.zero_le _), ao ?_⟩
   have fR : upd H10 x (.ins T.aj dx (aa "holds_given" (.int 0) (aa "holds" (.ref ho) (aa "folder_under" (.ref un) (aa "root_over" (.ref ov) (aa "tree_roots" (.ref tr) (aa "standings" (.ref st) (aa "roots" (.ref ro) (aa "changes" (.int 0) (aa "things" (.ref t) [])))))))))) x = some (.ins T.aj dx (aa "holds_given" (.int 0) (aa "holds" (.ref ho) (aa "folder_under" (.ref un) (aa "root_over" (.ref ov) (aa "tree_roots" (.ref tr) (aa "standings" (.ref st) (aa "roots" (.ref ro) (aa "changes" (.int 0) (aa "things" (.ref t) [])))))))))) := az
   have cH : upd H10 x (.ins T.aj dx (aa "holds_given" (.int 0) (aa "holds" (.ref ho) (aa "folder_under" (.ref un) (aa "root_over" (.ref ov) (aa "tree_roots" (.ref tr) (aa "standings" (.ref st) (aa "roots" (.ref ro) (aa "changes" (.int 0) (aa "things" (.ref t) [])))))))))) t = some (.ins T.ay dt gs) := by rw [ah n1]; exact Bs
   have cI : upd H10 x (.ins T.aj dx (aa "holds_given" (.int 0) (aa "holds" (.ref ho) (aa "folder_under" (.ref un) (aa "root_over" (.ref ov) (aa "tree_roots" (.ref tr) (aa "standings" (.ref st) (aa "roots" (.ref ro) (aa "changes" (.int 0) (aa "things" (.ref t) [])))))))))) ml = some (.lst []) := by rw [ah n2]; exact B1
   have df : upd H10 x (.ins T.aj dx (aa "holds_given" (.int 0) (aa "holds" (.ref ho) (aa "folder_under" (.ref un) (aa "root_over" (.ref ov) (aa "tree_roots" (.ref tr) (aa "standings" (.ref st) (aa "roots" (.ref ro) (aa "changes" (.int 0) (aa "things" (.ref t) [])))))))))) ro = some (.dK []) := by rw [ah nro]; exact BA
   have dg : upd H10 x (.ins T.aj dx (aa "holds_given" (.int 0) (aa "holds" (.ref ho) (aa "folder_under" (.ref un) (aa "root_over" (.ref ov) (aa "tree_roots" (.ref tr) (aa "standings" (.ref st) (aa "roots" (.ref ro) (aa "changes" (.int 0) (aa "things" (.ref t) [])))))))))) st = some (.dK []) := by rw [ah nst]; exact Bx
   have iu : upd H10 x (.ins T.aj dx (aa "holds_given" (.int 0) (aa "holds" (.ref ho) (aa "folder_under" (.ref un) (aa "root_over" (.ref ov) (aa "tree_roots" (.ref tr) (aa "standings" (.ref st) (aa "roots" (.ref ro) (aa "changes" (.int 0) (aa "things" (.ref t) [])))))))))) tr = some (.dK []) := by rw [ah ntr]; exact BD
   have fV : upd H10 x (.ins T.aj dx (aa "holds_given" (.int 0) (aa "holds" (.ref ho) (aa "folder_under" (.ref un) (aa "root_over" (.ref ov) (aa "tree_roots" (.ref tr) (aa "standings" (.ref st) (aa "roots" (.ref ro) (aa "changes" (.int 0) (aa "things" (.ref t) [])))))))))) ov = some (.dK []) := by rw [ah nov]; exact BJ
   have fS : upd H10 x (.ins T.aj dx (aa "holds_given" (.int 0) (aa "holds" (.ref ho) (aa "folder_under" (.ref un) (aa "root_over" (.ref ov) (aa "tree_roots" (.ref tr) (aa "standings" (.ref st) (aa "roots" (.ref ro) (aa "changes" (.int 0) (aa "things" (.ref t) [])))))))))) un = some (.dK []) := by rw [ah nun]; exact Ca
   have gho11 : upd H10 x (.ins T.aj dx (aa "holds_given" (.int 0) (aa "holds" (.ref ho) (aa "folder_under" (.ref un) (aa "root_over" (.ref ov) (aa "tree_roots" (.ref tr) (aa "standings" (.ref st) (aa "roots" (.ref ro) (aa "changes" (.int 0) (aa "things" (.ref t) [])))))))))) ho = some (.dK []) := by rw [ah nho]; exact B9
   have k11 : Kp [x] H (upd H10 x (.ins T.aj dx (aa "holds_given" (.int 0) (aa "holds" (.ref ho) (aa "folder_under" (.ref un) (aa "root_over" (.ref ov) (aa "tree_roots" (.ref tr) (aa "standings" (.ref st) (aa "roots" (.ref ro) (aa "changes" (.int 0) (aa "things" (.ref t) []))))))))))) := fun b o hb e => by rw [ah (fun z => hb (by simp [z]))]; exact k10 b o hb e
   generalize upd H10 x (.ins T.aj dx (aa "holds_given" (.int 0) (aa "holds" (.ref ho) (aa "folder_under" (.ref un) (aa "root_over" (.ref ov) (aa "tree_roots" (.ref tr) (aa "standings" (.ref st) (aa "roots" (.ref ro) (aa "changes" (.int 0) (aa "things" (.ref t) [])))))))))) = H11 at fR k11 cH cI df dg iu fV fS gho11 ⊢
   walk_at "w"
   refine ⟨x, dx, _, rfl, fR, rfl, ?_⟩
   refine ⟨rfl, dx, _, 0, t, dt, ml, tr, fR, by (repeat (refine bh ?_)); exact Nat.zero_le _, rfl, rfl, rfl, rfl, ⟨⟨gs, 0, cH, hgl, sg⟩, cI⟩, iu, ?_⟩
   intro th bJ nm pl fs' ks c' H12 fth fnm fpl hxA hflA sfA atA hthA hklA skA hnmA hplA htrA kpA
   obtain ⟨gs', d', htA, hglA, sgA⟩ := atA.o
   have hmlA := atA.ml
   have lkA : ∀ f : Str, f ≠ "changes" → fs'.lookup f = (aa "holds_given" (.int 0) (aa "holds" (.ref ho) (aa "folder_under" (.ref un) (aa "root_over" (.ref ov) (aa "tree_roots" (.ref tr) (aa "standings" (.ref st) (aa "roots" (.ref ro) (aa "changes" (.int 0) (aa "things" (.ref t) []))))))))).lookup f := fun f hf => by rw [sfA f, bS, if_neg hf]
   have qro : H12 ro = some (.dK []) := kpA _ _ (by simp [nro, bu df cH (by nofun), bu df cI (by nofun), vm]) df
   have qst : H12 st = some (.dK []) := kpA _ _ (by simp [nst, bu dg cH (by nofun), bu dg cI (by nofun), vR]) dg
   have qun : H12 un = some (.dK []) := kpA _ _ (by simp [nun, bu fS cH (by nofun), bu fS cI (by nofun), Ne.symm BV]) fS
   have qov : H12 ov = some (.dK []) := kpA _ _ (by simp [nov, bu fV cH (by nofun), bu fV cI (by nofun), Ne.symm B7]) fV
   have hlN : (aa "holds_given" (.int 0) (aa "holds" (.ref ho) (aa "folder_under" (.ref un) (aa "root_over" (.ref ov) (aa "tree_roots" (.ref tr) (aa "standings" (.ref st) (aa "roots" (.ref ro) (aa "changes" (.int 0) (aa "things" (.ref t) []))))))))).length ≤ 9 := by (repeat (refine bh ?_)); exact Nat.zero_le _
   have lk2 : ∀ f : Str, f ≠ "first_root" → f ≠ "changes" → (aa "first_root" (.int 0) fs').lookup f = (aa "holds_given" (.int 0) (aa "holds" (.ref ho) (aa "folder_under" (.ref un) (aa "root_over" (.ref ov) (aa "tree_roots" (.ref tr) (aa "standings" (.ref st) (aa "roots" (.ref ro) (aa "changes" (.int 0) (aa "things" (.ref t) []))))))))).lookup f := fun f h1 h2 => by rw [bS, if_neg h1]; exact lkA f h2
   refine ⟨x, dx, fs', rfl, hxA, by omega, ?_⟩
   refine ⟨x, dx, _, rfl, az, (lk2 _ (by decide) (by decide)).trans rfl, ?_⟩
   refine ⟨dx, _, c', ro, st, [], [], az, Nat.le_trans (bh (Nat.le_trans hflA hlN)) (by decide), by rw [bS, if_neg (by decide), sfA, bS, if_pos rfl], (lk2 _ (by decide) (by decide)).trans rfl, (lk2 _ (by decide) (by decide)).trans rfl, by rw [bS, if_pos rfl], (lk2 _ (by decide) (by decide)).trans rfl, (lk2 _ (by decide) (by decide)).trans rfl, by rw [ah nro]; exact qro, by decide, by rw [ah nst]; exact qst, by decide, BG, ?_⟩
   intro fs3 c3 H13 hx13 iq sf3 hro3 hst3 fr3
   have old : ∀ b o, b ≠ x → b ≠ ro → b ≠ st → H12 b = some o → H13 b = some o := fun b o b1 b2 b3 e => by rw [fr3 b b1 b2 b3, ah b1]; exact e
   refine q ⟨x, dx, t, dt, ml, ro, st, tr, ov, un, ho⟩ [⟨th, bJ, nm, pl⟩] H13 rfl ⟨⟨fs3, c3, hx13, iq, fun f => ?_⟩, ⟨gs', d', old _ _ (n1) (bu cH df (by nofun)) (bu cH dg (by nofun)) htA, hglA, sgA⟩, old _ _ (n2) (bu cI df (by nofun)) (bu cI dg (by nofun)) hmlA, rfl, fun j tt e => ?_, hro3, hst3, old _ _ (ntr) (Ne.symm vm) (Ne.symm vR) htrA, old _ _ (nov) (Ne.symm Bn) (Ne.symm Bw) qov, old _ _ (nun) (Ne.symm BL) (Ne.symm BX) qun, ?_⟩ ?_ ?_
   ·rw [sf3 f]
    refine ((sfA.put "first_root" (.int 0)).put "changes" (.int c3) f).trans rfl
   ·have hj : j = 0 := by
     have := (List.getElem?_eq_some_iff.mp e).1
     have h1 : (M0 z).ts.length = 1 := rfl
     omega
    subst hj
    cases e
    exact ⟨_, rfl, ⟨⟨ks, old _ _ (Ne.symm (aF fR fth)) (Ne.symm (aF df fth)) (Ne.symm (aF dg fth)) hthA, hklA, skA⟩, old _ _ (Ne.symm (aF fR fnm)) (Ne.symm (aF df fnm)) (Ne.symm (aF dg fnm)) hnmA, old _ _ (Ne.symm (aF fR fpl)) (Ne.symm (aF df fpl)) (Ne.symm (aF dg fpl)) hplA⟩⟩
   ·show List.Nodup [x, t, ml, ro, st, tr, ov, un, th, nm, pl]
    simp only [List.nodup_cons, List.mem_cons, List.not_mem_nil, or_false, not_or, not_false_eq_true, List.nodup_nil, and_true]
    exact ⟨⟨Ne.symm n1, Ne.symm n2, Ne.symm nro, Ne.symm nst, Ne.symm ntr, Ne.symm nov, Ne.symm nun, aF fR fth, aF fR fnm, aF fR fpl⟩, ⟨bu cH cI (by nofun), bu cH df (by nofun), bu cH dg (by nofun), bu cH iu (by nofun), bu cH fV (by nofun), bu cH fS (by nofun), aF cH fth, aF cH fnm, aF cH fpl⟩, ⟨bu cI df (by nofun), bu cI dg (by nofun), bu cI iu (by nofun), bu cI fV (by nofun), bu cI fS (by nofun), aF cI fth, aF cI fnm, aF cI fpl⟩, ⟨BG, vm, Bn, BL, aF df fth, aF df fnm, aF df fpl⟩, ⟨vR, Bw, BX, aF dg fth, aF dg fnm, aF dg fpl⟩, ⟨B7, BV, aF iu fth, aF iu fnm, aF iu fpl⟩, ⟨eovun, aF fV fth, aF fV fnm, aF fV fpl⟩, ⟨aF fS fth, aF fS fnm, aF fS fpl⟩, ⟨bu hthA hnmA (by nofun), bu hthA hplA (by nofun)⟩, bu hnmA hplA (by nofun)⟩
   ·intro b hb hbx
    have hb' : b ∈ [x, t, ml, ro, st, tr, ov, un, th, nm, pl] := hb
    simp only [List.mem_cons, List.not_mem_nil, or_false] at hb'
    rcases hb' with rfl | rfl | rfl | rfl | rfl | rfl | rfl | rfl | rfl | rfl | rfl
    ·exact absurd rfl hbx
    ·exact ft
    ·exact fml
    ·exact BM
    ·exact Bp
    ·exact BF
    ·exact fr_ov
    ·exact fr_un
    ·exact fresh k11 hbx fth
    ·exact fresh k11 hbx fnm
    ·exact fresh k11 hbx fpl
   ·intro b o hb e
    have hbx : b ≠ x := fun z => hb (by simp [z])
    refine old b o hbx (aF e BM) (aF e Bp) (kpA b o ?_ (k11 b o hb e))
    simp only [List.mem_cons, List.not_mem_nil, or_false, not_or]
    exact ⟨hbx, aF e ft, aF e fml, aF e BF⟩
  ·exact h.elim
def sN (CH CS CT : Addr) : Sp := fun vs H Q _ => match vs with
 | [.ref x, .str z] => ∃ A L M, aG CH CS CT H A L M ∧ A.a = x ∧ z.length ≤ 1000 ∧ dw (.str z) = true ∧ M.ro.length ≤ 30 ∧ M.st.length ≤ 30 ∧ aH (sD M.ro) (.inr z) = none ∧ aH (sD M.st) (.inr z) = none ∧
   ∀ H', aG CH CS CT H' A L { M with ro := M.ro ++ [(z, 0)], st := M.st ++ [(z, 0)] } → Kp [A.a, A.ro, A.st] H H' → Q .aq H'
 | _ => False
theorem K3 (T : Tx K mg) : aB P w K mg base aK 3 T.j5.f T.j5.d ["self", "name"] (sN T.aj T.ay T.aA) := by
 have il := nZ (P := P) (w := w) (base := base) T
 have wF := wK (P := P) (w := w) (base := base) T
 refine T.j5.F.ok Hn (fun vs H Q E h => ?_) (fun cdv A outer s H vs Q E hr h => ?_)
 ·unfold sN at h
  split at h
  ·rfl
  ·exact h.elim
 ·unfold sN at h
  split at h
  ·rename_i x z
   obtain ⟨AA, L, M, i, rfl, hsh, hn, hrl, hsl, hr0, hs0, q⟩ := h
   refine ⟨_, ((Dv.cut (Dv.aU (Dv.call il (hr.mono (by decide)) T.cO.m T.cO.F.kp T.cO.b .nil aw (Dv.ag (Dv.v 1) Dv.ai)))
   (Dv.cut (Dv.ba (Dv.qT (bX hr) (Dv.v 1) (Dv.fld T.aI T.kx (Dv.v 0))) (Dv.au Dv.bE) Dv.nil)
   (Dv.au (Dv.aU (Dv.aY T.aI T.gZ.h wF (hr.mono (by decide)) T.gZ.b .nil aw (Dv.v 0) (Dv.ag (Dv.v 1) Dv.ai))))))).h, ?_⟩
   rw [show start ["self", "name"] [V.ref AA.a, V.str z] = [some (V.ref AA.a), some (V.str z)] from rfl]
   refine ao ?_
   walk_at "w"
   refine ⟨⟨_, rfl⟩, hsh, hn, fun H1 s1 => ?_⟩
   have i1 := i.same s1
   obtain ⟨fs, c, hx, hfl, sf⟩ := i1.h
   have nd := i1.nd
   rw [List.nodup_append] at nd
   have ndw := nd.1
   simp only [Ad.w, List.nodup_cons, List.mem_cons, List.not_mem_nil, or_false, not_or] at ndw
   refine ao ?_
   walk_at "w"
   refine ⟨AA.a, _, _, .ref AA.ro, rfl, hx, (sf _).trans rfl, AA.ro, _, rfl, bP.k (k := .inr z) i1.ro, ?_⟩
   rw [hr0]
   refine aO ?_
   walk_at "w"
   refine ⟨AA.a, _, _, rfl, hx, (sf _).trans rfl, AA.dx, fs, c, AA.ro, AA.st, _, _, hx, hfl, (sf _).trans rfl, (sf _).trans rfl, (sf _).trans rfl, (sf _).trans rfl, (sf _).trans rfl, (sf _).trans rfl, i1.ro, by unfold sD; rw [List.length_map]; omega, i1.st, by unfold sD; rw [List.length_map]; omega, ndw.2.2.2.1.1, ?_⟩
   intro fs' c' H' hx' hfl' sf' hro' hst' fr'
   have e1 : putK (sD M.ro) (.inr z) (.int 0) = sD (M.ro ++ [(z, 0)]) := oF hr0
   have e2 : putK (sD M.st) (.inr z) (.int 0) = sD (M.st ++ [(z, 0)]) := oF hs0
   rw [e1] at hro'
   rw [e2] at hst'
   have kp : Kp [AA.a, AA.ro, AA.st] H1 H' := fun b o hb e => by
    simp only [List.mem_cons, List.not_mem_nil, or_false, not_or] at hb
    rw [fr' b hb.1 hb.2.1 hb.2.2]; exact e
   have lY : ∀ b ∈ [AA.t, AA.ml, AA.tr, AA.ov, AA.un], b ∉ [AA.a, AA.ro, AA.st] := by
    intro b hb hm
    simp only [List.mem_cons, List.not_mem_nil, or_false] at hb hm
    obtain ⟨⟨a1, a2, a3, a4, a5, a6, a7⟩, ⟨b1, b2, b3, b4, b5, b6⟩, ⟨c1, c2, c3, c4, c5⟩, ⟨d1, d2, d3, d4⟩, ⟨f1, f2, f3⟩, _⟩ := ndw
    rcases hb with rfl | rfl | rfl | rfl | rfl <;> rcases hm with h | h | h <;> first
     | exact a1 h.symm | exact a2 h.symm | exact a5 h.symm | exact a6 h.symm | exact a7 h.symm
     | exact b2 h | exact b3 h | exact c1' h | exact c1 h | exact c2 h | exact c3 h
     | exact d2 h.symm | exact d3 h.symm | exact d4 h.symm | exact f1 h.symm | exact f2 h.symm | exact f3 h.symm | exact b1 h | exact b4 h
   refine q H' ⟨⟨fs', c', hx', hfl', fun f => ?_⟩, ?_, kp _ _ (lY _ (by simp)) i1.ml, i1.len, fun j t e => ?_, hro', hst', kp _ _ (lY _ (by simp)) i1.tr, kp _ _ (lY _ (by simp)) i1.ov, kp _ _ (lY _ (by simp)) i1.un, i1.nd⟩ (fun b o hb e => kp b o hb (s1 b o e))
   ·rw [sf' f, bS, sf f]
    by_cases e : f = "changes"
    ·rw [if_pos e, e]; rfl
    ·rw [if_neg e]
     exact JN e
   ·obtain ⟨gs, d, e, r⟩ := i1.t
    exact ⟨gs, d, kp _ _ (lY _ (by simp)) e, r⟩
   ·obtain ⟨a, e1, h1⟩ := i1.th j t e
    refine ⟨a, e1, h1.keep kp fun b hb hm => ?_⟩
    have := i1.iU e1
    simp only [List.mem_cons, List.not_mem_nil, or_false] at hm
    rcases hm with rfl | rfl | rfl
    ·exact this _ (by simp [Ad.w]) _ hb rfl
    ·exact this _ (by simp [Ad.w]) _ hb rfl
    ·exact this _ (by simp [Ad.w]) _ hb rfl
  ·exact h.elim
def ly (M : Hs) : Nat → Nat → Nat → Prop
 | 0, k, b => aH (nD M.un) (.inl (k : Int)) = none ∧ b = k
 | n + 1, k, b => ∃ k' : Nat, aH (nD M.un) (.inl (k : Int)) = some (.int (k' : Int)) ∧ ly M n k' b
def jd (M : Hs) : Nat → Nat → List Nat → Prop
 | 0, k, l => aH (nD M.ov) (.inl (k : Int)) = none ∧ l = []
 | n + 1, k, l => ∃ (k' : Nat) (r : List Nat), aH (nD M.ov) (.inl (k : Int)) = some (.int (k' : Int)) ∧ jd M n k' r ∧ l = k' :: r
def cm (M : Hs) (k b : Nat) (r : List Nat) : Prop := (∃ n, ly M n k b) ∧ ∃ n, jd M n b r ∧ n ≤ 100
theorem jd.len {M : Hs} : ∀ {n k : Nat} {l : List Nat}, jd M n k l → l.length = n
 | 0, _, _, h => by rw [h.2]; rfl
 | n + 1, _, _, h => by obtain ⟨k', r, _, h2, rfl⟩ := h; simp [h2.len]
abbrev nV (l : List Nat) : List V := l.map fun n : Nat => V.int (n : Int)
def bN (b : Nat) (r : List Nat) : Nat := (b :: r).getLast (by simp)
def uz (CH CS CT : Addr) : Sp := fun vs H Q _ => match vs with
 | [.ref x, .int n] => ∃ A L M, ∃ k b : Nat, ∃ a t, aG CH CS CT H A L M ∧ A.a = x ∧ n = (k : Int) ∧ L[k]? = some a ∧ M.ts[k]? = some t ∧ (∃ m, ly M m k b) ∧ Q (.int (b : Int)) H
 | _ => False
def uF (CH CS CT : Addr) : Sp := fun vs H Q _ => match vs with
 | [.ref x, .int n] => ∃ A L M, ∃ k b : Nat, ∃ r a t, aG CH CS CT H A L M ∧ A.a = x ∧ n = (k : Int) ∧ L[k]? = some a ∧ M.ts[k]? = some t ∧ cm M k b r ∧ ∀ l H', ax H H' → H l = none → H' l = some (.lst (nV (b :: r))) → Q (.ref l) H'
 | _ => False
def ue (CH CS CT : Addr) : Sp := fun vs H Q _ => match vs with
 | [.ref x, .int n] => ∃ A L M, ∃ k b : Nat, ∃ r a t, aG CH CS CT H A L M ∧ A.a = x ∧ n = (k : Int) ∧ L[k]? = some a ∧ M.ts[k]? = some t ∧ cm M k b r ∧ ∀ H', ax H H' → Q (.int (bN b r : Nat)) H'
 | _ => False
theorem CI (T : Tx K mg) : aB P w K mg base aK 4 T.jL.f T.jL.d ["house", "folder"] (uz T.aj T.ay T.aA) := by
 have oV := x6 (P := P) (w := w) (base := base) T
 refine T.jL.F.ok u4 (fun vs H Q E h => ?_) (fun cdv A outer s H vs Q E hr h => ?_)
 ·unfold uz at h
  split at h
  ·rfl
  ·exact h.elim
 ·unfold uz at h
  split at h
  ·rename_i x n
   obtain ⟨AA, L, M, k, b, a, t, i, rfl, rfl, ha, hth, ⟨m, hb⟩, q⟩ := h
   obtain ⟨fs, c, hx, hfl, sf⟩ := i.h
   refine ⟨_, ((Dv.cut (Dv.aU (Dv.aY T.aI T.fg.h oV (hr.mono (by decide)) T.fg.b .nil aw (Dv.v 0) (Dv.ag (Dv.v 1) Dv.ai)))
   (Dv.cut (Dv.aN 2 u4.nd (Dv.v 1))
   (Dv.cut (Dv.f9 PassesOwn.never (Dv.qT (bX hr) (Dv.v 2) (Dv.fld T.aI T.ke (Dv.v 0))) (Dv.au (Dv.aN 2 u4.nd (Dv.jy (bX hr) (Dv.fld T.aI T.ke (Dv.v 0)) (Dv.v 2)))))
   (Dv.au (Dv.aM (Dv.v 2))))))).h, ?_⟩
   rw [show start ["house", "folder", "base"] [V.ref AA.a, V.int (k : Int)] = [some (V.ref AA.a), some (V.int (k : Int)), none] from rfl]
   refine ao ?_
   walk_at "w"
   refine ⟨AA.a, _, _, rfl, hx, (sf _).trans rfl, AA, L, M, k, a, t, i, rfl, rfl, ha, hth, ?_⟩
   refine ao ?_
   walk_at "w"
   refine ao ⟨fun m σ' H' => ∃ j : Nat, σ' = [some (V.ref AA.a), some (V.int (k : Int)), some (V.int (j : Int))] ∧ H' = H ∧ ly M m j b, ⟨m, k, rfl, rfl, hb⟩, ?_⟩
   rintro m σ' H' ⟨j, rfl, rfl, hj⟩
   walk_at "w"
   refine ⟨AA.a, _, _, .ref AA.un, rfl, hx, (sf _).trans rfl, AA.un, _, rfl, bP.k (k := .inl (j : Int)) i.un, ?_⟩
   cases m with
   | zero =>
    obtain ⟨h0, rfl⟩ := hj
    rw [h0]
    exact aO q
   | succ m =>
    obtain ⟨k', h0, h1⟩ := hj
    rw [h0]
    refine bo ⟨fun σ' H'' => ∃ j : Nat, σ' = [some (V.ref AA.a), some (V.int (k : Int)), some (V.int (j : Int))] ∧ H'' = H' ∧ ly M m j b, fun σ' H' z => ⟨m, Nat.lt_succ_self m, z⟩, ?_⟩
    walk_at "w"
    refine ⟨AA.a, _, _, .ref AA.un, rfl, hx, (sf _).trans rfl, AA.un, .int (k' : Int), rfl, ?_, k', rfl, trivial, h1⟩
    have := bP.k (k := .inl (j : Int)) i.un
    rw [h0] at this
    exact this
  ·exact h.elim
theorem fh {a b : List Nat} : nV (a ++ b) = nV a ++ nV b := List.map_append
theorem mU (T : Tx K mg) : aB P w K mg base aK 5 T.bW.f T.bW.d ["house", "folder"] (uF T.aj T.ay T.aA) := by
 have G_base_of := CI (P := P) (w := w) (base := base) T
 refine T.bW.F.ok Bh (fun vs H Q E h => ?_) (fun cdv A outer s H vs Q E hr h => ?_)
 ·unfold uF at h
  split at h
  ·rfl
  ·exact h.elim
 ·unfold uF at h
  split at h
  ·rename_i x n
   obtain ⟨AA, L, M, k, b, r, a, t, i, rfl, rfl, ha, hth, ⟨hb, ⟨m, hu, hm⟩⟩, q⟩ := h
   have hlen := hu.len
   refine ⟨_, ((Dv.cut (Dv.aN 2 Bh.nd (Dv.lst (Dv.ag (Dv.call G_base_of (hr.mono (by decide)) T.jL.m T.jL.F.kp T.jL.b .nil aw (Dv.ag (Dv.v 0) (Dv.ag (Dv.v 1) Dv.ai))) Dv.ai)))
   (Dv.cut (Dv.f9 PassesOwn.never (Dv.qT (bX hr) (Dv.ix (bq (K := K) rfl) (Dv.v 2) (Dv.un ef Dv.int)) (Dv.fld T.aI T.ni (Dv.v 0))) (Dv.au (Dv.aU (Dv.gx PySem.F.slot_list_append PySem.F.type_list_append fZ (Dv.v 2) (Dv.ag (Dv.jy (bX hr) (Dv.fld T.aI T.ni (Dv.v 0)) (Dv.ix (bq (K := K) rfl) (Dv.v 2) (Dv.un ef Dv.int))) Dv.ai)))))
   (Dv.au (Dv.aM (Dv.v 2)))))).h, ?_⟩
   rw [show start ["house", "folder", "stack"] [V.ref AA.a, V.int (k : Int)] = [some (V.ref AA.a), some (V.int (k : Int)), none] from rfl]
   refine ao ?_
   walk_at "w"
   refine ⟨AA, L, M, k, b, a, t, i, rfl, rfl, ha, hth, hb, fits (by simp), fun l hl => ?_⟩
   have s1 := ax.upd (o := .lst [V.int (b : Int)]) hl
   have b1 : upd H l (.lst [V.int (b : Int)]) l = some (.lst [V.int (b : Int)]) := az
   generalize upd H l (.lst [V.int (b : Int)]) = H1 at s1 b1 ⊢
   refine ao ⟨fun m σ' H' => ax H H' ∧ ∃ (pre : List Nat) (j : Nat) (r' : List Nat), σ' = [some (V.ref AA.a), some (V.int (k : Int)), some (V.ref l)] ∧ H' l = some (.lst (nV pre ++ [V.int (j : Int)])) ∧ jd M m j r' ∧ pre ++ j :: r' = b :: r, ⟨m, s1, [], b, r, rfl, b1, hu, rfl⟩, ?_⟩
   rintro m σ' H' ⟨s', pre, j, r', rfl, hl', hj, hp⟩
   have i1 := i.same s'
   obtain ⟨fs, c, hx, hfl, sf⟩ := i1.h
   walk_at "w"
   simp only [bp, hl', iI]
   refine ⟨AA.a, _, _, .ref AA.ov, rfl, hx, (sf _).trans rfl, AA.ov, _, rfl, bP.k (k := .inl (j : Int)) i1.ov, ?_⟩
   cases m with
   | zero =>
    obtain ⟨h0, rfl⟩ := hj
    rw [h0]
    refine aO (q l H' s' hl ?_)
    rw [hl', ← hp, fh]
    rfl
   | succ m =>
    obtain ⟨k', r2, h0, h1, rfl⟩ := hj
    rw [h0]
    refine bo ⟨fun σ' H' => ax H H' ∧ ∃ (pre : List Nat) (j : Nat) (r' : List Nat), σ' = [some (V.ref AA.a), some (V.int (k : Int)), some (V.ref l)] ∧ H' l = some (.lst (nV pre ++ [V.int (j : Int)])) ∧ jd M m j r' ∧ pre ++ j :: r' = b :: r, fun σ' H' z => ⟨m, Nat.lt_succ_self m, z⟩, ?_⟩
    walk_at "w"
    refine ⟨AA.a, _, _, .ref AA.ov, rfl, hx, (sf _).trans rfl, AA.ov, .int (k' : Int), rfl, ?_, ?_⟩
    ·have := bP.k (k := .inl (j : Int)) i1.ov
     rw [h0] at this
     exact this
    have hpl : (pre ++ [j]).length ≤ 102 := by
     have := congrArg List.length hp
     simp at this ⊢
     omega
    refine ⟨di (by simp at hpl ⊢; omega), s'.dk hl, pre ++ [j], k', r2, trivial, ?_, h1, ?_⟩
    ·rw [az, fh]; rfl
    ·rw [← hp]; simp
  ·exact h.elim
theorem A5 {b : Nat} {r : List Nat} : ∃ pre, b :: r = pre ++ [bN b r] := ⟨(b :: r).dropLast, by unfold bN; exact (List.dropLast_concat_getLast (by simp)).symm⟩
theorem z8 (T : Tx K mg) : aB P w K mg base aK 6 T.fM.f T.fM.d ["house", "folder"] (ue T.aj T.ay T.aA) := by
 have fW := mU (P := P) (w := w) (base := base) T
 refine T.fM.F.ok HW (fun vs H Q E h => ?_) (fun cdv A outer s H vs Q E hr h => ?_)
 ·unfold ue at h
  split at h
  ·rfl
  ·exact h.elim
 ·unfold ue at h
  split at h
  ·rename_i x n
   obtain ⟨AA, L, M, k, b, r, a, t, i, rfl, rfl, ha, hth, hs, q⟩ := h
   refine ⟨_, ((Dv.au (Dv.aM (Dv.ix (bq (K := K) rfl) (Dv.call fW (hr.mono (by decide)) T.bW.m T.bW.F.kp T.bW.b .nil aw (Dv.ag (Dv.v 0) (Dv.ag (Dv.v 1) Dv.ai))) (Dv.un ef Dv.int))))).h, ?_⟩
   rw [show start ["house", "folder"] [V.ref AA.a, V.int (k : Int)] = [some (V.ref AA.a), some (V.int (k : Int))] from rfl]
   walk_at "w"
   refine ⟨AA, L, M, k, b, r, a, t, i, rfl, rfl, ha, hth, hs, fun l H' s' _ hl => ?_⟩
   dsimp only
   obtain ⟨pre, hp⟩ := A5 (b := b) (r := r)
   rw [hp, fh] at hl
   simp only [bp, hl, List.map_cons, List.map_nil, iI]
   exact q _ s'
  ·exact h.elim
def dA (r : Nat) (l : List Nat) : Bool := l.any (· == r)
theorem mG {r : Nat} : ∀ {l : List Nat}, cW (V.int (r : Int)) (nV l) = dA r l
 | [] => rfl
 | x :: l => by
  have ih := mG (r := r) (l := l)
  unfold cW at ih ⊢
  unfold dA at ih ⊢
  simp only [nV, List.map_cons, List.any_cons] at ih ⊢
  rw [ih]
  congr 1
  unfold c9
  by_cases e : x = r
  ·subst e; simp
  ·rw [beq_eq_false_iff_ne.mpr e]
   first | exact beq_eq_false_iff_ne.mpr (by omega) | (simp; omega)
def eL (M : Hs) (L : List Ta) (root : Nat) : Nat → Nat → Bool → Prop
 | n, k, v => ∃ b r a t, L[k]? = some a ∧ M.ts[k]? = some t ∧ cm M k b r ∧
  if k = bN b r then
   if dA root (b :: r) = true then v = true
   else ∃ ab tb, L[b]? = some ab ∧ M.ts[b]? = some tb ∧ ((tb.bz = [] ∧ v = false) ∨ ∃ f z, tb.bz = [(f, z)] ∧ match n with | 0 => False | n + 1 => eL M L root n f v)
  else v = false
def tu (CH CS CT : Addr) : Sp := fun vs H Q _ => match vs with
 | [.ref x, .str z, .int n] => ∃ A L M, ∃ k root : Nat, ∃ v, aG CH CS CT H A L M ∧ A.a = x ∧ n = (k : Int) ∧ aH (sD M.ro) (.inr z) = some (.int (root : Int)) ∧ (∃ m, eL M L root m k v) ∧ ∀ H', ax H H' → Q (.bl v) H'
 | _ => False
theorem uS (T : Tx K mg) : aB P w K mg base aK 6 T.dM.f T.dM.d ["house", "asker", "folder"] (tu T.aj T.ay T.aA) := by
 have fW := mU (P := P) (w := w) (base := base) T
 have lZ := tG (P := P) (w := w) (base := base) T
 have gE := mS (P := P) (w := w) (base := base) T
 refine T.dM.F.ok gI (fun vs H Q E h => ?_) (fun cdv A outer s H vs Q E hr h => ?_)
 ·unfold tu at h
  split at h
  ·rfl
  ·exact h.elim
 ·unfold tu at h
  split at h
  ·rename_i x z n
   obtain ⟨AA, L, M, k, root, v, i, rfl, rfl, hz, ⟨m, hm⟩, q⟩ := h
   obtain ⟨fs, c, hx, hfl, sf⟩ := i.h
   refine bj (b := aS sQ) ((Dv.cut (Dv.aN 3 gI.nd (Dv.aY T.aI T.fG.h lZ (hr.mono (by decide)) T.fG.b .nil aw (Dv.v 0) (Dv.ag (Dv.v 1) Dv.ai)))
   (Dv.cut (Dv.aN 4 gI.nd (Dv.v 2))
   (Dv.cut (Dv.aN 5 gI.nd (Dv.call fW (hr.mono (by decide)) T.bW.m T.bW.F.kp T.bW.b .nil aw (Dv.ag (Dv.v 0) (Dv.ag (Dv.v 4) Dv.ai))))
   (Dv.cut (Dv.f9 PassesOwn.never (Dv.bg dm (Dv.v 4) (Dv.ix (bq (K := K) rfl) (Dv.v 5) (Dv.un ef Dv.int))) (Dv.cut (Dv.ba (Dv.bg (oh (K := K) rfl) (Dv.v 3) (Dv.v 5)) (Dv.au (Dv.aM Dv.bl)) Dv.nil)
   (Dv.cut (Dv.aN 6 gI.nd (Dv.aY T.aI T.dj.h gE (hr.mono (by decide)) T.dj.b .nil aw (Dv.v 0) (Dv.ag (Dv.ix (bq (K := K) rfl) (Dv.v 5) Dv.int) Dv.ai)))
   (Dv.cut (Dv.ba (Dv.bg iP (Dv.v 6) Dv.aq) (Dv.au (Dv.aM Dv.bl)) Dv.nil)
   (Dv.cut (Dv.aN 4 gI.nd (Dv.ix (bq (K := K) rfl) (Dv.v 6) Dv.int))
   (Dv.au (Dv.aN 5 gI.nd (Dv.call fW (hr.mono (by decide)) T.bW.m T.bW.F.kp T.bW.b .nil aw (Dv.ag (Dv.v 0) (Dv.ag (Dv.v 4) Dv.ai))))))))))
   (Dv.au (Dv.aM Dv.bl))))))) ?_
   rw [show start ["house", "asker", "folder", "root", "here", "stack", "place"] [V.ref AA.a, V.str z, V.int (k : Int)] = [some (V.ref AA.a), some (V.str z), some (V.int (k : Int)), none, none, none, none] from rfl]
   refine ao ?_
   walk_at "w"
   refine ⟨AA.a, _, _, rfl, hx, (sf _).trans rfl, AA, L, M, root, i, rfl, hz, ?_⟩
   refine ao ?_
   walk_at "w"
   refine ao ?_
   walk_at "w"
   obtain ⟨b, r, a, t, ha, ht, hst, cA⟩ := (by unfold eL at hm; exact hm : ∃ b r a t, L[k]? = some a ∧ M.ts[k]? = some t ∧ cm M k b r ∧ _)
   refine ⟨AA, L, M, k, b, r, a, t, i, rfl, rfl, ha, ht, hst, fun l H1 s1 hl0 hl => ?_⟩
   refine ao ⟨fun m σ' H' => ax H H' ∧ ∃ (j : Nat) (l : Addr) (b : Nat) (r : List Nat) (pv : Option V), σ' = [some (V.ref AA.a), some (V.str z), some (V.int (k : Int)), some (V.int (root : Int)), some (V.int (j : Int)), some (V.ref l), pv] ∧ H' l = some (.lst (nV (b :: r))) ∧ cm M j b r ∧
    (if j = bN b r then
     if dA root (b :: r) = true then v = true
     else ∃ ab tb, L[b]? = some ab ∧ M.ts[b]? = some tb ∧ ((tb.bz = [] ∧ v = false) ∨ ∃ f z, tb.bz = [(f, z)] ∧ match m with | 0 => False | n + 1 => eL M L root n f v)
    else v = false), ⟨m, s1, k, l, b, r, none, rfl, hl, hst, cA⟩, ?_⟩
   clear cA ha ht hst hl hl0 s1 hm
   rintro m σ' H' ⟨s', j, l, b, r, pv, rfl, hl, hst, cA⟩
   have i' := i.same s'
   obtain ⟨pre, hp⟩ := A5 (b := b) (r := r)
   have cu := hl
   rw [hp, fh] at cu
   walk_at "w"
   simp only [bp, cu, List.map_cons, List.map_nil, iI]
   by_cases hj : j = bN b r
   ·rw [if_pos hj] at cA
    rw [decide_eq_true (by rw [hj])]
    refine bo ⟨_, fun _ _ h => h, ?_⟩
    refine ao ?_
    walk_at "w"
    simp only [bp, hl]
    refine ⟨rfl, by simp [cb], ?_⟩
    rw [mG]
    cases fT : dA root (b :: r) with
    | true =>
     rw [if_pos fT] at cA
     subst cA
     exact bo (q _ s')
    | false =>
     rw [if_neg (by rw [fT]; nofun)] at cA
     obtain ⟨ab, tb, hab, htb, hpl⟩ := cA
     refine aO ?_
     refine ao ?_
     obtain ⟨fs, c, hx, hfl, sf⟩ := i'.h
     walk_at "w"
     simp only [bp, hl, nV, List.map_cons, ja]
     refine ⟨AA.a, _, _, rfl, hx, (sf _).trans rfl, AA, L, M, b, ab, tb, i', rfl, rfl, hab, htb, ?_⟩
     rcases hpl with ⟨hpl, rfl⟩ | ⟨f, zz, hpl, hn⟩
     ·refine .inl ⟨hpl, ?_⟩
      refine ao ?_
      walk_at "w"
      exact ⟨trivial, bo (q _ s')⟩
     ·refine .inr ⟨f, zz, hpl, fun p hp => ?_⟩
      refine ao ?_
      walk_at "w"
      refine ⟨trivial, ?_⟩
      rw [decide_eq_false (by nofun)]
      refine aO ?_
      refine ao ?_
      walk_at "w"
      simp only [bp, hp, ja]
      cases m with
      | zero => exact hn.elim
      | succ m =>
       obtain ⟨b2, r2, a2, t2, ha2, ht2, oQ, vJ⟩ := (by unfold eL at hn; exact hn : ∃ b r a t, L[f]? = some a ∧ M.ts[f]? = some t ∧ cm M f b r ∧ _)
       refine ⟨AA, L, M, f, b2, r2, a2, t2, i', rfl, rfl, ha2, ht2, oQ, fun l2 H2 s2 hl0 cu => ?_⟩
       exact ⟨m, Nat.lt_succ_self m, s'.trans s2, f, l2, b2, r2, some (V.ref p), rfl, cu, oQ, vJ⟩
   ·rw [if_neg hj] at cA
    rw [decide_eq_false (by omega)]
    subst cA
    refine aO ?_
    walk_at "w"
    exact q _ s'
  ·exact h.elim
def eT (M : Hs) (L : List Ta) : Nat → Nat → Nat → Prop
 | n, k, u => ∃ a t, L[k]? = some a ∧ M.ts[k]? = some t ∧ ((t.bz = [] ∧ u = k) ∨ ∃ f z, t.bz = [(f, z)] ∧ match n with | 0 => False | n + 1 => eT M L n f u)
def jz (M : Hs) (L : List Ta) (o : Nat) : Nat → Nat → Bool → Prop
 | n, k, v => if k = o then v = true else ∃ a t, L[k]? = some a ∧ M.ts[k]? = some t ∧ ((t.bz = [] ∧ v = false) ∨ ∃ f z, t.bz = [(f, z)] ∧ match n with | 0 => False | n + 1 => jz M L o n f v)
def uY (CH CS CT : Addr) : Sp := fun vs H Q _ => match vs with
 | [.ref x, .int n1, .int n2] => ∃ A L M, ∃ k o : Nat, ∃ a t a2 t2 v, aG CH CS CT H A L M ∧ A.a = x ∧ n1 = (k : Int) ∧ n2 = (o : Int) ∧ L[k]? = some a ∧ M.ts[k]? = some t ∧ L[o]? = some a2 ∧ M.ts[o]? = some t2 ∧ (∃ m, jz M L o m k v) ∧ Q (.bl v) H
 | _ => False
theorem GY (T : Tx K mg) : aB P w K mg base aK 5 T.iD.f T.iD.d ["house", "one", "other"] (uY T.aj T.ay T.aA) := by
 have oV := x6 (P := P) (w := w) (base := base) T
 have gE := mS (P := P) (w := w) (base := base) T
 refine T.iD.F.ok oE (fun vs H Q E h => ?_) (fun cdv A outer s H vs Q E hr h => ?_)
 ·unfold uY at h
  split at h
  ·rfl
  ·exact h.elim
 ·unfold uY at h
  split at h
  ·rename_i x n1 n2
   obtain ⟨AA, L, M, k, o, a, t, a2, t2, v, i, rfl, rfl, rfl, ha, ht, ha2, ht2, ⟨m, hm⟩, q⟩ := h
   obtain ⟨fs, c, hx, hfl, sf⟩ := i.h
   refine bj (b := aS rn) ((Dv.cut (Dv.aU (Dv.aY T.aI T.fg.h oV (hr.mono (by decide)) T.fg.b .nil aw (Dv.v 0) (Dv.ag (Dv.v 1) Dv.ai)))
   (Dv.cut (Dv.aU (Dv.aY T.aI T.fg.h oV (hr.mono (by decide)) T.fg.b .nil aw (Dv.v 0) (Dv.ag (Dv.v 2) Dv.ai)))
   (Dv.cut (Dv.aN 3 oE.nd (Dv.v 1))
   (Dv.cut (Dv.f9 PassesOwn.never (Dv.bg eP (Dv.v 3) (Dv.v 2)) (Dv.cut (Dv.aN 4 oE.nd (Dv.aY T.aI T.dj.h gE (hr.mono (by decide)) T.dj.b .nil aw (Dv.v 0) (Dv.ag (Dv.v 3) Dv.ai)))
   (Dv.cut (Dv.ba (Dv.bg iP (Dv.v 4) Dv.aq) (Dv.au (Dv.aM Dv.bl)) Dv.nil)
   (Dv.au (Dv.aN 3 oE.nd (Dv.ix (bq (K := K) rfl) (Dv.v 4) Dv.int))))))
   (Dv.au (Dv.aM Dv.bl))))))) ?_
   rw [show start ["house", "one", "other", "here", "place"] [V.ref AA.a, V.int (k : Int), V.int (o : Int)] = [some (V.ref AA.a), some (V.int (k : Int)), some (V.int (o : Int)), none, none] from rfl]
   refine ao ?_
   walk_at "w"
   refine ⟨AA.a, _, _, rfl, hx, (sf _).trans rfl, AA, L, M, k, a, t, i, rfl, rfl, ha, ht, ?_⟩
   refine ao ?_
   walk_at "w"
   refine ⟨AA.a, _, _, rfl, hx, (sf _).trans rfl, AA, L, M, o, a2, t2, i, rfl, rfl, ha2, ht2, ?_⟩
   refine ao ?_
   walk_at "w"
   refine ao ⟨fun m σ' H' => H' = H ∧ ∃ (j : Nat) (pv : Option V), σ' = [some (V.ref AA.a), some (V.int (k : Int)), some (V.int (o : Int)), some (V.int (j : Int)), pv] ∧ jz M L o m j v, ⟨m, rfl, k, none, rfl, hm⟩, ?_⟩
   clear hm
   rintro m σ' H' ⟨rfl, j, pv, rfl, hm⟩
   unfold jz at hm
   walk_at "w"
   by_cases hj : j = o
   ·rw [if_pos hj] at hm
    subst hm
    rw [decide_eq_true (by rw [hj])]
    exact aO q
   ·rw [if_neg hj] at hm
    rw [decide_eq_false (by omega)]
    obtain ⟨a3, t3, ha3, ht3, hpl⟩ := hm
    refine bo ⟨_, fun _ _ h => h, ?_⟩
    refine ao ?_
    walk_at "w"
    refine ⟨AA.a, _, _, rfl, hx, (sf _).trans rfl, AA, L, M, j, a3, t3, i, rfl, rfl, ha3, ht3, ?_⟩
    rcases hpl with ⟨hpl, rfl⟩ | ⟨f, zz, hpl, hn⟩
    ·refine .inl ⟨hpl, ?_⟩
     refine ao ?_
     walk_at "w"
     exact ⟨trivial, bo q⟩
    ·refine .inr ⟨f, zz, hpl, fun p hp => ?_⟩
     refine ao ?_
     walk_at "w"
     refine ⟨trivial, ?_⟩
     rw [decide_eq_false (by nofun)]
     refine aO ?_
     simp only [bp, hp, ja]
     cases m with
     | zero => exact hn.elim
     | succ m => exact ⟨m, Nat.lt_succ_self m, trivial, f, some (V.ref p), rfl, hn⟩
  ·exact h.elim
abbrev cM (M : Hs) : List Str := cX (M.tr.map (·.1))
def qX (CH CS CT : Addr) : Sp := fun vs H Q _ => match vs with
 | [.ref x] => ∃ A L M, aG CH CS CT H A L M ∧ A.a = x ∧ M.tr.length < 64 ∧ ∀ l, H l = none → Q (.ref l) (upd H l (.lst ((cM M).map V.str)))
 | _ => False
def u9 (CH CS CT : Addr) : Sp := fun vs H Q _ => match vs with
 | [.ref x, .str z] => ∃ A L M, aG CH CS CT H A L M ∧ A.a = x ∧ (aH (sD M.tr) (.inr z)).isSome = true ∧ Q .aq H
 | _ => False
def uf (CH CS CT : Addr) : Sp := fun vs H Q _ => match vs with
 | [.ref x, .str z] => ∃ A L M, ∃ r : Nat, aG CH CS CT H A L M ∧ A.a = x ∧ aH (sD M.tr) (.inr z) = some (.int (r : Int)) ∧ Q (.int (r : Int)) H
 | _ => False
def pT (CH CS CT : Addr) : Sp := fun vs H Q _ => match vs with
 | [.ref x, .str z] => ∃ A L M, ∃ r : Nat, aG CH CS CT H A L M ∧ A.a = x ∧ aH (sD M.tr) (.inr z) = some (.int (r : Int)) ∧ Q ((aH (nD M.un) (.inl (r : Int))).getD .aq) H
 | _ => False
theorem zG (T : Tx K mg) : aB P w K mg base aK 1 T.gX.f T.gX.d ["self"] (qX T.aj T.ay T.aA) := by
 refine T.gX.F.ok Ea (fun vs H Q E h => ?_) (fun cdv A outer s H vs Q E hr h => ?_)
 ·unfold qX at h
  split at h
  ·rfl
  ·exact h.elim
 ·unfold qX at h
  split at h
  ·rename_i x
   obtain ⟨AA, L, M, i, rfl, hl, q⟩ := h
   obtain ⟨fs, c, hx, hfl, sf⟩ := i.h
   refine ⟨_, ((Dv.au (Dv.aM (Dv.bZ (D4 (K := K) rfl rfl) T.GI Ia (Dv.ag (Dv.fld T.aI T.ij (Dv.v 0)) Dv.ai))))).h, ?_⟩
   rw [show start ["self"] [V.ref AA.a] = [some (V.ref AA.a)] from rfl]
   walk_at "w"
   exact ⟨AA.a, _, _, .ref AA.tr, rfl, hx, (sf _).trans rfl, .inr (.inl ⟨AA.tr, _, M.tr.map (·.1), rfl, i.tr, by unfold sD; rw [List.map_map, List.map_map]; rfl, by rw [List.length_map]; exact hl, q⟩)⟩
  ·exact h.elim
theorem zy (T : Tx K mg) : aB P w K mg base aK 1 T.gN.f T.gN.d ["self", "tree"] (u9 T.aj T.ay T.aA) := by
 refine T.gN.F.ok Gb (fun vs H Q E h => ?_) (fun cdv A outer s H vs Q E hr h => ?_)
 ·unfold u9 at h
  split at h
  ·rfl
  ·exact h.elim
 ·unfold u9 at h
  split at h
  ·rename_i x z
   obtain ⟨AA, L, M, i, rfl, hz, q⟩ := h
   obtain ⟨fs, c, hx, hfl, sf⟩ := i.h
   refine ⟨_, ((Dv.au (Dv.ba (Dv.dq (Dv.w_or (Dv.b8 (Dv.bT (Dv.bZ gu T.ei eh (Dv.ag (Dv.v 1) (Dv.ag (Dv.gf (.ty "str") T.jl iJ rfl) Dv.ai))))) (Dv.fL (Dv.yq (bX hr) (Dv.v 1) (Dv.fld T.aI T.ij (Dv.v 0)))))) (Dv.au Dv.bE) Dv.nil))).h, ?_⟩
   rw [show start ["self", "tree"] [V.ref AA.a, V.str z] = [some (V.ref AA.a), some (V.str z)] from rfl]
   walk_at "w"
   refine ⟨by simp, ?_⟩
   rw [show (!lh "str" "str") = false from by decide +kernel]
   refine aO ?_
   refine ⟨AA.a, _, _, .ref AA.tr, rfl, hx, (sf _).trans rfl, AA.tr, _, rfl, bP.k (k := .inr z) i.tr, ?_⟩
   rw [hz]
   exact aO q
  ·exact h.elim
theorem xM (T : Tx K mg) : aB P w K mg base aK 2 T.gW.f T.gW.d ["self", "tree"] (uf T.aj T.ay T.aA) := by
 have wB := zy (P := P) (w := w) (base := base) T
 refine T.gW.F.ok J5 (fun vs H Q E h => ?_) (fun cdv A outer s H vs Q E hr h => ?_)
 ·unfold uf at h
  split at h
  ·rfl
  ·exact h.elim
 ·unfold uf at h
  split at h
  ·rename_i x z
   obtain ⟨AA, L, M, r, i, rfl, hz, q⟩ := h
   obtain ⟨fs, c, hx, hfl, sf⟩ := i.h
   refine ⟨_, ((Dv.cut (Dv.aU (Dv.aY T.aI T.gN.h wB (hr.mono (by decide)) T.gN.b .nil aw (Dv.v 0) (Dv.ag (Dv.v 1) Dv.ai)))
   (Dv.au (Dv.aM (Dv.jy (bX hr) (Dv.fld T.aI T.ij (Dv.v 0)) (Dv.v 1)))))).h, ?_⟩
   rw [show start ["self", "tree"] [V.ref AA.a, V.str z] = [some (V.ref AA.a), some (V.str z)] from rfl]
   refine ao ?_
   walk_at "w"
   refine ⟨AA.a, _, _, rfl, hx, (sf _).trans rfl, AA, L, M, i, rfl, by rw [hz]; rfl, ?_⟩
   refine ⟨AA.a, _, _, .ref AA.tr, rfl, hx, (sf _).trans rfl, AA.tr, .int r, rfl, ?_, q⟩
   have := bP.k (k := .inr z) i.tr
   rw [hz] at this
   exact this
  ·exact h.elim
theorem wX (T : Tx K mg) : aB P w K mg base aK 3 T.gT.f T.gT.d ["self", "tree"] (pT T.aj T.ay T.aA) := by
 have wk := xM (P := P) (w := w) (base := base) T
 refine T.gT.F.ok FX (fun vs H Q E h => ?_) (fun cdv A outer s H vs Q E hr h => ?_)
 ·unfold pT at h
  split at h
  ·rfl
  ·exact h.elim
 ·unfold pT at h
  split at h
  ·rename_i x z
   obtain ⟨AA, L, M, r, i, rfl, hz, q⟩ := h
   obtain ⟨fs, c, hx, hfl, sf⟩ := i.h
   refine ⟨_, ((Dv.au (Dv.aM (Dv.Ae (bX hr) (Dv.fld T.aI T.ke (Dv.v 0)) (Dv.aY T.aI T.gW.h wk (hr.mono (by decide)) T.gW.b .nil aw (Dv.v 0) (Dv.ag (Dv.v 1) Dv.ai)))))).h, ?_⟩
   rw [show start ["self", "tree"] [V.ref AA.a, V.str z] = [some (V.ref AA.a), some (V.str z)] from rfl]
   walk_at "w"
   exact ⟨AA.a, _, _, .ref AA.un, rfl, hx, (sf _).trans rfl, AA.un, rfl, .inl ⟨_, .inl i.un⟩, AA.a, _, _, rfl, hx, (sf _).trans rfl, AA, L, M, r, i, rfl, hz, _, bP.k (k := .inl (r : Int)) i.un, q⟩
  ·exact h.elim
def kz (M : Hs) (u : Nat) (z : Str) : Prop := ∃ (pre post : List Str), cM M = pre ++ z :: post ∧ (∀ y ∈ pre, ∃ r : Nat, aH (sD M.tr) (.inr y) = some (.int (r : Int)) ∧ r ≠ u) ∧ aH (sD M.tr) (.inr z) = some (.int (u : Int))
def pq (CH CS CT : Addr) : Sp := fun vs H Q _ => match vs with
 | [.ref x, .int n] => ∃ A L M, ∃ k u : Nat, ∃ z, aG CH CS CT H A L M ∧ A.a = x ∧ n = (k : Int) ∧ (∃ m, eT M L m k u) ∧ M.tr.length < 64 ∧ kz M u z ∧ ∀ H', ax H H' → Q (.str z) H'
 | _ => False
theorem sE (T : Tx K mg) : aB P w K mg base aK 5 T.dX.f T.dX.d ["house", "number"] (pq T.aj T.ay T.aA) := by
 have gE := mS (P := P) (w := w) (base := base) T
 have wj := zG (P := P) (w := w) (base := base) T
 have wk := xM (P := P) (w := w) (base := base) T
 refine T.dX.F.ok jP (fun vs H Q E h => ?_) (fun cdv A outer s H vs Q E hr h => ?_)
 ·unfold pq at h
  split at h
  ·rfl
  ·exact h.elim
 ·unfold pq at h
  split at h
  ·rename_i x n
   obtain ⟨AA, L, M, k, u, z, i, rfl, rfl, ⟨m, hm⟩, hl64, htr, q⟩ := h
   obtain ⟨fs, c, hx, hfl, sf⟩ := i.h
   refine bj (b := aS rM) ((Dv.cut (Dv.aN 2 jP.nd (Dv.aY T.aI T.dj.h gE (hr.mono (by decide)) T.dj.b .nil aw (Dv.v 0) (Dv.ag (Dv.v 1) Dv.ai)))
   (Dv.cut (Dv.aN 3 jP.nd (Dv.v 1))
   (Dv.cut (Dv.f9 PassesOwn.never (Dv.bg mC (Dv.v 2) Dv.aq) (Dv.cut (Dv.aN 3 jP.nd (Dv.ix (bq (K := K) rfl) (Dv.v 2) Dv.int))
   (Dv.au (Dv.aN 2 jP.nd (Dv.aY T.aI T.dj.h gE (hr.mono (by decide)) T.dj.b .nil aw (Dv.v 0) (Dv.ag (Dv.v 3) Dv.ai))))))
   (Dv.cut (Dv.j0 PassesOwn.never rfl (Dv.lV (K := K) rfl (Dv.lT T.aI T.gX.h wj (hr.mono (by decide)) T.gX.b .nil aw (Dv.v 0))) (Dv.f6 4 jP.nd) (Dv.au (Dv.ba (Dv.bg dm (Dv.aY T.aI T.gW.h wk (hr.mono (by decide)) T.gW.b .nil aw (Dv.v 0) (Dv.ag (Dv.v 4) Dv.ai)) (Dv.v 3)) (Dv.au (Dv.aM (Dv.v 4))) Dv.nil)))
   (Dv.au Dv.bE)))))) ?_
   rw [show start ["house", "number", "place", "upmost", "tree"] [V.ref AA.a, V.int (k : Int)] = [some (V.ref AA.a), some (V.int (k : Int)), none, none, none] from rfl]
   obtain ⟨a, t, ha, ht, hpl⟩ := (by unfold eT at hm; exact hm : ∃ a t, L[k]? = some a ∧ M.ts[k]? = some t ∧ _)
   refine ao ?_
   walk_at "w"
   refine ⟨AA.a, _, _, rfl, hx, (sf _).trans rfl, AA, L, M, k, a, t, i, rfl, rfl, ha, ht, ?_⟩
   refine (show ∀ (R : VK), (∀ pv, ((t.bz = [] ∧ pv = .aq ∧ u = k) ∨ ∃ (f : Nat) (z : Str) (p : Addr), t.bz = [(f, z)] ∧ pv = .ref p ∧ H p = some (.tup [.int (f : Int), .str z]) ∧ match m with | 0 => False | n + 1 => eT M L n f u) → R pv H) → tF AA L M k a t H R from fun R hR => ?_) _ fun pv hpv => ?_
   ·rcases hpl with ⟨h1, h2⟩ | ⟨f, zz, h1, h2⟩
    ·exact .inl ⟨h1, hR _ (.inl ⟨h1, rfl, h2⟩)⟩
    ·exact .inr ⟨f, zz, h1, fun p hp => hR _ (.inr ⟨f, zz, p, h1, rfl, hp, h2⟩)⟩
   refine ao ?_
   walk_at "w"
   refine ao ⟨fun m σ' H' => H' = H ∧ ∃ (j : Nat) (pv : V) (t : Th), σ' = [some (V.ref AA.a), some (V.int (k : Int)), some pv, some (V.int (j : Int)), none] ∧ ((t.bz = [] ∧ pv = .aq ∧ u = j) ∨ ∃ (f : Nat) (z : Str) (p : Addr), t.bz = [(f, z)] ∧ pv = .ref p ∧ H p = some (.tup [.int (f : Int), .str z]) ∧ match m with | 0 => False | n + 1 => eT M L n f u), ⟨m, rfl, k, pv, t, rfl, hpv⟩, ?_⟩
   clear hpv hpl ha ht hm
   rintro m σ' H' ⟨rfl, j, pv, t, rfl, hpv⟩
   walk_at "w"
   rcases hpv with ⟨h1, rfl, rfl⟩ | ⟨f, zz, p, h1, rfl, hp, hn⟩
   ·refine ⟨trivial, ?_⟩
    rw [decide_eq_true rfl]
    refine aO ?_
    refine ao ?_
    walk_at "w"
    refine ⟨AA.a, _, _, rfl, hx, (sf _).trans rfl, AA, L, M, i, rfl, hl64, fun l hl => ?_⟩
    have s1 := ax.upd (o := .lst ((cM M).map V.str)) hl
    have b1 : upd H' l (.lst ((cM M).map V.str)) l = some (.lst ((cM M).map V.str)) := az
    generalize upd H' l (.lst ((cM M).map V.str)) = H1 at s1 b1 ⊢
    obtain ⟨pre, post, hk, jV, hz⟩ := htr
    have i1 := i.same s1
    obtain ⟨fs1, c1, hx1, dC, sf1⟩ := i1.h
    refine ⟨⟨_, aL.of b1⟩, AL (xs := (cM M).map V.str) (fun jj σ' H' => H' = H1 ∧ jj ≤ pre.length ∧ ∃ t, σ' = [some (V.ref AA.a), some (V.int (k : Int)), some V.aq, some (V.int (u : Int)), t]) ⟨rfl, Nat.zero_le _, _, rfl⟩ (fun jj σ' H' _ h => by rw [h.1]; exact aL.of b1) ?_ (fun σ' H' h => ?_)⟩
    ·rintro jj x σ' H2 hxj ⟨rfl, hjl, tt, rfl⟩
     rw [List.getElem?_map, hk] at hxj
     have hroot : ∃ (y : Str) (r : Nat), x = V.str y ∧ aH (sD M.tr) (.inr y) = some (.int (r : Int)) ∧ (r ≠ u ∧ jj + 1 ≤ pre.length ∨ r = u ∧ y = z) := by
      rcases Nat.lt_or_ge jj pre.length with hlt | hge
      ·rw [List.getElem?_append_left hlt, List.getElem?_eq_getElem hlt] at hxj
       obtain ⟨r, h2, h3⟩ := jV _ (List.getElem_mem hlt)
       exact ⟨_, r, (Option.some.inj hxj).symm, h2, .inl ⟨h3, hlt⟩⟩
      ·have e : jj = pre.length := Nat.le_antisymm hjl hge
       subst e
       rw [List.getElem?_append_right (Nat.le_refl _), Nat.sub_self] at hxj
       exact ⟨z, u, (Option.some.inj hxj).symm, hz, .inr ⟨rfl, rfl⟩⟩
     obtain ⟨y, r, rfl, hy, hr⟩ := hroot
     walk_at "w"
     refine ⟨AA.a, _, _, rfl, hx1, (sf1 _).trans rfl, AA, L, M, r, i1, rfl, hy, ?_⟩
     dsimp only
     rcases hr with ⟨hne, hle⟩ | ⟨rfl, rfl⟩
     ·rw [show decide ((r : Int) = (u : Int)) = false from decide_eq_false (by omega)]
      exact aO ⟨rfl, hle, _, rfl⟩
     ·rw [show decide ((r : Int) = (r : Int)) = true from decide_eq_true rfl]
      exact bo (q _ s1)
    ·have := h.2.1
     rw [List.length_map, hk, List.length_append, List.length_cons] at this
     omega
   ·refine ⟨trivial, ?_⟩
    rw [decide_eq_false (by nofun)]
    refine bo ⟨_, fun _ _ h => h, ?_⟩
    refine ao ?_
    walk_at "w"
    simp only [bp, hp, ja]
    cases m with
    | zero => exact hn.elim
    | succ m =>
     obtain ⟨a2, t2, ha2, ht2, hpl⟩ := (by unfold eT at hn; exact hn : ∃ a t, L[f]? = some a ∧ M.ts[f]? = some t ∧ _)
     refine ⟨AA.a, _, _, rfl, hx, (sf _).trans rfl, AA, L, M, f, a2, t2, i, rfl, rfl, ha2, ht2, ?_⟩
     rcases hpl with ⟨h1, h2⟩ | ⟨f2, zz2, h1, h2⟩
     ·exact .inl ⟨h1, m, Nat.lt_succ_self m, rfl, f, _, t2, rfl, .inl ⟨h1, rfl, h2⟩⟩
     ·exact .inr ⟨f2, zz2, h1, fun p hp => ⟨m, Nat.lt_succ_self m, rfl, f, _, t2, rfl, .inr ⟨f2, zz2, p, h1, rfl, hp, h2⟩⟩⟩
  ·exact h.elim
def dh (l : List (Str × Nat)) (z : Str) (n : Nat) : List (Str × Nat) := if (aH (sD l) (.inr z)).isSome = true then l.map (fun e => if e.1 = z then (e.1, n) else e) else l ++ [(z, n)]
theorem AG {l : List (Str × Nat)} {z : Str} {n : Nat} : putK (sD l) (.inr z) (.int (n : Int)) = sD (dh l z n) := by
 unfold dh putK
 rw [ka]
 cases h : (aH (sD l) (.inr z)).isSome with
 | true =>
  rw [if_pos rfl, if_pos rfl]
  unfold sD
  rw [List.map_map, List.map_map]
  refine List.map_congr_left fun e _ => ?_
  by_cases he : e.1 = z
  ·simp [he]
  ·simp [he]
 | false =>
  rw [if_neg (by nofun), if_neg (by nofun)]
  unfold sD
  rw [List.map_append]
  rfl
theorem Bi {l : List (Nat × Nat)} {z k : Nat} (h : aH (nD l) (.inl (z : Int)) = none) : putK (nD l) (.inl (z : Int)) (.int (k : Int)) = nD (l ++ [(z, k)]) := by
 have e : ((nD l).any fun kv => decide (kv.1 = (Sum.inl (z : Int) : Key))) = false := by rw [ka, h]; rfl
 unfold putK
 rw [e, if_neg (by nofun)]
 unfold nD
 rw [List.map_append]
 rfl
section
variable {CH CS CT : Addr} {H H' : Hp} {A : Ad} {L : List Ta} {M : Hs}
theorem aG.oe {ro' st' tr' : List (Str × Nat)} {ov' un' : List (Nat × Nat)} (i : aG CH CS CT H A L M) (hh : ∃ fs c, H' A.a = some (.ins CH A.dx fs) ∧ fs.length ≤ 40 ∧ bQ fs (jQ c A)) (hro : H' A.ro = some (.dK (sD ro'))) (hst : H' A.st = some (.dK (sD st'))) (htr : H' A.tr = some (.dK (sD tr'))) (hov : H' A.ov = some (.dK (nD ov'))) (hun : H' A.un = some (.dK (nD un')))
  (kp : Kp [A.a, A.ro, A.st, A.tr, A.ov, A.un] H H') : aG CH CS CT H' A L { ts := M.ts, ro := ro', st := st', tr := tr', ov := ov', un := un' } := by
 have nd := i.nd
 rw [List.nodup_append] at nd
 obtain ⟨n1, n2, n3⟩ := nd
 have off : ∀ b, b ∈ [A.t, A.ml] → b ∉ [A.a, A.ro, A.st, A.tr, A.ov, A.un] := by
  intro b hb hm
  simp only [Ad.w, List.nodup_cons, List.mem_cons, List.not_mem_nil, or_false, not_or] at n1 hb hm
  obtain ⟨⟨a1, a2, a3, a4, a5, a6, a7⟩, ⟨b1, b2, b3, b4, b5, b6⟩, ⟨c1, c2, c3, c4, c5⟩, _⟩ := n1
  rcases hb with rfl | rfl <;> rcases hm with h | h | h | h | h | h <;> simp_all
 have iU : ∀ b, b ∈ L.flatMap Ta.l → b ∉ [A.a, A.ro, A.st, A.tr, A.ov, A.un] := by
  intro b hb hm
  have hw : b ∈ A.w := by
   simp only [Ad.w, List.mem_cons, List.not_mem_nil, or_false] at hm ⊢
   rcases hm with h | h | h | h | h | h <;> simp [h]
  exact n3 _ hw _ hb rfl
 refine ⟨hh, ?_, kp _ _ (off _ (by simp)) i.ml, i.len, fun j t e => ?_, hro, hst, htr, hov, hun, i.nd⟩
 ·obtain ⟨fs, c, e, r⟩ := i.t
  exact ⟨fs, c, kp _ _ (off _ (by simp)) e, r⟩
 ·obtain ⟨a, e1, h1⟩ := i.th j t e
  exact ⟨a, e1, h1.keep kp fun b hb => iU b (eZ e1 hb)⟩
theorem aG.oJ (i : aG CH CS CT H A L M) : A.ro ≠ A.a ∧ A.st ≠ A.a ∧ A.tr ≠ A.a ∧ A.ov ≠ A.a ∧ A.un ≠ A.a ∧ A.st ≠ A.ro ∧ A.tr ≠ A.ro ∧ A.ov ≠ A.ro ∧ A.un ≠ A.ro ∧ A.tr ≠ A.st ∧ A.ov ≠ A.st ∧ A.un ≠ A.st ∧ A.ov ≠ A.tr ∧ A.un ≠ A.tr ∧ A.un ≠ A.ov := by
 have nd := i.nd
 rw [List.nodup_append] at nd
 have n1 := nd.1
 simp only [Ad.w, List.nodup_cons, List.mem_cons, List.not_mem_nil, or_false, not_or] at n1
 obtain ⟨⟨a1, a2, a3, a4, a5, a6, a7⟩, ⟨b1, b2, b3, b4, b5, b6⟩, ⟨c1, c2, c3, c4, c5⟩, ⟨d1, d2, d3, d4⟩, ⟨e1, e2, e3⟩, ⟨f1, f2⟩, g1, _⟩ := n1
 exact ⟨Ne.symm a3, Ne.symm a4, Ne.symm a5, Ne.symm a6, Ne.symm a7, Ne.symm d1, Ne.symm d2, Ne.symm d3, Ne.symm d4, Ne.symm e1, Ne.symm e2, Ne.symm e3, Ne.symm f1, Ne.symm f2, Ne.symm g1⟩
end
def xE (CH CS CT : Addr) : Sp := fun vs H Q _ => match vs with
 | [.ref x, .str z, .int n] => ∃ A L M, ∃ k : Nat, aG CH CS CT H A L M ∧ A.a = x ∧ n = (k : Int) ∧ M.ro.length ≤ 40 ∧ ∀ H', aG CH CS CT H' A L { M with ro := dh M.ro z k } → Kp [A.a, A.ro] H H' → Q .aq H'
 | _ => False
def zw (CH CS CT : Addr) : Sp := fun vs H Q _ => match vs with
 | [.ref x, .str z, .int n] => ∃ A L M, ∃ k : Nat, aG CH CS CT H A L M ∧ A.a = x ∧ n = (k : Int) ∧ M.st.length ≤ 40 ∧ ∀ H', aG CH CS CT H' A L { M with st := dh M.st z k } → Kp [A.a, A.st] H H' → Q .aq H'
 | _ => False
theorem uG {l : List (Str × Nat)} : (sD l).length = l.length := List.length_map _
theorem Kl (T : Tx K mg) : aB P w K mg base aK 1 T.fK.f T.fK.d ["self", "asker", "folder"] (xE T.aj T.ay T.aA) := by
 refine (Ao T).imp fun vs H Q E h => ?_
 unfold xE at h
 split at h
 ·rename_i x z n
  obtain ⟨AA, L, M, k, i, rfl, rfl, hl, q⟩ := h
  obtain ⟨fs, c, hx, hfl, sf⟩ := i.h
  obtain ⟨e1, e2, e3, e4, e5, e6, e7, e8, e9, _⟩ := i.oJ
  refine ⟨AA.dx, fs, c, AA.ro, _, hx, hfl, (sf _).trans rfl, (sf _).trans rfl, i.ro, by rw [uG]; exact hl, ?_⟩
  rw [AG]
  refine q _ (i.oe ⟨aa "changes" (.int (c + 1)) fs, c + 1, by rw [ah (Ne.symm e1), az], by rw [cC (u := .int c) ((sf _).trans rfl)]; exact hfl, fun f => ((sf.put "changes" (.int (c + 1))) f).trans rfl⟩ az (by rw [ah e6, ah e2]; exact i.st) (by rw [ah e7, ah e3]; exact i.tr) (by rw [ah e8, ah e4]; exact i.ov) (by rw [ah e9, ah e5]; exact i.un) ?_) ?_
  ·intro b o hb e
   simp only [List.mem_cons, List.not_mem_nil, or_false, not_or] at hb
   rw [ah hb.2.1, ah hb.1]; exact e
  ·intro b o hb e
   simp only [List.mem_cons, List.not_mem_nil, or_false, not_or] at hb
   rw [ah hb.2, ah hb.1]; exact e
 ·exact h.elim
theorem xl (T : Tx K mg) : aB P w K mg base aK 1 T.d7.f T.d7.d ["self", "asker", "folder"] (zw T.aj T.ay T.aA) := by
 refine (zS T).imp fun vs H Q E h => ?_
 unfold zw at h
 split at h
 ·rename_i x z n
  obtain ⟨AA, L, M, k, i, rfl, rfl, hl, q⟩ := h
  obtain ⟨fs, c, hx, hfl, sf⟩ := i.h
  obtain ⟨e1, e2, e3, e4, e5, e6, e7, e8, e9, e10, e11, e12, _⟩ := i.oJ
  refine ⟨AA.dx, fs, c, AA.st, _, hx, hfl, (sf _).trans rfl, (sf _).trans rfl, i.st, by rw [uG]; exact hl, ?_⟩
  rw [AG]
  refine q _ (i.oe ⟨aa "changes" (.int (c + 1)) fs, c + 1, by rw [ah (Ne.symm e2), az], by rw [cC (u := .int c) ((sf _).trans rfl)]; exact hfl, fun f => ((sf.put "changes" (.int (c + 1))) f).trans rfl⟩ (by rw [ah (Ne.symm e6), ah e1]; exact i.ro) az (by rw [ah e10, ah e3]; exact i.tr) (by rw [ah e11, ah e4]; exact i.ov) (by rw [ah e12, ah e5]; exact i.un) ?_) ?_
  ·intro b o hb e
   simp only [List.mem_cons, List.not_mem_nil, or_false, not_or] at hb
   rw [ah hb.2.2.1, ah hb.1]; exact e
  ·intro b o hb e
   simp only [List.mem_cons, List.not_mem_nil, or_false, not_or] at hb
   rw [ah hb.2, ah hb.1]; exact e
 ·exact h.elim
def pf (CH CS CT : Addr) : Sp := fun vs H Q _ => match vs with
 | [.ref x, .str z, .int n] => ∃ A L M, ∃ f r : Nat, aG CH CS CT H A L M ∧ A.a = x ∧ n = (f : Int) ∧ aH (sD M.tr) (.inr z) = some (.int (r : Int)) ∧ aH (nD M.ov) (.inl (f : Int)) = none ∧ aH (nD M.un) (.inl (r : Int)) = none ∧ M.ov.length ≤ 40 ∧ M.un.length ≤ 40 ∧
   ∀ H', aG CH CS CT H' A L { M with ov := M.ov ++ [(f, r)], un := M.un ++ [(r, f)] } → Kp [A.a, A.ov, A.un] H H' → Q .aq H'
 | _ => False
theorem Dx (T : Tx K mg) : aB P w K mg base aK 1 T.lB.f T.lB.d ["self", "tree", "folder"] (pf T.aj T.ay T.aA) := by
 refine T.lB.F.ok x5 (fun vs H Q E h => ?_) (fun cdv A outer s H vs Q E hr h => ?_)
 ·unfold pf at h
  split at h
  ·rfl
  ·exact h.elim
 ·unfold pf at h
  split at h
  ·rename_i x z n
   obtain ⟨AA, L, M, f, r, i, rfl, rfl, hz, hov, hun, mF, cu, q⟩ := h
   obtain ⟨fs, c, hx, hfl, sf⟩ := i.h
   obtain ⟨e1, e2, e3, e4, e5, e6, e7, e8, e9, e10, e11, e12, e13, e14, e15⟩ := i.oJ
   refine bj (b := aS uO) ((Dv.cut (Dv.aN 3 x5.nd (Dv.jy (bX hr) (Dv.fld T.aI T.ij (Dv.v 0)) (Dv.v 1)))
   (Dv.cut (Dv.fi T.aI T.iF eX (Dv.v 0) Dv.int)
   (Dv.cut (Dv.f7 (bX hr) (Dv.fld T.aI T.ni (Dv.v 0)) (Dv.v 2) (Dv.v 3))
   (Dv.au (Dv.f7 (bX hr) (Dv.fld T.aI T.ke (Dv.v 0)) (Dv.v 3) (Dv.v 2))))))) ?_
   rw [show start ["self", "tree", "folder", "root"] [V.ref AA.a, V.str z, V.int (f : Int)] = [some (V.ref AA.a), some (V.str z), some (V.int (f : Int)), none] from rfl]
   refine ao ?_
   walk_at "w"
   refine ⟨AA.a, _, _, .ref AA.tr, rfl, hx, (sf _).trans rfl, AA.tr, .int r, rfl, ?_, ?_⟩
   ·have := bP.k (k := .inr z) i.tr
    rw [hz] at this
    exact this
   refine ao ?_
   walk_at "w"
   refine ⟨AA.a, _, _, .int c, rfl, hx, (sf _).trans rfl, _, _, rfl, rfl, _, _, hx, by omega, ao ?_⟩
   walk_at "w"
   refine ⟨AA.a, _, _, .ref AA.ov, rfl, az, by rw [bS, if_neg (by decide)]; exact (sf _).trans rfl, AA.ov, _, rfl, cZ.k (k := .inl (f : Int)) (by rw [ah e4]; exact i.ov) (di (by unfold nD; rw [List.length_map]; omega)), ?_⟩
   walk_at "w"
   refine ⟨AA.a, _, _, .ref AA.un, rfl, by rw [ah (Ne.symm e4), az], by rw [bS, if_neg (by decide)]; exact (sf _).trans rfl, AA.un, _, rfl, cZ.k (k := .inl (r : Int)) (by rw [ah e15, ah e5]; exact i.un) (di (by unfold nD; rw [List.length_map]; omega)), ?_⟩
   rw [Bi hov, Bi hun]
   refine q _ (i.oe ⟨aa "changes" (.int (c + 1)) fs, c + 1, by rw [ah (Ne.symm e5), ah (Ne.symm e4), az], by rw [cC (u := .int c) ((sf _).trans rfl)]; exact hfl, fun f => ((sf.put "changes" (.int (c + 1))) f).trans rfl⟩ (by rw [ah (Ne.symm e9), ah (Ne.symm e8), ah e1]; exact i.ro) (by rw [ah (Ne.symm e12), ah (Ne.symm e11), ah e2]; exact i.st) (by rw [ah (Ne.symm e14), ah (Ne.symm e13), ah e3]; exact i.tr) (by rw [ah (Ne.symm e15), az]) az ?_) ?_
   ·intro b o hb e
    simp only [List.mem_cons, List.not_mem_nil, or_false, not_or] at hb
    rw [ah hb.2.2.2.2.2, ah hb.2.2.2.2.1, ah hb.1]; exact e
   ·intro b o hb e
    simp only [List.mem_cons, List.not_mem_nil, or_false, not_or] at hb
    rw [ah hb.2.2, ah hb.2.1, ah hb.1]; exact e
  ·exact h.elim
def AH (h : Addr) (z : Str) (root here : Int) (place : V) (step : Int) (av lf rd : Addr) (lu : Int) (told : V) : List (Str × V) := [("house", .ref h), ("asker", .str z), ("last", .bl true), ("root", .int root), ("here", .int here), ("place", place), ("step", .int step), ("asked", .ref av), ("left", .ref lf), ("reading", .ref rd), ("leads_read", .int 0), ("looked_up", .int lu), ("told", told)]
structure bD (CH CS CT CW : Addr) (as : List Nat) (H0 H : Hp) (A : Ad) (L : List Ta) (M : Hs) (x dx av lf : Addr) (z : Str) (root here : Nat) (told : V) (lv : List V) : Prop where
 i : aG CH CS CT H0 A L M
 s : ax H0 H
 x0 : H0 x = none
 a0 : H0 av = none
 l0 : H0 lf = none
 o : ∃ fs rd step lu, H x = some (.ins CW dx fs) ∧ fs.length ≤ 40 ∧ bQ fs (AH A.a z root here .aq step av lf rd lu told)
 oa : H av = some (.lst (nV as))
 ol : H lf = some (.lst lv)
 ne : av ≠ lf
 hz : aH (sD M.ro) (.inr z) = some (.int (root : Int))
section
variable {CH CS CT CW : Addr} {as : List Nat} {H0 H H' : Hp} {A : Ad} {L : List Ta} {M : Hs} {x dx av lf : Addr} {z : Str} {root here : Nat} {told : V} {lv : List V}
theorem bD.same (v : bD CH CS CT CW as H0 H A L M x dx av lf z root here told lv) (s : ax H H') : bD CH CS CT CW as H0 H' A L M x dx av lf z root here told lv :=
 ⟨v.i, v.s.trans s, v.x0, v.a0, v.l0, let ⟨fs, rd, st, lu, e, r⟩ := v.o; ⟨fs, rd, st, lu, s _ _ e, r⟩, s _ _ v.oa, s _ _ v.ol, v.ne, v.hz⟩
theorem bD.m (v : bD CH CS CT CW as H0 H A L M x dx av lf z root here told lv) : aG CH CS CT H A L M := v.i.same v.s
theorem bD.xa (v : bD CH CS CT CW as H0 H A L M x dx av lf z root here told lv) : x ≠ av ∧ x ≠ lf := by
 obtain ⟨fs, rd, st, lu, e, _⟩ := v.o
 exact ⟨bu e v.oa (by nofun), bu e v.ol (by nofun)⟩
theorem bD.put (v : bD CH CS CT CW as H0 H A L M x dx av lf z root here told lv) {fs : List (Str × V)} {here' : Nat} {told' : V} {lf' : Addr} {lv' : List V} {rd : Addr} {st lu : Int} (hl : fs.length ≤ 40) (sf : bQ fs (AH A.a z root here' .aq st av lf' rd lu told')) (h0 : H0 lf' = none) (hlf : H lf' = some (.lst lv')) (hne : av ≠ lf') :
  bD CH CS CT CW as H0 (upd H x (.ins CW dx fs)) A L M x dx av lf' z root here' told' lv' := by
 have nx : x ≠ lf' := by
  obtain ⟨gs, _, _, _, e, _⟩ := v.o
  exact bu e hlf (by nofun)
 exact ⟨v.i, v.s.dk v.x0, v.x0, v.a0, h0, ⟨fs, rd, st, lu, az, hl, sf⟩, by rw [ah (Ne.symm v.xa.1)]; exact v.oa, by rw [ah (Ne.symm nx)]; exact hlf, hne, v.hz⟩
theorem bD.ask {k : Nat} (v : bD CH CS CT CW as H0 H A L M x dx av lf z root here told lv) : bD CH CS CT CW (as ++ [k]) H0 (upd H av (.lst (nV as ++ [.int (k : Int)]))) A L M x dx av lf z root here told lv := by
 refine ⟨v.i, v.s.dk v.a0, v.x0, v.a0, v.l0, ?_, by rw [az, fh]; rfl, by rw [ah (Ne.symm v.ne)]; exact v.ol, v.ne, v.hz⟩
 obtain ⟨fs, rd, st, lu, e, r⟩ := v.o
 exact ⟨fs, rd, st, lu, by rw [ah v.xa.1]; exact e, r⟩
theorem bD.pop {lv' : List V} (v : bD CH CS CT CW as H0 H A L M x dx av lf z root here told lv) : bD CH CS CT CW as H0 (upd H lf (.lst lv')) A L M x dx av lf z root here told lv' := by
 refine ⟨v.i, v.s.dk v.l0, v.x0, v.a0, v.l0, ?_, by rw [ah v.ne]; exact v.oa, az, v.ne, v.hz⟩
 obtain ⟨fs, rd, st, lu, e, r⟩ := v.o
 exact ⟨fs, rd, st, lu, by rw [ah v.xa.2]; exact e, r⟩
end
structure Fold (M : Hs) (L : List Ta) (k : Nat) (z : Str) : Prop where
 h : ∃ a t, L[k]? = some a ∧ M.ts[k]? = some t ∧ t.kd = ("folder" : Str) ∧ eM ("g" : Str) (cU t z) = true
def uh (M : Hs) (L : List Ta) (z : Str) (root k : Nat) (p : Str) (k' : Nat) : Prop :=
 p = ("." : Str) ∧ k' = k ∨
 p = (".." : Str) ∧ (∃ b r, cm M k b r ∧ dA root (b :: r) = true ∧ k' = k) ∨
 p ≠ ("." : Str) ∧ p ≠ (".." : Str) ∧ dw (.str p) = true ∧ p.length ≤ 1000 ∧ ∃ t, M.ts[k]? = some t ∧ ∃ c : Nat, aH (sD t.aW) (.inr p) = some (.int (c : Int)) ∧ ∃ ac tc, L[c]? = some ac ∧ M.ts[c]? = some tc ∧ tc.kd = ("folder" : Str) ∧ ∃ b r, cm M c b r ∧ k' = bN b r
inductive eQ (M : Hs) (L : List Ta) (z : Str) (root : Nat) : Nat → List Str → List Nat → Nat → Prop
 | nil (k) : eQ M L z root k [] [] k
 | cons {k p ps as k' e} : Fold M L k z → uh M L z root k p k' → eQ M L z root k' ps as e → eQ M L z root k (p :: ps) (k :: as) e
def jC (C : Addr) (f1 f2 : Str) : Sp := fun vs H Q _ => match vs with
 | [.ref x, v1, v2] => ∃ dx, H x = some (.ins C dx []) ∧ Q .aq (upd H x (.ins C dx (aa f2 v2 (aa f1 v1 []))))
 | _ => False
theorem JA (T : Tx K mg) : aB P w K mg base aK 1 T.kI.f T.kI.d ["self", "number", "way"] (jC T.bH "number" "way") := by
 refine T.kI.F.ok JG (fun vs H Q E h => ?_) (fun cdv A outer s H vs Q E hr h => ?_)
 ·unfold jC at h
  split at h
  ·rfl
  ·exact h.elim
 ·unfold jC at h
  split at h
  ·rename_i x v1 v2
   obtain ⟨dx, hx, q⟩ := h
   refine ⟨_, ((Dv.cut (Dv.bf T.fH T.oK (Dv.v 0) (Dv.v 1))
   (Dv.au (Dv.bf T.fH T.yJ (Dv.v 0) (Dv.v 2))))).h, ?_⟩
   rw [show start ["self", "number", "way"] [V.ref x, v1, v2] = [some (V.ref x), some v1, some v2] from rfl]
   refine ao ?_
   walk_at "w"
   refine ⟨x, dx, _, rfl, hx, by decide, ?_⟩
   refine ⟨x, dx, _, rfl, az, by (refine Nat.lt_of_le_of_lt (m := 40) ?_ (by decide); (repeat (refine bh ?_)); exact Nat.zero_le _), ?_⟩
   rw [hJ]
   exact q
  ·exact h.elim
theorem Fw (T : Tx K mg) : aB P w K mg base aK 1 T.ll.f T.ll.d ["self", "folder", "name"] (jC T.dY "folder" "name") := by
 refine T.ll.F.ok DJ (fun vs H Q E h => ?_) (fun cdv A outer s H vs Q E hr h => ?_)
 ·unfold jC at h
  split at h
  ·rfl
  ·exact h.elim
 ·unfold jC at h
  split at h
  ·rename_i x v1 v2
   obtain ⟨dx, hx, q⟩ := h
   refine ⟨_, ((Dv.cut (Dv.bf T.gM T.n9 (Dv.v 0) (Dv.v 1))
   (Dv.au (Dv.bf T.gM T.qi (Dv.v 0) (Dv.v 2))))).h, ?_⟩
   rw [show start ["self", "folder", "name"] [V.ref x, v1, v2] = [some (V.ref x), some v1, some v2] from rfl]
   refine ao ?_
   walk_at "w"
   refine ⟨x, dx, _, rfl, hx, by decide, ?_⟩
   refine ⟨x, dx, _, rfl, az, by (refine Nat.lt_of_le_of_lt (m := 40) ?_ (by decide); (repeat (refine bh ?_)); exact Nat.zero_le _), ?_⟩
   rw [hJ]
   exact q
  ·exact h.elim
def uy (CH CS CT CW : Addr) : Sp := fun vs H Q _ => match vs with
 | [.ref x, .ref h, .str z, .bl true] => ∃ A L M dx H0, ∃ root : Nat, aG CH CS CT H0 A L M ∧ A.a = h ∧ H x = some (.ins CW dx []) ∧ ax H0 H ∧ H0 x = none ∧ aH (sD M.ro) (.inr z) = some (.int (root : Int)) ∧
   ∀ av lf H', bD CH CS CT CW [] H0 H' A L M x dx av lf z root root .aq [] → Q .aq H'
 | _ => False
theorem Jp (T : Tx K mg) : aB P w K mg base aK 3 T.lq.f T.lq.d ["self", "house", "asker", "last"] (uy T.aj T.ay T.aA T.aR) := by
 have lZ := tG (P := P) (w := w) (base := base) T
 refine T.lq.F.ok Kt (fun vs H Q E h => ?_) (fun cdv A outer s H vs Q E hr h => ?_)
 ·unfold uy at h
  split at h
  ·rfl
  ·exact h.elim
 ·unfold uy at h
  split at h
  ·rename_i x hh z
   obtain ⟨AA, L, M, dx, H0, root, i, rfl, hx, s0, x0, hz, q⟩ := h
   refine bj (b := aS tq) ((Dv.cut (Dv.bf T.aP T.dR (Dv.v 0) (Dv.v 1))
   (Dv.cut (Dv.bf T.aP T.km (Dv.v 0) (Dv.v 2))
   (Dv.cut (Dv.bf T.aP T.EN (Dv.v 0) (Dv.v 3))
   (Dv.cut (Dv.bf T.aP T.nA (Dv.v 0) (Dv.aY T.aI T.fG.h lZ (hr.mono (by decide)) T.fG.b .nil aw (Dv.v 1) (Dv.ag (Dv.v 2) Dv.ai)))
   (Dv.cut (Dv.bf T.aP T.dE (Dv.v 0) (Dv.fld T.aP T.nA (Dv.v 0)))
   (Dv.cut (Dv.bf T.aP T.Ey (Dv.v 0) Dv.aq)
   (Dv.cut (Dv.bf T.aP T.xv (Dv.v 0) Dv.int)
   (Dv.cut (Dv.bf T.aP T.qc (Dv.v 0) (Dv.lst Dv.ai))
   (Dv.cut (Dv.bf T.aP T.nR (Dv.v 0) (Dv.lst Dv.ai))
   (Dv.cut (Dv.bf T.aP T.Hl (Dv.v 0) (Dv.lst Dv.ai))
   (Dv.cut (Dv.bf T.aP T.GF (Dv.v 0) Dv.int)
   (Dv.cut (Dv.bf T.aP T.xt (Dv.v 0) Dv.int)
   (Dv.au (Dv.bf T.aP T.iT (Dv.v 0) Dv.aq))))))))))))))) ?_
   rw [show start ["self", "house", "asker", "last"] [V.ref x, V.ref AA.a, V.str z, V.bl true] = [some (V.ref x), some (V.ref AA.a), some (V.str z), some (V.bl true)] from rfl]
   refine ao ?_
   walk_at "w"
   refine ⟨x, dx, _, rfl, hx, by decide, ao ?_⟩
   walk_at "w"
   refine ⟨x, dx, _, rfl, az, by (refine Nat.lt_of_le_of_lt (m := 40) ?_ (by decide); (repeat (refine bh ?_)); exact Nat.zero_le _), ao ?_⟩
   walk_at "w"
   refine ⟨x, dx, _, rfl, az, by (refine Nat.lt_of_le_of_lt (m := 40) ?_ (by decide); (repeat (refine bh ?_)); exact Nat.zero_le _), ao ?_⟩
   simp only [hJ]
   walk_at "w"
   have s1 := s0.dk (o := .ins T.aR dx (aa "last" (.bl true) (aa "asker" (.str z) (aa "house" (.ref AA.a) [])))) x0
   have b1 : upd H x (.ins T.aR dx (aa "last" (.bl true) (aa "asker" (.str z) (aa "house" (.ref AA.a) [])))) x = some (.ins T.aR dx (aa "last" (.bl true) (aa "asker" (.str z) (aa "house" (.ref AA.a) [])))) := az
   generalize upd H x (.ins T.aR dx (aa "last" (.bl true) (aa "asker" (.str z) (aa "house" (.ref AA.a) [])))) = H1 at s1 b1 ⊢
   have i1 := i.same s1
   obtain ⟨fs, c, hx1, hfl, sf⟩ := i1.h
   refine ⟨AA.a, _, _, rfl, hx1, (sf _).trans rfl, AA, L, M, root, i1, rfl, hz, ?_⟩
   refine ⟨x, dx, _, rfl, b1, by (refine Nat.lt_of_le_of_lt (m := 40) ?_ (by decide); (repeat (refine bh ?_)); exact Nat.zero_le _), ao ?_⟩
   walk_at "w"
   refine ⟨x, dx, _, _, rfl, az, rfl, x, dx, _, rfl, az, by (refine Nat.lt_of_le_of_lt (m := 40) ?_ (by decide); (repeat (refine bh ?_)); exact Nat.zero_le _), ao ?_⟩
   walk_at "w"
   refine ⟨x, dx, _, rfl, az, by (refine Nat.lt_of_le_of_lt (m := 40) ?_ (by decide); (repeat (refine bh ?_)); exact Nat.zero_le _), ao ?_⟩
   walk_at "w"
   refine ⟨x, dx, _, rfl, az, by (refine Nat.lt_of_le_of_lt (m := 40) ?_ (by decide); (repeat (refine bh ?_)); exact Nat.zero_le _), ao ?_⟩
   simp only [hJ]
   walk_at "w"
   have sF7 : bQ (aa "step" (.int 0) (aa "place" .aq (aa "here" (.int (root : Int)) (aa "root" (.int (root : Int)) (aa "last" (.bl true) (aa "asker" (.str z) (aa "house" (.ref AA.a) []))))))) [("house", .ref AA.a), ("asker", .str z), ("last", .bl true), ("root", .int (root : Int)), ("here", .int (root : Int)), ("place", .aq), ("step", .int 0)] := fun f => rfl
   have lF7 : (aa "step" (.int 0) (aa "place" .aq (aa "here" (.int (root : Int)) (aa "root" (.int (root : Int)) (aa "last" (.bl true) (aa "asker" (.str z) (aa "house" (.ref AA.a) []))))))).length ≤ 10 := by (repeat (refine bh ?_)); exact Nat.zero_le _
   generalize (aa "step" (.int 0) (aa "place" .aq (aa "here" (.int (root : Int)) (aa "root" (.int (root : Int)) (aa "last" (.bl true) (aa "asker" (.str z) (aa "house" (.ref AA.a) []))))))) = F7 at sF7 lF7 ⊢
   have s2 := s1.dk (o := .ins T.aR dx F7) x0
   have b2 : upd H1 x (.ins T.aR dx F7) x = some (.ins T.aR dx F7) := az
   generalize upd H1 x (.ins T.aR dx F7) = H2 at s2 b2 ⊢
   have bC : ∀ {J : Hp} {d : Addr}, ax H0 J → J d = none → H0 d = none := fun {J d} k hn => by
    cases e : H0 d with
    | none => rfl
    | some o => rw [k d o e] at hn; cases hn
   refine ⟨fits (by simp), fun av hav => ?_⟩
   refine ⟨x, dx, _, rfl, by rw [ah (aF b2 hav)]; exact b2, by omega, ao ?_⟩
   obtain ⟨b3, o3, old3, n3⟩ := fw (o := .lst []) (O := .ins T.aR dx (aa "asked" (.ref av) F7)) hav b2
   have s3 := (s2.trans (ax.upd (o := .lst []) hav)).dk (o := .ins T.aR dx (aa "asked" (.ref av) F7)) x0
   have av0 := bC s2 hav
   generalize upd (upd H2 av (.lst [])) x (.ins T.aR dx (aa "asked" (.ref av) F7)) = H3 at b3 o3 old3 s3 ⊢
   walk_at "w"
   refine ⟨fits (by simp), fun lf hlf => ?_⟩
   have l1 : (aa "asked" (.ref av) F7).length ≤ 11 := bh lF7
   refine ⟨x, dx, _, rfl, by rw [ah (aF b3 hlf)]; exact b3, by omega, ao ?_⟩
   obtain ⟨b4, o4, BZ, n4⟩ := fw (o := .lst []) (O := .ins T.aR dx (aa "left" (.ref lf) (aa "asked" (.ref av) F7))) hlf b3
   have s4 := (s3.trans (ax.upd (o := .lst []) hlf)).dk (o := .ins T.aR dx (aa "left" (.ref lf) (aa "asked" (.ref av) F7))) x0
   have lf0 := bC s3 hlf
   have nal : av ≠ lf := aF o3 hlf
   have o34 := BZ av _ n3 o3
   generalize upd (upd H3 lf (.lst [])) x (.ins T.aR dx (aa "left" (.ref lf) (aa "asked" (.ref av) F7))) = H4 at b4 o4 BZ s4 o34 ⊢
   walk_at "w"
   refine ⟨fits (by simp), fun rd hrd => ?_⟩
   have l2 : (aa "left" (.ref lf) (aa "asked" (.ref av) F7)).length ≤ 12 := bh l1
   refine ⟨x, dx, _, rfl, by rw [ah (aF b4 hrd)]; exact b4, by omega, ao ?_⟩
   obtain ⟨b5, o5, gD, n5⟩ := fw (o := .lst []) (O := .ins T.aR dx (aa "reading" (.ref rd) (aa "left" (.ref lf) (aa "asked" (.ref av) F7)))) hrd b4
   have s5 := (s4.trans (ax.upd (o := .lst []) hrd)).dk (o := .ins T.aR dx (aa "reading" (.ref rd) (aa "left" (.ref lf) (aa "asked" (.ref av) F7)))) x0
   have o35 := gD av _ n3 o34
   have o45 := gD lf _ n4 o4
   generalize upd (upd H4 rd (.lst [])) x (.ins T.aR dx (aa "reading" (.ref rd) (aa "left" (.ref lf) (aa "asked" (.ref av) F7)))) = H5 at b5 o5 gD s5 o35 o45 ⊢
   have l3 : (aa "reading" (.ref rd) (aa "left" (.ref lf) (aa "asked" (.ref av) F7))).length ≤ 13 := bh l2
   walk_at "w"
   refine ⟨x, dx, _, rfl, b5, by omega, ao ?_⟩
   have l4 : (aa "leads_read" (.int 0) (aa "reading" (.ref rd) (aa "left" (.ref lf) (aa "asked" (.ref av) F7)))).length ≤ 14 := bh l3
   walk_at "w"
   refine ⟨x, dx, _, rfl, az, by omega, ?_⟩
   have l5 : (aa "looked_up" (.int 0) (aa "leads_read" (.int 0) (aa "reading" (.ref rd) (aa "left" (.ref lf) (aa "asked" (.ref av) F7))))).length ≤ 15 := bh l4
   refine ⟨x, dx, _, rfl, az, by omega, ?_⟩
   simp only [hJ]
   refine q av lf _ ⟨i, s5.dk x0, x0, av0, lf0, ⟨_, rd, 0, 0, az, Nat.le_trans (bh l5) (by decide), fun f => ?_⟩, by rw [ah n3]; exact o35, by rw [ah n4]; exact o45, nal, hz⟩
   exact ((((((sF7.put "asked" (.ref av)).put "left" (.ref lf)).put "reading" (.ref rd)).put "leads_read" (.int 0)).put "looked_up" (.int 0)).put "told" .aq f).trans rfl
  ·exact h.elim
def qE (CH CS CT CW : Addr) : Sp := fun vs H Q _ => match vs with
 | [.ref x, .bl fr, .ref lp] => ∃ as H0 A L M dx av lf z ps, ∃ root st b : Nat, ∃ r a t, bD CH CS CT CW as H0 H A L M x dx av lf z root root .aq [] ∧ H lp = some (.lst ps) ∧ (fr = true ∧ st = root ∨ fr = false ∧ aH (sD M.st) (.inr z) = some (.int (st : Int))) ∧ L[st]? = some a ∧ M.ts[st]? = some t ∧ cm M st b r ∧ (∃ m, eL M L root m (bN b r) true) ∧
   ∀ lf' H', bD CH CS CT CW as H0 H' A L M x dx av lf' z root (bN b r) .aq ps.reverse → Q .aq H'
 | _ => False
theorem Fx (T : Tx K mg) : aB P w K mg base aK 7 T.ky.f T.ky.d ["self", "from_root", "parts"] (qE T.aj T.ay T.aA T.aR) := by
 have vI := z8 (P := P) (w := w) (base := base) T
 have l6 := uS (P := P) (w := w) (base := base) T
 have G_House_standing_of := EZ (P := P) (w := w) (base := base) T
 refine T.ky.F.ok Bf (fun vs H Q E h => ?_) (fun cdv A outer s H vs Q E hr h => ?_)
 ·unfold qE at h
  split at h
  ·rfl
  ·exact h.elim
 ·unfold qE at h
  split at h
  ·rename_i x fr lp
   obtain ⟨as, H0, AA, L, M, dx, av, lf, z, ps, root, st, b, r, a, t, v, hlp, hst, ha, ht, hsk, hsn, q⟩ := h
   obtain ⟨fs, rd, sp, lu, hx, hfl, sf⟩ := v.o
   refine bj (b := aS qg) ((Dv.cut (Dv.aN 3 Bf.nd (Dv.AJ (Dv.bT (Dv.v 1)) (Dv.fld T.aP T.nA (Dv.v 0)) (Dv.aY T.aI T.kE.h G_House_standing_of (hr.mono (by decide)) T.kE.b .nil aw (Dv.fld T.aP T.dR (Dv.v 0)) (Dv.ag (Dv.fld T.aP T.km (Dv.v 0)) Dv.ai))))
   (Dv.cut (Dv.bf T.aP T.dE (Dv.v 0) (Dv.call vI (hr.mono (by decide)) T.fM.m T.fM.F.kp T.fM.b .nil aw (Dv.ag (Dv.fld T.aP T.dR (Dv.v 0)) (Dv.ag (Dv.v 3) Dv.ai))))
   (Dv.au (Dv.ba (Dv.bT (Dv.call l6 (hr.mono (by decide)) T.dM.m T.dM.F.kp T.dM.b .nil aw (Dv.ag (Dv.fld T.aP T.dR (Dv.v 0)) (Dv.ag (Dv.fld T.aP T.km (Dv.v 0)) (Dv.ag (Dv.fld T.aP T.dE (Dv.v 0)) Dv.ai))))) (Dv.au (Dv.bf T.aP T.nR (Dv.v 0) (Dv.listRev (K := K) rfl rfl T.qY T.Bd (Dv.v 2)))) (Dv.au Dv.bE)))))) ?_
   rw [show start ["self", "from_root", "parts", "start"] [V.ref x, V.bl fr, V.ref lp] = [some (V.ref x), some (V.bl fr), some (V.ref lp), none] from rfl]
   refine b0 (fun σ' H' => σ' = [some (V.ref x), some (V.bl fr), some (V.ref lp), some (V.int (st : Int))] ∧ H' = H) ?_ ?_
   ·walk_at "w"
    rcases hst with ⟨rfl, rfl⟩ | ⟨rfl, hst⟩
    ·exact bo ⟨x, _, _, _, rfl, hx, (sf _).trans rfl, rfl, trivial⟩
    ·obtain ⟨hfs, hc, hh, hhl, hsf⟩ := v.m.h
     exact aO ⟨x, _, _, _, rfl, hx, (sf _).trans rfl, AA.a, _, _, rfl, hh, (hsf _).trans rfl, x, _, _, _, rfl, hx, (sf _).trans rfl, AA, L, M, st, v.m, rfl, by rw [v.hz]; rfl, hst, rfl, by first | rfl | trivial⟩
   rintro σ' H' ⟨rfl, rfl⟩
   refine ao ?_
   walk_at "w"
   refine ⟨x, _, _, _, rfl, hx, (sf _).trans rfl, AA, L, M, st, b, r, a, t, v.m, rfl, rfl, ha, ht, hsk, fun H1 s1 => ?_⟩
   have v1 := v.same s1
   obtain ⟨fs1, rd1, st1, lu1, hx1, dC, sf1⟩ := v1.o
   refine ⟨x, _, _, rfl, hx1, by omega, ?_⟩
   have v2 := v1.put (fs := aa "here" (.int ((bN b r : Nat) : Int)) fs1) (here' := bN b r) (told' := .aq) (lf' := lf) (lv' := []) (rd := rd1) (st := st1) (lu := lu1) (by rw [cC (u := .int (root : Int)) ((sf1 _).trans rfl)]; exact dC) (fun f => ((sf1.put "here" (.int ((bN b r : Nat) : Int))) f).trans rfl) v1.l0 v1.ol v1.ne
   have hlp1 := s1 _ _ hlp
   have nlp : lp ≠ x := fun e => by rw [e, hx] at hlp; cases hlp
   have BS : upd H1 x (.ins T.aR dx (aa "here" (.int ((bN b r : Nat) : Int)) fs1)) lp = some (.lst ps) := by rw [ah nlp]; exact hlp1
   generalize upd H1 x (.ins T.aR dx (aa "here" (.int ((bN b r : Nat) : Int)) fs1)) = H2 at v2 BS ⊢
   obtain ⟨fs2, rd2, st2, lu2, hx2, fX, sf2⟩ := v2.o
   walk_at "w"
   refine ⟨x, _, _, _, rfl, hx2, (sf2 _).trans rfl, x, _, _, _, rfl, hx2, (sf2 _).trans rfl, x, _, _, _, rfl, hx2, (sf2 _).trans rfl, AA, L, M, bN b r, root, true, v2.m, rfl, rfl, v2.hz, hsn, fun H3 s3 => bo ?_⟩
   have v3 := v2.same s3
   obtain ⟨fs3, rd3, st3, lu3, hx3, iq, sf3⟩ := v3.o
   refine ⟨lp, ps, rfl, aL.of (s3 _ _ BS), fun l hl => ?_⟩
   have v4 := v3.same (ax.upd (o := .lst ps.reverse) hl)
   have b4 : upd H3 l (.lst ps.reverse) l = some (.lst ps.reverse) := az
   have l0 : H0 l = none := by
    cases e : H0 l with
    | none => rfl
    | some o => rw [v3.s l o e] at hl; cases hl
   have nal : av ≠ l := aF v3.oa hl
   generalize upd H3 l (.lst ps.reverse) = H4 at v4 b4 ⊢
   obtain ⟨fs4, rd4, st4, lu4, hx4, wA, sf4⟩ := v4.o
   refine ⟨x, _, _, rfl, hx4, by omega, ?_⟩
   exact q l _ (v4.put (fs := aa "left" (.ref l) fs4) (here' := bN b r) (told' := .aq) (lf' := l) (lv' := ps.reverse) (rd := rd4) (st := st4) (lu := lu4) (by rw [cC (u := .ref lf) ((sf4 _).trans rfl)]; exact wA) (fun f => ((sf4.put "left" (.ref l)) f).trans rfl) l0 b4 nal)
  ·exact h.elim
def eD (M : Hs) (L : List Ta) (root : Nat) : Nat → Nat → List Str → Prop
 | n, k, ns => ∃ b r a t, L[k]? = some a ∧ M.ts[k]? = some t ∧ cm M k b r ∧
  if dA root (b :: r) = true then ns = []
  else ∃ ab tb f z, L[b]? = some ab ∧ M.ts[b]? = some tb ∧ tb.bz = [(f, z)] ∧ match n with | 0 => False | n + 1 => ∃ ns', ns = ns' ++ [z] ∧ eD M L root n f ns'
def uI (CH CS CT : Addr) : Sp := fun vs H Q _ => match vs with
 | [.ref x, .str z, .int n] => ∃ A L M, ∃ k root : Nat, ∃ ns, aG CH CS CT H A L M ∧ A.a = x ∧ n = (k : Int) ∧ aH (sD M.ro) (.inr z) = some (.int (root : Int)) ∧ (∃ m, eD M L root m k ns) ∧ ns.length ≤ 500 ∧ ∀ l H', ax H H' → H' l = some (.lst (ns.map V.str)) → Q (.ref l) H'
 | _ => False
theorem Iq (T : Tx K mg) : aB P w K mg base aK 6 T.iE.f T.iE.d ["house", "asker", "folder"] (uI T.aj T.ay T.aA) := by
 have fW := mU (P := P) (w := w) (base := base) T
 have lZ := tG (P := P) (w := w) (base := base) T
 have gE := mS (P := P) (w := w) (base := base) T
 refine T.iE.F.ok iX (fun vs H Q E h => ?_) (fun cdv A outer s H vs Q E hr h => ?_)
 ·unfold uI at h
  split at h
  ·rfl
  ·exact h.elim
 ·unfold uI at h
  split at h
  ·rename_i x z n
   obtain ⟨AA, L, M, k, root, ns, i, rfl, rfl, hz, ⟨m, hm⟩, hlen, q⟩ := h
   obtain ⟨fs, c, hx, hfl, sf⟩ := i.h
   refine bj (b := aS su) ((Dv.cut (Dv.aN 3 iX.nd (Dv.aY T.aI T.fG.h lZ (hr.mono (by decide)) T.fG.b .nil aw (Dv.v 0) (Dv.ag (Dv.v 1) Dv.ai)))
   (Dv.cut (Dv.aN 4 iX.nd (Dv.lst Dv.ai))
   (Dv.cut (Dv.aN 5 iX.nd (Dv.call fW (hr.mono (by decide)) T.bW.m T.bW.F.kp T.bW.b .nil aw (Dv.ag (Dv.v 0) (Dv.ag (Dv.v 2) Dv.ai))))
   (Dv.cut (Dv.f9 PassesOwn.never (Dv.bg (qz (K := K) rfl) (Dv.v 3) (Dv.v 5)) (Dv.cut (Dv.aN 6 iX.nd (Dv.aY T.aI T.dj.h gE (hr.mono (by decide)) T.dj.b .nil aw (Dv.v 0) (Dv.ag (Dv.ix (bq (K := K) rfl) (Dv.v 5) Dv.int) Dv.ai)))
   (Dv.cut (Dv.aU (Dv.gx PySem.F.slot_list_append PySem.F.type_list_append fZ (Dv.v 4) (Dv.ag (Dv.ix (bq (K := K) rfl) (Dv.v 6) Dv.int) Dv.ai)))
   (Dv.au (Dv.aN 5 iX.nd (Dv.call fW (hr.mono (by decide)) T.bW.m T.bW.F.kp T.bW.b .nil aw (Dv.ag (Dv.v 0) (Dv.ag (Dv.ix (bq (K := K) rfl) (Dv.v 6) Dv.int) Dv.ai))))))))
   (Dv.au (Dv.aM (Dv.listRev (K := K) rfl rfl T.qY T.Bd (Dv.v 4))))))))) ?_
   rw [show start ["house", "asker", "folder", "root", "names", "stack", "place"] [V.ref AA.a, V.str z, V.int (k : Int)] = [some (V.ref AA.a), some (V.str z), some (V.int (k : Int)), none, none, none, none] from rfl]
   refine ao ?_
   walk_at "w"
   refine ⟨AA.a, _, _, rfl, hx, (sf _).trans rfl, AA, L, M, root, i, rfl, hz, ?_⟩
   refine ao ?_
   walk_at "w"
   refine ⟨fits (by simp), fun ln hln => ?_⟩
   have s1 := ax.upd (o := .lst []) hln
   have b1 : upd H ln (.lst []) ln = some (.lst []) := az
   generalize upd H ln (.lst []) = H1 at s1 b1 ⊢
   have i1 := i.same s1
   refine ao ?_
   walk_at "w"
   obtain ⟨b, r, a, t, ha, ht, hst, cA⟩ := (by unfold eD at hm; exact hm : ∃ b r a t, L[k]? = some a ∧ M.ts[k]? = some t ∧ cm M k b r ∧ _)
   refine ⟨AA, L, M, k, b, r, a, t, i1, rfl, rfl, ha, ht, hst, fun l2 H2 s2 hl20 cu => ?_⟩
   have s12 := s1.trans s2
   have c1 := s2 _ _ b1
   obtain ⟨PV, hPV⟩ : ∃ PV : Nat → St → Hp → Prop, PV = fun m σ' H' => ax H H' ∧ ∃ (ls : Addr) (b : Nat) (r : List Nat) (cs ns' : List Str) (pv : Option V), σ' = [some (V.ref AA.a), some (V.str z), some (V.int (k : Int)), some (V.int (root : Int)), some (V.ref ln), some (V.ref ls), pv] ∧ H' ls = some (.lst (nV (b :: r))) ∧ H' ln = some (.lst (cs.map V.str)) ∧ ns = ns' ++ cs.reverse ∧
    (if dA root (b :: r) = true then ns' = []
     else ∃ ab tb f z, L[b]? = some ab ∧ M.ts[b]? = some tb ∧ tb.bz = [(f, z)] ∧ match m with | 0 => False | n + 1 => ∃ ns'', ns' = ns'' ++ [z] ∧ eD M L root n f ns'') := ⟨_, rfl⟩
   refine ao ⟨PV, ⟨m, by rw [hPV]; exact ⟨s12, l2, b, r, [], ns, none, rfl, cu, c1, by simp, cA⟩⟩, ?_⟩
   clear cA ha ht hst cu hl20 c1 hm s12 s2
   intro m σ' H' hI
   rw [hPV] at hI
   obtain ⟨s', ls, b, r, cs, ns', pv, rfl, hls, hln', hns, cA⟩ := hI
   have i' := i.same s'
   obtain ⟨fs', c', hx', hfl', sf'⟩ := i'.h
   walk_at "w"
   refine ⟨_, .inl (aL.of hls), rfl, by simp [cb], ?_⟩
   rw [mG]
   cases fT : dA root (b :: r) with
   | true =>
    rw [if_pos fT] at cA
    subst cA
    refine aO ?_
    walk_at "w"
    refine ⟨ln, _, rfl, aL.of hln', fun l hl => ?_⟩
    refine q l _ (s'.trans (ax.upd hl)) ?_
    rw [az, hns, List.nil_append, List.map_reverse]
   | false =>
    rw [if_neg (by rw [fT]; nofun)] at cA
    obtain ⟨ab, tb, f, zz, hab, htb, hpl, hn⟩ := cA
    refine bo ⟨fun σ' H' => ∃ m', m' < m ∧ PV m' σ' H', fun σ' H' h => h, ?_⟩
    refine ao ?_
    walk_at "w"
    simp only [bp, hls, nV, List.map_cons, ja]
    refine ⟨AA.a, _, _, rfl, hx', (sf' _).trans rfl, AA, L, M, b, ab, tb, i', rfl, rfl, hab, htb, .inr ⟨f, zz, hpl, fun p hp => ?_⟩⟩
    refine ao ?_
    walk_at "w"
    simp only [hln', bp, hp, J4]
    cases m with
    | zero => exact hn.elim
    | succ m =>
     obtain ⟨ns2, hns2, hn⟩ := hn
     have hcl : cs.length ≤ 500 := by
      have := congrArg List.length hns
      simp at this
      omega
     refine ⟨di (by rw [List.length_map]; omega), ?_⟩
     have nlp : p ≠ ln := bu hp hln' (by nofun)
     have s4 := s'.dk (o := .lst (List.map V.str cs ++ [V.str zz])) hln
     have b4 : upd H' ln (.lst (List.map V.str cs ++ [V.str zz])) ln = some (.lst ((cs ++ [zz]).map V.str)) := by rw [az, List.map_append]; rfl
     have hp4 : upd H' ln (.lst (List.map V.str cs ++ [V.str zz])) p = some (.tup [V.int (f : Int), V.str zz]) := by rw [ah nlp]; exact hp
     generalize upd H' ln (.lst (List.map V.str cs ++ [V.str zz])) = H4 at s4 b4 hp4 ⊢
     walk_at "w"
     simp only [bp, hp4, ja]
     obtain ⟨b2, r2, a2, t2, ha2, ht2, oQ, vJ⟩ := (by unfold eD at hn; exact hn : ∃ b r a t, L[f]? = some a ∧ M.ts[f]? = some t ∧ cm M f b r ∧ _)
     refine ⟨AA, L, M, f, b2, r2, a2, t2, i.same s4, rfl, rfl, ha2, ht2, oQ, fun l5 H5 s5 hl50 hl5 => ⟨m, Nat.lt_succ_self m, ?_⟩⟩
     rw [hPV]
     refine ⟨s4.trans s5, l5, b2, r2, cs ++ [zz], ns2, _, rfl, hl5, s5 _ _ b4, ?_, vJ⟩
     rw [hns, hns2]
     simp
  ·exact h.elim
theorem Am (c : Nat) : ∀ (ns : List Str) (n : Nat), (∀ s ∈ ns, s.length ≤ 8) → ns.foldl (fun n z => n + z.length + c) n ≤ n + (8 + c) * ns.length
 | [], n, _ => by simp
 | y :: r, n, h => by
  have h1 := h y (by simp)
  have h2 := Am c r (n + y.length + c) fun s hs => h s (by simp [hs])
  rw [List.foldl_cons, List.length_cons, Nat.mul_add]
  omega
theorem rg {ns : List Str} (h : ∀ s ∈ ns, s.length ≤ 8) (hl : ns.length ≤ 100) : ns.foldl (fun n z => n + z.length + (Str.ofString "/").length) 0 ≤ 900 ∧ (Str.join (Str.ofString "/") ns).length ≤ 900 := by
 have lj : (Str.ofString "/").length = 1 := by decide +kernel
 have h1 := Am 1 ns 0 h
 have h2 := StrLaws.join_length_le (Str.ofString "/") ns
 have h3 : (ns.map (·.length)).sum ≤ 8 * ns.length := by
  clear h1 h2 hl
  induction ns with
  | nil => simp
  | cons y r ih =>
   have := ih fun s hs => h s (by simp [hs])
   have h4 := h y (by simp)
   rw [List.map_cons, List.sum_cons, List.length_cons]
   omega
 rw [lj] at h2 ⊢
 omega
def dQ (ns : List Str) : Str := Str.ofString "/" ++ Str.join (Str.ofString "/") ns
def tO (CH CS CT CW : Addr) : Sp := fun vs H Q _ => match vs with
 | [.ref x] => ∃ as H0 A L M dx av lf z lv, ∃ root k : Nat, ∃ a t ns, bD CH CS CT CW as H0 H A L M x dx av lf z root k .aq lv ∧ L[k]? = some a ∧ M.ts[k]? = some t ∧ t.kd = ("folder" : Str) ∧ (∃ m, eD M L root m k ns) ∧ ns.length ≤ 100 ∧ (∀ s ∈ ns, s.length ≤ 8) ∧ ∀ H', ax H H' → Q (.str (dQ ns)) H'
 | _ => False
theorem Iw (T : Tx K mg) : aB P w K mg base aK 7 T.kc.f T.kc.d ["self"] (tO T.aj T.ay T.aA T.aR) := by
 have G_names_to := Iq (P := P) (w := w) (base := base) T
 have iw := nq (P := P) (w := w) (base := base) T
 refine T.kc.F.ok sG (fun vs H Q E h => ?_) (fun cdv A outer s H vs Q E hr h => ?_)
 ·unfold tO at h
  split at h
  ·rfl
  ·exact h.elim
 ·unfold tO at h
  split at h
  ·rename_i x
   obtain ⟨as, H0, AA, L, M, dx, av, lf, z, lv, root, k, a, t, ns, v, ha, hth, hkd, hns, wz, hn8, q⟩ := h
   refine bj (b := aS pS) ((Dv.cut (Dv.aN 1 sG.nd (Dv.lst Dv.ai))
   (Dv.cut (Dv.aN 2 sG.nd (Dv.fld T.aP T.dE (Dv.v 0)))
   (Dv.cut (Dv.ba (Dv.bg eP (Dv.aY T.aI T.ed.h iw (hr.mono (by decide)) T.ed.b .nil aw (Dv.fld T.aP T.dR (Dv.v 0)) (Dv.ag (Dv.fld T.aP T.dE (Dv.v 0)) Dv.ai)) (Dv.glob (.str "folder") T.kT ⟨_, rfl⟩)) (Dv.cut Dv.bE
   (Dv.au Dv.bE)) Dv.nil)
   (Dv.au (Dv.aM (Dv.op bR Dv.str (Dv.gz PySem.F.slot_str_join PySem.F.type_str_join (lN (K := K) rfl) Dv.str (Dv.ag (Dv.op bR (Dv.call G_names_to (hr.mono (by decide)) T.iE.m T.iE.F.kp T.iE.b .nil aw (Dv.ag (Dv.fld T.aP T.dR (Dv.v 0)) (Dv.ag (Dv.fld T.aP T.km (Dv.v 0)) (Dv.ag (Dv.v 2) Dv.ai)))) (Dv.v 1)) Dv.ai))))))))) ?_
   rw [show start ["self", "names", "folder"] [V.ref x] = [some (V.ref x), none, none] from rfl]
   refine ao ?_
   walk_at "w"
   refine ⟨fits (by simp), fun ln hln => ?_⟩
   have s1 := ax.upd (o := .lst []) hln
   have b1 : upd H ln (.lst []) ln = some (.lst []) := az
   generalize upd H ln (.lst []) = H1 at s1 b1 ⊢
   have v1 := v.same s1
   obtain ⟨fs, rd, st, lu, hx, hfl, sf⟩ := v1.o
   obtain ⟨hfs, hc, hh, hhl, hsf⟩ := v1.m.h
   refine ao ?_
   walk_at "w"
   refine ⟨x, _, _, _, rfl, hx, (sf _).trans rfl, ?_⟩
   refine ao ?_
   walk_at "w"
   refine ⟨x, _, _, _, rfl, hx, (sf _).trans rfl, AA.a, _, _, rfl, hh, (hsf _).trans rfl, x, _, _, _, rfl, hx, (sf _).trans rfl, AA, L, M, k, a, t, v1.m, rfl, rfl, ha, hth, ?_⟩
   simp only [mZ, hkd, decide_true]
   refine aO ?_
   walk_at "w"
   refine ⟨x, _, _, _, rfl, hx, (sf _).trans rfl, x, _, _, _, rfl, hx, (sf _).trans rfl, AA, L, M, k, root, ns, v1.m, rfl, rfl, v1.hz, hns, by omega, fun l H2 s2 hl => ?_⟩
   have c2 := s2 _ _ b1
   simp only [hl, c2]
   obtain ⟨hb1, hb2⟩ := rg hn8 wz
   have lj : (Str.ofString "/").length = 1 := by decide +kernel
   refine ⟨fits (by simp only [List.length_map, List.length_nil]; omega), fun p hp => ?_⟩
   refine ⟨_, aL.of az, ns, by simp, ?_⟩
   exact ⟨fits (by omega), fits (by omega), q _ ((s1.trans s2).trans (ax.upd hp))⟩
  ·exact h.elim
def pz (CH CS CT CW : Addr) : Sp := fun vs H Q _ => match vs with
 | [.ref x, .str nm] => ∃ as H0 A L M dx av lf z lv, ∃ root k c b : Nat, ∃ r a t ac tc, bD CH CS CT CW as H0 H A L M x dx av lf z root k .aq lv ∧ L[k]? = some a ∧ M.ts[k]? = some t ∧ aH (sD t.aW) (.inr nm) = some (.int (c : Int)) ∧ dw (.str nm) = true ∧ nm.length ≤ 1000 ∧ L[c]? = some ac ∧ M.ts[c]? = some tc ∧ tc.kd = ("folder" : Str) ∧ cm M c b r ∧
   ∀ H', bD CH CS CT CW as H0 H' A L M x dx av lf z root (bN b r) .aq lv → Q .aq H'
 | _ => False
theorem ER (T : Tx K mg) : aB P w K mg base aK 7 T.kX.f T.kX.d ["self", "name"] (pz T.aj T.ay T.aA T.aR) := by
 have vI := z8 (P := P) (w := w) (base := base) T
 have vt := yN (P := P) (w := w) (base := base) T
 have iw := nq (P := P) (w := w) (base := base) T
 refine T.kX.F.ok ra (fun vs H Q E h => ?_) (fun cdv A outer s H vs Q E hr h => ?_)
 ·unfold pz at h
  split at h
  ·rfl
  ·exact h.elim
 ·unfold pz at h
  split at h
  ·rename_i x nm
   obtain ⟨as, H0, AA, L, M, dx, av, lf, z, lv, root, k, c, b, r, a, t, ac, tc, v, ha, hth, hv, hn, hnl, hac, htc, hkd, hst, q⟩ := h
   obtain ⟨fs, rd, st, lu, hx, hfl, sf⟩ := v.o
   refine bj (b := aS qd) ((Dv.cut (Dv.fi T.aP T.xt eX (Dv.v 0) Dv.int)
   (Dv.cut (Dv.aN 2 ra.nd (Dv.aY T.aI T.h7.h vt (hr.mono (by decide)) T.h7.b .nil aw (Dv.fld T.aP T.dR (Dv.v 0)) (Dv.ag (Dv.fld T.aP T.dE (Dv.v 0)) (Dv.ag (Dv.v 1) Dv.ai))))
   (Dv.cut (Dv.ba (Dv.bg iP (Dv.v 2) Dv.aq) (Dv.cut Dv.bE
   (Dv.au Dv.bE)) Dv.nil)
   (Dv.cut (Dv.aN 3 ra.nd (Dv.aY T.aI T.ed.h iw (hr.mono (by decide)) T.ed.b .nil aw (Dv.fld T.aP T.dR (Dv.v 0)) (Dv.ag (Dv.v 2) Dv.ai)))
   (Dv.au (Dv.ba (Dv.bg dm (Dv.v 3) (Dv.glob (.str "folder") T.kT ⟨_, rfl⟩)) (Dv.au (Dv.bf T.aP T.dE (Dv.v 0) (Dv.call vI (hr.mono (by decide)) T.fM.m T.fM.F.kp T.fM.b .nil aw (Dv.ag (Dv.fld T.aP T.dR (Dv.v 0)) (Dv.ag (Dv.v 2) Dv.ai))))) (Dv.au Dv.bE)))))))) ?_
   rw [show start ["self", "name", "number", "kind"] [V.ref x, V.str nm] = [some (V.ref x), some (V.str nm), none, none] from rfl]
   refine ao ?_
   walk_at "w"
   refine ⟨x, _, _, .int lu, rfl, hx, (sf _).trans rfl, _, _, rfl, rfl, _, _, hx, by omega, ao ?_⟩
   have v1 := v.put (fs := aa "looked_up" (.int (lu + 1)) fs) (here' := k) (told' := .aq) (lf' := lf) (lv' := lv) (rd := rd) (st := st) (lu := lu + 1) (by rw [cC (u := .int lu) ((sf _).trans rfl)]; exact hfl) (fun f => ((sf.put "looked_up" (.int (lu + 1))) f).trans rfl) v.l0 v.ol v.ne
   generalize upd H x (.ins T.aR dx (aa "looked_up" (.int (lu + 1)) fs)) = H1 at v1 ⊢
   obtain ⟨fs1, rd1, st1, lu1, hx1, dC, sf1⟩ := v1.o
   obtain ⟨hfs, hc, hh, hhl, hsf⟩ := v1.m.h
   walk_at "w"
   refine ⟨x, _, _, _, rfl, hx1, (sf1 _).trans rfl, AA.a, _, _, rfl, hh, (hsf _).trans rfl, x, _, _, _, rfl, hx1, (sf1 _).trans rfl, AA, L, M, k, a, t, v1.m, rfl, rfl, ha, hth, hn, hnl, fun H2 s2 => ?_⟩
   rw [hv]
   have v2 := v1.same s2
   obtain ⟨fs2, rd2, st2, lu2, hx2, fX, sf2⟩ := v2.o
   obtain ⟨hfs2, hc2, hh2, hhl2, hsf2⟩ := v2.m.h
   refine ao ?_
   walk_at "w"
   refine ⟨trivial, ?_⟩
   rw [decide_eq_false (by nofun)]
   refine aO ?_
   refine ao ?_
   walk_at "w"
   refine ⟨x, _, _, _, rfl, hx2, (sf2 _).trans rfl, AA.a, _, _, rfl, hh2, (hsf2 _).trans rfl, AA, L, M, c, ac, tc, v2.m, rfl, rfl, hac, htc, ?_⟩
   simp only [mZ, hkd, decide_true]
   walk_at "w"
   refine ⟨x, _, _, _, rfl, hx2, (sf2 _).trans rfl, AA, L, M, c, b, r, ac, tc, v2.m, rfl, rfl, hac, htc, hst, fun H3 s3 => ?_⟩
   have v3 := v2.same s3
   obtain ⟨fs3, rd3, st3, lu3, hx3, iq, sf3⟩ := v3.o
   refine ⟨x, _, _, rfl, hx3, by omega, ?_⟩
   exact q _ (v3.put (fs := aa "here" (.int ((bN b r : Nat) : Int)) fs3) (here' := bN b r) (told' := .aq) (lf' := lf) (lv' := lv) (rd := rd3) (st := st3) (lu := lu3) (by rw [cC (u := .int (k : Int)) ((sf3 _).trans rfl)]; exact iq) (fun f => ((sf3.put "here" (.int ((bN b r : Nat) : Int))) f).trans rfl) v3.l0 v3.ol v3.ne)
  ·exact h.elim
def rT (CH CS CT CW : Addr) : Sp := fun vs H Q _ => match vs with
 | [.ref x] => ∃ as H0 A L M dx av lf z lv, ∃ root k b : Nat, ∃ r a t, bD CH CS CT CW as H0 H A L M x dx av lf z root k .aq lv ∧ L[k]? = some a ∧ M.ts[k]? = some t ∧ cm M k b r ∧ dA root (b :: r) = true ∧
   ∀ H', bD CH CS CT CW as H0 H' A L M x dx av lf z root k .aq lv → Q .aq H'
 | _ => False
theorem Ew (T : Tx K mg) : aB P w K mg base aK 7 T.jY.f T.jY.d ["self"] (rT T.aj T.ay T.aA T.aR) := by
 have fW := mU (P := P) (w := w) (base := base) T
 refine T.jY.F.ok x8 (fun vs H Q E h => ?_) (fun cdv A outer s H vs Q E hr h => ?_)
 ·unfold rT at h
  split at h
  ·rfl
  ·exact h.elim
 ·unfold rT at h
  split at h
  ·rename_i x
   obtain ⟨as, H0, AA, L, M, dx, av, lf, z, lv, root, k, b, r, a, t, v, ha, hth, hst, hm, q⟩ := h
   obtain ⟨fs, rd, st, lu, hx, hfl, sf⟩ := v.o
   refine bj (b := aS rl) ((Dv.cut (Dv.aN 1 x8.nd (Dv.call fW (hr.mono (by decide)) T.bW.m T.bW.F.kp T.bW.b .nil aw (Dv.ag (Dv.fld T.aP T.dR (Dv.v 0)) (Dv.ag (Dv.fld T.aP T.dE (Dv.v 0)) Dv.ai))))
   (Dv.au (Dv.ba (Dv.bg (qz (K := K) rfl) (Dv.fld T.aP T.nA (Dv.v 0)) (Dv.v 1)) (Dv.au Dv.bE) Dv.nil)))) ?_
   rw [show start ["self", "stack"] [V.ref x] = [some (V.ref x), none] from rfl]
   refine ao ?_
   walk_at "w"
   refine ⟨x, _, _, _, rfl, hx, (sf _).trans rfl, x, _, _, _, rfl, hx, (sf _).trans rfl, AA, L, M, k, b, r, a, t, v.m, rfl, rfl, ha, hth, hst, fun l H1 s1 hl0 hl => ?_⟩
   have v1 := v.same s1
   obtain ⟨fs1, rd1, st1, lu1, hx1, dC, sf1⟩ := v1.o
   walk_at "w"
   refine ⟨x, _, _, _, rfl, hx1, (sf1 _).trans rfl, _, .inl (aL.of hl), rfl, by simp [cb], ?_⟩
   rw [mG, hm]
   exact aO (q _ v1)
  ·exact h.elim
section
variable {T : Tx K mg} {H : Hp} {A : Ad} {L : List Ta} {M : Hs}
theorem wU {z s : Str} {k : Nat} {t : Th} {Q : VK} {E : XK} (i : aG T.aj T.ay T.aA H A L M) (hz : (aH (sD M.ro) (.inr z)).isSome = true) (hs : eK (.str s) = true) (ht : M.ts[k]? = some t) (q : Q (.bl (eM s (cU t z))) H) : mR T.aj T.ay T.aA T.jR T.mq T.jX [.ref A.a, .str z, .int k, .str s] H Q E := by
 refine ⟨A, L, M, i, rfl, ⟨_, rfl⟩, ⟨_, rfl⟩, ⟨_, rfl⟩, fun h => (by rw [h z rfl] at hz; cases hz), fun z' e _ => ?_⟩
 cases e
 refine ⟨fun h => (by rw [hs] at h; cases h), fun s' e _ => ?_⟩
 cases e
 have hlt := (List.getElem?_eq_some_iff.mp ht).1
 refine ⟨fun h => absurd hlt (h k rfl), fun k' t' e ht' => ?_⟩
 cases e
 rw [ht] at ht'
 cases ht'
 exact q
end
def se (CH CS CT CW : Addr) : Sp := fun vs H Q _ => match vs with
 | [.ref x, .str p] => ∃ as H0 A L M dx av lf z lv, ∃ root k k' : Nat, bD CH CS CT CW as H0 H A L M x dx av lf z root k .aq lv ∧ as.length ≤ 500 ∧ Fold M L k z ∧ uh M L z root k p k' ∧
   ∀ H', bD CH CS CT CW (as ++ [k]) H0 H' A L M x dx av lf z root k' .aq lv → Q .aq H'
 | _ => False
theorem FD (T : Tx K mg) : aB P w K mg base aK 8 T.kq.f T.kq.d ["self", "part"] (se T.aj T.ay T.aA T.aR) := by
 have G_Walk_go_by := ER (P := P) (w := w) (base := base) T
 have G_Walk_go_up := Ew (P := P) (w := w) (base := base) T
 have iw := nq (P := P) (w := w) (base := base) T
 have vv := xK (P := P) (w := w) (base := base) T
 refine T.kq.F.ok Ge (fun vs H Q E h => ?_) (fun cdv A outer s H vs Q E hr h => ?_)
 ·unfold se at h
  split at h
  ·rfl
  ·exact h.elim
 ·unfold se at h
  split at h
  ·rename_i x p
   obtain ⟨as, H0, AA, L, M, dx, av, lf, z, lv, root, k, k', v, hn, hfo, hp, q⟩ := h
   obtain ⟨a, t, ha, hth, hkd, hg⟩ := hfo.h
   obtain ⟨fs, rd, st, lu, hx, hfl, sf⟩ := v.o
   refine bj (b := aS u6) ((Dv.cut (Dv.fi T.aP T.xv eX (Dv.v 0) Dv.int)
   (Dv.cut (Dv.ba (Dv.bg eP (Dv.aY T.aI T.ed.h iw (hr.mono (by decide)) T.ed.b .nil aw (Dv.fld T.aP T.dR (Dv.v 0)) (Dv.ag (Dv.fld T.aP T.dE (Dv.v 0)) Dv.ai)) (Dv.glob (.str "folder") T.kT ⟨_, rfl⟩)) (Dv.cut Dv.bE
   (Dv.au Dv.bE)) Dv.nil)
   (Dv.cut (Dv.aU (Dv.gx PySem.F.slot_list_append PySem.F.type_list_append fZ (Dv.fld T.aP T.qc (Dv.v 0)) (Dv.ag (Dv.fld T.aP T.dE (Dv.v 0)) Dv.ai)))
   (Dv.au (Dv.ba (Dv.b8 (Dv.bT (Dv.cK T.aI T.hX.h vv (hr.mono (by decide)) T.hX.b .nil c8 (Dv.fld T.aP T.dR (Dv.v 0)) (Dv.ag (Dv.fld T.aP T.km (Dv.v 0)) (Dv.ag (Dv.fld T.aP T.dE (Dv.v 0)) (Dv.ag Dv.str Dv.ai)))))) (Dv.au Dv.bE) (Dv.au (Dv.ba (Dv.bg dm (Dv.v 1) Dv.str) (Dv.au (Dv.aU (Dv.lT T.aP T.jY.h G_Walk_go_up (hr.mono (by decide)) T.jY.b .nil aw (Dv.v 0)))) (Dv.au (Dv.ba (Dv.bg eP (Dv.v 1) Dv.str) (Dv.au (Dv.aU (Dv.aY T.aP T.kX.h G_Walk_go_by (hr.mono (by decide)) T.kX.b .nil aw (Dv.v 0) (Dv.ag (Dv.v 1) Dv.ai)))) Dv.nil)))))))))) ?_
   rw [show start ["self", "part"] [V.ref x, V.str p] = [some (V.ref x), some (V.str p)] from rfl]
   refine ao ?_
   walk_at "w"
   refine ⟨x, _, _, .int st, rfl, hx, (sf _).trans rfl, _, _, rfl, rfl, _, _, hx, by omega, ao ?_⟩
   have v1 := v.put (fs := aa "step" (.int (st + 1)) fs) (here' := k) (told' := .aq) (lf' := lf) (lv' := lv) (rd := rd) (st := st + 1) (lu := lu) (by rw [cC (u := .int st) ((sf _).trans rfl)]; exact hfl) (fun f => ((sf.put "step" (.int (st + 1))) f).trans rfl) v.l0 v.ol v.ne
   generalize upd H x (.ins T.aR dx (aa "step" (.int (st + 1)) fs)) = H1 at v1 ⊢
   obtain ⟨fs1, rd1, st1, lu1, hx1, dC, sf1⟩ := v1.o
   obtain ⟨hfs, hc, hh, hhl, hsf⟩ := v1.m.h
   walk_at "w"
   refine ⟨x, _, _, _, rfl, hx1, (sf1 _).trans rfl, AA.a, _, _, rfl, hh, (hsf _).trans rfl, x, _, _, _, rfl, hx1, (sf1 _).trans rfl, AA, L, M, k, a, t, v1.m, rfl, rfl, ha, hth, ?_⟩
   simp only [mZ, hkd, decide_true]
   refine aO ?_
   refine ao ?_
   walk_at "w"
   refine ⟨x, _, _, _, rfl, hx1, (sf1 _).trans rfl, ?_⟩
   simp only [v1.oa]
   refine ⟨x, _, _, _, rfl, hx1, (sf1 _).trans rfl, ?_⟩
   have v2 := v1.ask (k := k)
   refine ⟨di (by simp; omega), ?_⟩
   generalize upd H1 av (.lst (nV as ++ [.int (k : Int)])) = H2 at v2 ⊢
   obtain ⟨fs2, rd2, st2, lu2, hx2, fX, sf2⟩ := v2.o
   obtain ⟨gfs, gc, gh, ghl, gsf⟩ := v2.m.h
   refine ⟨x, _, _, _, rfl, hx2, (sf2 _).trans rfl, AA.a, _, _, rfl, gh, (gsf _).trans rfl, x, _, _, _, rfl, hx2, (sf2 _).trans rfl, x, _, _, _, rfl, hx2, (sf2 _).trans rfl, wU v2.m (by rw [v2.hz]; rfl) (by decide +kernel) hth ?_⟩
   rw [hg]
   refine aO ?_
   rcases hp with ⟨rfl, rfl⟩ | ⟨rfl, b, r, hst, hm, rfl⟩ | ⟨h1, h2, hnm, hpl, t', ht', c, hv, ac, tc, hac, htc, hkc, b, r, hst, rfl⟩
   ·rw [decide_eq_false (by decide +kernel), decide_eq_true rfl]
    exact aO (aO (q _ v2))
   ·rw [decide_eq_true rfl]
    exact bo ⟨x, _, _, rfl, hx2, (sf2 _).trans rfl, as ++ [k'], H0, AA, L, M, dx, av, lf, z, lv, root, k', b, r, a, t, v2, ha, hth, hst, hm, fun H3 v3 => q _ v3⟩
   ·rw [hth] at ht'
    cases ht'
    rw [decide_eq_false h1, decide_eq_false h2]
    exact aO (bo ⟨x, _, _, rfl, hx2, (sf2 _).trans rfl, as ++ [k], H0, AA, L, M, dx, av, lf, z, lv, root, k, c, b, r, a, t, ac, tc, v2, ha, hth, hv, hnm, hpl, hac, htc, hkc, hst, fun H3 v3 => q _ v3⟩)
  ·exact h.elim
abbrev g8 (k : Nat) (ns : List Str) : List (Str × V) := aa "way" (.str (dQ ns)) (aa "number" (.int (k : Int)) [])
def ug (CH CS CT CW CF : Addr) : Sp := fun vs H Q _ => match vs with
 | [.ref x] => ∃ as H0 A L M dx av lf z, ∃ (ps : List Str) (bs : List Nat) (root k e : Nat) (a : Ta) (t : Th) (ns : List Str), bD CH CS CT CW as H0 H A L M x dx av lf z root k .aq (ps.map V.str).reverse ∧ eQ M L z root k ps bs e ∧ as.length + ps.length ≤ 500 ∧ L[e]? = some a ∧ M.ts[e]? = some t ∧ t.kd = ("folder" : Str) ∧ (∃ m, eD M L root m e ns) ∧ ns.length ≤ 100 ∧ (∀ s ∈ ns, s.length ≤ 8) ∧
   ∀ fd dfd H', bD CH CS CT CW (as ++ bs) H0 H' A L M x dx av lf z root e (.ref fd) [] → H' fd = some (.ins CF dfd (g8 e ns)) → Q .aq H'
 | _ => False
theorem Kr (T : Tx K mg) : aB P w K mg base aK 9 T.lJ.f T.lJ.d ["self"] (ug T.aj T.ay T.aA T.aR T.bH) := by
 have G_Walk_take_step := FD (P := P) (w := w) (base := base) T
 have vO := x3 (P := P) (w := w) (base := base) T
 have G_Walk_true_path := Iw (P := P) (w := w) (base := base) T
 have G_Found___init__ := JA (P := P) (w := w) (base := base) T
 refine T.lJ.F.ok z0 (fun vs H Q E h => ?_) (fun cdv A outer s H vs Q E hr h => ?_)
 ·unfold ug at h
  split at h
  ·rfl
  ·exact h.elim
 ·unfold ug at h
  split at h
  ·rename_i x
   obtain ⟨as, H0, AA, L, M, dx, av, lf, z, ps, bs, root, k, e, a, t, ns, v, hw, hlen, ha, ht, hkd, hns, wz, hn8, q⟩ := h
   refine bj (b := aS sZ) ((Dv.cut (Dv.f9 PassesOwn.never (Dv.dq (Dv.w_and (Dv.bg iP (Dv.fld T.aP T.iT (Dv.v 0)) Dv.aq) (Dv.oI (Dv.bg (zg hr.oy) (Dv.fld T.aP T.nR (Dv.v 0)) (Dv.lst Dv.ai))))) (Dv.cut (Dv.aN 1 z0.nd (Dv.GJ PySem.F.slot_list_pop PySem.F.type_list_pop Eg (Dv.fld T.aP T.nR (Dv.v 0))))
   (Dv.au (Dv.ba (Dv.bT (Dv.call vO (hr.mono (by decide)) T.fj.m T.fj.F.kp T.fj.b .nil aw (Dv.ag (Dv.v 1) Dv.ai))) (Dv.au Dv.bE) (Dv.au (Dv.aU (Dv.aY T.aP T.kq.h G_Walk_take_step (hr.mono (by decide)) T.kq.b .nil aw (Dv.v 0) (Dv.ag (Dv.v 1) Dv.ai))))))))
   (Dv.au (Dv.ba (Dv.bg iP (Dv.fld T.aP T.iT (Dv.v 0)) Dv.aq) (Dv.au (Dv.bf T.aP T.iT (Dv.v 0) (Dv.make T.Cu G_Found___init__ (hr.mono (by decide)) T.oA T.kI.b .nil aw (Dv.ag (Dv.fld T.aP T.dE (Dv.v 0)) (Dv.ag (Dv.lT T.aP T.kc.h G_Walk_true_path (hr.mono (by decide)) T.kc.b .nil aw (Dv.v 0)) Dv.ai))))) Dv.nil)))) ?_
   rw [show start ["self", "part"] [V.ref x] = [some (V.ref x), none] from rfl]
   obtain ⟨PV, hPV⟩ : ∃ PV : Nat → St → Hp → Prop, PV = fun m σ' H' => ∃ (pv : Option V) (as1 bs1 : List Nat) (k : Nat) (ps : List Str), σ' = [some (V.ref x), pv] ∧ m = ps.length ∧ bD T.aj T.ay T.aA T.aR as1 H0 H' AA L M x dx av lf z root k .aq (ps.map V.str).reverse ∧ eQ M L z root k ps bs1 e ∧ as1 ++ bs1 = as ++ bs ∧ as1.length + ps.length ≤ 500 := ⟨_, rfl⟩
   refine ao ?_
   refine ⟨PV, ⟨ps.length, by rw [hPV]; exact ⟨none, as, bs, k, ps, rfl, rfl, v, hw, rfl, hlen⟩⟩, ?_⟩
   clear v hw hlen
   intro m σ' H' hI
   rw [hPV] at hI
   obtain ⟨pv, as1, bs1, k, ps, rfl, hm, v1, hw, hab, hlen⟩ := hI
   walk_at "w"
   obtain ⟨fs1, rd1, st1, lu1, hx1, dC, sf1⟩ := v1.o
   refine ⟨x, _, _, _, rfl, hx1, (sf1 _).trans rfl, trivial, bo ?_⟩
   refine ⟨x, _, _, _, rfl, hx1, (sf1 _).trans rfl, fits (by simp), fun d hd => ?_⟩
   have v2 := v1.same (ax.upd (o := .lst []) hd)
   have b2 : upd H' d (.lst []) d = some (.lst []) := az
   generalize upd H' d (.lst []) = H2 at v2 b2 ⊢
   obtain ⟨fs2, rd2, st2, lu2, hx2, fX, sf2⟩ := v2.o
   cases hw with
   | nil =>
    refine ⟨[], [], v2.ol, b2, aO ?_⟩
    rw [List.append_nil] at hab
    subst hab
    refine ⟨x, _, _, _, rfl, hx2, (sf2 _).trans rfl, trivial, bo ?_⟩
    walk_at "w"
    refine ⟨x, _, _, _, rfl, hx2, (sf2 _).trans rfl, x, _, _, rfl, hx2, (sf2 _).trans rfl, as ++ bs, H0, AA, L, M, dx, av, lf, z, [], root, e, a, t, ns, v2, ha, ht, hkd, hns, wz, hn8, fun H3 s3 => ?_⟩
    have v3 := v2.same s3
    intro fd dfd hfd hdfd nfd
    have s4 := (ax.upd (o := .own fd) hdfd).trans (ax.upd (p := fd) (o := .ins T.bH dfd []) (by rw [ah (Ne.symm nfd)]; exact hfd))
    have b4 : upd (upd H3 dfd (.own fd)) fd (.ins T.bH dfd []) fd = some (.ins T.bH dfd []) := az
    have v4 := v3.same s4
    have f0 : H0 fd = none := by
     cases e : H0 fd with
     | none => rfl
     | some o => rw [v3.s fd o e] at hfd; cases hfd
    have nfx : x ≠ fd := by
     obtain ⟨fs3, rd3, st3, lu3, hx3, iq, sf3⟩ := v3.o
     exact aF hx3 hfd
    have nfa : av ≠ fd := aF v3.oa hfd
    have nfl : lf ≠ fd := aF v3.ol hfd
    generalize upd (upd H3 dfd (.own fd)) fd (.ins T.bH dfd []) = H4 at s4 b4 v4 ⊢
    refine ⟨dfd, b4, rfl, ?_⟩
    have v5 : bD T.aj T.ay T.aA T.aR (as ++ bs) H0 (upd H4 fd (.ins T.bH dfd (g8 e ns))) AA L M x dx av lf z root e .aq [] := by
     refine ⟨v4.i, v4.s.dk f0, v4.x0, v4.a0, v4.l0, ?_, ?_, ?_, v4.ne, v4.hz⟩
     ·obtain ⟨fs, rd, st, lu, e, r⟩ := v4.o
      exact ⟨fs, rd, st, lu, by rw [ah nfx]; exact e, r⟩
     ·rw [ah nfa]; exact v4.oa
     ·rw [ah nfl]; exact v4.ol
    have b5 : upd H4 fd (.ins T.bH dfd (g8 e ns)) fd = some (.ins T.bH dfd (g8 e ns)) := az
    unfold g8 at v5 b5
    generalize upd H4 fd (.ins T.bH dfd (aa "way" (.str (dQ ns)) (aa "number" (.int (e : Int)) []))) = H5 at v5 b5 ⊢
    obtain ⟨fs5, rd5, st5, lu5, hx5, hfl5, sf5⟩ := v5.o
    refine ⟨x, _, _, rfl, hx5, by omega, ?_⟩
    exact q fd dfd _ (v5.put (fs := aa "told" (.ref fd) fs5) (here' := e) (told' := .ref fd) (lf' := lf) (lv' := []) (rd := rd5) (st := st5) (lu := lu5) (by rw [cC (u := .aq) ((sf5 _).trans rfl)]; exact hfl5) (fun f => ((sf5.put "told" (.ref fd)) f).trans rfl) v5.l0 v5.ol v5.ne) (by rw [ah (Ne.symm nfx)]; exact b5)
   | @cons _ p ps as2 k2 _ hfo hst hw =>
    have ol2 : H2 lf = some (.lst ((ps.reverse ++ [p]).map V.str)) := by rw [v2.ol]; simp
    refine ⟨ps.reverse ++ [p], [], ol2, b2, ?_⟩
    rw [decide_eq_false (by simp)]
    refine bo ⟨_, fun _ _ h => h, ?_⟩
    refine ao ?_
    walk_at "w"
    refine ⟨x, _, _, _, rfl, hx2, (sf2 _).trans rfl, ?_⟩
    simp only [ol2]
    refine ⟨ps.reverse.map V.str, V.str p, by simp, ?_⟩
    have v3 := v2.pop (lv' := ps.reverse.map V.str)
    generalize upd H2 lf (.lst (ps.reverse.map V.str)) = H3 at v3 ⊢
    obtain ⟨fs3, rd3, st3, lu3, hx3, iq, sf3⟩ := v3.o
    refine ⟨⟨_, rfl⟩, aO ?_⟩
    refine ⟨x, _, _, rfl, hx3, (sf3 _).trans rfl, as1, H0, AA, L, M, dx, av, lf, z, _, root, k, k2, v3, by omega, hfo, hst, fun H4 v4 => ⟨ps.length, by rw [hm]; simp, ?_⟩⟩
    rw [hPV]
    refine ⟨_, as1 ++ [k], as2, k2, ps, rfl, rfl, by rw [← List.map_reverse]; exact v4, hw, ?_, ?_⟩
    ·rw [← hab]; simp
    ·simp at hlen ⊢; omega
  ·exact h.elim
structure Goes (M : Hs) (L : List Ta) (z : Str) (fr : Bool) (ps : List Str) (bs : List Nat) (e : Nat) (ns : List Str) : Prop where
 ex : ∃ (root st b : Nat) (r : List Nat) (a : Ta) (t : Th), aH (sD M.ro) (.inr z) = some (.int (root : Int)) ∧ (fr = true ∧ st = root ∨ fr = false ∧ aH (sD M.st) (.inr z) = some (.int (st : Int))) ∧ L[st]? = some a ∧ M.ts[st]? = some t ∧ cm M st b r ∧ (∃ m, eL M L root m (bN b r) true) ∧ eQ M L z root (bN b r) ps bs e ∧ (∃ m, eD M L root m e ns)
 hp : ps.length ≤ 500
 he : ∃ a t, L[e]? = some a ∧ M.ts[e]? = some t ∧ t.kd = ("folder" : Str)
 hn : ns.length ≤ 100
 h8 : ∀ s ∈ ns, s.length ≤ 8
def kO (CW CF : Addr) (H H' : Hp) (bs : List Nat) (e : Nat) (ns : List Str) (x : Addr) : Prop := ax H H' ∧ ∃ dx gs fd dfd av, H' x = some (.ins CW dx gs) ∧ gs.lookup ("told" : Str) = some (.ref fd) ∧ H' fd = some (.ins CF dfd (g8 e ns)) ∧ gs.lookup ("asked" : Str) = some (.ref av) ∧ H' av = some (.lst (nV bs))
theorem kO.of {CW CF : Addr} {H H1 H2 : Hp} {bs : List Nat} {e : Nat} {ns : List Str} {x : Addr} (s : ax H H1) (h : kO CW CF H1 H2 bs e ns x) : kO CW CF H H2 bs e ns x := ⟨s.trans h.1, h.2⟩
def rB (CH CS CT CW CF : Addr) : Sp := fun vs H Q _ => match vs with
 | [.ref h, .str z, .bl fr, .ref lp, .bl true] => ∃ A L M ps bs e ns, aG CH CS CT H A L M ∧ A.a = h ∧ H lp = some (.lst (ps.map V.str)) ∧ Goes M L z fr ps bs e ns ∧ ∀ x H', kO CW CF H H' bs e ns x → Q (.ref x) H'
 | _ => False
theorem z6 (T : Tx K mg) : aB P w K mg base aK 10 T.fI.f T.fI.d ["house", "asker", "from_root", "parts", "last"] (rB T.aj T.ay T.aA T.aR T.bH) := by
 have G_Walk___init__ := Jp (P := P) (w := w) (base := base) T
 have G_Walk_begin := Fx (P := P) (w := w) (base := base) T
 have G_Walk_go_on := Kr (P := P) (w := w) (base := base) T
 refine T.fI.F.ok zh (fun vs H Q E h => ?_) (fun cdv A outer s H vs Q E hr h => ?_)
 ·unfold rB at h
  split at h
  ·rfl
  ·exact h.elim
 ·unfold rB at h
  split at h
  ·rename_i hh z fr lp
   obtain ⟨AA, L, M, ps, bs, e, ns, i, rfl, hlp, g, q⟩ := h
   obtain ⟨root, st, b, r, a, t, hz, hst, ha, ht, hsk, hsn, hw, hnm⟩ := g.ex
   obtain ⟨ae, te, hae, hte, hke⟩ := g.he
   refine bj (b := aS uR) ((Dv.cut (Dv.aN 5 zh.nd (Dv.make T.Dr G_Walk___init__ (hr.mono (by decide)) T.Gi T.lq.b .nil aw (Dv.ag (Dv.v 0) (Dv.ag (Dv.v 1) (Dv.ag (Dv.v 4) Dv.ai)))))
   (Dv.cut (Dv.aU (Dv.aY T.aP T.ky.h G_Walk_begin (hr.mono (by decide)) T.ky.b .nil aw (Dv.v 5) (Dv.ag (Dv.v 2) (Dv.ag (Dv.v 3) Dv.ai))))
   (Dv.cut (Dv.aU (Dv.lT T.aP T.lJ.h G_Walk_go_on (hr.mono (by decide)) T.lJ.b .nil aw (Dv.v 5)))
   (Dv.au (Dv.aM (Dv.v 5))))))) ?_
   rw [show start ["house", "asker", "from_root", "parts", "last", "ended"] [V.ref AA.a, V.str z, V.bl fr, V.ref lp, V.bl true] = [some (V.ref AA.a), some (V.str z), some (V.bl fr), some (V.ref lp), some (V.bl true), none] from rfl]
   refine ao ?_
   walk_at "w"
   intro x dx hx hdx ndx
   have s1 := (ax.upd (o := .own x) hdx).trans (ax.upd (p := x) (o := .ins T.aR dx []) (by rw [ah (Ne.symm ndx)]; exact hx))
   have b1 : upd (upd H dx (.own x)) x (.ins T.aR dx []) x = some (.ins T.aR dx []) := az
   generalize upd (upd H dx (.own x)) x (.ins T.aR dx []) = H1 at s1 b1 ⊢
   refine ⟨AA, L, M, dx, H, root, i, rfl, b1, s1, hx, hz, fun av lf H2 v2 => ?_⟩
   refine ⟨rfl, ao ?_⟩
   walk_at "w"
   obtain ⟨fs2, rd2, st2, lu2, hx2, fX, sf2⟩ := v2.o
   refine ⟨x, _, _, rfl, hx2, (sf2 _).trans rfl, [], H, AA, L, M, dx, av, lf, z, _, root, st, b, r, a, t, v2, v2.s _ _ hlp, hst, ha, ht, hsk, hsn, fun lf' H3 v3 => ao ?_⟩
   walk_at "w"
   obtain ⟨fs3, rd3, st3, lu3, hx3, iq, sf3⟩ := v3.o
   refine ⟨x, _, _, rfl, hx3, (sf3 _).trans rfl, [], H, AA, L, M, dx, av, lf', z, ps, bs, root, bN b r, e, ae, te, ns, v3, hw, by simpa using g.hp, hae, hte, hke, hnm, g.hn, g.h8, fun fd dfd H4 v4 hfd => ?_⟩
   obtain ⟨fs4, rd4, st4, lu4, hx4, wA, sf4⟩ := v4.o
   exact q x H4 ⟨v4.s, dx, fs4, fd, dfd, av, hx4, (sf4 _).trans rfl, hfd, (sf4 _).trans rfl, by have := v4.oa; rwa [List.nil_append] at this⟩
  ·exact h.elim
structure c7 (M : Hs) (L : List Ta) (z : Str) (t : List Nat) (bs : List Nat) (e : Nat) (ns : List Str) : Prop where
 l1 : 1 ≤ t.length
 l2 : t.length ≤ 2000
 all : (Tx.words 47 t).all bL = true
 g : Goes M L z (cy t) ((told (Tx.words 47 t) t).map Tx.S) bs e ns
theorem c7.hz {M : Hs} {L : List Ta} {z : Str} {t : List Nat} {bs : List Nat} {e : Nat} {ns : List Str} (p : c7 M L z t bs e ns) : (aH (sD M.ro) (.inr z)).isSome = true := by
 obtain ⟨root, st, b, r, a, t, hz, _⟩ := p.g.ex
 rw [hz]; rfl
theorem fA (ps : List (List Nat)) : PV ps = (ps.map Tx.S).map V.str := by
 unfold PV
 first | rfl | simp [List.map_map, Function.comp_def]
def ui (CH CS CT CW CF : Addr) : Sp := fun vs H Q _ => match vs with
 | [.ref h, .str z, .str pt, .bl true] => ∃ A L M t bs e ns, pt = Tx.S t ∧ aG CH CS CT H A L M ∧ A.a = h ∧ c7 M L z t bs e ns ∧ ∀ x H', kO CW CF H H' bs e ns x → Q (.ref x) H'
 | _ => False
theorem yl (T : Tx K mg) : aB P w K mg base aK 11 T.fF.f T.fF.d ["house", "asker", "path", "last"] (ui T.aj T.ay T.aA T.aR T.bH) := by
 have dB := ic (P := P) (w := w) (base := base) T
 have fQ := lW (P := P) (w := w) (base := base) T
 have vC := z6 (P := P) (w := w) (base := base) T
 refine T.fF.F.ok w9 (fun vs H Q E h => ?_) (fun cdv A outer s H vs Q E hr h => ?_)
 ·unfold ui at h
  split at h
  ·rfl
  ·exact h.elim
 ·unfold ui at h
  split at h
  ·rename_i hh z pt
   obtain ⟨AA, L, M, t, bs, e, ns, rfl, i, rfl, pg, q⟩ := h
   obtain ⟨hfs, hc, hh, hhl, hsf⟩ := i.h
   refine bj (b := aS ur) ((Dv.cut (Dv.aU (Dv.cK T.aI T.cF.h dB (hr.mono (by decide)) T.cF.b .nil c8 (Dv.v 0) (Dv.ag (Dv.v 1) Dv.ai)))
   (Dv.cut (Dv.aN 4 w9.nd (Dv.call fQ (hr.mono (by decide)) T.cx.m T.cx.F.kp T.cx.b .nil aw (Dv.ag (Dv.v 2) Dv.ai)))
   (Dv.au (Dv.aM (Dv.call vC (hr.mono (by decide)) T.fI.m T.fI.F.kp T.fI.b .nil aw (Dv.ag (Dv.v 0) (Dv.ag (Dv.v 1) (Dv.ag (Dv.ix (bq (K := K) rfl) (Dv.v 4) Dv.int) (Dv.ag (Dv.ix (bq (K := K) rfl) (Dv.v 4) Dv.int) (Dv.ag (Dv.v 3) Dv.ai))))))))))) ?_
   rw [show start ["house", "asker", "path", "last", "read"] [V.ref AA.a, V.str z, V.str (Tx.S t), V.bl true] = [some (V.ref AA.a), some (V.str z), some (V.str (Tx.S t)), some (V.bl true), none] from rfl]
   refine ao ?_
   walk_at "w"
   refine ⟨AA.a, _, _, rfl, hh, (hsf _).trans rfl, jx i pg.hz (ao ?_)⟩
   walk_at "w"
   refine ⟨t, rfl, pg.l1, pg.l2, pg.all, fun H1 l p s1 _ hl hp => ?_⟩
   simp only [bp, hp]
   walk_at "w"
   rw [show bF [V.bl (cy t), V.ref l] 0 = some (V.bl (cy t)) from rfl, show bF [V.bl (cy t), V.ref l] 1 = some (V.ref l) from rfl]
   rw [fA] at hl
   exact ⟨AA, L, M, _, bs, e, ns, i.same s1, rfl, hl, pg.g, fun x H2 f => q x H2 (f.of s1)⟩
  ·exact h.elim
def qO (CH CS CT CF : Addr) : Sp := fun vs H Q _ => match vs with
 | [.ref h, .str z, .str pt, .bl true] => ∃ A L M t bs e ns, pt = Tx.S t ∧ aG CH CS CT H A L M ∧ A.a = h ∧ c7 M L z t bs e ns ∧ ∀ fd dfd H', ax H H' → H' fd = some (.ins CF dfd (g8 e ns)) → Q (.ref fd) H'
 | _ => False
theorem tY (T : Tx K mg) : aB P w K mg base aK 12 T.wg T.oR ["house", "asker", "path", "last"] (qO T.aj T.ay T.aA T.bH) := by
 have vE := yl (P := P) (w := w) (base := base) T
 refine T.iQ.ok D9 (fun vs H Q E h => ?_) (fun cdv A outer s H vs Q E hr h => ?_)
 ·unfold qO at h
  split at h
  ·rfl
  ·exact h.elim
 ·unfold qO at h
  split at h
  ·rename_i hh z pt
   obtain ⟨AA, L, M, t, bs, e, ns, rfl, i, rfl, pg, q⟩ := h
   refine bj (b := aS kR) ((Dv.au (Dv.aM (Dv.fld T.aP T.iT (Dv.call vE (hr.mono (by decide)) T.fF.m T.fF.F.kp T.fF.b .nil aw (Dv.ag (Dv.v 0) (Dv.ag (Dv.v 1) (Dv.ag (Dv.v 2) (Dv.ag (Dv.v 3) Dv.ai))))))))) ?_
   rw [show start ["house", "asker", "path", "last"] [V.ref AA.a, V.str z, V.str (Tx.S t), V.bl true] = [some (V.ref AA.a), some (V.str z), some (V.str (Tx.S t)), some (V.bl true)] from rfl]
   walk_at "w"
   refine ⟨AA, L, M, t, bs, e, ns, rfl, i, rfl, pg, fun x H1 ⟨s1, dx, gs, fd, dfd, av, hx, hgs, hfd, j6, hav⟩ => ?_⟩
   exact ⟨x, _, _, _, rfl, hx, hgs, q fd dfd H1 s1 hfd⟩
  ·exact h.elim
def rY (CH CS CT : Addr) : Sp := fun vs H Q _ => match vs with
 | [.ref h, .str z, .str pt, .bl true] => ∃ A L M t bs e ns, pt = Tx.S t ∧ aG CH CS CT H A L M ∧ A.a = h ∧ c7 M L z t bs e ns ∧ ∀ av H', ax H H' → H' av = some (.lst (nV bs)) → Q (.ref av) H'
 | _ => False
theorem C0 (T : Tx K mg) : aB P w K mg base aK 12 T.vo T.oU ["house", "asker", "path", "last"] (rY T.aj T.ay T.aA) := by
 have vE := yl (P := P) (w := w) (base := base) T
 refine T.mQ.ok Iz (fun vs H Q E h => ?_) (fun cdv A outer s H vs Q E hr h => ?_)
 ·unfold rY at h
  split at h
  ·rfl
  ·exact h.elim
 ·unfold rY at h
  split at h
  ·rename_i hh z pt
   obtain ⟨AA, L, M, t, bs, e, ns, rfl, i, rfl, pg, q⟩ := h
   refine bj (b := aS kY) ((Dv.au (Dv.aM (Dv.fld T.aP T.qc (Dv.call vE (hr.mono (by decide)) T.fF.m T.fF.F.kp T.fF.b .nil aw (Dv.ag (Dv.v 0) (Dv.ag (Dv.v 1) (Dv.ag (Dv.v 2) (Dv.ag (Dv.v 3) Dv.ai))))))))) ?_
   rw [show start ["house", "asker", "path", "last"] [V.ref AA.a, V.str z, V.str (Tx.S t), V.bl true] = [some (V.ref AA.a), some (V.str z), some (V.str (Tx.S t)), some (V.bl true)] from rfl]
   walk_at "w"
   refine ⟨AA, L, M, t, bs, e, ns, rfl, i, rfl, pg, fun x H1 ⟨s1, dx, gs, fd, dfd, av, hx, hgs, hfd, j6, hav⟩ => ?_⟩
   exact ⟨x, _, _, _, rfl, hx, j6, q av H1 s1 hav⟩
  ·exact h.elim
def ph (CF : Addr) : Sp := fun vs H Q _ => match vs with
 | [.ref fd] => ∃ dfd fs n, H fd = some (.ins CF dfd fs) ∧ fs.lookup ("number" : Str) = some (.int n) ∧ Q (.int n) H
 | _ => False
theorem zN (T : Tx K mg) : aB P w K mg base aK 1 T.fv.f T.fv.d ["told"] (ph T.bH) := by
 refine T.fv.F.ok JQ (fun vs H Q E h => ?_) (fun cdv A outer s H vs Q E hr h => ?_)
 ·unfold ph at h
  split at h
  ·rfl
  ·exact h.elim
 ·unfold ph at h
  split at h
  ·rename_i fd
   obtain ⟨dfd, fs, n, hfd, hn, q⟩ := h
   refine bj (b := aS rZ) ((Dv.cut (Dv.ba (Dv.b8 (Dv.bT (Dv.bZ (vc (K := K) rfl) T.ei eh (Dv.ag (Dv.v 0) (Dv.ag (Dv.glob (.ref T.bH) T.oA rfl) Dv.ai))))) (Dv.au Dv.bE) Dv.nil)
   (Dv.au (Dv.aM (Dv.fld T.fH T.oK (Dv.v 0)))))) ?_
   rw [show start ["told"] [V.ref fd] = [some (V.ref fd)] from rfl]
   refine ao ?_
   walk_at "w"
   exact ⟨_, _, _, .of (.ins hfd T.fH T.q1 T.q2 T.q3 T.q4), .cls T.q5, aO ⟨fd, dfd, fs, _, rfl, hfd, hn, q⟩⟩
  ·exact h.elim
theorem d5 {w : List Nat} (h : isNm w = true) : 47 ∉ w ∧ w ≠ [] ∧ 1 ≤ w.length ∧ w.length ≤ 8 := by
 have hp : bL w = true := by unfold bL; rw [h]; simp
 obtain ⟨h1, h2, _⟩ := tI h
 exact ⟨(gg hp).1, (gg hp).2.1, h1, h2⟩
theorem qt {w : List Nat} (h : isNm w = true) : dw (.str (Tx.S w)) = true := by
 show isNm (Tx.S w).cps.toList = true
 rw [Tx.fb]; exact h
theorem AI (xs : List V) (y : V) : cD (xs ++ [y]) none (some (-1)) = xs := by
 unfold cD
 rw [HT.m6, List.drop_zero, Nat.sub_zero]
 have e : HT.bU (xs ++ [y]).length (xs ++ [y]).length (some (-1)) = xs.length := by
  unfold HT.bU
  simp
  try omega
 rw [e, List.take_append_of_le_length (Nat.le_refl _), List.take_length]
def ji (CH CS CT : Addr) : Sp := fun vs H Q _ => match vs with
 | [.ref h, .str z, .str pt] => ∃ A L M t bs e ns, pt = Tx.S t ∧ aG CH CS CT H A L M ∧ A.a = h ∧ c7 M L z t bs e ns ∧ ∀ H', ax H H' → Q (.int (e : Int)) H'
 | _ => False
theorem Ji (T : Tx K mg) : aB P w K mg base aK 13 T.jN.f T.jN.d ["house", "asker", "path"] (ji T.aj T.ay T.aA) := by
 have mr := tY (P := P) (w := w) (base := base) T
 have vS := zN (P := P) (w := w) (base := base) T
 refine T.jN.F.ok Ec (fun vs H Q E h => ?_) (fun cdv A outer s H vs Q E hr h => ?_)
 ·unfold ji at h
  split at h
  ·rfl
  ·exact h.elim
 ·unfold ji at h
  split at h
  ·rename_i hh z pt
   obtain ⟨AA, L, M, t, bs, e, ns, rfl, i, rfl, pg, q⟩ := h
   refine bj (b := aS uq) ((Dv.au (Dv.aM (Dv.call vS (hr.mono (by decide)) T.fv.m T.fv.F.kp T.fv.b .nil aw (Dv.ag (Dv.call mr (hr.mono (by decide)) T.si T.iQ.kp T.kf (.cons (show RelV (.bl true) _ from rfl) .nil) aw (Dv.ag (Dv.v 0) (Dv.ag (Dv.v 1) (Dv.ag (Dv.v 2) Dv.ai)))) Dv.ai))))) ?_
   rw [show start ["house", "asker", "path"] [V.ref AA.a, V.str z, V.str (Tx.S t)] = [some (V.ref AA.a), some (V.str z), some (V.str (Tx.S t))] from rfl]
   walk_at "w"
   exact ⟨AA, L, M, t, bs, e, ns, rfl, i, rfl, pg, fun fd dfd H1 s1 hfd => ⟨dfd, _, _, hfd, rfl, q H1 s1⟩⟩
  ·exact h.elim
theorem CL (T : Tx K mg) : aB P w K mg base aK 4 T.jb.f T.jb.d ["house", "number"] (cQ T.aj T.ay T.aA Ad.a fun _ _ _ _ _ t H Q => Q (.bl (decide (t.kd = ("folder" : Str)))) H) := by
 have iw := nq (P := P) (w := w) (base := base) T
 refine T.jb.F.ok Jb (fun vs H Q E h => ?_) (fun cdv A outer s H vs Q E hr h => ?_)
 ·unfold cQ at h
  split at h
  ·rfl
  ·exact h.elim
 ·unfold cQ at h
  split at h
  ·rename_i x n
   obtain ⟨AA, L, M, k, a, t, i, rfl, rfl, ha, hth, q⟩ := h
   obtain ⟨fs, c, hx, hfl, sf⟩ := i.h
   refine ⟨_, ((Dv.au (Dv.aM (Dv.cmp dm (Dv.aY T.aI T.ed.h iw (hr.mono (by decide)) T.ed.b .nil aw (Dv.v 0) (Dv.ag (Dv.v 1) Dv.ai)) (Dv.glob (.str "folder") T.kT ⟨_, rfl⟩))))).h, ?_⟩
   rw [show start ["house", "number"] [V.ref AA.a, V.int (k : Int)] = [some (V.ref AA.a), some (V.int (k : Int))] from rfl]
   walk_at "w"
   exact ⟨AA.a, _, _, rfl, hx, (sf _).trans rfl, AA, L, M, k, a, t, i, rfl, rfl, ha, hth, q⟩
  ·exact h.elim
theorem sj (T : Tx K mg) : aB P w K mg base aK 14 T.dP.f T.dP.d ["house", "asker", "path"] (ji T.aj T.ay T.aA) := by
 have G_find_any := Ji (P := P) (w := w) (base := base) T
 have G_is_folder := CL (P := P) (w := w) (base := base) T
 refine T.dP.F.ok Af (fun vs H Q E h => ?_) (fun cdv A outer s H vs Q E hr h => ?_)
 ·unfold ji at h
  split at h
  ·rfl
  ·exact h.elim
 ·unfold ji at h
  split at h
  ·rename_i hh z pt
   obtain ⟨AA, L, M, t, bs, e, ns, rfl, i, rfl, pg, q⟩ := h
   obtain ⟨ae, te, hae, hte, hke⟩ := pg.g.he
   refine bj (b := aS oX) ((Dv.cut (Dv.aN 3 Af.nd (Dv.call G_find_any (hr.mono (by decide)) T.jN.m T.jN.F.kp T.jN.b .nil aw (Dv.ag (Dv.v 0) (Dv.ag (Dv.v 1) (Dv.ag (Dv.v 2) Dv.ai)))))
   (Dv.cut (Dv.ba (Dv.b8 (Dv.bT (Dv.call G_is_folder (hr.mono (by decide)) T.jb.m T.jb.F.kp T.jb.b .nil aw (Dv.ag (Dv.v 0) (Dv.ag (Dv.v 3) Dv.ai))))) (Dv.au Dv.bE) Dv.nil)
   (Dv.au (Dv.aM (Dv.v 3)))))) ?_
   rw [show start ["house", "asker", "path", "number"] [V.ref AA.a, V.str z, V.str (Tx.S t)] = [some (V.ref AA.a), some (V.str z), some (V.str (Tx.S t)), none] from rfl]
   refine ao ?_
   walk_at "w"
   refine ⟨AA, L, M, t, bs, e, ns, rfl, i, rfl, pg, fun H1 s1 => ?_⟩
   refine ao ?_
   walk_at "w"
   refine ⟨AA, L, M, e, ae, te, i.same s1, rfl, rfl, hae, hte, ?_⟩
   dsimp only
   rw [decide_eq_true hke]
   exact aO (q _ s1)
  ·exact h.elim
structure kS (t : List Nat) (q : List (List Nat)) (nm : List Nat) : Prop where
 l1 : 1 ≤ t.length
 l2 : t.length ≤ 2000
 all : (Tx.words 47 t).all bL = true
 e : told (Tx.words 47 t) t = q ++ [nm]
 hn : isNm nm = true
 hq : q.length ≤ 400
def qB : Sp := fun vs H Q _ => match vs with
 | [.str pt] => ∃ t q nm, pt = Tx.S t ∧ kS t q nm ∧ ∀ H', ax H H' → Q .aq H'
 | _ => False
theorem HR (T : Tx K mg) : aB P w K mg base aK 4 T.iH.f T.iH.d ["path"] qB := by
 have fQ := lW (P := P) (w := w) (base := base) T
 have mj := qe (P := P) (w := w) (base := base) T
 refine T.iH.F.ok xT (fun vs H Q E h => ?_) (fun cdv A outer s H vs Q E hr h => ?_)
 ·unfold qB at h
  split at h
  ·rfl
  ·exact h.elim
 ·unfold qB at h
  split at h
  ·rename_i pt
   obtain ⟨t, qs, nm, rfl, sp, q⟩ := h
   have hn := sp.hn
   obtain ⟨h1, h2, h3, h4⟩ := d5 hn
   refine bj (b := aS pe) ((Dv.cut (Dv.aN 1 xT.nd (Dv.ix (bq (K := K) rfl) (Dv.call fQ (hr.mono (by decide)) T.cx.m T.cx.F.kp T.cx.b .nil aw (Dv.ag (Dv.v 0) Dv.ai)) Dv.int))
   (Dv.au (Dv.ba (Dv.dq (Dv.w_or (Dv.bg (IV hr.oy) (Dv.v 1) (Dv.lst Dv.ai)) (Dv.fL (Dv.b8 (Dv.bT (Dv.call mj (hr.mono (by decide)) T.dN.m T.dN.F.kp T.dN.b .nil aw (Dv.ag (Dv.ix (bq (K := K) rfl) (Dv.v 1) (Dv.un ef Dv.int)) Dv.ai))))))) (Dv.au Dv.bE) Dv.nil)))) ?_
   rw [show start ["path", "parts"] [V.str (Tx.S t)] = [some (V.str (Tx.S t)), none] from rfl]
   refine ao ?_
   walk_at "w"
   refine ⟨t, rfl, sp.l1, sp.l2, sp.all, fun H1 l p s1 _ hl hp => ?_⟩
   rw [sp.e] at hl
   simp only [bp, hp]
   rw [show bF [V.bl (cy t), V.ref l] 1 = some (V.ref l) from rfl]
   refine ⟨fits (by simp), fun d hd => ?_⟩
   have s2 := ax.upd (o := .lst []) hd
   have b2 : upd H1 d (.lst []) d = some (.lst []) := az
   generalize upd H1 d (.lst []) = H2 at s2 b2 ⊢
   have cu : H2 l = some (.lst (PV qs ++ [V.str (Tx.S nm)])) := by rw [s2 _ _ hl]; simp [PV]
   refine ⟨qs.map Tx.S ++ [Tx.S nm], [], by rw [cu]; simp [PV], b2, ?_⟩
   rw [decide_eq_false (by simp)]
   refine aO ?_
   simp only [cu, iI]
   refine ⟨⟨_, rfl⟩, by show (Tx.S nm).length ≤ 1000; rw [Tx.b7]; omega, fun H3 s3 => ?_⟩
   rw [qt hn]
   exact aO (q _ ((s1.trans s2).trans s3))
  ·exact h.elim
theorem JM {H H' : Hp} {x : Addr} (s : ax H H') (h : H' x = none) : H x = none := by
 cases e : H x with
 | none => rfl
 | some o => rw [s _ _ e] at h; cases h
def qk (CH CS CT CE : Addr) : Sp := fun vs H Q _ => match vs with
 | [.ref h, .str z, .str pt] => ∃ A L M t qs nm bs e ns, pt = Tx.S t ∧ kS t qs nm ∧ aG CH CS CT H A L M ∧ A.a = h ∧ Goes M L z (cy t) (qs.map Tx.S ++ [("." : Str)]) bs e ns ∧
   ∀ x dx H', H x = none → ax H H' → H' x = some (.ins CE dx (aa "name" (.str (Tx.S nm)) (aa "folder" (.int (e : Int)) []))) → Q (.ref x) H'
 | _ => False
theorem GA (T : Tx K mg) : aB P w K mg base aK 11 T.jG.f T.jG.d ["house", "asker", "path"] (qk T.aj T.ay T.aA T.dY) := by
 have G_check_seat := HR (P := P) (w := w) (base := base) T
 have fQ := lW (P := P) (w := w) (base := base) T
 have vC := z6 (P := P) (w := w) (base := base) T
 have vS := zN (P := P) (w := w) (base := base) T
 have G_Seat___init__ := Fw (P := P) (w := w) (base := base) T
 refine T.jG.F.ok qy (fun vs H Q E h => ?_) (fun cdv A outer s H vs Q E hr h => ?_)
 ·unfold qk at h
  split at h
  ·rfl
  ·exact h.elim
 ·unfold qk at h
  split at h
  ·rename_i hh z pt
   obtain ⟨AA, L, M, t, qs, nm, bs, e, ns, rfl, sp, i, rfl, g, q⟩ := h
   refine bj (b := aS qH) ((Dv.cut (Dv.aU (Dv.call G_check_seat (hr.mono (by decide)) T.iH.m T.iH.F.kp T.iH.b .nil aw (Dv.ag (Dv.v 2) Dv.ai)))
   (Dv.cut (Dv.aN 3 qy.nd (Dv.call fQ (hr.mono (by decide)) T.cx.m T.cx.F.kp T.cx.b .nil aw (Dv.ag (Dv.v 2) Dv.ai)))
   (Dv.cut (Dv.aN 4 qy.nd (Dv.call vC (hr.mono (by decide)) T.fI.m T.fI.F.kp T.fI.b .nil aw (Dv.ag (Dv.v 0) (Dv.ag (Dv.v 1) (Dv.ag (Dv.ix (bq (K := K) rfl) (Dv.v 3) Dv.int) (Dv.ag (Dv.op bR (Dv.slice (j7 (K := K) rfl) (Dv.ix (bq (K := K) rfl) (Dv.v 3) Dv.int) Dv.nK (Dv.jO (Dv.un ef Dv.int))) (Dv.lst (Dv.ag Dv.str Dv.ai))) (Dv.ag Dv.bl Dv.ai)))))))
   (Dv.au (Dv.aM (Dv.make T.DF G_Seat___init__ (hr.mono (by decide)) T.Ds T.ll.b .nil aw (Dv.ag (Dv.call vS (hr.mono (by decide)) T.fv.m T.fv.F.kp T.fv.b .nil aw (Dv.ag (Dv.fld T.aP T.iT (Dv.v 4)) Dv.ai)) (Dv.ag (Dv.ix (bq (K := K) rfl) (Dv.ix (bq (K := K) rfl) (Dv.v 3) Dv.int) (Dv.un ef Dv.int)) Dv.ai))))))))) ?_
   rw [show start ["house", "asker", "path", "asked", "ended"] [V.ref AA.a, V.str z, V.str (Tx.S t)] = [some (V.ref AA.a), some (V.str z), some (V.str (Tx.S t)), none, none] from rfl]
   refine ao ?_
   walk_at "w"
   refine ⟨t, qs, nm, rfl, sp, fun H1 s1 => ao ?_⟩
   walk_at "w"
   refine ⟨t, rfl, sp.l1, sp.l2, sp.all, fun H2 l p s2 _ hl hp => ao ?_⟩
   rw [sp.e, show PV (qs ++ [nm]) = PV qs ++ [V.str (Tx.S nm)] from by simp [PV]] at hl
   walk_at "w"
   simp only [bp, hp]
   rw [show bF [V.bl (cy t), V.ref l] 1 = some (V.ref l) from rfl, show bF [V.bl (cy t), V.ref l] 0 = some (V.bl (cy t)) from rfl]
   try dsimp only
   refine ⟨_, aL.of hl, fun p1 hp1 => ?_⟩
   rw [AI]
   refine ⟨fits (by simp), fun p2 hp2 => ?_⟩
   have s3 := (ax.upd (o := .lst (PV qs)) hp1).trans (ax.upd (o := .lst [V.str (Str.ofString ".")]) hp2)
   have n12 : p1 ≠ p2 := aF (az (o := .lst (PV qs))) hp2
   have b3 : upd (upd H2 p1 (.lst (PV qs))) p2 (.lst [V.str (Str.ofString ".")]) p1 = some (.lst (PV qs)) := by rw [ah n12, az]
   have b4 : upd (upd H2 p1 (.lst (PV qs))) p2 (.lst [V.str (Str.ofString ".")]) p2 = some (.lst [V.str (Str.ofString ".")]) := az
   generalize upd (upd H2 p1 (.lst (PV qs))) p2 (.lst [V.str (Str.ofString ".")]) = H3 at s3 b3 b4 ⊢
   simp only [b3, b4]
   refine ⟨fits (by have := sp.hq; simp; omega), fun p3 hp3 => ?_⟩
   have s4 := s3.trans (ax.upd (o := .lst (PV qs ++ [V.str (Str.ofString ".")])) hp3)
   have b5 : upd H3 p3 (.lst (PV qs ++ [V.str (Str.ofString ".")])) p3 = some (.lst (PV qs ++ [V.str (Str.ofString ".")])) := az
   generalize upd H3 p3 (.lst (PV qs ++ [V.str (Str.ofString ".")])) = H4 at s4 b5 ⊢
   refine ⟨AA, L, M, qs.map Tx.S ++ [("." : Str)], bs, e, ns, i.same ((s1.trans s2).trans s4), rfl, by rw [b5]; simp [PV], g, ?_⟩
   rintro x H5 ⟨s5, dx, gs, fd, dfd, av, hx, hgs, hfd, j6, hav⟩
   refine ⟨x, _, _, _, rfl, hx, hgs, dfd, _, _, hfd, rfl, ?_⟩
   have hp5 := (s4.trans s5) _ _ hp
   have hl5 := (s4.trans s5) _ _ hl
   simp only [hp5]
   rw [show bF [V.bl (cy t), V.ref l] 1 = some (V.ref l) from rfl]
   simp only [hl5, iI]
   try dsimp only
   intro y dy hy hdy ndy
   refine ⟨dy, az, rfl, ?_⟩
   rw [hJ]
   refine q y dy _ (JM (((s1.trans s2).trans s4).trans s5) hy) ((((s1.trans s2).trans s4).trans s5).trans ((ax.upd (o := .own y) hdy).trans (ax.upd (p := y) (by rw [ah (Ne.symm ndy)]; exact hy)))) az
  ·exact h.elim
def uZ (CH CS CT : Addr) : Sp := fun vs H Q _ => match vs with
 | [.ref h, .str z, .int n, .str r, .str _] => ∃ A L M t, ∃ k : Nat, n = (k : Int) ∧ aG CH CS CT H A L M ∧ A.a = h ∧ (aH (sD M.ro) (.inr z)).isSome = true ∧ eK (.str r) = true ∧ M.ts[k]? = some t ∧ eM r (cU t z) = true ∧ Q .aq H
 | _ => False
theorem G3 (T : Tx K mg) : aB P w K mg base aK 4 T.iz.f T.iz.d ["house", "asker", "number", "right", "reason"] (uZ T.aj T.ay T.aA) := by
 have vv := xK (P := P) (w := w) (base := base) T
 refine T.iz.F.ok E4 (fun vs H Q E h => ?_) (fun cdv A outer s H vs Q E hr h => ?_)
 ·unfold uZ at h
  split at h
  ·rfl
  ·exact h.elim
 ·unfold uZ at h
  split at h
  ·rename_i hh z n r rs
   obtain ⟨AA, L, M, t, k, rfl, i, rfl, hz, hr1, ht, hm, q⟩ := h
   obtain ⟨gfs, gc, gh, ghl, gsf⟩ := i.h
   refine bj (b := aS qb) ((Dv.au (Dv.ba (Dv.b8 (Dv.bT (Dv.cK T.aI T.hX.h vv (hr.mono (by decide)) T.hX.b .nil c8 (Dv.v 0) (Dv.ag (Dv.v 1) (Dv.ag (Dv.v 2) (Dv.ag (Dv.v 3) Dv.ai)))))) (Dv.au Dv.bE) Dv.nil))) ?_
   rw [show start ["house", "asker", "number", "right", "reason"] [V.ref AA.a, V.str z, V.int (k : Int), V.str r, V.str rs] = [some (V.ref AA.a), some (V.str z), some (V.int (k : Int)), some (V.str r), some (V.str rs)] from rfl]
   walk_at "w"
   refine ⟨AA.a, _, _, rfl, gh, (gsf _).trans rfl, wU i hz hr1 ht ?_⟩
   rw [hm]
   exact aO q
  ·exact h.elim
def qG (CH CS CT : Addr) : Sp := fun vs H Q _ => match vs with
 | [.ref h, .str z, .int n] => ∃ A L M t, ∃ k : Nat, n = (k : Int) ∧ aG CH CS CT H A L M ∧ A.a = h ∧ (aH (sD M.ro) (.inr z)).isSome = true ∧ M.ts[k]? = some t ∧ eM ("w" : Str) (cU t z) = true ∧ Q .aq H
 | _ => False
theorem yR (T : Tx K mg) : aB P w K mg base aK 5 T.ff.f T.ff.d ["house", "asker", "folder"] (qG T.aj T.ay T.aA) := by
 have G_check_may := G3 (P := P) (w := w) (base := base) T
 refine T.ff.F.ok DM (fun vs H Q E h => ?_) (fun cdv A outer s H vs Q E hr h => ?_)
 ·unfold qG at h
  split at h
  ·rfl
  ·exact h.elim
 ·unfold qG at h
  split at h
  ·rename_i hh z n
   obtain ⟨AA, L, M, t, k, rfl, i, rfl, hz, ht, hm, q⟩ := h
   refine bj (b := aS o9) ((Dv.au (Dv.aU (Dv.call G_check_may (hr.mono (by decide)) T.iz.m T.iz.F.kp T.iz.b .nil aw (Dv.ag (Dv.v 0) (Dv.ag (Dv.v 1) (Dv.ag (Dv.v 2) (Dv.ag Dv.str (Dv.ag Dv.str Dv.ai))))))))) ?_
   rw [show start ["house", "asker", "folder"] [V.ref AA.a, V.str z, V.int (k : Int)] = [some (V.ref AA.a), some (V.str z), some (V.int (k : Int))] from rfl]
   walk_at "w"
   exact ⟨AA, L, M, t, k, rfl, i, rfl, hz, by decide +kernel, ht, hm, q⟩
  ·exact h.elim
def tj (CH CS CT CE : Addr) : Sp := fun vs H Q _ => match vs with
 | [.ref h, .ref x] => ∃ A L M a t dx nm, ∃ k : Nat, aG CH CS CT H A L M ∧ A.a = h ∧ H x = some (.ins CE dx (aa "name" (.str (Tx.S nm)) (aa "folder" (.int (k : Int)) []))) ∧ isNm nm = true ∧ L[k]? = some a ∧ M.ts[k]? = some t ∧ ∀ H', ax H H' → Q ((aH (sD t.aW) (.inr (Tx.S nm))).getD .aq) H'
 | _ => False
theorem IZ (T : Tx K mg) : aB P w K mg base aK 5 T.jH.f T.jH.d ["house", "seat"] (tj T.aj T.ay T.aA T.dY) := by
 have vt := yN (P := P) (w := w) (base := base) T
 refine T.jH.F.ok Jj (fun vs H Q E h => ?_) (fun cdv A outer s H vs Q E hr h => ?_)
 ·unfold tj at h
  split at h
  ·rfl
  ·exact h.elim
 ·unfold tj at h
  split at h
  ·rename_i hh x
   obtain ⟨AA, L, M, a, t, dx, nm, k, i, rfl, hx, hn, ha, ht, q⟩ := h
   obtain ⟨gfs, gc, gh, ghl, gsf⟩ := i.h
   obtain ⟨h1, h2, h3, h4⟩ := d5 hn
   refine bj (b := aS rf) ((Dv.au (Dv.aM (Dv.aY T.aI T.h7.h vt (hr.mono (by decide)) T.h7.b .nil aw (Dv.v 0) (Dv.ag (Dv.fld T.gM T.n9 (Dv.v 1)) (Dv.ag (Dv.fld T.gM T.qi (Dv.v 1)) Dv.ai)))))) ?_
   rw [show start ["house", "seat"] [V.ref AA.a, V.ref x] = [some (V.ref AA.a), some (V.ref x)] from rfl]
   walk_at "w"
   exact ⟨AA.a, _, _, rfl, gh, (gsf _).trans rfl, x, _, _, _, rfl, hx, rfl, x, _, _, _, rfl, hx, rfl, AA, L, M, k, a, t, i, rfl, rfl, ha, ht, qt hn, by rw [Tx.b7]; omega, q⟩
  ·exact h.elim
def rb (CH CS CT CE : Addr) : Sp := fun vs H Q _ => match vs with
 | [.ref h, .ref x] => ∃ A L M a t dx nm, ∃ k : Nat, aG CH CS CT H A L M ∧ A.a = h ∧ H x = some (.ins CE dx (aa "name" (.str (Tx.S nm)) (aa "folder" (.int (k : Int)) []))) ∧ isNm nm = true ∧ L[k]? = some a ∧ M.ts[k]? = some t ∧ aH (sD t.aW) (.inr (Tx.S nm)) = none ∧ ∀ H', ax H H' → Q .aq H'
 | _ => False
theorem Gu (T : Tx K mg) : aB P w K mg base aK 6 T.jr.f T.jr.d ["house", "seat"] (rb T.aj T.ay T.aA T.dY) := by
 have G_thing_at := IZ (P := P) (w := w) (base := base) T
 refine T.jr.F.ok FJ (fun vs H Q E h => ?_) (fun cdv A outer s H vs Q E hr h => ?_)
 ·unfold rb at h
  split at h
  ·rfl
  ·exact h.elim
 ·unfold rb at h
  split at h
  ·rename_i hh x
   obtain ⟨AA, L, M, a, t, dx, nm, k, i, rfl, hx, hn, ha, ht, hv, q⟩ := h
   refine bj (b := aS pP) ((Dv.au (Dv.ba (Dv.bg mC (Dv.call G_thing_at (hr.mono (by decide)) T.jH.m T.jH.F.kp T.jH.b .nil aw (Dv.ag (Dv.v 0) (Dv.ag (Dv.v 1) Dv.ai))) Dv.aq) (Dv.au Dv.bE) Dv.nil))) ?_
   rw [show start ["house", "seat"] [V.ref AA.a, V.ref x] = [some (V.ref AA.a), some (V.ref x)] from rfl]
   walk_at "w"
   refine ⟨AA, L, M, a, t, dx, nm, k, i, rfl, hx, hn, ha, ht, fun H1 s1 => ?_⟩
   rw [hv]
   exact ⟨trivial, aO (q H1 s1)⟩
  ·exact h.elim
section
variable {CH CS CT : Addr} {H H' : Hp} {A : Ad} {L : List Ta} {M : Hs}
theorem aG.some (i : aG CH CS CT H A L M) : ∀ b ∈ A.w ++ L.flatMap Ta.l, ∃ o, H b = .some o := fun b hb => by
 rcases List.mem_append.mp hb with h | h
 ·simp only [Ad.w, List.mem_cons, List.not_mem_nil, or_false] at h
  rcases h with rfl | rfl | rfl | rfl | rfl | rfl | rfl | rfl
  ·obtain ⟨_, _, e, _⟩ := i.h; exact ⟨_, e⟩
  ·obtain ⟨_, _, e, _⟩ := i.t; exact ⟨_, e⟩
  ·exact ⟨_, i.ml⟩
  ·exact ⟨_, i.ro⟩
  ·exact ⟨_, i.st⟩
  ·exact ⟨_, i.tr⟩
  ·exact ⟨_, i.ov⟩
  ·exact ⟨_, i.un⟩
 ·obtain ⟨a, ha, hb⟩ := List.mem_flatMap.mp h
  obtain ⟨k, hk⟩ := List.getElem?_of_mem ha
  have hlt : k < M.ts.length := by rw [← i.len]; exact (List.getElem?_eq_some_iff.mp hk).1
  obtain ⟨a', e1, t⟩ := i.th k _ (List.getElem?_eq_getElem hlt)
  rw [hk] at e1
  cases e1
  simp only [Ta.l, List.mem_cons, List.not_mem_nil, or_false] at hb
  rcases hb with rfl | rfl | rfl
  ·obtain ⟨_, e, _⟩ := t.o; exact ⟨_, e⟩
  ·exact ⟨_, t.nm⟩
  ·exact ⟨_, t.pl⟩
theorem aG.add {th bJ nm pl : Addr} {ks : List (Str × V)} {kd ow mi re tx : Str} (i : aG CH CS CT H A L M) (f1 : H th = none) (f2 : H nm = none) (f3 : H pl = none) (at' : ik CS H' A.t A.dt A.ml ((L.map fun a => V.ref a.th) ++ [.ref th])) (hth : H' th = Option.some (.ins CT bJ ks)) (kl : ks.length ≤ 40)
  (sk : bQ ks (lL (.int (L.length : Nat)) (.str kd) (.str ow) (.str mi) (.str re) (.str tx) (.ref nm) (.ref pl))) (hnm : H' nm = Option.some (.dK [])) (hpl : H' pl = Option.some (.dT [])) (kp : Kp [A.t, A.ml] H H') :
  aG CH CS CT H' A (L ++ [⟨th, bJ, nm, pl⟩]) { M with ts := M.ts ++ [⟨kd, ow, mi, re, tx, [], []⟩] } := by
 have nd := i.nd
 have sm := i.some
 have nw : ∀ b ∈ A.w ++ L.flatMap Ta.l, b ≠ th ∧ b ≠ nm ∧ b ≠ pl := fun b hb => by
  obtain ⟨o, e⟩ := sm b hb
  exact ⟨aF e f1, aF e f2, aF e f3⟩
 have h12 : th ≠ nm := bu hth hnm (by nofun)
 have h13 : th ≠ pl := bu hth hpl (by nofun)
 have h23 : nm ≠ pl := bu hnm hpl (by nofun)
 have n0 := nd
 rw [List.nodup_append] at n0
 obtain ⟨n1, n2, n3⟩ := n0
 simp only [Ad.w, List.nodup_cons, List.mem_cons, List.not_mem_nil, or_false, not_or] at n1
 have kA : ∀ b ∈ [A.a, A.ro, A.st, A.tr, A.ov, A.un], b ∉ [A.t, A.ml] := by
  intro b hb hm
  simp only [List.mem_cons, List.not_mem_nil, or_false] at hb hm
  rcases hb with rfl | rfl | rfl | rfl | rfl | rfl <;> rcases hm with h | h
  ·exact n1.1.1 h
  ·exact n1.1.2.1 h
  ·exact n1.2.1.2.1 h.symm
  ·exact n1.2.2.1.1 h.symm
  ·exact n1.2.1.2.2.1 h.symm
  ·exact n1.2.2.1.2.1 h.symm
  ·exact n1.2.1.2.2.2.1 h.symm
  ·exact n1.2.2.1.2.2.1 h.symm
  ·exact n1.2.1.2.2.2.2.1 h.symm
  ·exact n1.2.2.1.2.2.2.1 h.symm
  ·exact n1.2.1.2.2.2.2.2 h.symm
  ·exact n1.2.2.1.2.2.2.2 h.symm
 refine ⟨?_, at'.o, ?_, by simp [i.len], fun j t e => ?_, kp _ _ (kA _ (by simp)) i.ro, kp _ _ (kA _ (by simp)) i.st, kp _ _ (kA _ (by simp)) i.tr, kp _ _ (kA _ (by simp)) i.ov, kp _ _ (kA _ (by simp)) i.un, ?_⟩
 ·obtain ⟨fs, c, e, r⟩ := i.h
  exact ⟨fs, c, kp _ _ (kA _ (by simp)) e, r⟩
 ·rw [at'.ml]; simp
 ·have e' : (M.ts ++ [(⟨kd, ow, mi, re, tx, [], []⟩ : Th)])[j]? = .some t := e
  by_cases hj : j < M.ts.length
  ·rw [List.getElem?_append_left hj] at e'
   obtain ⟨a, e1, h1⟩ := i.th j t e'
   refine ⟨a, by rw [List.getElem?_append_left (by rw [i.len]; exact hj)]; exact e1, h1.keep kp fun b hb hm => ?_⟩
   have hbf := eZ e1 hb
   simp only [List.mem_cons, List.not_mem_nil, or_false] at hm
   rcases hm with rfl | rfl
   ·exact n3 _ (by simp [Ad.w]) _ hbf rfl
   ·exact n3 _ (by simp [Ad.w]) _ hbf rfl
  ·rw [List.getElem?_append_right (by omega)] at e'
   have hj0 : j - M.ts.length = 0 := by
    rcases Nat.eq_zero_or_pos (j - M.ts.length) with h | h
    ·exact h
    ·rw [List.getElem?_eq_none (by simp; omega)] at e'; cases e'
   rw [hj0] at e'
   cases e'
   have hjl : j = L.length := by rw [i.len]; omega
   subst hjl
   exact ⟨_, by rw [List.getElem?_append_right (Nat.le_refl _), Nat.sub_self]; rfl, ⟨⟨ks, hth, kl, sk⟩, hnm, hpl⟩⟩
 ·rw [List.flatMap_append, ← List.append_assoc, List.nodup_append]
  refine ⟨nd, ?_, fun b hb c hc e => ?_⟩
  ·simp only [List.flatMap_cons, List.flatMap_nil, List.append_nil, Ta.l, List.nodup_cons, List.mem_cons, List.not_mem_nil, or_false, not_or, not_false_eq_true, List.nodup_nil, and_true]
   exact ⟨⟨h12, h13⟩, h23⟩
  ·obtain ⟨q1, q2, q3⟩ := nw b hb
   simp only [List.flatMap_cons, List.flatMap_nil, List.append_nil, Ta.l, List.mem_cons, List.not_mem_nil, or_false] at hc
   rcases hc with h | h | h
   ·exact q1 (e.trans h)
   ·exact q2 (e.trans h)
   ·exact q3 (e.trans h)
end
def uc (CH CS CT CE : Addr) : Sp := fun vs H Q _ => match vs with
 | [.ref h, .str z, .str pt] => ∃ A L M t qs nm bs ns, ∃ e : Nat, ∃ ae te, pt = Tx.S t ∧ kS t qs nm ∧ aG CH CS CT H A L M ∧ A.a = h ∧ Goes M L z (cy t) (qs.map Tx.S ++ [("." : Str)]) bs e ns ∧ L[e]? = some ae ∧ M.ts[e]? = some te ∧ eM ("w" : Str) (cU te z) = true ∧ aH (sD te.aW) (.inr (Tx.S nm)) = none ∧
   ∀ x dx H', H x = none → ax H H' → H' x = some (.ins CE dx (aa "name" (.str (Tx.S nm)) (aa "folder" (.int (e : Int)) []))) → Q (.ref x) H'
 | _ => False
theorem JK (T : Tx K mg) : aB P w K mg base aK 12 T.jk.f T.jk.d ["house", "asker", "path"] (uc T.aj T.ay T.aA T.dY) := by
 have G_seat_of := GA (P := P) (w := w) (base := base) T
 have wt := yR (P := P) (w := w) (base := base) T
 have G_check_free := Gu (P := P) (w := w) (base := base) T
 refine T.jk.F.ok yj (fun vs H Q E h => ?_) (fun cdv A outer s H vs Q E hr h => ?_)
 ·unfold uc at h
  split at h
  ·rfl
  ·exact h.elim
 ·unfold uc at h
  split at h
  ·rename_i hh z pt
   obtain ⟨AA, L, M, t, qs, nm, bs, ns, e, ae, te, rfl, sp, i, rfl, g, hae, hte, hw, hv, q⟩ := h
   have hzz : (aH (sD M.ro) (.inr z)).isSome = true := by obtain ⟨root, _, _, _, _, _, hz, _⟩ := g.ex; rw [hz]; rfl
   refine bj (b := aS ud) ((Dv.cut (Dv.aN 3 yj.nd (Dv.call G_seat_of (hr.mono (by decide)) T.jG.m T.jG.F.kp T.jG.b .nil aw (Dv.ag (Dv.v 0) (Dv.ag (Dv.v 1) (Dv.ag (Dv.v 2) Dv.ai)))))
   (Dv.cut (Dv.aU (Dv.call wt (hr.mono (by decide)) T.ff.m T.ff.F.kp T.ff.b .nil aw (Dv.ag (Dv.v 0) (Dv.ag (Dv.v 1) (Dv.ag (Dv.fld T.gM T.n9 (Dv.v 3)) Dv.ai)))))
   (Dv.cut (Dv.aU (Dv.call G_check_free (hr.mono (by decide)) T.jr.m T.jr.F.kp T.jr.b .nil aw (Dv.ag (Dv.v 0) (Dv.ag (Dv.v 3) Dv.ai))))
   (Dv.au (Dv.aM (Dv.v 3))))))) ?_
   rw [show start ["house", "asker", "path", "seat"] [V.ref AA.a, V.str z, V.str (Tx.S t)] = [some (V.ref AA.a), some (V.str z), some (V.str (Tx.S t)), none] from rfl]
   refine ao ?_
   walk_at "w"
   refine ⟨AA, L, M, t, qs, nm, bs, e, ns, rfl, sp, i, rfl, g, fun x dx H1 fx s1 hx => ao ?_⟩
   walk_at "w"
   have i1 := i.same s1
   refine ⟨x, _, _, _, rfl, hx, rfl, AA, L, M, te, e, rfl, i1, rfl, hzz, hte, hw, ao ?_⟩
   walk_at "w"
   exact ⟨AA, L, M, ae, te, dx, nm, e, i1, rfl, hx, sp.hn, hae, hte, hv, fun H2 s2 => q x dx H2 fx (s1.trans s2) (s2 _ _ hx)⟩
  ·exact h.elim
def nz (CH CS CT CE : Addr) : Sp := fun vs H Q _ => match vs with
 | [.ref h, .ref x, .int n] => ∃ A L M, ∃ f k : Nat, ∃ af tf ak tk dx nm, aG CH CS CT H A L M ∧ A.a = h ∧ H x = some (.ins CE dx (aa "name" (.str nm) (aa "folder" (.int (f : Int)) []))) ∧ n = (k : Int) ∧ L[f]? = some af ∧ M.ts[f]? = some tf ∧ L[k]? = some ak ∧ M.ts[k]? = some tk ∧ f ≠ k ∧ aH (sD tf.aW) (.inr nm) = none ∧ tf.aW.length ≤ 500 ∧ tk.bz = [] ∧
   ∀ H', aG CH CS CT H' A L { M with ts := (M.ts.set f { tf with aW := tf.aW ++ [(nm, k)] }).set k { tk with bz := [(f, nm)] } } → Kp [A.t, af.nm, ak.pl] H H' → Q (.int (k : Int)) H'
 | _ => False
theorem En (T : Tx K mg) : aB P w K mg base aK 6 T.jE.f T.jE.d ["house", "seat", "number"] (nz T.aj T.ay T.aA T.dY) := by
 have G_Things_put_name := HV (P := P) (w := w) (base := base) T
 refine T.jE.F.ok Ki (fun vs H Q E h => ?_) (fun cdv A outer s H vs Q E hr h => ?_)
 ·unfold nz at h
  split at h
  ·rfl
  ·exact h.elim
 ·unfold nz at h
  split at h
  ·rename_i hh x n
   obtain ⟨AA, L, M, f, k, af, tf, ak, tk, dx, nm, i, rfl, hx, rfl, haf, htf, hak, cR, hne, hv, hl, hpl, q⟩ := h
   obtain ⟨gfs, gc, gh, ghl, gsf⟩ := i.h
   obtain ⟨gs, c2, ht, hgl, sg⟩ := i.t
   refine bj (b := aS qQ) ((Dv.cut (Dv.aU (Dv.aY T.bO T.kh.h G_Things_put_name (hr.mono (by decide)) T.kh.b .nil aw (Dv.fld T.aI T.eI (Dv.v 0)) (Dv.ag (Dv.fld T.gM T.n9 (Dv.v 1)) (Dv.ag (Dv.fld T.gM T.qi (Dv.v 1)) (Dv.ag (Dv.v 2) Dv.ai)))))
   (Dv.au (Dv.aM (Dv.v 2))))) ?_
   rw [show start ["house", "seat", "number"] [V.ref AA.a, V.ref x, V.int (k : Int)] = [some (V.ref AA.a), some (V.ref x), some (V.int (k : Int))] from rfl]
   refine ao ?_
   walk_at "w"
   exact ⟨AA.a, _, _, _, rfl, gh, (gsf _).trans rfl, AA.t, _, _, rfl, ht, (sg _).trans rfl, x, _, _, _, rfl, hx, rfl, x, _, _, _, rfl, hx, rfl, AA, L, M, f, k, af, tf, ak, tk, i, rfl, rfl, rfl, haf, htf, hak, cR, hne, hv, hl, hpl, q⟩
  ·exact h.elim
def kW (CH CS CT : Addr) (A : Ad) (L : List Ta) (M : Hs) (f : Nat) (t0 : Th) (a0 : Ta) (nm kd ow mi re tx : Str) (H : Hp) (Q : VK) : Prop :=
 ∀ a H', aG CH CS CT H' A (L ++ [a]) { M with ts := M.ts.set f { t0 with aW := t0.aW ++ [(nm, M.ts.length)] } ++ [⟨kd, ow, mi, re, tx, [], [(f, nm)]⟩] } → Kp [A.t, A.ml, a0.nm] H H' → Q (.int (M.ts.length : Nat)) H'
theorem sC {α : Type} {y b : α} : ∀ r : List α, (r ++ [y]).set r.length b = r ++ [b]
 | [] => rfl
 | c :: r => by simp only [List.cons_append, List.length_cons, List.set_cons_succ]; rw [sC r]
theorem Ku {α : Type} : ∀ {xs : List α} {f : Nat} {y a b : α}, f < xs.length → ((xs ++ [y]).set f a).set xs.length b = xs.set f a ++ [b] := fun {xs f y a b} h => by
 rw [List.set_append_left _ _ h]
 have := sC (y := y) (b := b) (xs.set f a)
 rwa [List.length_set] at this
theorem Gj {CH CS CT CE : Addr} {H : Hp} {A : Ad} {L : List Ta} {M : Hs} {f : Nat} {z nm kd mi re tx : Str} {a0 : Ta} {t0 : Th} {x dx : Addr} {Q : VK} {E : XK} (i : aG CH CS CT H A L M) (gA : L[f]? = some a0) (kU : M.ts[f]? = some t0) (hx : H x = some (.ins CE dx (aa "name" (.str nm) (aa "folder" (.int (f : Int)) [])))) (hv : aH (sD t0.aW) (.inr nm) = none) (hl : t0.aW.length ≤ 400)
  (nx1 : x ≠ A.t) (mp : kW CH CS CT A L M f t0 a0 nm kd z mi re tx H Q) : qj CS CT A.t A.dt A.ml (L.map fun a => V.ref a.th) (.str kd) (.str z) (.str mi) (.str re) (.str tx) H (fun v H' => nz CH CS CT CE [.ref A.a, .ref x, v] H' Q E) := by
 intro th bJ nm' pl ks H' f1 f2 f3 at' hth kl sk hnm hpl kp
 have nx2 : x ≠ A.ml := bu hx i.ml (by nofun)
 have hlen : (L.map fun a => V.ref a.th).length = L.length := List.length_map _
 rw [hlen] at sk ⊢
 have i2 := i.add f1 f2 f3 at' hth kl sk hnm hpl kp
 have h0 : f < M.ts.length := (List.getElem?_eq_some_iff.mp kU).1
 have hLM := i.len
 have e0 : (M.ts ++ [(⟨kd, z, mi, re, tx, [], []⟩ : Th)])[f]? = some t0 := by rw [List.getElem?_append_left h0]; exact kU
 have ek : (M.ts ++ [(⟨kd, z, mi, re, tx, [], []⟩ : Th)])[L.length]? = some ⟨kd, z, mi, re, tx, [], []⟩ := by rw [hLM, List.getElem?_append_right (Nat.le_refl _), Nat.sub_self]; rfl
 refine ⟨A, L ++ [⟨th, bJ, nm', pl⟩], _, f, L.length, a0, t0, ⟨th, bJ, nm', pl⟩, ⟨kd, z, mi, re, tx, [], []⟩, dx, nm, i2, rfl, kp _ _ (by simp [nx1, nx2]) hx, rfl, by rw [List.getElem?_append_left (by omega)]; exact gA, e0, by rw [List.getElem?_append_right (Nat.le_refl _), Nat.sub_self]; rfl, ek, by omega, hv, by omega, rfl, fun H2 i3 k3 => ?_⟩
 have := mp ⟨th, bJ, nm', pl⟩ H2 (by
  have e := i3
  dsimp only at e
  rw [hLM] at e
  rw [Ku h0] at e
  exact e) (fun b o hb e => ?_)
 ·rw [hLM]; exact this
 ·simp only [List.mem_cons, List.not_mem_nil, or_false, not_or] at hb
  have nbp : b ≠ pl := aF e f3
  exact k3 _ _ (by simp [hb.1, hb.2.2, nbp]) (kp _ _ (by simp [hb.1, hb.2.1]) e)
structure ox (CH CS CT : Addr) (H : Hp) (A : Ad) (L : List Ta) (M : Hs) (z : Str) (t : List Nat) (f : Nat) (a0 : Ta) (t0 : Th) (nm : List Nat) : Prop where
 i : aG CH CS CT H A L M
 ex : ∃ qs bs ns, kS t qs nm ∧ Goes M L z (cy t) (qs.map Tx.S ++ [("." : Str)]) bs f ns
 gA : L[f]? = some a0
 kU : M.ts[f]? = some t0
 hw : eM ("w" : Str) (cU t0 z) = true
 hv : aH (sD t0.aW) (.inr (Tx.S nm)) = none
 hl : t0.aW.length ≤ 400
 hL : L.length ≤ 400
theorem ox.xp {CH CS CT : Addr} {H : Hp} {A : Ad} {L : List Ta} {M : Hs} (i : aG CH CS CT H A L M) : ik CS H A.t A.dt A.ml (L.map fun a => V.ref a.th) := ⟨i.t, i.ml⟩
theorem kW.of {CH CS CT : Addr} {H H1 : Hp} {A : Ad} {L : List Ta} {M : Hs} {f : Nat} {t0 : Th} {a0 : Ta} {nm kd ow mi re tx : Str} {Q : VK} (s : ax H H1) (m : kW CH CS CT A L M f t0 a0 nm kd ow mi re tx H Q) : kW CH CS CT A L M f t0 a0 nm kd ow mi re tx H1 Q := fun a H' i k => m a H' i ((Kp.of s).trans k)
def mY (CH CS CT : Addr) : Sp := fun vs H Q _ => match vs with
 | [.ref h, .str z, .str pt, .str mi, .str re] => ∃ A L M t f a0 t0, ∃ nm : List Nat, pt = Tx.S t ∧ ox CH CS CT H A L M z t f a0 t0 nm ∧ A.a = h ∧ mi ∈ j8 ∧ re ∈ j8 ∧ kW CH CS CT A L M f t0 a0 (Tx.S nm) "folder" z mi re "" H Q
 | _ => False
theorem Ct (T : Tx K mg) : aB P w K mg base aK 13 T.vz T.l8 ["house", "asker", "path", "mine", "rest"] (mY T.aj T.ay T.aA) := by
 have dB := ic (P := P) (w := w) (base := base) T
 have fQ := lW (P := P) (w := w) (base := base) T
 have BP := Em (P := P) (w := w) (base := base) T
 have G_free_seat_of := JK (P := P) (w := w) (base := base) T
 have mw := qD (P := P) (w := w) (base := base) T
 have G_seat_thing := En (P := P) (w := w) (base := base) T
 refine T.n6.ok AQ (fun vs H Q E h => ?_) (fun cdv A outer s H vs Q E hr h => ?_)
 ·unfold mY at h
  split at h
  ·rfl
  ·exact h.elim
 ·unfold mY at h
  split at h
  ·rename_i hh z pt mi re
   obtain ⟨AA, L, M, t, f, a0, t0, nm, rfl, pr, rfl, hmi, hre, mp⟩ := h
   obtain ⟨gfs, gc, gh, ghl, gsf⟩ := pr.i.h
   obtain ⟨qs, bs, ns, sp, g⟩ := pr.ex
   have hzz : (aH (sD M.ro) (.inr z)).isSome = true := by obtain ⟨root, _, _, _, _, _, hz, _⟩ := g.ex; rw [hz]; rfl
   refine bj (b := aS iZ) ((Dv.cut (Dv.aU (Dv.cK T.aI T.cF.h dB (hr.mono (by decide)) T.cF.b .nil c8 (Dv.v 0) (Dv.ag (Dv.v 1) Dv.ai)))
   (Dv.cut (Dv.aU (Dv.call fQ (hr.mono (by decide)) T.cx.m T.cx.F.kp T.cx.b .nil aw (Dv.ag (Dv.v 2) Dv.ai)))
   (Dv.cut (Dv.aU (Dv.call BP (hr.mono (by decide)) T.fB.m T.fB.F.kp T.fB.b .nil aw (Dv.ag (Dv.v 3) Dv.ai)))
   (Dv.cut (Dv.aU (Dv.call BP (hr.mono (by decide)) T.fB.m T.fB.F.kp T.fB.b .nil aw (Dv.ag (Dv.v 4) Dv.ai)))
   (Dv.cut (Dv.aN 5 AQ.nd (Dv.call G_free_seat_of (hr.mono (by decide)) T.jk.m T.jk.F.kp T.jk.b .nil aw (Dv.ag (Dv.v 0) (Dv.ag (Dv.v 1) (Dv.ag (Dv.v 2) Dv.ai)))))
   (Dv.au (Dv.aM (Dv.call G_seat_thing (hr.mono (by decide)) T.jE.m T.jE.F.kp T.jE.b .nil aw (Dv.ag (Dv.v 0) (Dv.ag (Dv.v 5) (Dv.ag (Dv.aY T.bO T.eY.h mw (hr.mono (by decide)) T.eY.b .nil aw (Dv.fld T.aI T.eI (Dv.v 0)) (Dv.ag (Dv.v 1) (Dv.ag (Dv.v 3) (Dv.ag (Dv.v 4) Dv.ai)))) Dv.ai)))))))))))) ?_
   rw [show start ["house", "asker", "path", "mine", "rest", "seat"] [V.ref AA.a, V.str z, V.str (Tx.S t), V.str mi, V.str re] = [some (V.ref AA.a), some (V.str z), some (V.str (Tx.S t)), some (V.str mi), some (V.str re), none] from rfl]
   refine ao ?_
   walk_at "w"
   refine ⟨AA.a, _, _, rfl, gh, (gsf _).trans rfl, jx pr.i hzz (ao ?_)⟩
   walk_at "w"
   refine ⟨t, rfl, sp.l1, sp.l2, sp.all, fun H1 l p s1 _ hl hp => ao ?_⟩
   walk_at "w"
   refine ⟨hmi, ao ?_⟩
   walk_at "w"
   refine ⟨hre, ao ?_⟩
   walk_at "w"
   refine ⟨AA, L, M, t, qs, nm, bs, ns, f, a0, t0, rfl, sp, pr.i.same s1, rfl, g, pr.gA, pr.kU, pr.hw, pr.hv, fun x dx H2 fx s2 hx => ?_⟩
   walk_at "w"
   have i2 := pr.i.same (s1.trans s2)
   obtain ⟨gfs2, gc2, gh2, ghl2, gsf2⟩ := i2.h
   obtain ⟨gs, c2, ht, hgl, sg⟩ := i2.t
   obtain ⟨_, _, ht1, _⟩ := (pr.i.same s1).t
   refine ⟨AA.a, _, _, _, rfl, gh2, (gsf2 _).trans rfl, AA.t, _, _, rfl, ht, (sg _).trans rfl, AA.dt, AA.ml, _, ox.xp i2, by rw [List.length_map]; have := pr.hL; omega, Gj i2 pr.gA pr.kU hx pr.hv pr.hl (Ne.symm (aF ht1 fx)) (mp.of (s1.trans s2))⟩
  ·exact h.elim
def uB (CH CS CT : Addr) : Sp := fun vs H Q _ => match vs with
 | [.ref x, .str m, .str own] => ∃ A L M, aG CH CS CT H A L M ∧ A.a = x ∧ aH (sD M.tr) (.inr m) = none ∧ L.length ≤ 400 ∧ M.tr.length ≤ 40 ∧
   ∀ a' H', aG CH CS CT H' A (L ++ [a']) { M with ts := M.ts ++ [⟨"folder", own, "lgw", "lg", "", [], []⟩], tr := M.tr ++ [(m, M.ts.length)] } → Kp [A.a, A.t, A.ml, A.tr] H H' → Q (.int (M.ts.length : Nat)) H'
 | _ => False
theorem Et (T : Tx K mg) : aB P w K mg base aK 5 T.eU.f T.eU.d ["self", "tree", "owner"] (uB T.aj T.ay T.aA) := by
 have mw := qD (P := P) (w := w) (base := base) T
 refine T.eU.F.ok nv (fun vs H Q E h => ?_) (fun cdv A outer s H vs Q E hr h => ?_)
 ·unfold uB at h
  split at h
  ·rfl
  ·exact h.elim
 ·unfold uB at h
  split at h
  ·rename_i x m own
   obtain ⟨AA, L, M, i, rfl, hm, hL, htl, q⟩ := h
   obtain ⟨fs, c, hx, hfl, sf⟩ := i.h
   obtain ⟨gs, c2, ht, hgl, sg⟩ := i.t
   refine ⟨_, ((Dv.cut (Dv.aN 3 nv.nd (Dv.aY T.bO T.eY.h mw (hr.mono (by decide)) T.eY.b .nil aw (Dv.fld T.aI T.eI (Dv.v 0)) (Dv.ag (Dv.v 2) (Dv.ag Dv.str (Dv.ag Dv.str Dv.ai)))))
   (Dv.cut (Dv.fi T.aI T.iF eX (Dv.v 0) Dv.int)
   (Dv.cut (Dv.f7 (bX hr) (Dv.fld T.aI T.ij (Dv.v 0)) (Dv.v 1) (Dv.v 3))
   (Dv.au (Dv.aM (Dv.v 3))))))).h, ?_⟩
   rw [show start ["self", "tree", "owner", "root"] [V.ref AA.a, V.str m, V.str own] = [some (V.ref AA.a), some (V.str m), some (V.str own), none] from rfl]
   refine ao ?_
   walk_at "w"
   refine ⟨AA.a, _, fs, .ref AA.t, rfl, hx, (sf _).trans rfl, AA.t, _, gs, rfl, ht, (sg _).trans rfl, ?_⟩
   refine ⟨AA.dt, AA.ml, _, ox.xp i, by rw [List.length_map]; omega, ?_⟩
   intro th bJ nm pl ks H1 f1 f2 f3 at1 hth1 hkl1 sk1 hnm1 md kp1
   have hlen : (L.map fun a => V.ref a.th).length = L.length := List.length_map _
   rw [hlen] at sk1 ⊢
   have i1 := i.add f1 f2 f3 at1 hth1 hkl1 sk1 hnm1 md kp1
   obtain ⟨fs1, c1, hx1, dC, sf1⟩ := i1.h
   obtain ⟨e1, e2, e3, e4, e5, e6, e7, e8, e9, e10, e11, e12, e13, e14, e15⟩ := i1.oJ
   have hLM := i.len
   refine ao ?_
   walk_at "w"
   refine ⟨AA.a, _, fs1, .int c1, rfl, hx1, (sf1 _).trans rfl, _, _, rfl, rfl, _, fs1, hx1, by omega, ao ?_⟩
   walk_at "w"
   refine ⟨AA.a, _, _, .ref AA.tr, rfl, az, by rw [bS, if_neg (by decide)]; exact (sf1 _).trans rfl, AA.tr, _, rfl, cZ.k (k := .inr m) (by rw [ah e3]; exact i1.tr) (di (by rw [uG]; show M.tr.length ≤ 1000; omega)), ?_⟩
   rw [show ((L.length : Nat) : Int) = ((M.ts.length : Nat) : Int) by rw [hLM]]
   rw [oF (l := M.tr) hm]
   walk_at "w"
   refine q ⟨th, bJ, nm, pl⟩ _ (i1.oe (ro' := M.ro) (st' := M.st) (tr' := M.tr ++ [(m, M.ts.length)]) (ov' := M.ov) (un' := M.un) ⟨aa "changes" (.int (c1 + 1)) fs1, c1 + 1, by rw [ah (Ne.symm e3), az], by rw [cC (u := .int c1) ((sf1 _).trans rfl)]; exact dC, fun f => ((sf1.put "changes" (.int (c1 + 1))) f).trans rfl⟩ (by rw [ah (Ne.symm e7), ah e1]; exact i1.ro) (by rw [ah (Ne.symm e10), ah e2]; exact i1.st) az (by rw [ah e13, ah e4]; exact i1.ov) (by rw [ah e14, ah e5]; exact i1.un) ?_) ?_
   ·intro b o hb e
    simp only [List.mem_cons, List.not_mem_nil, or_false, not_or] at hb
    rw [ah hb.2.2.2.1, ah hb.1]; exact e
   ·intro b o hb e
    simp only [List.mem_cons, List.not_mem_nil, or_false, not_or] at hb
    rw [ah hb.2.2.2, ah hb.1]
    exact kp1 _ _ (by simp [hb.2.1, hb.2.2.1]) e
  ·exact h.elim
def nX (CH CS CT : Addr) : Sp := fun vs H Q _ => match vs with
 | [.ref x, .str z, .str m] => ∃ A L M, aG CH CS CT H A L M ∧ A.a = x ∧ (aH (sD M.ro) (.inr z)).isSome = true ∧ dw (.str m) = true ∧ m.length ≤ 1000 ∧ cW (V.str m) ((cM M).map V.str) = false ∧ aH (sD M.tr) (.inr m) = none ∧ L.length ≤ 400 ∧ M.tr.length ≤ 40 ∧
   ∀ a' H', aG CH CS CT H' A (L ++ [a']) { M with ts := M.ts ++ [⟨"folder", z, "lgw", "lg", "", [], []⟩], tr := M.tr ++ [(m, M.ts.length)] } → Kp [A.a, A.t, A.ml, A.tr] H H' → Q (.int (M.ts.length : Nat)) H'
 | _ => False
theorem Dk (T : Tx K mg) : aB P w K mg base aK 6 T.jA.f T.jA.d ["house", "asker", "tree"] (nX T.aj T.ay T.aA) := by
 have dB := ic (P := P) (w := w) (base := base) T
 have il := nZ (P := P) (w := w) (base := base) T
 have wj := zG (P := P) (w := w) (base := base) T
 have vH := Et (P := P) (w := w) (base := base) T
 refine T.jA.F.ok GL (fun vs H Q E h => ?_) (fun cdv A outer s H vs Q E hr h => ?_)
 ·unfold nX at h
  split at h
  ·rfl
  ·exact h.elim
 ·unfold nX at h
  split at h
  ·rename_i x z m
   obtain ⟨AA, L, M, i, rfl, hz, hn, hnl, hin, hv, hL, htl, q⟩ := h
   obtain ⟨fs, c, hx, hfl, sf⟩ := i.h
   refine bj (b := aS pL) ((Dv.cut (Dv.aU (Dv.cK T.aI T.cF.h dB (hr.mono (by decide)) T.cF.b .nil c8 (Dv.v 0) (Dv.ag (Dv.v 1) Dv.ai)))
   (Dv.cut (Dv.aU (Dv.call il (hr.mono (by decide)) T.cO.m T.cO.F.kp T.cO.b .nil aw (Dv.ag (Dv.v 2) Dv.ai)))
   (Dv.cut (Dv.ba (Dv.bg (oh (K := K) rfl) (Dv.v 2) (Dv.lT T.aI T.gX.h wj (hr.mono (by decide)) T.gX.b .nil aw (Dv.v 0))) (Dv.au Dv.bE) Dv.nil)
   (Dv.au (Dv.aM (Dv.aY T.aI T.eU.h vH (hr.mono (by decide)) T.eU.b .nil aw (Dv.v 0) (Dv.ag (Dv.v 2) (Dv.ag (Dv.v 1) Dv.ai))))))))) ?_
   rw [show start ["house", "asker", "tree"] [V.ref AA.a, V.str z, V.str m] = [some (V.ref AA.a), some (V.str z), some (V.str m)] from rfl]
   refine ao ?_
   walk_at "w"
   refine ⟨AA.a, _, _, rfl, hx, (sf _).trans rfl, jx i hz (ao ?_)⟩
   walk_at "w"
   refine ⟨⟨_, rfl⟩, hnl, hn, fun H1 s1 => ao ?_⟩
   have i1 := i.same s1
   obtain ⟨fs1, c1, hx1, dC, sf1⟩ := i1.h
   walk_at "w"
   refine ⟨AA.a, _, _, rfl, hx1, (sf1 _).trans rfl, AA, L, M, i1, rfl, by omega, fun l hl => ?_⟩
   have s2 := ax.upd (o := .lst ((cM M).map V.str)) hl
   have b2 : upd H1 l (.lst ((cM M).map V.str)) l = some (.lst ((cM M).map V.str)) := az
   generalize upd H1 l (.lst ((cM M).map V.str)) = H2 at s2 b2 ⊢
   have i2 := i1.same s2
   obtain ⟨fs2, c2, hx2, fX, sf2⟩ := i2.h
   simp only [bp, b2]
   refine ⟨rfl, by simp [cb], ?_⟩
   rw [hin]
   refine aO ?_
   walk_at "w"
   exact ⟨AA.a, _, _, rfl, hx2, (sf2 _).trans rfl, AA, L, M, i2, rfl, hv, hL, htl, fun a' H' i' k' => q a' H' i' ((Kp.of (s1.trans s2)).trans k')⟩
  ·exact h.elim
def iM (M : Hs) (L : List Ta) (o : Str) : Nat → Str → Bool → Prop
 | n, y, v => if y = o then v = true else ∃ r : Nat, aH (sD M.tr) (.inr y) = some (.int (r : Int)) ∧ ((aH (nD M.un) (.inl (r : Int)) = none ∧ v = false) ∨ ∃ (f u : Nat) (y' : Str), aH (nD M.un) (.inl (r : Int)) = some (.int (f : Int)) ∧ (∃ m, eT M L m f u) ∧ kz M u y' ∧ match n with | 0 => False | n + 1 => iM M L o n y' v)
def rK (CH CS CT : Addr) : Sp := fun vs H Q _ => match vs with
 | [.ref x, .str y, .str o] => ∃ A L M v, aG CH CS CT H A L M ∧ A.a = x ∧ M.tr.length < 64 ∧ (∃ m, iM M L o m y v) ∧ ∀ H', ax H H' → Q (.bl v) H'
 | _ => False
theorem Df (T : Tx K mg) : aB P w K mg base aK 6 T.jw.f T.jw.d ["house", "tree", "other"] (rK T.aj T.ay T.aA) := by
 have vP := wX (P := P) (w := w) (base := base) T
 have mf := sE (P := P) (w := w) (base := base) T
 refine T.jw.F.ok nU (fun vs H Q E h => ?_) (fun cdv A outer s H vs Q E hr h => ?_)
 ·unfold rK at h
  split at h
  ·rfl
  ·exact h.elim
 ·unfold rK at h
  split at h
  ·rename_i x y o
   obtain ⟨AA, L, M, v, i, rfl, h64, ⟨m, hm⟩, q⟩ := h
   refine bj (b := aS r0) ((Dv.cut (Dv.aN 3 nU.nd (Dv.v 1))
   (Dv.cut (Dv.f9 PassesOwn.never (Dv.bg eP (Dv.v 3) (Dv.v 2)) (Dv.cut (Dv.aN 4 nU.nd (Dv.aY T.aI T.gT.h vP (hr.mono (by decide)) T.gT.b .nil aw (Dv.v 0) (Dv.ag (Dv.v 3) Dv.ai)))
   (Dv.cut (Dv.ba (Dv.bg iP (Dv.v 4) Dv.aq) (Dv.au (Dv.aM Dv.bl)) Dv.nil)
   (Dv.au (Dv.aN 3 nU.nd (Dv.call mf (hr.mono (by decide)) T.dX.m T.dX.F.kp T.dX.b .nil aw (Dv.ag (Dv.v 0) (Dv.ag (Dv.v 4) Dv.ai))))))))
   (Dv.au (Dv.aM Dv.bl))))) ?_
   rw [show start ["house", "tree", "other", "here", "folder"] [V.ref AA.a, V.str y, V.str o] = [some (V.ref AA.a), some (V.str y), some (V.str o), none, none] from rfl]
   refine ao ?_
   walk_at "w"
   obtain ⟨PV, hPV⟩ : ∃ PV : Nat → St → Hp → Prop, PV = fun m σ' H' => ax H H' ∧ ∃ (y' : Str) (pv : Option V), σ' = [some (V.ref AA.a), some (V.str y), some (V.str o), some (V.str y'), pv] ∧ iM M L o m y' v := ⟨_, rfl⟩
   refine ao ⟨PV, ⟨m, by rw [hPV]; exact ⟨ax.refl _, y, none, rfl, hm⟩⟩, ?_⟩
   clear hm
   intro m σ' H' hI
   rw [hPV] at hI
   obtain ⟨s', y', pv, rfl, hm⟩ := hI
   have i' := i.same s'
   obtain ⟨fs, c, hx, hfl, sf⟩ := i'.h
   unfold iM at hm
   walk_at "w"
   by_cases hy : y' = o
   ·rw [if_pos hy] at hm
    subst hm
    rw [decide_eq_true hy]
    exact aO (q _ s')
   ·rw [if_neg hy] at hm
    rw [decide_eq_false hy]
    obtain ⟨r, hr, hc⟩ := hm
    refine bo ⟨_, fun _ _ h => h, ?_⟩
    refine ao ?_
    walk_at "w"
    refine ⟨AA.a, _, _, rfl, hx, (sf _).trans rfl, AA, L, M, r, i', rfl, hr, ?_⟩
    rcases hc with ⟨hu, rfl⟩ | ⟨f, u, y2, hu, hup, ht, hn⟩
    ·rw [hu]
     refine ao ?_
     walk_at "w"
     exact ⟨trivial, bo (q _ s')⟩
    ·rw [hu]
     refine ao ?_
     walk_at "w"
     refine ⟨trivial, ?_⟩
     rw [decide_eq_false (by nofun)]
     refine aO ?_
     refine ⟨AA, L, M, f, u, y2, i', rfl, rfl, hup, h64, ht, fun H2 s2 => ?_⟩
     cases m with
     | zero => exact hn.elim
     | succ m =>
      refine ⟨m, Nat.lt_succ_self m, ?_⟩
      rw [hPV]
      exact ⟨s'.trans s2, y2, _, rfl, hn⟩
  ·exact h.elim
def nO (CH CS CT : Addr) : Sp := fun vs H Q _ => match vs with
 | [.ref x, .str z, .str tr, .str pt] => ∃ A L M t bs ns, ∃ e r u : Nat, ∃ y ae te, pt = Tx.S t ∧ aG CH CS CT H A L M ∧ A.a = x ∧ c7 M L z t bs e ns ∧ aH (sD M.tr) (.inr tr) = some (.int (r : Int)) ∧ tr ≠ ("main" : Str) ∧ aH (nD M.un) (.inl (r : Int)) = none ∧ aH (nD M.ov) (.inl (e : Int)) = none ∧ M.tr.length < 64 ∧ M.ov.length ≤ 40 ∧ M.un.length ≤ 40 ∧
   L[e]? = some ae ∧ M.ts[e]? = some te ∧ eM ("w" : Str) (cU te z) = true ∧ (∃ m, eT M L m e u) ∧ kz M u y ∧ (∃ m, iM M L tr m y false) ∧
   ∀ H', aG CH CS CT H' A L { M with ov := M.ov ++ [(e, r)], un := M.un ++ [(r, e)] } → Kp [A.a, A.ov, A.un] H H' → Q .aq H'
 | _ => False
theorem CQ (T : Tx K mg) : aB P w K mg base aK 15 T.iA.f T.iA.d ["house", "asker", "tree", "path"] (nO T.aj T.ay T.aA) := by
 have dB := ic (P := P) (w := w) (base := base) T
 have fQ := lW (P := P) (w := w) (base := base) T
 have wB := zy (P := P) (w := w) (base := base) T
 have mm := sj (P := P) (w := w) (base := base) T
 have vP := wX (P := P) (w := w) (base := base) T
 have mf := sE (P := P) (w := w) (base := base) T
 have G_rests_upon := Df (P := P) (w := w) (base := base) T
 have wt := yR (P := P) (w := w) (base := base) T
 have G_House_hang_tree := Dx (P := P) (w := w) (base := base) T
 refine T.iA.F.ok A7 (fun vs H Q E h => ?_) (fun cdv A outer s H vs Q E hr h => ?_)
 ·unfold nO at h
  split at h
  ·rfl
  ·exact h.elim
 ·unfold nO at h
  split at h
  ·rename_i x z tr pt
   obtain ⟨AA, L, M, t, bs, ns, e, r, u, y, ae, te, rfl, i, rfl, pg, htr, hnm, hun, hov, h64, hol, hul, hae, hte, hw, hup, hti, hre, q⟩ := h
   obtain ⟨fs, c, hx, hfl, sf⟩ := i.h
   refine bj (b := aS pW) ((Dv.cut (Dv.aU (Dv.cK T.aI T.cF.h dB (hr.mono (by decide)) T.cF.b .nil c8 (Dv.v 0) (Dv.ag (Dv.v 1) Dv.ai)))
   (Dv.cut (Dv.aU (Dv.call fQ (hr.mono (by decide)) T.cx.m T.cx.F.kp T.cx.b .nil aw (Dv.ag (Dv.v 3) Dv.ai)))
   (Dv.cut (Dv.aU (Dv.aY T.aI T.gN.h wB (hr.mono (by decide)) T.gN.b .nil aw (Dv.v 0) (Dv.ag (Dv.v 2) Dv.ai)))
   (Dv.cut (Dv.aN 4 A7.nd (Dv.call mm (hr.mono (by decide)) T.dP.m T.dP.F.kp T.dP.b .nil aw (Dv.ag (Dv.v 0) (Dv.ag (Dv.v 1) (Dv.ag (Dv.v 3) Dv.ai)))))
   (Dv.cut (Dv.ba (Dv.dq (Dv.w_or (Dv.bg dm (Dv.v 2) (Dv.glob (.str "main") T.zO ⟨_, rfl⟩)) (Dv.fL (Dv.bg mC (Dv.aY T.aI T.gT.h vP (hr.mono (by decide)) T.gT.b .nil aw (Dv.v 0) (Dv.ag (Dv.v 2) Dv.ai)) Dv.aq)))) (Dv.au Dv.bE) Dv.nil)
   (Dv.cut (Dv.ba (Dv.bT (Dv.call G_rests_upon (hr.mono (by decide)) T.jw.m T.jw.F.kp T.jw.b .nil aw (Dv.ag (Dv.v 0) (Dv.ag (Dv.call mf (hr.mono (by decide)) T.dX.m T.dX.F.kp T.dX.b .nil aw (Dv.ag (Dv.v 0) (Dv.ag (Dv.v 4) Dv.ai))) (Dv.ag (Dv.v 2) Dv.ai))))) (Dv.au Dv.bE) Dv.nil)
   (Dv.cut (Dv.aU (Dv.call wt (hr.mono (by decide)) T.ff.m T.ff.F.kp T.ff.b .nil aw (Dv.ag (Dv.v 0) (Dv.ag (Dv.v 1) (Dv.ag (Dv.v 4) Dv.ai)))))
   (Dv.au (Dv.aU (Dv.aY T.aI T.lB.h G_House_hang_tree (hr.mono (by decide)) T.lB.b .nil aw (Dv.v 0) (Dv.ag (Dv.v 2) (Dv.ag (Dv.v 4) Dv.ai))))))))))))) ?_
   rw [show start ["house", "asker", "tree", "path", "folder"] [V.ref AA.a, V.str z, V.str tr, V.str (Tx.S t)] = [some (V.ref AA.a), some (V.str z), some (V.str tr), some (V.str (Tx.S t)), none] from rfl]
   refine ao ?_
   walk_at "w"
   refine ⟨AA.a, _, _, rfl, hx, (sf _).trans rfl, jx i pg.hz (ao ?_)⟩
   walk_at "w"
   refine ⟨t, rfl, pg.l1, pg.l2, pg.all, fun H1 l p s1 _ hl hp => ao ?_⟩
   have i1 := i.same s1
   obtain ⟨fs1, c1, hx1, dC, sf1⟩ := i1.h
   walk_at "w"
   refine ⟨AA.a, _, _, rfl, hx1, (sf1 _).trans rfl, AA, L, M, i1, rfl, by rw [htr]; rfl, ao ?_⟩
   walk_at "w"
   refine ⟨AA, L, M, t, bs, e, ns, rfl, i1, rfl, pg, fun H2 s2 => ao ?_⟩
   have i2 := i1.same s2
   obtain ⟨fs2, c2, hx2, fX, sf2⟩ := i2.h
   walk_at "w"
   rw [decide_eq_false hnm]
   refine aO ⟨AA.a, _, _, rfl, hx2, (sf2 _).trans rfl, AA, L, M, r, i2, rfl, htr, ?_⟩
   rw [hun]
   refine ⟨trivial, ?_⟩
   rw [show (Option.getD (none : Option V) V.aq) = V.aq from rfl, decide_eq_true rfl]
   refine aO (ao ?_)
   walk_at "w"
   refine ⟨AA, L, M, e, u, y, i2, rfl, rfl, hup, h64, hti, fun H3 s3 => ?_⟩
   refine ⟨AA, L, M, false, i2.same s3, rfl, h64, hre, fun H4 s4 => aO (ao ?_)⟩
   have i4 := (i2.same s3).same s4
   obtain ⟨fs4, c4, hx4, wA, sf4⟩ := i4.h
   walk_at "w"
   refine ⟨AA, L, M, te, e, rfl, i4, rfl, pg.hz, hte, hw, ?_⟩
   walk_at "w"
   exact ⟨AA.a, _, _, rfl, hx4, (sf4 _).trans rfl, AA, L, M, e, r, i4, rfl, rfl, htr, hov, hun, hol, hul, fun H' i' k' => q H' i' ((Kp.of (((s1.trans s2).trans s3).trans s4)).trans k')⟩
  ·exact h.elim
def mH (CH CS CT : Addr) : Sp := fun vs H Q _ => match vs with
 | [.ref x, .str z, .str pt] => ∃ A L M t bs e ns, pt = Tx.S t ∧ aG CH CS CT H A L M ∧ A.a = x ∧ c7 M L z t bs e ns ∧ M.st.length ≤ 40 ∧ ∀ H', aG CH CS CT H' A L { M with st := dh M.st z e } → Kp [A.a, A.st] H H' → Q .aq H'
 | _ => False
theorem G9 (T : Tx K mg) : aB P w K mg base aK 15 T.jM.f T.jM.d ["house", "asker", "path"] (mH T.aj T.ay T.aA) := by
 have mm := sj (P := P) (w := w) (base := base) T
 have l9 := xl (P := P) (w := w) (base := base) T
 refine T.jM.F.ok K6 (fun vs H Q E h => ?_) (fun cdv A outer s H vs Q E hr h => ?_)
 ·unfold mH at h
  split at h
  ·rfl
  ·exact h.elim
 ·unfold mH at h
  split at h
  ·rename_i x z pt
   obtain ⟨AA, L, M, t, bs, e, ns, rfl, i, rfl, pg, hl, q⟩ := h
   obtain ⟨fs, c, hx, hfl, sf⟩ := i.h
   refine bj (b := aS tD) ((Dv.au (Dv.aU (Dv.aY T.aI T.d7.h l9 (hr.mono (by decide)) T.d7.b .nil aw (Dv.v 0) (Dv.ag (Dv.v 1) (Dv.ag (Dv.call mm (hr.mono (by decide)) T.dP.m T.dP.F.kp T.dP.b .nil aw (Dv.ag (Dv.v 0) (Dv.ag (Dv.v 1) (Dv.ag (Dv.v 2) Dv.ai)))) Dv.ai)))))) ?_
   rw [show start ["house", "asker", "path"] [V.ref AA.a, V.str z, V.str (Tx.S t)] = [some (V.ref AA.a), some (V.str z), some (V.str (Tx.S t))] from rfl]
   walk_at "w"
   exact ⟨AA.a, _, _, rfl, hx, (sf _).trans rfl, AA, L, M, t, bs, e, ns, rfl, i, rfl, pg, fun H1 s1 => ⟨AA, L, M, e, i.same s1, rfl, rfl, hl, fun H' i' k' => q H' i' ((Kp.of s1).trans k')⟩⟩
  ·exact h.elim
def qW (CH CS CT : Addr) : Sp := fun vs H Q _ => match vs with
 | [.ref x, .str z, .str pt] => ∃ A L M t bs e ns, pt = Tx.S t ∧ aG CH CS CT H A L M ∧ A.a = x ∧ c7 M L z t bs e ns ∧ M.st.length ≤ 40 ∧ M.ro.length ≤ 40 ∧ ∀ H', aG CH CS CT H' A L { M with ro := dh M.ro z e, st := dh M.st z e } → Kp [A.a, A.ro, A.st] H H' → Q .aq H'
 | _ => False
theorem HK (T : Tx K mg) : aB P w K mg base aK 15 T.iK.f T.iK.d ["house", "asker", "path"] (qW T.aj T.ay T.aA) := by
 have mm := sj (P := P) (w := w) (base := base) T
 have wa := Kl (P := P) (w := w) (base := base) T
 have l9 := xl (P := P) (w := w) (base := base) T
 refine T.iK.F.ok zr (fun vs H Q E h => ?_) (fun cdv A outer s H vs Q E hr h => ?_)
 ·unfold qW at h
  split at h
  ·rfl
  ·exact h.elim
 ·unfold qW at h
  split at h
  ·rename_i x z pt
   obtain ⟨AA, L, M, t, bs, e, ns, rfl, i, rfl, pg, hl, hlr, q⟩ := h
   refine bj (b := aS vf) ((Dv.cut (Dv.aN 3 zr.nd (Dv.call mm (hr.mono (by decide)) T.dP.m T.dP.F.kp T.dP.b .nil aw (Dv.ag (Dv.v 0) (Dv.ag (Dv.v 1) (Dv.ag (Dv.v 2) Dv.ai)))))
   (Dv.cut (Dv.aU (Dv.aY T.aI T.fK.h wa (hr.mono (by decide)) T.fK.b .nil aw (Dv.v 0) (Dv.ag (Dv.v 1) (Dv.ag (Dv.v 3) Dv.ai))))
   (Dv.au (Dv.aU (Dv.aY T.aI T.d7.h l9 (hr.mono (by decide)) T.d7.b .nil aw (Dv.v 0) (Dv.ag (Dv.v 1) (Dv.ag (Dv.v 3) Dv.ai)))))))) ?_
   rw [show start ["house", "asker", "path", "folder"] [V.ref AA.a, V.str z, V.str (Tx.S t)] = [some (V.ref AA.a), some (V.str z), some (V.str (Tx.S t)), none] from rfl]
   refine ao ?_
   walk_at "w"
   refine ⟨AA, L, M, t, bs, e, ns, rfl, i, rfl, pg, fun H1 s1 => ao ?_⟩
   have i1 := i.same s1
   obtain ⟨fs1, c1, hx1, dC, sf1⟩ := i1.h
   walk_at "w"
   refine ⟨AA.a, _, _, rfl, hx1, (sf1 _).trans rfl, AA, L, M, e, i1, rfl, rfl, hlr, fun H2 i2 k2 => ?_⟩
   obtain ⟨fs2, c2, hx2, fX, sf2⟩ := i2.h
   walk_at "w"
   exact ⟨AA.a, _, _, rfl, hx2, (sf2 _).trans rfl, AA, L, _, e, i2, rfl, rfl, hl, fun H' i' k' => q H' i' ((((Kp.of s1).trans (k2.more (fun b hb => by simp only [List.mem_cons, List.not_mem_nil, or_false] at hb ⊢; rcases hb with h | h <;> simp [h]))).trans (k'.more (fun b hb => by simp only [List.mem_cons, List.not_mem_nil, or_false] at hb ⊢; rcases hb with h | h <;> simp [h]))))⟩
  ·exact h.elim
def qZ (K : PySem.W.Frag) : Sp := fun vs H Q _ => match vs with
 | [.ref a, .int k] => (∃ ns : List Int, aL K H a (ns.map V.int)) ∧ 0 ≤ k ∧ ∀ c : Int, Q (.int c) H
 | _ => False
def tm : Sp := fun vs H Q _ => match vs with
 | [.int _, .int _] => ∀ c : Int, 0 ≤ c → Q (.int c) H
 | _ => False
def rL : Sp := fun vs H Q _ => match vs with
 | [.int _, .int N] => ∃ n : Nat, N = (n : Int) ∧ n ≤ 100 ∧ ∀ l (ds : List Int) H', H l = none → ds.length = n → H' l = some (.lst (ds.map V.int)) → ax H H' → Q (.ref l) H'
 | _ => False
theorem zP (T : Tx K mg) : aB P w K mg base aK 1 T.cw.f T.cw.d ["_law_script", "_law_k"] (qZ K) := by
 refine T.cw.F.ok IE (fun vs H Q E h => ?_) (fun cdv A outer s H vs Q E hr h => ?_)
 ·unfold qZ at h
  split at h
  ·rfl
  ·exact h.elim
 ·unfold qZ at h
  split at h
  ·rename_i a k
   obtain ⟨⟨ns, hS⟩, hk, q⟩ := h
   obtain ⟨k, rfl⟩ := Int.eq_ofNat_of_zero_le hk
   refine ⟨_, ((Dv.cut (Dv.ba (Dv.bg z9 (Dv.v 1) (Dv.bZ (HZ (K := K) rfl) T.iB PySem.boot_len (Dv.ag (Dv.v 0) Dv.ai))) (Dv.au (Dv.aM (Dv.ix (Kv (K := K) rfl) (Dv.v 0) (Dv.v 1)))) Dv.nil)
   (Dv.au (Dv.aM Dv.int)))).h, ?_⟩
   rw [show start ["_law_script", "_law_k"] [V.ref a, V.int (k : Nat)] = [some (.ref a), some (.int (k : Nat))] from rfl]
   refine ao ?_
   walk_at "w"
   refine ⟨_, hS, ?_⟩
   refine lI (fun hd => ?_) (fun _ => q _)
   have hl : k < ns.length := by have := of_decide_eq_true hd; rw [List.length_map] at this; omega
   refine ⟨_, .int ns[k], hS, ?_, q _⟩
   refine gR (j := k) ?_
   rw [List.getElem?_map, List.getElem?_eq_getElem hl]; rfl
  ·exact h.elim
theorem IG (T : Tx K mg) : aB P w K mg base aK 1 T.jt.f T.jt.d ["_law_cell", "_law_k"] tm := by
 refine T.jt.F.ok rG (fun vs H Q E h => ?_) (fun cdv A outer s H vs Q E hr h => ?_)
 ·unfold tm at h
  split at h
  ·rfl
  ·exact h.elim
 ·unfold tm at h
  split at h
  ·rename_i c k
   refine ⟨_, ((Dv.cut (Dv.aN 2 rG.nd (Dv.op da (Dv.op gC (Dv.op bR (Dv.op bR (Dv.op da (Dv.v 0) Dv.int) (Dv.op gC Dv.int (Dv.v 1))) Dv.int) Dv.int) Dv.int))
   (Dv.cut (Dv.aN 2 rG.nd (Dv.op da (Dv.op gC (Dv.v 2) (Dv.op bR (Dv.op gY (Dv.v 2) Dv.int) Dv.int)) Dv.int))
   (Dv.au (Dv.aM (Dv.op da (Dv.op gC (Dv.op bR (Dv.v 2) (Dv.op gC Dv.int (Dv.v 1))) (Dv.op bR (Dv.op gY (Dv.v 2) Dv.int) Dv.int)) Dv.int)))))).h, ?_⟩
   rw [show start ["_law_cell", "_law_k", "_law_number"] [V.int c, V.int k] = [some (.int c), some (.int k), none] from rfl]
   refine ao ?_
   walk_at "w"
   refine ⟨by decide, .inl ⟨by decide, by decide⟩, .inr ⟨by decide, by decide⟩, by decide, ao ?_⟩
   walk_at "w"
   generalize hm : (c % 2147483647 + 7919 * k + 1) * 48271 % 2147483647 = m
   have m0 : 0 ≤ m := by rw [← hm]; exact Int.emod_nonneg _ (by decide)
   have m1 : m < 2147483647 := by rw [← hm]; exact Int.emod_lt_of_pos _ (by decide)
   refine ⟨⟨by decide, by decide⟩, .inl ⟨by omega, by omega⟩, by decide, ?_⟩
   generalize hn : m * (m / 1009 + 69621) % 2147483647 = n
   have n0 : 0 ≤ n := by rw [← hn]; exact Int.emod_nonneg _ (by decide)
   have n1 : n < 2147483647 := by rw [← hn]; exact Int.emod_lt_of_pos _ (by decide)
   refine ⟨.inl ⟨by decide, by decide⟩, ⟨by decide, by decide⟩, .inr ⟨by omega, by omega⟩, by decide, ?_⟩
   exact h _ (Int.emod_nonneg _ (by decide))
  ·exact h.elim
theorem Ij (T : Tx K mg) : aB P w K mg base aK 2 T.jq.f T.jq.d ["_law_cell", "_law_many"] rL := by
 have G_l_mixed := IG (P := P) (w := w) (base := base) T
 refine T.jq.F.ok kC (fun vs H Q E h => ?_) (fun cdv A outer s H vs Q E hr h => ?_)
 ·unfold rL at h
  split at h
  ·rfl
  ·exact h.elim
 ·unfold rL at h
  split at h
  ·rename_i c N
   obtain ⟨n, rfl, hn, h⟩ := h
   refine ⟨_, ((Dv.cut (Dv.aN 2 kC.nd (Dv.lst Dv.ai))
   (Dv.cut (Dv.aN 3 kC.nd (Dv.op gY (Dv.v 0) Dv.int))
   (Dv.cut (Dv.j0 PassesOwn.never rfl (Dv.xS T.pE (Dv.ag (Dv.v 1) Dv.ai)) (Dv.f6 4 kC.nd) (Dv.cut (Dv.ba (Dv.dq (Dv.w_and (Dv.bg dm (Dv.op da (Dv.v 0) Dv.int) Dv.int) (Dv.oI (Dv.bg Bk (Dv.v 3) Dv.int)))) (Dv.au (Dv.aU (Dv.gx PySem.F.slot_list_append PySem.F.type_list_append fZ (Dv.v 2) (Dv.ag (Dv.op da (Dv.v 3) Dv.int) Dv.ai)))) (Dv.au (Dv.aU (Dv.gx PySem.F.slot_list_append PySem.F.type_list_append fZ (Dv.v 2) (Dv.ag (Dv.op da (Dv.call G_l_mixed (hr.mono (by decide)) T.jt.m T.jt.F.kp T.jt.b .nil aw (Dv.ag (Dv.v 0) (Dv.ag (Dv.v 4) Dv.ai))) Dv.int) Dv.ai)))))
   (Dv.au (Dv.aN 3 kC.nd (Dv.op gY (Dv.v 3) Dv.int)))))
   (Dv.au (Dv.aM (Dv.v 2))))))).h, ?_⟩
   rw [show start ["_law_cell", "_law_many", "_law_found", "_law_left", "_law_k"] [V.int c, V.int (n : Int)] = [some (.int c), some (V.int (n : Int)), none, none, none] from rfl]
   refine ao ?_
   walk_at "w"
   refine ⟨fits (by simp), fun l hl => ao ?_⟩
   have s1 := ax.upd (o := .lst []) hl
   have b1 : upd H l (.lst []) l = some (.lst (([] : List Int).map V.int)) := az
   generalize upd H l (.lst []) = H1 at s1 b1 ⊢
   walk_at "w"
   refine ⟨⟨by decide, by decide⟩, ?_⟩
   refine b0 (fun σ' H' => ax H H' ∧ ∃ (ds : List Int) (lf : Int) (t : Option V), σ' = [some (.int c), some (V.int (n : Int)), some (.ref l), some (.int lf), t] ∧ ds.length = n  ∧ H' l = some (.lst (ds.map V.int))) ?_ ?_
   ·walk_at "w"
    refine ⟨⟨Int.le_trans (by decide) (Int.natCast_nonneg n), Int.lt_of_le_of_lt (show (n : Int) ≤ 100 by omega) (by decide)⟩, ?_⟩
    refine AK (fun j σ' H' => ax H H' ∧ ∃ (ds : List Int) (lf : Int) (t : Option V), σ' = [some (.int c), some (V.int (n : Int)), some (.ref l), some (.int lf), t] ∧ ds.length = j  ∧ H' l = some (.lst (ds.map V.int))) ⟨s1, [], _, none, rfl, rfl, b1⟩ ?_ (fun σ' H' h => h)
    rintro j σ' H2 hj ⟨s2, ds, lf, t, rfl, hdl, hb2⟩
    refine b0 (fun σ' H' => ax H H' ∧ ∃ (ds : List Int) (lf : Int) (t : Option V), σ' = [some (.int c), some (V.int (n : Int)), some (.ref l), some (.int lf), t] ∧ ds.length = j + 1  ∧ H' l = some (.lst (ds.map V.int))) ?_ ?_
    ·walk_at "w"
     have step : ∀ d : Int, 0 ≤ d → (ax H (upd H2 l (HO.lst (ds.map V.int ++ [V.int d]))) ∧ ∃ (ds' : List Int) (lf' : Int) (t' : Option V), [some (V.int c), some (V.int (n : Int)), some (V.ref l), some (V.int lf), some (V.int (0 + (j : Int)))] = [some (V.int c), some (V.int (n : Int)), some (V.ref l), some (V.int lf'), t'] ∧
       ds'.length = j + 1  ∧ upd H2 l (HO.lst (ds.map V.int ++ [V.int d])) l = some (.lst (ds'.map V.int))) := fun d hd =>
      ⟨s2.dk hl, ds ++ [d], lf, _, rfl, by simp [hdl], by rw [az, List.map_append]; rfl⟩
     have hlen : (ds.map V.int).length < sizeLine := di (by rw [List.length_map]; have : j < n := hj; omega)
     simp only [hb2]
     refine ⟨by decide, lI (fun _ => lI (fun _ => ⟨by decide, hlen, step _ (Int.emod_nonneg _ (by decide))⟩) (fun _ => ?_)) (fun _ => aO ?_)⟩
     ·intro i hi
      dsimp only
      simp only [hb2]
      exact ⟨by decide, hlen, step _ (Int.emod_nonneg _ (by decide))⟩
     ·intro i hi
      dsimp only
      simp only [hb2]
      exact ⟨by decide, hlen, step _ (Int.emod_nonneg _ (by decide))⟩
    ·rintro σ' H3 ⟨s3, ds, lf, t, rfl, hdl, hb3⟩
     walk_at "w"
     exact ⟨⟨by decide, by decide⟩, s3, ds, _, _, rfl, hdl, hb3⟩
   ·rintro σ' H3 ⟨s3, ds, lf, t, rfl, hdl, hb3⟩
    walk_at "w"
    exact h l ds H3 hl hdl hb3 s3
  ·exact h.elim
theorem mulR (c n : Nat) (hn : n ≤ 7) : MulOk (Tx.S [c]) (n : Int) ∧ Txt.mul (Tx.S [c]) (n : Int) = Tx.S (List.replicate n c) := by
 refine ⟨Tx.KI c n (by omega), ?_⟩
 cases n with
 | zero => unfold Txt.mul; first | rfl | simp
 | succ n => exact Tx.mul_one c (n + 1) (by omega)
def mW (i : Int) : Nat := (bF (Str.ofString "abcdefghijklmnopqrstuvwxyz").cps.toList i).getD 0
def fk (d : Int) : List Nat := mW (d % 26) :: List.replicate (d / 676 % 8).toNat (mW (d / 26 % 26))
theorem F8 (d : Int) : isNm (fk d) = true := by
 have f26 : ∀ x : Int, 0 ≤ x % 26 ∧ x % 26 < 26 := fun x => ⟨Int.emod_nonneg _ (by decide), Int.emod_lt_of_pos _ (by decide)⟩
 obtain ⟨c, e1, hc⟩ := ou (f26 d).1 (f26 d).2
 obtain ⟨c2, e2, hc2⟩ := ou (f26 (d / 26)).1 (f26 (d / 26)).2
 have hm8 : (d / 676 % 8).toNat ≤ 7 := by have := Int.emod_lt_of_pos (d / 676) (show (0 : Int) < 8 by decide); omega
 unfold isNm fk mW
 rw [e1, e2, Option.getD_some, Option.getD_some, List.all_cons, hc, List.all_replicate, hc2]
 simp
 omega
def qo : Sp := fun vs H Q _ => match vs with
 | [.int d] => ∀ H', ax H H' → Q (.str (Tx.S (fk d))) H'
 | _ => False
theorem FO (T : Tx K mg) : aB P w K mg base aK 1 T.jm.f T.jm.d ["_law_digit"] qo := by
 refine T.jm.F.ok Ax (fun vs H Q E h => ?_) (fun cdv A outer s H vs Q E hr h => ?_)
 ·unfold qo at h
  split at h
  ·rfl
  ·exact h.elim
 ·unfold qo at h
  split at h
  ·rename_i d
   refine bj (b := aS rq) ((Dv.cut (Dv.aN 1 Ax.nd Dv.str)
   (Dv.au (Dv.aM (Dv.op bR (Dv.ix (bq (K := K) rfl) (Dv.v 1) (Dv.op da (Dv.v 0) Dv.int)) (Dv.op gC (Dv.ix (bq (K := K) rfl) (Dv.v 1) (Dv.op da (Dv.op gY (Dv.v 0) Dv.int) Dv.int)) (Dv.op da (Dv.op gY (Dv.v 0) Dv.int) Dv.int))))))) ?_
   rw [show start ["_law_digit", "_law_some"] [V.int d] = [some (.int d), none] from rfl]
   refine ao ?_
   walk_at "w"
   have f26 : ∀ x : Int, 0 ≤ x % 26 ∧ x % 26 < 26 := fun x => ⟨Int.emod_nonneg _ (by decide), Int.emod_lt_of_pos _ (by decide)⟩
   obtain ⟨c, e1, hc⟩ := ou (f26 d).1 (f26 d).2
   obtain ⟨c2, e2, hc2⟩ := ou (f26 (d / 26)).1 (f26 (d / 26)).2
   rw [e1, e2]
   obtain ⟨m, hm⟩ : ∃ m : Nat, d / 676 % 8 = (m : Int) := ⟨(d / 676 % 8).toNat, by have := Int.emod_nonneg (d / 676) (show (8 : Int) ≠ 0 by decide); omega⟩
   have hm8 : m ≤ 7 := by have := Int.emod_lt_of_pos (d / 676) (show (0 : Int) < 8 by decide); omega
   rw [hm]
   obtain ⟨k1, k2⟩ := mulR c2 m hm8
   have l26 : (Str.ofString "abcdefghijklmnopqrstuvwxyz").length ≤ sizeLine := fits (by decide +kernel)
   refine ⟨by decide, l26, ⟨by decide, by decide⟩, by decide, l26, ⟨by decide, by decide⟩, by decide, k1, ?_⟩
   have k2' : Txt.mul { cps := #[c2] } (m : Int) = Tx.S (List.replicate m c2) := k2
   rw [k2']
   have e : ({ cps := #[c] } : Str) ++ Tx.S (List.replicate m c2) = Tx.S (c :: List.replicate m c2) := by
    show Tx.S [c] ++ _ = _
    rw [Tx.i5]; rfl
   rw [e]
   have en : fk d = c :: List.replicate m c2 := by
    unfold fk mW
    rw [e1, e2, hm]; rfl
   rw [← en]
   exact ⟨fits (by rw [Tx.b7, List.length_replicate]; show 1 + m ≤ 1000; omega), h _ (ax.refl _)⟩
  ·exact h.elim
abbrev bA (N : List (List Nat)) (j : Nat) : Str := Tx.S (N.getD j [])
def aX (c j : Nat) : Nat := if j ≤ c then j + 1 else j + 2
def num (c j : Nat) : Nat := if j < c then j + 1 else j + 2
def pos (c : Nat) : Nat → Nat
 | 0 => 0
 | j + 1 => num c j
def cg (N : List (List Nat)) (c k j : Nat) : List (Str × Nat) := if j < k then [(bA N j, aX c j)] else []
def fD (c k j : Nat) : List Nat := if j = c ∧ c < k then [c + 2] else []
structure eJ (t : Th) : Prop where
 kd : t.kd = ("folder" : Str)
 ow : t.ow = ("own" : Str)
 mi : t.mi = ("lgw" : Str)
 re : t.re = ("lg" : Str) ∨ t.re = ("lgw" : Str)
theorem eJ.g {t : Th} (f : eJ t) (z : Str) : eM ("g" : Str) (cU t z) = true := by
 unfold cU
 split
 ·rw [f.mi]; decide +kernel
 ·rcases f.re with h | h <;> rw [h] <;> decide +kernel
theorem eJ.wr {t : Th} (f : eJ t) : eM ("w" : Str) (cU t "own") = true := by
 unfold cU
 rw [if_pos f.ow.symm, f.mi]; decide +kernel
structure Ch (M : Hs) (L : List Ta) (N : List (List Nat)) (c k : Nat) : Prop where
 hL : L.length = M.ts.length
 root : ∃ t, M.ts[0]? = some t ∧ eJ t ∧ t.bz = [] ∧ t.aW = cg N c k 0
 eO : ∀ j, j < k → ∃ t, M.ts[aX c j]? = some t ∧ eJ t ∧ t.bz = [(pos c j, bA N j)] ∧ t.aW = (if j = c then [] else cg N c k (j + 1))
 js : c < k → ∃ t, M.ts[c + 2]? = some t ∧ eJ t ∧ t.bz = [] ∧ t.aW = cg N c k (c + 1)
 ov : M.ov = if c < k then [(c + 1, c + 2)] else []
 un : M.un = if c < k then [(c + 2, c + 1)] else []
 nm : ∀ j, j < k → isNm (N.getD j []) = true
theorem gb {a b k : Nat} : aH (nD [(a, b)]) (.inl (k : Int)) = if k = a then some (.int (b : Int)) else none := by
 unfold nD
 by_cases h : k = a
 ·subst h
  rw [if_pos rfl]
  exact fC rfl
 ·rw [if_neg h]
  refine (jI ?_).trans rfl
  intro e
  have : (a : Int) = (k : Int) := Sum.inl.inj e
  omega
section
variable {M : Hs} {L : List Ta} {N : List (List Nat)} {c k : Nat}
theorem Ch.a (h : Ch M L N c k) {i : Nat} {t : Th} (e : M.ts[i]? = some t) : ∃ a, L[i]? = some a := by
 have := (List.getElem?_eq_some_iff.mp e).1
 exact ⟨_, List.getElem?_eq_getElem (by rw [h.hL]; exact this)⟩
theorem Ch.cY (h : Ch M L N c k) {i : Nat} (hi : i ≤ k) : ∃ a t, L[pos c i]? = some a ∧ M.ts[pos c i]? = some t ∧ eJ t ∧ t.aW = cg N c k i := by
 cases i with
 | zero =>
  obtain ⟨t, e, f, _, hn⟩ := h.root
  obtain ⟨a, ha⟩ := h.a e
  exact ⟨a, t, ha, e, f, hn⟩
 | succ j =>
  by_cases hj : j = c
  ·subst hj
   obtain ⟨t, e, f, _, hn⟩ := h.js (by omega)
   have ep : pos j (j + 1) = j + 2 := by show num j j = j + 2; unfold num; rw [if_neg (by omega)]
   rw [ep]
   obtain ⟨a, ha⟩ := h.a e
   exact ⟨a, t, ha, e, f, hn⟩
  ·obtain ⟨t, e, f, _, hn⟩ := h.eO j (by omega)
   rw [if_neg hj] at hn
   have ep : pos c (j + 1) = aX c j := by show num c j = aX c j; unfold num aX; split <;> split <;> omega
   rw [ep]
   obtain ⟨a, ha⟩ := h.a e
   exact ⟨a, t, ha, e, f, hn⟩
theorem Ch.DA (h : Ch M L N c k) : cm M 0 0 [] := by
 refine ⟨⟨0, ?_, rfl⟩, ⟨0, ⟨?_, rfl⟩, by omega⟩⟩
 ·rw [h.un]
  split
  ·rw [gb, if_neg (by omega)]
  ·rfl
 ·rw [h.ov]
  split
  ·rw [gb, if_neg (by omega)]
  ·rfl
theorem Ch.sv (h : Ch M L N c k) {j : Nat} (hj : j < k) : cm M (aX c j) (aX c j) (fD c k j) := by
 refine ⟨⟨0, ?_, rfl⟩, ?_⟩
 ·rw [h.un]
  split
  ·rw [gb, if_neg (by unfold aX; split <;> omega)]
  ·rfl
 ·unfold fD
  by_cases hc : j = c ∧ c < k
  ·obtain ⟨rfl, hck⟩ := hc
   rw [if_pos ⟨rfl, hck⟩]
   refine ⟨1, ⟨j + 2, [], ?_, ⟨?_, rfl⟩, rfl⟩, by omega⟩
   ·rw [h.ov, if_pos hck, gb, if_pos (by unfold aX; rw [if_pos (Nat.le_refl _)])]
   ·rw [h.ov, if_pos hck, gb, if_neg (by omega)]
  ·rw [if_neg hc]
   refine ⟨0, ⟨?_, rfl⟩, by omega⟩
   rw [h.ov]
   split
   ·rw [gb, if_neg (by unfold aX; split <;> omega)]
   ·rfl
theorem Ch.EH (h : Ch M L N c k) {j : Nat} (hj : j < k) : cm M (num c j) (aX c j) (fD c k j) := by
 by_cases hc : j = c
 ·subst hc
  have hs := h.sv hj
  refine ⟨⟨1, j + 1, ?_, ?_, ?_⟩, hs.2⟩
  ·rw [h.un, if_pos hj, gb, if_pos (by unfold num; rw [if_neg (by omega)])]
  ·rw [h.un, if_pos hj, gb, if_neg (by omega)]
  ·unfold aX; rw [if_pos (Nat.le_refl _)]
 ·have : num c j = aX c j := by unfold num aX; split <;> split <;> omega
  rw [this]
  exact h.sv hj
theorem zW {j : Nat} (h : j < k) : fD j k j = [j + 2] := if_pos ⟨rfl, h⟩
theorem xQ {j : Nat} (h : j ≠ c) : fD c k j = [] := if_neg fun z => h z.1
theorem zC {j : Nat} (hj : j < k) : bN (aX c j) (fD c k j) = num c j := by
 by_cases hc : j = c
 ·subst hc
  rw [zW hj]
  show j + 2 = num j j
  unfold num; rw [if_neg (by omega)]
 ·rw [xQ hc]
  show aX c j = num c j
  unfold aX num
  split <;> split <;> omega
theorem Ch.step (h : Ch M L N c k) {i : Nat} (hi : i < k) (z : Str) (root : Nat) : Fold M L (pos c i) z ∧ uh M L z root (pos c i) (bA N i) (pos c (i + 1)) := by
 obtain ⟨a, t, ha, ht, f, hn⟩ := h.cY (Nat.le_of_lt hi)
 refine ⟨⟨a, t, ha, ht, f.kd, f.g z⟩, .inr (.inr ?_)⟩
 obtain ⟨t2, e2, f2, _, _⟩ := h.eO i hi
 obtain ⟨a2, ha2⟩ := h.a e2
 have hnm := h.nm i hi
 have hc := (tI hnm).2.2
 obtain ⟨_, _, _, h8⟩ := d5 hnm
 refine ⟨fun e => ?_, fun e => ?_, qt hnm, by rw [Tx.b7]; omega, t, ht, aX c i, ?_, a2, t2, ha2, e2, f2.kd, _, _, h.sv hi, (zC hi).symm⟩
 ·have : Tx.S (N.getD i []) = Tx.S [46] := e
  rw [Tx.mO this] at hc
  revert hc; decide +kernel
 ·have : Tx.S (N.getD i []) = Tx.S [46, 46] := e
  rw [Tx.mO this] at hc
  revert hc; decide +kernel
 ·rw [hn]
  unfold cg
  rw [if_pos hi]
  exact fC rfl
theorem Ch.way (h : Ch M L N c k) (z : Str) (root : Nat) : ∀ (n i : Nat), i + n ≤ k → eQ M L z root (pos c i) ((List.range' i n).map (bA N)) ((List.range' i n).map (pos c)) (pos c (i + n))
 | 0, i, _ => .nil _
 | n + 1, i, hi => by
  obtain ⟨h1, h2⟩ := h.step (i := i) (by omega) z root
  have := h.way z root n (i + 1) (by omega)
  rw [show i + 1 + n = i + (n + 1) by omega] at this
  exact .cons h1 h2 this
theorem gK {c i j : Nat} (h : pos c i = pos c j) : i = j := by
 cases i with
 | zero =>
  cases j with
  | zero => rfl
  | succ j => exact absurd h (by show ¬ 0 = num c j; unfold num; split <;> omega)
 | succ i =>
  cases j with
  | zero => exact absurd h (by show ¬ num c i = 0; unfold num; split <;> omega)
  | succ j =>
   have : num c i = num c j := h
   unfold num at this
   split at this <;> split at this <;> omega
def gv (c : Nat) : Nat → Nat
 | 0 => 0
 | j + 1 => aX c j
def ju (c k : Nat) : Nat → List Nat
 | 0 => []
 | j + 1 => fD c k j
theorem Ch.m7 (h : Ch M L N c k) {i : Nat} (hi : i ≤ k) : cm M (pos c i) (gv c i) (ju c k i) ∧ bN (gv c i) (ju c k i) = pos c i := by
 cases i with
 | zero => exact ⟨h.DA, rfl⟩
 | succ j => exact ⟨h.EH (by omega), zC (by omega)⟩
theorem vi {i d : Nat} (hi : i ≤ k) : dA (pos c d) (gv c i :: ju c k i) = decide (d = i) := by
 have key : ∀ x y : Nat, (x == y) = decide (x = y) := fun x y => by by_cases e : x = y <;> simp [e]
 cases i with
 | zero =>
  show ((0 == pos c d) || false) = _
  rw [Bool.or_false, key]
  congr 1
  exact propext ⟨fun e => (gK (c := c) (i := d) (j := 0) e.symm), fun e => by subst e; rfl⟩
 | succ j =>
  by_cases hj : j = c
  ·subst hj
   show dA (pos j d) (aX j j :: fD j k j) = _
   rw [zW (by omega)]
   show ((aX j j == pos j d) || ((j + 2 == pos j d) || false)) = _
   have e1 : ¬ aX j j = pos j d := by
    unfold aX
    rw [if_pos (Nat.le_refl _)]
    cases d with
    | zero => exact fun e => absurd e (by show ¬ j + 1 = 0; omega)
    | succ d => exact fun e => absurd e (by show ¬ j + 1 = num j d; unfold num; split <;> omega)
   rw [key, key, decide_eq_false e1, Bool.false_or, Bool.or_false]
   have e2 : j + 2 = pos j (j + 1) := by show j + 2 = num j j; unfold num; rw [if_neg (by omega)]
   rw [e2]
   congr 1
   exact propext ⟨fun e => (gK e).symm, fun e => by rw [e]⟩
  ·show dA (pos c d) (aX c j :: fD c k j) = _
   rw [xQ hj]
   show ((aX c j == pos c d) || false) = _
   have e2 : aX c j = pos c (j + 1) := by show aX c j = num c j; unfold aX num; split <;> split <;> omega
   rw [Bool.or_false, key, e2]
   congr 1
   exact propext ⟨fun e => (gK e).symm, fun e => by rw [e]⟩
theorem Ch.foot (h : Ch M L N c k) {i : Nat} (hi : i ≤ k) : ∃ a t, L[gv c i]? = some a ∧ M.ts[gv c i]? = some t ∧ t.bz = (match i with | 0 => [] | j + 1 => [(pos c j, bA N j)]) := by
 cases i with
 | zero =>
  obtain ⟨t, e, f, hp, _⟩ := h.root
  obtain ⟨a, ha⟩ := h.a e
  exact ⟨a, t, ha, e, hp⟩
 | succ j =>
  obtain ⟨t, e, f, hp, _⟩ := h.eO j (by omega)
  obtain ⟨a, ha⟩ := h.a e
  exact ⟨a, t, ha, e, hp⟩
theorem Ch.seen (h : Ch M L N c k) (d : Nat) : ∀ i, i ≤ k → eL M L (pos c d) i (pos c i) (decide (d ≤ i))
 | i, hi => by
  obtain ⟨a, t, ha, ht, f, hn⟩ := h.cY hi
  obtain ⟨hs, hl⟩ := h.m7 hi
  unfold eL
  refine ⟨gv c i, ju c k i, a, t, ha, ht, hs, ?_⟩
  rw [if_pos hl.symm, vi hi]
  by_cases hd : d = i
  ·subst hd
   rw [if_pos (decide_eq_true rfl)]
   exact decide_eq_true (Nat.le_refl _)
  ·rw [if_neg (by simp [hd])]
   obtain ⟨ab, tb, hab, htb, hp⟩ := h.foot hi
   refine ⟨ab, tb, hab, htb, ?_⟩
   cases i with
   | zero => exact .inl ⟨hp, decide_eq_false (by omega)⟩
   | succ j =>
    refine .inr ⟨_, _, hp, ?_⟩
    have := h.seen d j (by omega)
    rw [show decide (d ≤ j + 1) = decide (d ≤ j) from by congr 1; exact propext (by omega)]
    exact this
theorem Ch.names (h : Ch M L N c k) (d : Nat) : ∀ n, d + n ≤ k → eD M L (pos c d) n (pos c (d + n)) ((List.range' d n).map (bA N))
 | n, hi => by
  obtain ⟨a, t, ha, ht, f, hn⟩ := h.cY hi
  obtain ⟨hs, hl⟩ := h.m7 hi
  unfold eD
  refine ⟨gv c (d + n), ju c k (d + n), a, t, ha, ht, hs, ?_⟩
  rw [vi hi]
  cases n with
  | zero => rw [if_pos (by simp)]; rfl
  | succ n =>
   rw [if_neg (by simp)]
   obtain ⟨ab, tb, hab, htb, hp⟩ := h.foot hi
   refine ⟨ab, tb, pos c (d + n), bA N (d + n), hab, htb, hp, (List.range' d n).map (bA N), ?_, h.names d n (by omega)⟩
   rw [List.range'_concat, List.map_append]
   simp
end
section
variable {M : Hs} {L : List Ta} {N : List (List Nat)} {c k : Nat}
theorem sr {j : Nat} (h : j ≠ c) : pos c (j + 1) = aX c j := by show num c j = aX c j; unfold num aX; split <;> split <;> omega
theorem pos_at : pos c (c + 1) = c + 2 := by show num c c = c + 2; unfold num; rw [if_neg (by omega)]
theorem Ch.bz (h : Ch M L N c k) {i : Nat} (hi : i ≤ k) : ∃ a t, L[pos c i]? = some a ∧ M.ts[pos c i]? = some t ∧ t.bz = (match i with | 0 => [] | j + 1 => if j = c then [] else [(pos c j, bA N j)]) := by
 cases i with
 | zero =>
  obtain ⟨t, e, f, hp, _⟩ := h.root
  obtain ⟨a, ha⟩ := h.a e
  exact ⟨a, t, ha, e, hp⟩
 | succ j =>
  by_cases hj : j = c
  ·subst hj
   obtain ⟨t, e, f, hp, _⟩ := h.js (by omega)
   obtain ⟨a, ha⟩ := h.a e
   rw [pos_at]
   exact ⟨a, t, ha, e, by rw [hp]; simp⟩
  ·obtain ⟨t, e, f, hp, _⟩ := h.eO j (by omega)
   obtain ⟨a, ha⟩ := h.a e
   rw [sr hj]
   exact ⟨a, t, ha, e, by rw [hp]; simp [hj]⟩
theorem Ch.qK (h : Ch M L N c k) : ∀ i, i ≤ k → eT M L i (pos c i) (if c < i then c + 2 else 0)
 | i, hi => by
  obtain ⟨a, t, ha, ht, hp⟩ := h.bz hi
  unfold eT
  refine ⟨a, t, ha, ht, ?_⟩
  cases i with
  | zero => exact .inl ⟨hp, by rw [if_neg (by omega)]; rfl⟩
  | succ j =>
   by_cases hj : j = c
   ·subst hj
    refine .inl ⟨by rw [hp]; simp, ?_⟩
    rw [if_pos (by omega), pos_at]
   ·refine .inr ⟨pos c j, bA N j, by rw [hp]; simp [hj], ?_⟩
    have := h.qK j (by omega)
    rw [show (if c < j + 1 then c + 2 else 0) = (if c < j then c + 2 else 0) by split <;> split <;> omega]
    exact this
theorem Ch.below (h : Ch M L N c k) (J : Nat) : ∀ n, c + 1 + n ≤ k → jz M L (pos c J) n (pos c (c + 1 + n)) (decide (c + 1 ≤ J ∧ J ≤ c + 1 + n))
 | n, hi => by
  unfold jz
  by_cases e : pos c (c + 1 + n) = pos c J
  ·rw [if_pos e]
   have := gK e
   exact decide_eq_true (by omega)
  ·rw [if_neg e]
   have hne : c + 1 + n ≠ J := fun z => e (by rw [z])
   obtain ⟨a, t, ha, ht, hp⟩ := h.bz hi
   refine ⟨a, t, ha, ht, ?_⟩
   cases n with
   | zero =>
    refine .inl ⟨by rw [hp]; simp, decide_eq_false (by omega)⟩
   | succ n =>
    refine .inr ⟨pos c (c + 1 + n), bA N (c + 1 + n), ?_, ?_⟩
    ·rw [hp]
     show (if c + 1 + n = c then [] else _) = _
     rw [if_neg (by omega)]
     rfl
    ·have := h.below J n (by omega)
     rw [show decide (c + 1 ≤ J ∧ J ≤ c + 1 + (n + 1)) = decide (c + 1 ≤ J ∧ J ≤ c + 1 + n) from by congr 1; exact propext (by omega)]
     exact this
theorem Ch.shift {c' : Nat} (h : Ch M L N c k) (h1 : k ≤ c) (h2 : k ≤ c') : Ch M L N c' k := by
 have eb : ∀ j, j < k → aX c' j = aX c j := fun j hj => by unfold aX; rw [if_pos (by omega), if_pos (by omega)]
 have ek : ∀ j, cg N c' k j = cg N c k j := fun j => by
  unfold cg
  split
  ·rw [eb j (by omega)]
  ·rfl
 have ep : ∀ j, j ≤ k → pos c' j = pos c j := fun j hj => by
  cases j with
  | zero => rfl
  | succ j => show num c' j = num c j; unfold num; rw [if_pos (by omega), if_pos (by omega)]
 have n1 : ¬ c < k := by omega
 have n2 : ¬ c' < k := by omega
 refine ⟨h.hL, ?_, fun j hj => ?_, fun z => absurd z n2, by rw [h.ov, if_neg n1, if_neg n2], by rw [h.un, if_neg n1, if_neg n2], h.nm⟩
 ·rw [ek]; exact h.root
 ·obtain ⟨t, e, f, hp, hn⟩ := h.eO j hj
  refine ⟨t, by rw [eb j hj]; exact e, f, by rw [ep j (by omega)]; exact hp, ?_⟩
  rw [hn, if_neg (by omega), if_neg (by omega), ek]
theorem Ch.ext {x : Th} {a : Ta} {tr : List (Str × Nat)} (h : Ch M L N c k) : Ch { M with ts := M.ts ++ [x], tr := tr } (L ++ [a]) N c k := by
 have key : ∀ {i : Nat} {t : Th}, M.ts[i]? = some t → (M.ts ++ [x])[i]? = some t := fun {i t} e => by
  rw [List.getElem?_append_left (List.getElem?_eq_some_iff.mp e).1]; exact e
 refine ⟨by simp [h.hL], ?_, fun j hj => ?_, fun z => ?_, h.ov, h.un, h.nm⟩
 ·obtain ⟨t, e, r⟩ := h.root; exact ⟨t, key e, r⟩
 ·obtain ⟨t, e, r⟩ := h.eO j hj; exact ⟨t, key e, r⟩
 ·obtain ⟨t, e, r⟩ := h.js z; exact ⟨t, key e, r⟩
theorem Ch.vd {c' : Nat} (h : Ch M L N c' (c + 1)) (h1 : c + 1 ≤ c') (he : ∃ t, M.ts[c + 2]? = some t ∧ eJ t ∧ t.bz = [] ∧ t.aW = []) : Ch { M with ov := M.ov ++ [(c + 1, c + 2)], un := M.un ++ [(c + 2, c + 1)] } L N c (c + 1) := by
 have eb : ∀ j, j < c + 1 → aX c j = aX c' j := fun j hj => by unfold aX; rw [if_pos (by omega), if_pos (by omega)]
 have ek : ∀ j, cg N c (c + 1) j = cg N c' (c + 1) j := fun j => by
  unfold cg
  split
  ·rw [eb j (by omega)]
  ·rfl
 have ep : ∀ j, j ≤ c → pos c j = pos c' j := fun j hj => by
  cases j with
  | zero => rfl
  | succ j => show num c j = num c' j; unfold num; rw [if_pos (by omega), if_pos (by omega)]
 have n1 : ¬ c' < c + 1 := by omega
 refine ⟨h.hL, ?_, fun j hj => ?_, fun _ => ?_, ?_, ?_, h.nm⟩
 ·rw [ek]; exact h.root
 ·obtain ⟨t, e, f, hp, hn⟩ := h.eO j hj
  refine ⟨t, by rw [eb j hj]; exact e, f, by rw [ep j (by omega)]; exact hp, ?_⟩
  rw [hn, if_neg (by omega)]
  by_cases hjc : j = c
  ·rw [if_pos hjc, hjc]
   unfold cg
   rw [if_neg (by omega)]
  ·rw [if_neg hjc, ek]
 ·obtain ⟨t, e, f, hp, hn⟩ := he
  refine ⟨t, e, f, hp, ?_⟩
  rw [hn]
  unfold cg
  rw [if_neg (by omega)]
 ·show M.ov ++ _ = _
  rw [h.ov, if_neg n1, if_pos (by omega)]; rfl
 ·show M.un ++ _ = _
  rw [h.un, if_neg n1, if_pos (by omega)]; rfl
theorem uX {j : Nat} (h : j ≠ k) : cg N c (k + 1) j = cg N c k j := by
 unfold cg
 by_cases h1 : j < k
 ·rw [if_pos (by omega), if_pos h1]
 ·rw [if_neg (by omega), if_neg h1]
theorem rV : cg N c k k = [] := if_neg (by omega)
theorem GC : cg N c (k + 1) k = [(bA N k, aX c k)] := if_pos (by omega)
theorem Ch.grow {t0 : Th} {a : Ta} (h : Ch M L N c k) (hc : c ≠ k) (hlen : M.ts.length = aX c k) (hn : isNm (N.getD k []) = true) (ht0 : M.ts[pos c k]? = some t0) :
  Ch { M with ts := M.ts.set (pos c k) { t0 with aW := t0.aW ++ [(bA N k, M.ts.length)] } ++ [⟨"folder", "own", "lgw", "lgw", "", [], [(pos c k, bA N k)]⟩] } (L ++ [a]) N c (k + 1) := by
 obtain ⟨a0, t0', gA, ht0', f0, hn0⟩ := h.cY (Nat.le_refl k)
 rw [ht0] at ht0'
 cases ht0'
 rw [rV] at hn0
 have hlt := (List.getElem?_eq_some_iff.mp ht0).1
 have old : ∀ {i : Nat} {t : Th}, i ≠ pos c k → M.ts[i]? = some t → (M.ts.set (pos c k) { t0 with aW := t0.aW ++ [(bA N k, M.ts.length)] } ++ [(⟨"folder", "own", "lgw", "lgw", "", [], [(pos c k, bA N k)]⟩ : Th)])[i]? = some t := fun {i t} hi e => by
  rw [List.getElem?_append_left (by rw [List.length_set]; exact (List.getElem?_eq_some_iff.mp e).1), List.getElem?_set_ne (Ne.symm hi)]; exact e
 have wD : (M.ts.set (pos c k) { t0 with aW := t0.aW ++ [(bA N k, M.ts.length)] } ++ [(⟨"folder", "own", "lgw", "lgw", "", [], [(pos c k, bA N k)]⟩ : Th)])[pos c k]? = some { t0 with aW := t0.aW ++ [(bA N k, M.ts.length)] } := by
  rw [List.getElem?_append_left (by rw [List.length_set]; exact hlt), List.getElem?_set_self hlt]
 have newk : (M.ts.set (pos c k) { t0 with aW := t0.aW ++ [(bA N k, M.ts.length)] } ++ [(⟨"folder", "own", "lgw", "lgw", "", [], [(pos c k, bA N k)]⟩ : Th)])[aX c k]? = some ⟨"folder", "own", "lgw", "lgw", "", [], [(pos c k, bA N k)]⟩ := by
  rw [← hlen, List.getElem?_append_right (by rw [List.length_set]; exact Nat.le_refl _), List.length_set, Nat.sub_self]; rfl
 have nm0 : t0.aW ++ [(bA N k, M.ts.length)] = cg N c (k + 1) k := by rw [hn0, GC, hlen]; rfl
 have f1 : eJ { t0 with aW := t0.aW ++ [(bA N k, M.ts.length)] } := ⟨f0.kd, f0.ow, f0.mi, f0.re⟩
 refine ⟨by simp [h.hL], ?_, fun j hj => ?_, fun hck => ?_, ?_, ?_, fun j hj => ?_⟩
 ·obtain ⟨t, e, f, hp, hn⟩ := h.root
  by_cases hk : k = 0
  ·subst hk
   have e' : M.ts[pos c 0]? = some t := e
   rw [ht0] at e'
   cases e'
   exact ⟨_, wD, f1, hp, nm0⟩
  ·exact ⟨t, old (fun z => hk (gK (c := c) (i := 0) (j := k) z).symm) e, f, hp, by rw [uX (Ne.symm hk)]; exact hn⟩
 ·by_cases hjk : j = k
  ·subst hjk
   refine ⟨_, newk, ⟨rfl, rfl, rfl, .inr rfl⟩, rfl, ?_⟩
   rw [if_neg (Ne.symm hc)]
   exact rV.symm
  ·obtain ⟨t, e, f, hp, hn⟩ := h.eO j (by omega)
   by_cases hb : aX c j = pos c k
   ·have hjc : j ≠ c := fun z => by
     subst z
     have : pos j k = j + 1 := by rw [← hb]; unfold aX; rw [if_pos (Nat.le_refl _)]
     cases k with
     | zero => exact absurd this (by show ¬ 0 = j + 1; omega)
     | succ k => exact absurd this (by show ¬ num j k = j + 1; unfold num; split <;> omega)
    have hk1 : j + 1 = k := gK (c := c) ((sr hjc).trans hb)
    rw [hb] at e
    rw [ht0] at e
    cases e
    refine ⟨_, by rw [hb]; exact wD, f1, hp, ?_⟩
    rw [if_neg hjc, hk1]
    exact nm0
   ·refine ⟨t, old hb e, f, hp, ?_⟩
    rw [hn]
    by_cases hjc : j = c
    ·rw [if_pos hjc, if_pos hjc]
    ·rw [if_neg hjc, if_neg hjc, uX]
     intro z
     exact hb (by rw [← z]; exact (sr hjc).symm)
 ·obtain ⟨t, e, f, hp, hn⟩ := h.js (by omega)
  by_cases hk : k = c + 1
  ·have ep : pos c k = c + 2 := by rw [hk, pos_at]
   rw [← ep, ht0] at e
   cases e
   refine ⟨_, by rw [← ep]; exact wD, f1, hp, ?_⟩
   rw [← hk]; exact nm0
  ·refine ⟨t, old (fun z => hk (gK (c := c) (by rw [pos_at]; exact z)).symm) e, f, hp, ?_⟩
   rw [hn, uX (Ne.symm hk)]
 ·show M.ov = _
  rw [h.ov]
  by_cases z : c < k
  ·rw [if_pos z, if_pos (by omega)]
  ·rw [if_neg z, if_neg (by omega)]
 ·show M.un = _
  rw [h.un]
  by_cases z : c < k
  ·rw [if_pos z, if_pos (by omega)]
  ·rw [if_neg z, if_neg (by omega)]
 ·by_cases z : j = k
  ·rw [z]; exact hn
  ·exact h.nm j (by omega)
end
section
variable {M : Hs} {L : List Ta} {N : List (List Nat)} {c k : Nat}
abbrev nW (N : List (List Nat)) (d n : Nat) : List (List Nat) := (List.range' d n).map (N.getD · [])
abbrev nS (N : List (List Nat)) (d n : Nat) : List Str := (List.range' d n).map (bA N)
theorem hU {d n : Nat} : (nW N d n).map Tx.S = nS N d n := by rw [List.map_map]; rfl
theorem Ch.i9 (h : Ch M L N c k) {z : Str} {fr : Bool} {d i e : Nat} {ps : List Str} {bs : List Nat} (hz : aH (sD M.ro) (.inr z) = some (.int ((pos c d : Nat) : Int))) (hst : fr = true ∧ i = d ∨ fr = false ∧ aH (sD M.st) (.inr z) = some (.int ((pos c i : Nat) : Int))) (hdi : d ≤ i) (hi : i ≤ k)
  (hw : eQ M L z (pos c d) (pos c i) ps bs (pos c (d + e))) (he : d + e ≤ k) (hp : ps.length ≤ 500) (jS : e ≤ 100) : Goes M L z fr ps bs (pos c (d + e)) (nS N d e) := by
 obtain ⟨a, t, ha, ht, f, _⟩ := h.cY hi
 obtain ⟨hs, hl⟩ := h.m7 hi
 obtain ⟨ae, te, hae, hte, fe, _⟩ := h.cY he
 refine ⟨⟨pos c d, pos c i, gv c i, ju c k i, a, t, hz, ?_, ha, ht, hs, ⟨i, ?_⟩, by rw [hl]; exact hw, ⟨e, h.names d e he⟩⟩, hp, ⟨ae, te, hae, hte, fe.kd⟩, by simp [nS]; exact jS, fun s hs => ?_⟩
 ·rcases hst with ⟨h1, h2⟩ | ⟨h1, h2⟩
  ·exact .inl ⟨h1, by rw [h2]⟩
  ·exact .inr ⟨h1, h2⟩
 ·rw [hl]
  have := h.seen d i hi
  rw [decide_eq_true hdi] at this
  exact this
 ·obtain ⟨j, hj, rfl⟩ := List.mem_map.mp hs
  have hj' := List.mem_range'_1.mp hj
  obtain ⟨_, _, _, h8⟩ := d5 (h.nm j (by omega))
  rw [Tx.b7]; exact h8
theorem Ch.xJ (h : Ch M L N c k) {d n : Nat} (hi : d + n ≤ k) : (nW N d n).all bL = true := by
 rw [List.all_eq_true]
 intro w hw
 obtain ⟨j, hj, rfl⟩ := List.mem_map.mp hw
 have hj' := List.mem_range'_1.mp hj
 unfold bL
 rw [h.nm j (by omega)]
 simp
theorem qI {w : List Nat} (h : isNm w = true) : bL w = true := by unfold bL; rw [h]; simp
theorem Ch.path (h : Ch M L N c k) {z : Str} {d n : Nat} (hz : aH (sD M.ro) (.inr z) = some (.int ((pos c d : Nat) : Int))) (hi : d + n ≤ k) (jS : n ≤ 100) : c7 M L z (47 :: Tx.bB 47 (nW N d n)) ((List.range' d n).map (pos c)) (pos c (d + n)) (nS N d n) := by
 have d0 := h.xJ hi
 have hw : ∀ w ∈ nW N d n, 47 ∉ w ∧ w ≠ [] := fun w hw => let q := gg (List.all_eq_true.mp d0 w hw); ⟨q.1, q.2.1⟩
 have h8 : ∀ w ∈ nW N d n, w.length ≤ 8 := fun w hw => (gg (List.all_eq_true.mp d0 w hw)).2.2
 have hwd : Tx.words 47 (47 :: Tx.bB 47 (nW N d n)) = nW N d n := by rw [Tx.p8, Tx.ng 47 _ hw]
 have hln := Tx.sy 47 8 (nW N d n) h8
 have cu : (nW N d n).length = n := by simp [nW]
 refine ⟨by simp, by rw [List.length_cons]; omega, by rw [hwd]; exact d0, ?_⟩
 rw [hwd, zc d0, hU]
 exact h.i9 hz (.inl ⟨rfl, rfl⟩) (Nat.le_refl _) (by omega) (h.way z (pos c d) n d hi) hi (by simp [nS]; omega) jS
theorem Ai {w : List Nat} (h : isNm w = true) : Tx.words 47 w = [w] ∧ told [w] w = [w] ∧ cy w = false := by
 obtain ⟨h1, h2, h3, h4⟩ := d5 h
 refine ⟨Tx.nN 47 w h1 h2, ?_, ?_⟩
 ·unfold told
  refine if_neg fun z => h1 ?_
  exact List.mem_of_getLast? z.2
 ·unfold cy
  refine decide_eq_false fun z => h1 ?_
  exact List.mem_of_head? z
theorem Cz {w : List Nat} (h : isNm w = true) : Tx.words 47 (w ++ [47]) = [w] ∧ told [w] (w ++ [47]) = [w, [46]] ∧ cy (w ++ [47]) = false := by
 obtain ⟨h1, h2, h3, h4⟩ := d5 h
 refine ⟨?_, ?_, ?_⟩
 ·have := Tx.J9 47 w 1
  rw [show List.replicate 1 47 = [47] from rfl] at this
  rw [this]
  exact Tx.nN 47 w h1 h2
 ·unfold told
  rw [if_pos ⟨by simp, by simp⟩]; rfl
 ·unfold cy
  refine decide_eq_false fun z => h1 ?_
  cases w with
  | nil => exact absurd rfl h2
  | cons x r => simp at z; simp [z]
structure Std (M : Hs) (c i : Nat) : Prop where
 ro : aH (sD M.ro) (.inr ("own" : Str)) = some (.int 0)
 st : aH (sD M.st) (.inr ("own" : Str)) = some (.int ((pos c i : Nat) : Int))
theorem Ch.Fn (h : Ch M L N c k) (s : Std M c k) (hk : k ≤ 100) {w : List Nat} (hw : isNm w = true) : kS w [] w ∧ Goes M L "own" (cy w) (([] : List (List Nat)).map Tx.S ++ [("." : Str)]) [pos c k] (pos c k) (nS N 0 k) := by
 obtain ⟨e1, e2, e3⟩ := Ai hw
 obtain ⟨h1, h2, h3, h4⟩ := d5 hw
 refine ⟨⟨h3, by omega, by rw [e1, List.all_cons, qI hw]; rfl, by rw [e1, e2]; rfl, hw, by simp⟩, ?_⟩
 rw [e3]
 obtain ⟨a, t, ha, ht, f, _⟩ := h.cY (Nat.le_refl k)
 have := h.i9 (z := "own") (fr := false) (d := 0) (i := k) (e := k) (ps := [("." : Str)]) (bs := [pos c k]) s.ro (.inr ⟨rfl, s.st⟩) (by omega) (Nat.le_refl _) (by rw [Nat.zero_add]; exact .cons ⟨a, t, ha, ht, f.kd, f.g _⟩ (.inl ⟨rfl, rfl⟩) (.nil _)) (by omega) (by simp) hk
 rw [Nat.zero_add] at this
 exact this
theorem Ch.rel (h : Ch M L N c k) {i : Nat} (s : Std M c i) (hi : i < k) (hk : k ≤ 100) : c7 M L "own" (N.getD i []) [pos c i] (pos c (i + 1)) (nS N 0 (i + 1)) := by
 have hw := h.nm i hi
 obtain ⟨e1, e2, e3⟩ := Ai hw
 obtain ⟨h1, h2, h3, h4⟩ := d5 hw
 refine ⟨h3, by omega, by rw [e1, List.all_cons, qI hw]; rfl, ?_⟩
 rw [e1, e2, e3]
 have := h.i9 (z := "own") (fr := false) (d := 0) (i := i) (e := i + 1) (ps := [bA N i]) (bs := [pos c i]) s.ro (.inr ⟨rfl, s.st⟩) (by omega) (by omega) (by rw [Nat.zero_add]; have := h.step hi "own" (pos c 0); exact .cons this.1 this.2 (.nil _)) (by omega) (by simp) (by omega)
 rw [Nat.zero_add] at this
 exact this
theorem Ch.DD (h : Ch M L N c k) {i : Nat} (s : Std M c i) (hi : i < k) (hk : k ≤ 100) : c7 M L "own" (N.getD i [] ++ [47]) [pos c i, pos c (i + 1)] (pos c (i + 1)) (nS N 0 (i + 1)) := by
 have hw := h.nm i hi
 obtain ⟨e1, e2, e3⟩ := Cz hw
 obtain ⟨h1, h2, h3, h4⟩ := d5 hw
 refine ⟨by rw [List.length_append, List.length_singleton]; omega, by rw [List.length_append, List.length_singleton]; omega, by rw [e1, List.all_cons, qI hw]; rfl, ?_⟩
 rw [e1, e2, e3]
 obtain ⟨a, t, ha, ht, f, _⟩ := h.cY (i := i + 1) (by omega)
 have := h.i9 (z := "own") (fr := false) (d := 0) (i := i) (e := i + 1) (ps := [bA N i, ("." : Str)]) (bs := [pos c i, pos c (i + 1)]) s.ro (.inr ⟨rfl, s.st⟩) (by omega) (by omega) (by rw [Nat.zero_add]; have := h.step hi "own" (pos c 0); exact .cons this.1 this.2 (.cons ⟨a, t, ha, ht, f.kd, f.g _⟩ (.inl ⟨rfl, rfl⟩) (.nil _))) (by omega) (by simp) (by omega)
 rw [Nat.zero_add] at this
 exact this
end
theorem aG.oY {CH CS CT : Addr} {H : Hp} {A : Ad} {L : List Ta} {M : Hs} {x : Addr} {o : HO} (i : aG CH CS CT H A L M) (hx : H x = Option.some o) (h1 : ∀ c d f, o ≠ .ins c d f) (h2 : ∀ k, o ≠ .dK k) (h3 : ∀ k, o ≠ .dT k) (h4 : x ≠ A.ml) : x ∉ A.w ++ L.flatMap Ta.l := fun hb => by
 rcases List.mem_append.mp hb with h | h
 ·simp only [Ad.w, List.mem_cons, List.not_mem_nil, or_false] at h
  rcases h with rfl | rfl | rfl | rfl | rfl | rfl | rfl | rfl
  ·obtain ⟨_, _, e, _⟩ := i.h; rw [hx] at e; cases e; exact h1 _ _ _ rfl
  ·obtain ⟨_, _, e, _⟩ := i.t; rw [hx] at e; cases e; exact h1 _ _ _ rfl
  ·exact h4 rfl
  ·have e := i.ro; rw [hx] at e; cases e; exact h2 _ rfl
  ·have e := i.st; rw [hx] at e; cases e; exact h2 _ rfl
  ·have e := i.tr; rw [hx] at e; cases e; exact h2 _ rfl
  ·have e := i.ov; rw [hx] at e; cases e; exact h2 _ rfl
  ·have e := i.un; rw [hx] at e; cases e; exact h2 _ rfl
 ·obtain ⟨a, ha, hb⟩ := List.mem_flatMap.mp h
  obtain ⟨k, hk⟩ := List.getElem?_of_mem ha
  have hlt : k < M.ts.length := by rw [← i.len]; exact (List.getElem?_eq_some_iff.mp hk).1
  obtain ⟨a', e1, t⟩ := i.th k _ (List.getElem?_eq_getElem hlt)
  rw [hk] at e1
  cases e1
  simp only [Ta.l, List.mem_cons, List.not_mem_nil, or_false] at hb
  rcases hb with rfl | rfl | rfl
  ·obtain ⟨_, e, _⟩ := t.o; rw [hx] at e; cases e; exact h1 _ _ _ rfl
  ·have e := t.nm; rw [hx] at e; cases e; exact h2 _ rfl
  ·have e := t.pl; rw [hx] at e; cases e; exact h3 _ rfl
def dH (K : PySem.W.Frag) (H : Hp) (a : Addr) (ns : List Int) : Prop := (∀ J, aL K J a (ns.map V.int)) ∨ ∃ o, H a = some (.cE o (.lst (ns.map V.int)))
theorem dH.sq {K : PySem.W.Frag} {H : Hp} {a : Addr} {ns : List Int} (h : dH K H a ns) : aL K H a (ns.map V.int) := by
 rcases h with h | ⟨o, h⟩
 ·exact h H
 ·exact .inl (.inr ⟨o, h⟩)
section
variable {a : Addr} {ns : List Int} {H H' : Hp}
theorem dH.keep {W : List Addr} (h : dH K H a ns) (k : Kp W H H') (hw : ∀ o, H a = some (.cE o (.lst (ns.map V.int))) → a ∉ W) : dH K H' a ns := by
 rcases h with h | ⟨o, h⟩
 ·exact .inl h
 ·exact .inr ⟨o, k _ _ (hw o h) h⟩
end
abbrev two (x y : Nat) : List (Str × Nat) := [("own", x), ("guest", y)]
abbrev cq (e : Nat) : List (Str × Nat) := [("main", 0), ("elm", e)]
abbrev iL : List (Str × Nat) := [("main", 0)]
theorem Dh : ¬ (Sum.inr (Str.ofString "own") : Key) = Sum.inr (Str.ofString "guest") := by decide +kernel
theorem DL : ¬ (Sum.inr (Str.ofString "main") : Key) = Sum.inr (Str.ofString "elm") := by decide +kernel
section
variable {CH CS CT a ln lm : Addr} {ns : List Int} {H H' : Hp} {A : Ad} {L L' : List Ta} {M M' : Hs} {N : List (List Nat)} {c k i : Nat} {ms : List Nat}
theorem eC {W : List Addr} {b : Addr} {xs : List V} (i : aG CH CS CT H A L M) (kp : Kp W H H') (hw : ∀ x ∈ W, x ∈ A.w ++ L.flatMap Ta.l) (hb : H b = some (.lst xs)) (n : b ≠ A.ml) : H' b = some (.lst xs) :=
 kp _ _ (fun z => i.oY hb (by nofun) (by nofun) (by nofun) n (hw _ z)) hb
theorem jZ {W : List Addr} (i : aG CH CS CT H A L M) (kp : Kp W H H') (hw : ∀ x ∈ W, x ∈ A.w ++ L.flatMap Ta.l) (h : dH K H a ns) : dH K H' a ns :=
 h.keep kp fun o e z => i.oY e (by nofun) (by nofun) (by nofun) (fun e2 => by rw [e2, i.ml] at e; cases e) (hw _ z)
structure RJ (K : PySem.W.Frag) (CH CS CT a : Addr) (ns : List Int) (H : Hp) (A : Ad) (N : List (List Nat)) (ln lm : Addr) (c k i : Nat) (tr : List (Str × Nat)) (len : Nat) (ms : List Nat) (X : Hs → Prop) : Prop where
 ex : ∃ L M, aG CH CS CT H A L M ∧ Ch M L N c k ∧ M.ts.length = len ∧ M.ro = (two 0 0) ∧ M.st = (two (pos c i) 0) ∧ M.tr = tr ∧ X M
 hn : H ln = some (.lst (PV N))
 hm : H lm = some (.lst (nV ms))
 n1 : ln ≠ A.ml
 n2 : lm ≠ A.ml
 n3 : ln ≠ lm
 sc : dH K H a ns
theorem pd : aH (sD (two 0 0)) (.inr ("own" : Str)) = some (.int 0) := by decide +kernel
theorem kG {x y : Nat} : aH (sD (two x y)) (.inr ("own" : Str)) = some (.int (x : Int)) := fC rfl
theorem kj {x y : Nat} : aH (sD (two x y)) (.inr ("guest" : Str)) = some (.int (y : Int)) := (jI Dh).trans (fC rfl)
theorem set_own {x y z : Nat} : dh (two x y) "own" z = (two z y) := by
 unfold dh
 rw [kG]
 refine (if_pos rfl).trans ?_
 show [if ("own" : Str) = "own" then _ else _, if ("guest" : Str) = "own" then _ else _] = _
 rw [if_pos rfl, if_neg (by decide +kernel)]
theorem Fj {x y z : Nat} : dh (two x y) "guest" z = (two x z) := by
 unfold dh
 rw [kj]
 refine (if_pos rfl).trans ?_
 show [if ("own" : Str) = "guest" then _ else _, if ("guest" : Str) = "guest" then _ else _] = _
 rw [if_neg (by decide +kernel), if_pos rfl]
theorem Kb {M : Hs} (h : M.tr = iL) : cM M = ([("main" : Str)] : List Str) := by unfold cM; rw [h]; exact Hu _
theorem Aw {M : Hs} {e : Nat} (h : M.tr = (cq e)) : cM M = ([("elm" : Str), ("main" : Str)] : List Str) := by
 unfold cM
 rw [h]
 show cX ([("main" : Str), ("elm" : Str)] : List Str) = _
 exact (oB (List.Perm.swap _ _ _) (List.pairwise_pair.mpr (by decide +kernel))).symm
theorem yo {e : Nat} : aH (sD (cq e)) (.inr ("main" : Str)) = some (.int ((0 : Nat) : Int)) := fC rfl
theorem sI {e : Nat} : aH (sD (cq e)) (.inr ("elm" : Str)) = some (.int (e : Int)) := (jI DL).trans (fC rfl)
theorem yh {M : Hs} {e : Nat} (h : M.tr = (cq e)) (he : e ≠ 0) : kz M 0 "main" :=
 ⟨[("elm" : Str)], [], Aw h, fun y hy => by rw [List.mem_singleton.mp hy, h]; exact ⟨e, sI, he⟩, by rw [h]; exact yo⟩
theorem DE {M : Hs} {e : Nat} (h : M.tr = (cq e)) : kz M e "elm" :=
 ⟨[], [("main" : Str)], Aw h, fun y hy => (by cases hy), by rw [h]; exact sI⟩
theorem RJ.folder {tr : List (Str × Nat)} {len : Nat} {X : Hs → Prop} {T : Tx K mg} {Q : VK} {E : XK} (r : RJ K T.aj T.ay T.aA a ns H A N ln lm c k k tr len ms X) (hc : c ≠ k) (hl : len = aX c k) (hk : k ≤ 95) (hn : isNm (N.getD k []) = true)
  (q : ∀ H', RJ K T.aj T.ay T.aA a ns H' A N ln lm c (k + 1) k tr (len + 1) ms (fun _ => True) → Q (.int (len : Int)) H') : mY T.aj T.ay T.aA [.ref A.a, .str "own", .str (bA N k), .str "lgw", .str "lgw"] H Q E := by
 obtain ⟨L, M, i, ch, hlen, hro, hst, htr, _⟩ := r.ex
 have std : Std M c k := ⟨by rw [hro]; exact pd, by rw [hst]; exact kG⟩
 obtain ⟨sp, g⟩ := ch.Fn std (by omega) hn
 obtain ⟨a0, t0, gA, ht0, f0, hk0⟩ := ch.cY (Nat.le_refl k)
 rw [rV] at hk0
 have hb : aX c k ≤ 97 := by unfold aX; split <;> omega
 refine ⟨A, L, M, N.getD k [], pos c k, a0, t0, N.getD k [], rfl, ⟨i, ⟨[], [pos c k], _, sp, g⟩, gA, ht0, f0.wr, by rw [hk0]; rfl, by rw [hk0]; simp, by rw [ch.hL, hlen, hl]; omega⟩, rfl, by decide +kernel, by decide +kernel, fun a' H' i' k' => ?_⟩
 have hw : ∀ x ∈ [A.t, A.ml, a0.nm], x ∈ A.w ++ L.flatMap Ta.l := fun x hx => by
  simp only [List.mem_cons, List.not_mem_nil, or_false] at hx
  rcases hx with rfl | rfl | rfl
  ·simp [Ad.w]
  ·simp [Ad.w]
  ·exact List.mem_append_right _ (eZ gA (by simp [Ta.l]))
 rw [hlen]
 refine q H' ⟨⟨L ++ [a'], _, i', ch.grow hc (hlen.trans hl) hn ht0, ?_, hro, hst, htr, trivial⟩, eC i k' hw r.hn r.n1, eC i k' hw r.hm r.n2, r.n1, r.n2, r.n3, jZ i k' hw r.sc⟩
 show (List.length (_ ++ [_])) = _
 rw [List.length_append, List.length_set, hlen]; rfl
abbrev zb : Th := ⟨"folder", "own", "lgw", "lg", "", [], []⟩
theorem jf {A : Ad} {L : List Ta} {W : List Addr} (h : ∀ x ∈ W, x ∈ A.w) : ∀ x ∈ W, x ∈ A.w ++ L.flatMap Ta.l := fun x hx => List.mem_append_left _ (h x hx)
theorem RJ.tree {len : Nat} {X : Hs → Prop} {T : Tx K mg} {Q : VK} {E : XK} (r : RJ K T.aj T.ay T.aA a ns H A N ln lm c k i iL len ms X) (hl : len ≤ 200)
  (q : ∀ H', RJ K T.aj T.ay T.aA a ns H' A N ln lm c k i (cq len) (len + 1) ms (fun M => M.ts[len]? = some zb) → Q (.int (len : Int)) H') : nX T.aj T.ay T.aA [.ref A.a, .str "own", .str "elm"] H Q E := by
 obtain ⟨L, M, i, ch, hlen, hro, hst, htr, _⟩ := r.ex
 refine ⟨A, L, M, i, rfl, by rw [hro]; decide +kernel, by decide +kernel, by decide +kernel, by rw [Kb htr]; decide +kernel, by rw [htr]; decide +kernel, by rw [ch.hL, hlen]; omega, by rw [htr]; decide, fun a' H' i' k' => ?_⟩
 have hw : ∀ x ∈ [A.a, A.t, A.ml, A.tr], x ∈ A.w ++ L.flatMap Ta.l := jf fun x hx => by
  simp only [List.mem_cons, List.not_mem_nil, or_false] at hx
  rcases hx with rfl | rfl | rfl | rfl <;> simp [Ad.w]
 rw [hlen] at i' ⊢
 refine q H' ⟨⟨L ++ [a'], _, i', ch.ext, ?_, hro, hst, by rw [htr]; rfl, ?_⟩, eC i k' hw r.hn r.n1, eC i k' hw r.hm r.n2, r.n1, r.n2, r.n3, jZ i k' hw r.sc⟩
 ·show (List.length (_ ++ [_])) = _
  rw [List.length_append, hlen]; rfl
 ·show (M.ts ++ [_])[len]? = _
  rw [← hlen, List.getElem?_append_right (Nat.le_refl _), Nat.sub_self]; rfl
theorem Al : pos (c + 1) c = pos c c := by
 cases c with
 | zero => rfl
 | succ c => show num (c + 1 + 1) c = num (c + 1) c; unfold num; rw [if_pos (by omega), if_pos (by omega)]
theorem RJ.vd {len : Nat} {T : Tx K mg} {Q : VK} {E : XK} (r : RJ K T.aj T.ay T.aA a ns H A N ln lm (c + 1) (c + 1) c (cq (c + 2)) len ms (fun M => M.ts[c + 2]? = some zb)) (hc : c ≤ 95)
  (q : ∀ H', RJ K T.aj T.ay T.aA a ns H' A N ln lm c (c + 1) c (cq (c + 2)) len ms (fun _ => True) → Q .aq H') : nO T.aj T.ay T.aA [.ref A.a, .str "own", .str "elm", .str (bA N c)] H Q E := by
 obtain ⟨L, M, i, ch, hlen, hro, hst, htr, hel⟩ := r.ex
 have std : Std M (c + 1) c := ⟨by rw [hro]; exact pd, by rw [hst]; exact kG⟩
 have pg := ch.rel std (i := c) (by omega) (by omega)
 have ep : pos (c + 1) (c + 1) = c + 1 := by show num (c + 1) c = c + 1; unfold num; rw [if_pos (by omega)]
 obtain ⟨ae, te, hae, hte, fe, _⟩ := ch.cY (Nat.le_refl (c + 1))
 have hov : M.ov = [] := by rw [ch.ov, if_neg (by omega)]
 have hun : M.un = [] := by rw [ch.un, if_neg (by omega)]
 have hup := ch.qK (c + 1) (Nat.le_refl _)
 rw [if_neg (by omega)] at hup
 rw [ep] at pg hae hte hup
 refine ⟨A, L, M, N.getD c [], _, _, c + 1, c + 2, 0, "main", ae, te, rfl, i, rfl, pg, by rw [htr]; exact sI, by decide +kernel, by rw [hun]; rfl, by rw [hov]; rfl, by rw [htr]; exact (by decide : 2 < 64), by rw [hov]; decide, by rw [hun]; decide, hae, hte, fe.wr, ⟨_, hup⟩, yh htr (by omega), ⟨0, ?_⟩, fun H' i' k' => ?_⟩
 ·unfold iM
  rw [if_neg (by decide +kernel)]
  exact ⟨0, by rw [htr]; exact yo, .inl ⟨by rw [hun]; rfl, rfl⟩⟩
 ·have hw : ∀ x ∈ [A.a, A.ov, A.un], x ∈ A.w ++ L.flatMap Ta.l := jf fun x hx => by
   simp only [List.mem_cons, List.not_mem_nil, or_false] at hx
   rcases hx with rfl | rfl | rfl <;> simp [Ad.w]
  refine q H' ⟨⟨L, _, i', ch.vd (Nat.le_refl _) ⟨_, hel, ⟨rfl, rfl, rfl, .inl rfl⟩, rfl, rfl⟩, hlen, hro, by rw [← Al]; exact hst, htr, trivial⟩, eC i k' hw r.hn r.n1, eC i k' hw r.hm r.n2, r.n1, r.n2, r.n3, jZ i k' hw r.sc⟩
theorem RJ.Ce {len : Nat} {tr : List (Str × Nat)} {X : Hs → Prop} {T : Tx K mg} {Q : VK} {E : XK} (r : RJ K T.aj T.ay T.aA a ns H A N ln lm c (k + 1) k tr len ms X) (hk : k ≤ 95)
  (q : ∀ H', RJ K T.aj T.ay T.aA a ns H' A N ln lm c (k + 1) (k + 1) tr len ms (fun _ => True) → Q .aq H') : mH T.aj T.ay T.aA [.ref A.a, .str "own", .str (Tx.S (N.getD k [] ++ [47]))] H Q E := by
 obtain ⟨L, M, i, ch, hlen, hro, hst, htr, _⟩ := r.ex
 have std : Std M c k := ⟨by rw [hro]; exact pd, by rw [hst]; exact kG⟩
 have pg := ch.DD std (i := k) (by omega) (by omega)
 refine ⟨A, L, M, _, _, _, _, rfl, i, rfl, pg, by rw [hst]; exact (by decide : 2 ≤ 40), fun H' i' k' => ?_⟩
 have hw : ∀ x ∈ [A.a, A.st], x ∈ A.w ++ L.flatMap Ta.l := jf fun x hx => by
  simp only [List.mem_cons, List.not_mem_nil, or_false] at hx
  rcases hx with rfl | rfl <;> simp [Ad.w]
 refine q H' ⟨⟨L, _, i', ⟨ch.hL, ch.root, ch.eO, ch.js, ch.ov, ch.un, ch.nm⟩, hlen, hro, ?_, htr, trivial⟩, eC i k' hw r.hn r.n1, eC i k' hw r.hm r.n2, r.n1, r.n2, r.n3, jZ i k' hw r.sc⟩
 show dh M.st "own" _ = _
 rw [hst, set_own]
end
theorem Jy (k : Nat) : cT (k + 1) (-1) = some k := by
 unfold cT
 rw [if_neg (by decide)]
 have h : (-1 : Int) + ((k + 1 : Nat) : Int) = (k : Int) := by omega
 first
  | (rw [if_pos (by omega)]; congr 1; omega)
  | (simp; omega)
  | simp
section
variable {CH CS CT a ln lm : Addr} {ns : List Int} {H H' : Hp} {A : Ad} {N : List (List Nat)} {c k i : Nat} {ms : List Nat} {tr : List (Str × Nat)} {len : Nat} {X : Hs → Prop}
theorem RJ.put {ys : List Nat} (r : RJ K CH CS CT a ns H A N ln lm c k i tr len ms X) : RJ K CH CS CT a ns (upd H lm (.lst (nV ys))) A N ln lm c k i tr len ys X := by
 obtain ⟨L, M, i, rest⟩ := r.ex
 have kp : Kp [lm] H (upd H lm (.lst (nV ys))) := fun b o hb e => by
  rw [ah (fun z => hb (by simp [z]))]; exact e
 have off := i.oY r.hm (by nofun) (by nofun) (by nofun) r.n2
 refine ⟨⟨L, M, i.keep kp fun b hb hm => off (by rw [List.mem_singleton.mp hm] at hb; exact hb), rest⟩, by rw [ah r.n3]; exact r.hn, az, r.n1, r.n2, r.n3, r.sc.keep kp fun o e hm => ?_⟩
 rw [List.mem_singleton.mp hm, r.hm] at e
 cases e
theorem RJ.same (r : RJ K CH CS CT a ns H A N ln lm c k i tr len ms X) (s : ax H H') : RJ K CH CS CT a ns H' A N ln lm c k i tr len ms X := by
 obtain ⟨L, M, i, rest⟩ := r.ex
 exact ⟨⟨L, M, i.same s, rest⟩, s _ _ r.hn, s _ _ r.hm, r.n1, r.n2, r.n3, r.sc.keep (W := []) (.of s) fun _ _ => by simp⟩
theorem RJ.shift {c' : Nat} (r : RJ K CH CS CT a ns H A N ln lm c k i tr len ms X) (h1 : k ≤ c) (h2 : k ≤ c') (hp : pos c' i = pos c i) : RJ K CH CS CT a ns H A N ln lm c' k i tr len ms X := by
 obtain ⟨L, M, i, ch, h3, h4, h5, h6⟩ := r.ex
 exact ⟨⟨L, M, i, ch.shift h1 h2, h3, h4, by rw [hp]; exact h5, h6⟩, r.hn, r.hm, r.n1, r.n2, r.n3, r.sc⟩
end
theorem An {ms : List Nat} {x : Nat} : nV ms ++ [V.int (x : Int)] = nV (ms ++ [x]) := by rw [fh]; rfl
def eg (c k : Nat) : List (Str × Nat) := if c < k then cq (c + 2) else iL
def cP (c k : Nat) : Nat := if c < k then k + 2 else k + 1
theorem yG (c k : Nat) : cP c k = aX c k := by unfold cP aX; split <;> split <;> omega
def wH : Th := ⟨"folder", "own", "lgw", "lg", "", [], []⟩
def qP (K : PySem.W.Frag) (CH CS CT : Addr) : Sp := fun vs H Q _ => match vs with
 | [.ref h, .ref a, .int m, .int x] => ∃ A L M ns, ∃ many c : Nat, aG CH CS CT H A L M ∧ A.a = h ∧ m = (many : Int) ∧ x = (c : Int) ∧ c < many ∧ many ≤ 95 ∧ dH K H a ns ∧ M.ts = [wH] ∧ M.ov = [] ∧ M.un = [] ∧ M.ro = two 0 0 ∧ M.st = two 0 0 ∧ M.tr = iL ∧
   ∀ p ln lm N H', N.length = many → RJ K CH CS CT a ns H' A N ln lm c many many (cq (c + 2)) (many + 2) ((List.range many).map (num c)) (fun _ => True) → H' p = some (.tup [.ref ln, .ref lm]) → Q (.ref p) H'
 | _ => False
theorem Lf (T : Tx K mg) : aB P w K mg base aK 16 T.jo.f T.jo.d ["_law_house", "_law_script", "_law_many", "_law_at"] (qP K T.aj T.ay T.aA) := by
 have jW := zP (P := P) (w := w) (base := base) T
 have G_l_digits := Ij (P := P) (w := w) (base := base) T
 have G_l_name := FO (P := P) (w := w) (base := base) T
 have G_make_folder := Ct (P := P) (w := w) (base := base) T
 have G_make_tree := Dk (P := P) (w := w) (base := base) T
 have G_hang := CQ (P := P) (w := w) (base := base) T
 have G_stand := G9 (P := P) (w := w) (base := base) T
 refine T.jo.F.ok lr (fun vs H Q E h => ?_) (fun cdv A outer s H vs Q E hr h => ?_)
 ·unfold qP at h
  split at h
  ·rfl
  ·exact h.elim
 ·unfold qP at h
  split at h
  ·rename_i hh a m x
   obtain ⟨AA, L, M, ns, many, c, i, rfl, rfl, rfl, hcm, BQ, sc, hts, hov, hun, hro, hst, htr, q⟩ := h
   refine bj (b := aS pb) ((Dv.cut (Dv.aN 4 lr.nd (Dv.call G_l_digits (hr.mono (by decide)) T.jq.m T.jq.F.kp T.jq.b .nil aw (Dv.ag (Dv.call jW (hr.mono (by decide)) T.cw.m T.cw.F.kp T.cw.b .nil aw (Dv.ag (Dv.v 1) (Dv.ag Dv.int Dv.ai))) (Dv.ag (Dv.v 2) Dv.ai))))
   (Dv.cut (Dv.AM 5 rfl lr.nd (Dv.lV (K := K) rfl (Dv.v 4)) (fun _ _ _ _ => by exact Dv.rA) (fun _ _ _ _ => by exact (Dv.call G_l_name (hr.mono (by decide)) T.jm.m T.jm.F.kp T.jm.b .nil aw (Dv.ag (Dv.v 0) Dv.ai))))
   (Dv.cut (Dv.aN 6 lr.nd (Dv.lst Dv.ai))
   (Dv.cut (Dv.j0 PassesOwn.never rfl (Dv.xS T.pE (Dv.ag (Dv.v 2) Dv.ai)) (Dv.f6 7 lr.nd) (Dv.cut (Dv.aU (Dv.gx PySem.F.slot_list_append PySem.F.type_list_append fZ (Dv.v 6) (Dv.ag (Dv.call G_make_folder (hr.mono (by decide)) T.Lb T.n6.kp T.vh .nil aw (Dv.ag (Dv.v 0) (Dv.ag Dv.str (Dv.ag (Dv.ix (bq (K := K) rfl) (Dv.v 5) (Dv.v 7)) (Dv.ag Dv.str (Dv.ag Dv.str Dv.ai)))))) Dv.ai)))
   (Dv.cut (Dv.ba (Dv.bg dm (Dv.v 7) (Dv.v 3)) (Dv.cut (Dv.zm (Dv.call G_make_tree (hr.mono (by decide)) T.jA.m T.jA.F.kp T.jA.b .nil aw (Dv.ag (Dv.v 0) (Dv.ag Dv.str (Dv.ag Dv.str Dv.ai)))) (Dv.FN (Dv.v 6) (Dv.un ef Dv.int) F4))
   (Dv.au (Dv.aU (Dv.call G_hang (hr.mono (by decide)) T.iA.m T.iA.F.kp T.iA.b .nil aw (Dv.ag (Dv.v 0) (Dv.ag Dv.str (Dv.ag Dv.str (Dv.ag (Dv.ix (bq (K := K) rfl) (Dv.v 5) (Dv.v 7)) Dv.ai)))))))) Dv.nil)
   (Dv.au (Dv.aU (Dv.call G_stand (hr.mono (by decide)) T.jM.m T.jM.F.kp T.jM.b .nil aw (Dv.ag (Dv.v 0) (Dv.ag Dv.str (Dv.ag (Dv.op bR (Dv.ix (bq (K := K) rfl) (Dv.v 5) (Dv.v 7)) Dv.str) Dv.ai)))))))))
   (Dv.au (Dv.aM (Dv.tup (Dv.ag (Dv.v 5) (Dv.ag (Dv.v 6) Dv.ai)))))))))) ?_
   rw [show start ["_law_house", "_law_script", "_law_many", "_law_at", "_law_digits_here", "_law_names", "_law_numbers", "_law_k"] [V.ref AA.a, V.ref a, V.int (many : Int), V.int (c : Int)] = [some (V.ref AA.a), some (V.ref a), some (V.int (many : Int)), some (V.int (c : Int)), none, none, none, none] from rfl]
   refine ao ?_
   walk_at "w"
   refine ⟨⟨ns, sc.sq⟩, by decide, fun cc => ⟨many, rfl, by omega, fun ld ds H1 hld hdl hb1 s1 => ?_⟩⟩
   refine ao ?_
   walk_at "w"
   refine ⟨⟨_, aL.of hb1⟩, uN (fun _ => true) (fun x => match x with | .int d => .str (Tx.S (fk d)) | _ => .aq) (aL.of hb1) (fits (by rw [List.length_map, hdl]; omega)) ?_ ?_ ?_⟩
   ·intro x hx H2 s2 R hR
    exact hR _ (ax.refl _)
   ·intro x hx _ H2 s2 R hR
    obtain ⟨d, hd, rfl⟩ := List.mem_map.mp hx
    exact fun H3 s3 => hR _ s3
   intro H2 s2 ln hln
   have eN : ((ds.map V.int).filter (fun _ => true)).map (fun x => match x with | .int d => .str (Tx.S (fk d)) | _ => .aq) = PV (ds.map fk) := by
    rw [List.filter_eq_self.mpr (fun _ _ => rfl), List.map_map, fA, List.map_map, List.map_map]; rfl
   rw [eN]
   obtain ⟨N, hN⟩ : ∃ N, N = ds.map fk := ⟨_, rfl⟩
   rw [← hN]
   have hNl : N.length = many := by rw [hN, List.length_map, hdl]
   have hNm : ∀ w ∈ N, isNm w = true := fun w hw => by
    rw [hN] at hw
    obtain ⟨d, _, e⟩ := List.mem_map.mp hw
    rw [← e]; exact F8 d
   have hNn : ∀ j, j < many → isNm (N.getD j []) = true := fun j hj => by
    refine hNm _ ?_
    rw [List.getD_eq_getElem?_getD, List.getElem?_eq_getElem (by omega), Option.getD_some]
    exact List.getElem_mem _
   have s12 := s1.trans s2
   have s3 := s12.trans (ax.upd (o := .lst (PV N)) hln)
   have b3 : upd H2 ln (.lst (PV N)) ln = some (.lst (PV N)) := az
   have n1 : ln ≠ AA.ml := Ne.symm (aF ((i.same s12).ml) hln)
   generalize upd H2 ln (.lst (PV N)) = H3 at s3 b3 ⊢
   clear hN eN hb1 hld s1 s2 s12 hln
   refine ao ?_
   walk_at "w"
   refine ⟨fits (by simp), fun lm hlm => ?_⟩
   have s4 := s3.trans (ax.upd (o := .lst []) hlm)
   have b4 : upd H3 lm (.lst []) lm = some (.lst (nV [])) := az
   have c4 : upd H3 lm (.lst []) ln = some (.lst (PV N)) := by rw [ah (aF b3 hlm)]; exact b3
   have n2 : lm ≠ AA.ml := Ne.symm (aF ((i.same s3).ml) hlm)
   have n3 : ln ≠ lm := aF b3 hlm
   generalize upd H3 lm (.lst []) = H4 at s4 b4 c4 ⊢
   have r4 : RJ K T.aj T.ay T.aA a ns H4 AA N ln lm c 0 0 (eg c 0) (cP c 0) [] (fun _ => True) := by
    refine ⟨⟨L, M, i.same s4, ⟨i.len, ⟨wH, by rw [hts]; rfl, ⟨rfl, rfl, rfl, .inl rfl⟩, rfl, rfl⟩, fun j hj => absurd hj (by omega), fun z => absurd z (by omega), by rw [hov, if_neg (by omega)], by rw [hun, if_neg (by omega)], fun j hj => absurd hj (by omega)⟩, by rw [hts]; unfold cP; rw [if_neg (by omega)]; rfl, hro, hst, by rw [htr]; unfold eg; rw [if_neg (by omega)], trivial⟩, c4, b4, n1, n2, n3, sc.keep (W := []) (.of s4) fun _ _ => by simp⟩
   clear b3 s3 b4 c4 hlm n1 n2 n3 hts hov hun hro hst htr i sc s4
   obtain ⟨PV, hPV⟩ : ∃ PV : Nat → St → Hp → Prop, PV = fun k σ' H' => (∃ t, σ' = [some (V.ref AA.a), some (V.ref a), some (V.int (many : Int)), some (V.int (c : Int)), some (V.ref ld), some (V.ref ln), some (V.ref lm), t]) ∧ k ≤ many ∧ RJ K T.aj T.ay T.aA a ns H' AA N ln lm c k k (eg c k) (cP c k) ((List.range k).map (num c)) (fun _ => True) := ⟨_, rfl⟩
   refine b0 (PV many) ?_ ?_
   ·walk_at "w"
    refine ⟨⟨Int.le_trans (by decide) (Int.natCast_nonneg many), Int.lt_of_le_of_lt (show (many : Int) ≤ 100 by omega) (by decide)⟩, ?_⟩
    refine AK PV (by rw [hPV]; exact ⟨⟨_, rfl⟩, by omega, r4⟩) ?_ (fun σ' H' h => h)
    clear r4
    intro k σ' H5 hk hI
    rw [hPV] at hI
    obtain ⟨⟨t, rfl⟩, _, r5⟩ := hI
    have hkm : k < many := hk
    walk_at "w"
    rw [Int.zero_add]
    have atN : ∀ {J : Hp}, J ln = some (.lst (L2.aV.PV N)) → bp K J ln = fun R => R (L2.aV.PV N) := fun {J} e => by funext R; unfold bp; rw [e]
    have eat : bF (L2.aV.PV N) (k : Int) = some (V.str (bA N k)) := by
     refine gR ?_
     rw [fA, List.map_map, List.getElem?_map, List.getElem?_eq_getElem (by omega)]
     show some (V.str (Tx.S N[k])) = some (V.str (Tx.S (N.getD k [])))
     rw [List.getD_eq_getElem?_getD, List.getElem?_eq_getElem (by omega), Option.getD_some]
    refine b0 (fun σ' H' => σ' = [some (V.ref AA.a), some (V.ref a), some (V.int (many : Int)), some (V.int (c : Int)), some (V.ref ld), some (V.ref ln), some (V.ref lm), some (V.int (k : Int))] ∧ ((k ≠ c ∧ RJ K T.aj T.ay T.aA a ns H' AA N ln lm c (k + 1) k (eg c k) (cP c k + 1) ((List.range k).map (num c) ++ [num c k]) (fun _ => True)) ∨ (k = c ∧ RJ K T.aj T.ay T.aA a ns H' AA N ln lm (c + 1) (c + 1) c iL (c + 2) ((List.range c).map (num c) ++ [c + 1]) (fun _ => True)))) ?_ ?_
    ·walk_at "w"
     simp only [r5.hm, bp, r5.hn, eat]
     by_cases hkc : k = c
     ·subst hkc
      have r5' := r5.shift (c' := k + 1) (Nat.le_refl _) (by omega) Al
      have e1 : eg k k = iL := if_neg (by omega)
      have e2 : cP k k = k + 1 := if_neg (by omega)
      rw [e1, e2] at r5'
      refine r5'.folder (by omega) (by unfold aX; rw [if_pos (by omega)]) (by omega) (hNn k hkm) (fun H6 r6 => ?_)
      simp only [r6.hm]
      refine ⟨di (by simp; omega), trivial, .inr ⟨trivial, ?_⟩⟩
      rw [An]
      exact r6.put
     ·refine r5.folder (Ne.symm hkc) (yG c k) (by omega) (hNn k hkm) (fun H6 r6 => ?_)
      simp only [r6.hm]
      refine ⟨di (by simp; omega), trivial, .inl ⟨hkc, ?_⟩⟩
      rw [An, ← show cP c k = num c k by rw [yG]; unfold aX num; split <;> split <;> omega]
      exact r6.put
    ·rintro σ' H6 ⟨rfl, hI⟩
     refine b0 (fun σ' H' => σ' = [some (V.ref AA.a), some (V.ref a), some (V.int (many : Int)), some (V.int (c : Int)), some (V.ref ld), some (V.ref ln), some (V.ref lm), some (V.int (k : Int))] ∧ RJ K T.aj T.ay T.aA a ns H' AA N ln lm c (k + 1) k (eg c (k + 1)) (cP c (k + 1)) ((List.range (k + 1)).map (num c)) (fun _ => True)) ?_ ?_
     ·walk_at "w"
      have er : (List.range (k + 1)).map (num c) = (List.range k).map (num c) ++ [num c k] := by rw [List.range_succ, List.map_append]; rfl
      rcases hI with ⟨hkc, r6⟩ | ⟨rfl, r6⟩
      ·rw [decide_eq_false (by omega)]
       have e1 : eg c (k + 1) = eg c k := by unfold eg; split <;> split <;> first | rfl | omega
       have e2 : cP c (k + 1) = cP c k + 1 := by unfold cP; split <;> split <;> omega
       rw [er, e1, e2]
       exact aO ⟨trivial, r6⟩
      ·rw [decide_eq_true rfl]
       refine bo (ao ?_)
       walk_at "w"
       refine r6.tree (by omega) (fun H7 r7 => ?_)
       simp only [r7.hm]
       rw [show cT (nV ((List.range k).map (num k) ++ [k + 1])).length (-1) = some k from by
        rw [List.length_map, List.length_append, List.length_map, List.length_range]
        show cT (k + 1) (-1) = some k
        exact Jy k]
       dsimp only
       rw [show (nV ((List.range k).map (num k) ++ [k + 1])).set k (V.int ((k + 2 : Nat) : Int)) = nV ((List.range k).map (num k) ++ [k + 2]) from by
        rw [fh, fh]
        have := sC (y := V.int ((k + 1 : Nat) : Int)) (b := V.int ((k + 2 : Nat) : Int)) (nV ((List.range k).map (num k)))
        rw [List.length_map, List.length_map, List.length_range] at this
        exact this]
       have r8 := r7.put (ys := (List.range k).map (num k) ++ [k + 2])
       generalize upd H7 lm (.lst (nV ((List.range k).map (num k) ++ [k + 2]))) = H8 at r8 ⊢
       simp only [bp, r8.hn, eat]
       refine r8.vd (by omega) (fun H9 r9 => ⟨trivial, ?_⟩)
       have e1 : eg k (k + 1) = cq (k + 2) := if_pos (by omega)
       have e2 : cP k (k + 1) = k + 2 + 1 := by unfold cP; rw [if_pos (by omega)]
       have e3 : num k k = k + 2 := by unfold num; rw [if_neg (by omega)]
       rw [er, e1, e2, e3]
       exact r9
     ·rintro σ' H7 ⟨rfl, r7⟩
      walk_at "w"
      simp only [bp, r7.hn, eat]
      have e47 : Str.ofString "/" = Tx.S [47] := by decide +kernel
      have h8 := (d5 (hNn k hkm)).2.2.2
      rw [e47, show bA N k ++ Tx.S [47] = Tx.S (N.getD k [] ++ [47]) from Tx.i5 _ _]
      exact ⟨fits (by rw [Tx.b7, Tx.b7, List.length_singleton]; omega), r7.Ce (by omega) (fun H8 r8 => by rw [hPV]; exact ⟨⟨_, rfl⟩, by omega, r8⟩)⟩
   ·intro σ' H5 hI
    rw [hPV] at hI
    obtain ⟨⟨t, rfl⟩, _, r5⟩ := hI
    walk_at "w"
    refine ⟨fits (by simp), fun p hp => ?_⟩
    have : eg c many = cq (c + 2) := if_pos hcm
    rw [this] at r5
    have : cP c many = many + 2 := if_pos hcm
    rw [this] at r5
    exact q p ln lm N _ hNl (r5.same (ax.upd hp)) az
  ·exact h.elim
def p6 (CH CS CT : Addr) : Sp := fun vs H Q _ => match vs with
 | [.ref h, .str z, .str wy, .int n, .int m] => ∃ A L M t bs ns, ∃ e root : Nat, wy = Tx.S t ∧ aG CH CS CT H A L M ∧ A.a = h ∧ c7 M L z t bs e ns ∧ dQ ns = wy ∧ n = (e : Int) ∧ m = (bs.length : Int) ∧ bs.length ≤ 500 ∧ aH (sD M.ro) (.inr z) = some (.int (root : Int)) ∧ (∃ m, eL M L root m e true) ∧ ∀ H', ax H H' → Q (.bl true) H'
 | _ => False
theorem Di (T : Tx K mg) : aB P w K mg base aK 14 T.fc.f T.fc.d ["_law_house", "_law_asker", "_law_way", "_law_number", "_law_many"] (p6 T.aj T.ay T.aA) := by
 have mr := tY (P := P) (w := w) (base := base) T
 have G_asked_of := C0 (P := P) (w := w) (base := base) T
 have l6 := uS (P := P) (w := w) (base := base) T
 refine T.fc.F.ok y4 (fun vs H Q E h => ?_) (fun cdv A outer s H vs Q E hr h => ?_)
 ·unfold p6 at h
  split at h
  ·rfl
  ·exact h.elim
 ·unfold p6 at h
  split at h
  ·rename_i hh z wy n m
   obtain ⟨AA, L, M, t, bs, ns, e, root, rfl, i, rfl, pg, hwy, rfl, rfl, hbl, hro, hsn, q⟩ := h
   refine bj (b := aS vb) ((Dv.cut (Dv.aN 5 y4.nd (Dv.call mr (hr.mono (by decide)) T.si T.iQ.kp T.kf (.cons (show RelV (.bl true) _ from rfl) .nil) aw (Dv.ag (Dv.v 0) (Dv.ag (Dv.v 1) (Dv.ag (Dv.v 2) Dv.ai)))))
   (Dv.cut (Dv.ba (Dv.dq (Dv.w_or (Dv.b8 (Dv.bT (Dv.bZ (vc (K := K) rfl) T.ei eh (Dv.ag (Dv.v 5) (Dv.ag (Dv.glob (.ref T.bH) T.oA rfl) Dv.ai))))) (Dv.fL (Dv.bg (Fc hr.oy) (Dv.tup (Dv.ag (Dv.fld T.fH T.oK (Dv.v 5)) (Dv.ag (Dv.fld T.fH T.yJ (Dv.v 5)) Dv.ai))) (Dv.tup (Dv.ag (Dv.v 3) (Dv.ag (Dv.v 2) Dv.ai))))))) (Dv.au (Dv.aM Dv.bl)) Dv.nil)
   (Dv.au (Dv.aM (Dv.mX (Dv.cmp dm (Dv.bZ (lz (K := K) rfl) T.iB PySem.boot_len (Dv.ag (Dv.call G_asked_of (hr.mono (by decide)) T.Gv T.mQ.kp T.qa (.cons (show RelV (.bl true) _ from rfl) .nil) aw (Dv.ag (Dv.v 0) (Dv.ag (Dv.v 1) (Dv.ag (Dv.v 2) Dv.ai)))) Dv.ai)) (Dv.v 4)) (Dv.one (Dv.call l6 (hr.mono (by decide)) T.dM.m T.dM.F.kp T.dM.b .nil aw (Dv.ag (Dv.v 0) (Dv.ag (Dv.v 1) (Dv.ag (Dv.v 3) Dv.ai))))))))))) ?_
   rw [show start ["_law_house", "_law_asker", "_law_way", "_law_number", "_law_many", "_law_told"] [V.ref AA.a, V.str z, V.str (Tx.S t), V.int (e : Int), V.int (bs.length : Int)] = [some (V.ref AA.a), some (V.str z), some (V.str (Tx.S t)), some (V.int (e : Int)), some (V.int (bs.length : Int)), none] from rfl]
   refine ao ?_
   walk_at "w"
   refine ⟨AA, L, M, t, bs, e, ns, rfl, i, rfl, pg, fun fd dfd H1 s1 hfd => ao ?_⟩
   walk_at "w"
   refine ⟨_, _, _, .of (.ins hfd T.fH T.q1 T.q2 T.q3 T.q4), .cls T.q5, aO ?_⟩
   refine ⟨fd, _, _, _, rfl, hfd, rfl, fd, _, _, _, rfl, hfd, rfl, fits (by simp), fun p hp => ⟨fits (by simp), fun p2 hp2 => ?_⟩⟩
   have s2 := (ax.upd (o := .tup [V.int (e : Int), V.str (dQ ns)]) hp).trans (ax.upd (o := .tup [V.int (e : Int), V.str (Tx.S t)]) hp2)
   have np : p ≠ p2 := aF (az (o := .tup [V.int (e : Int), V.str (dQ ns)])) hp2
   have b1 : upd (upd H1 p (.tup [V.int (e : Int), V.str (dQ ns)])) p2 (.tup [V.int (e : Int), V.str (Tx.S t)]) p = some (.tup [V.int (e : Int), V.str (dQ ns)]) := by rw [ah np, az]
   have b2 : upd (upd H1 p (.tup [V.int (e : Int), V.str (dQ ns)])) p2 (.tup [V.int (e : Int), V.str (Tx.S t)]) p2 = some (.tup [V.int (e : Int), V.str (Tx.S t)]) := az
   generalize upd (upd H1 p (.tup [V.int (e : Int), V.str (dQ ns)])) p2 (.tup [V.int (e : Int), V.str (Tx.S t)]) = H2 at s2 b1 b2 ⊢
   have i2 := (i.same s1).same s2
   refine ⟨_, _, b1, b2, rfl, rfl, rfl, fun j h1 h2 => ?_, ?_⟩
   ·rw [hwy]
    match j, h1 with
    | 0, _ => exact (by unfold c9; simp)
    | 1, _ => exact (by unfold c9; simp)
   refine aO ?_
   walk_at "w"
   refine ⟨AA, L, M, t, bs, e, ns, rfl, i2, rfl, pg, fun av H3 s3 hav => ?_⟩
   simp only [bp, hav]
   rw [show decide (((nV bs).length : Int) = (bs.length : Int)) = true from decide_eq_true (by rw [List.length_map])]
   refine bo ⟨AA, L, M, e, root, true, i2.same s3, rfl, rfl, hro, hsn, fun H4 s4 => q _ (((s1.trans s2).trans s3).trans s4)⟩
  ·exact h.elim
theorem Jz (xs : List V) (a b : Nat) : cD xs (some (a : Int)) (some (b : Int)) = (xs.drop a).take (b - a) := by
 unfold cD
 rw [HT.lC, HT.lC]
 by_cases h : a ≤ xs.length
 ·rw [Nat.min_eq_left h]
  by_cases h2 : b ≤ xs.length
  ·rw [Nat.min_eq_left h2]
  ·rw [Nat.min_eq_right (by omega), List.take_of_length_le (by rw [List.length_drop]; omega), List.take_of_length_le (by rw [List.length_drop]; omega)]
 ·rw [show min a xs.length = xs.length by omega, List.drop_of_length_le (Nat.le_refl _), List.drop_of_length_le (by omega), List.take_nil, List.take_nil]
theorem t8 {N : List (List Nat)} {d n : Nat} (h : d + n ≤ N.length) : nW N d n = (N.drop d).take n := by
 refine List.ext_getElem ?_ fun i h1 h2 => ?_
 ·simp [nW]; omega
 ·have hi : i < n := by simp [nW] at h1; exact h1
  rw [List.getElem_take, List.getElem_drop]
  simp only [nW, List.getElem_map, List.getElem_range']
  rw [List.getD_eq_getElem?_getD, List.getElem?_eq_getElem (by omega), Option.getD_some]
  congr 1
  omega
theorem yZ : Str.ofString "/" = Tx.S [47] := by decide +kernel
theorem sx {N : List (List Nat)} {d n : Nat} : dQ (nS N d n) = Tx.S (47 :: Tx.bB 47 (nW N d n)) := by
 unfold dQ
 rw [yZ, ← hU, Tx.sO, Tx.i5]; rfl
structure LK (CH CS CT : Addr) (H : Hp) (A : Ad) (N : List (List Nat)) (ln lm : Addr) (c many d : Nat) : Prop where
 ex : ∃ L M, aG CH CS CT H A L M ∧ Ch M L N c many ∧ M.ro = two 0 (pos c (d + 1)) ∧ M.tr = cq (c + 2)
 hn : H ln = some (.lst (PV N))
 hm : H lm = some (.lst (nV ((List.range many).map (num c))))
section
variable {CH CS CT ln lm : Addr} {H H' : Hp} {A : Ad} {N : List (List Nat)} {c many d : Nat}
theorem LK.same (r : LK CH CS CT H A N ln lm c many d) (s : ax H H') : LK CH CS CT H' A N ln lm c many d := by
 obtain ⟨L, M, i, rest⟩ := r.ex
 exact ⟨⟨L, M, i.same s, rest⟩, s _ _ r.hn, s _ _ r.hm⟩
end
theorem zZ {N : List (List Nat)} (h : ∀ w ∈ N, isNm w = true) {W : List (List Nat)} (hs : ∀ w ∈ W, w ∈ N) : ∀ s ∈ W.map Tx.S, s.length ≤ 8 := fun s hs' => by
 obtain ⟨w, hw, rfl⟩ := List.mem_map.mp hs'
 rw [Tx.b7]
 exact (d5 (h w (hs w hw))).2.2.2
theorem ve (N : List (List Nat)) (n : Nat) : (PV N).take n = PV (N.take n) := by rw [fA, fA, ← List.map_take, ← List.map_take]
theorem AY (N : List (List Nat)) (n : Nat) : (PV N).drop n = PV (N.drop n) := by rw [fA, fA, ← List.map_drop, ← List.map_drop]
theorem jB {c many k : Nat} (h : k < many) : bF (nV ((List.range many).map (num c))) (k : Int) = some (V.int ((num c k : Nat) : Int)) := by
 refine gR ?_
 rw [List.getElem?_map, List.getElem?_map, List.getElem?_range h]; rfl
theorem Fz {c m : Nat} : bF (nV ((List.range (m + 1)).map (num c))) (-1) = some (V.int ((num c m : Nat) : Int)) := by
 rw [List.range_succ, List.map_append, fh]
 exact iI _ _
theorem rp {M : Hs} {L : List Ta} {N : List (List Nat)} {c k : Nat} (h : Ch M L N c k) {z : Str} {d e : Nat} {ps : List Str} {bs : List Nat} (hd : d ≤ k) (hw : eQ M L z (pos c d) (pos c d) ps bs e) : ∀ n, eQ M L z (pos c d) (pos c d) (List.replicate n (".." : Str) ++ ps) (List.replicate n (pos c d) ++ bs) e
 | 0 => hw
 | n + 1 => by
  obtain ⟨a, t, ha, ht, f, _⟩ := h.cY hd
  obtain ⟨hs, hl⟩ := h.m7 hd
  rw [List.replicate_succ, List.replicate_succ]
  exact .cons ⟨a, t, ha, ht, f.kd, f.g _⟩ (.inr (.inl ⟨rfl, _, _, hs, by rw [vi hd]; exact decide_eq_true rfl, rfl⟩)) (rp h hd hw n)
theorem zl : ∀ (n : Nat) {W : List (List Nat)}, W ≠ [] → (List.replicate n [46, 46, 47]).flatten ++ Tx.bB 47 W = Tx.bB 47 (List.replicate n [46, 46] ++ W)
 | 0, W, _ => by simp
 | n + 1, W, h => by
  rw [List.replicate_succ, List.flatten_cons, List.append_assoc, zl n h, List.replicate_succ]
  show _ = Tx.bB 47 ([46, 46] :: (List.replicate n [46, 46] ++ W))
  have hne : List.replicate n [46, 46] ++ W ≠ [] := by simp [h]
  cases e : List.replicate n [46, 46] ++ W with
  | nil => exact absurd e hne
  | cons x r => rfl
theorem jF {b : Bool} {A B : Prop} {i : Decidable (b = true)} (h : b = false) (hb : B) : if b = true then A else B := by rw [if_neg (by rw [h]; decide)]; exact hb
theorem yB {b : Bool} {A B : Prop} {i : Decidable (b = true)} (h : b = true) (hb : A) : if b = true then A else B := by rw [if_pos h]; exact hb
theorem Ap {xs : List V} {a : Nat} (h : a ≤ xs.length) : cD xs (some (a : Int)) none = xs.drop a := by
 unfold cD
 rw [HT.lC, Nat.min_eq_left h]
 exact List.take_of_length_le (by rw [List.length_drop]; exact Nat.le_refl _)
def dW : List Nat := (List.replicate 150 [46, 46, 47]).flatten
theorem C6 : Str.ofString "/" ++ Txt.mul (Str.ofString "../") 150 = Tx.S (47 :: dW) := by decide +kernel
theorem Ig : MulOk (Str.ofString "../") 150 := by
 unfold MulOk
 refine ⟨?_, ?_⟩ <;> decide +kernel
theorem A4 : (List.replicate 150 [46, 46]).map Tx.S = List.replicate 150 (".." : Str) := by rw [List.map_replicate]; rfl
theorem Ch.dW {M : Hs} {L : List Ta} {N : List (List Nat)} {c k : Nat} (h : Ch M L N c k) {z : Str} {d n : Nat} (hz : aH (sD M.ro) (.inr z) = some (.int ((pos c d : Nat) : Int))) (hi : d + n ≤ k) (jS : n ≤ 100) :
  ∃ bs, c7 M L z (47 :: (dW ++ Tx.bB 47 (nW N d n))) bs (pos c (d + n)) (nS N d n) := by
 have d0 := h.xJ hi
 by_cases hn : n = 0
 ·subst hn
  obtain ⟨a, t, ha, ht, f, _⟩ := h.cY hi
  have e1 : (47 :: (L2.aV.dW ++ Tx.bB 47 (nW N d 0))) = 47 :: L2.aV.dW := by
   show 47 :: (L2.aV.dW ++ []) = _
   rw [List.append_nil]
  have w1 : Tx.words 47 (47 :: L2.aV.dW) = List.replicate 150 [46, 46] := by decide +kernel
  have t1 : told (List.replicate 150 [46, 46]) (47 :: L2.aV.dW) = List.replicate 150 [46, 46] ++ [[46]] := by decide +kernel
  rw [e1]
  refine ⟨List.replicate 150 (pos c d) ++ [pos c d], by decide +kernel, by decide +kernel, by rw [w1]; decide +kernel, ?_⟩
  rw [w1, t1, List.map_append, A4]
  exact h.i9 hz (.inl ⟨rfl, rfl⟩) (Nat.le_refl _) (by omega) (rp h (by omega) (.cons ⟨a, t, ha, ht, f.kd, f.g _⟩ (.inl ⟨by decide +kernel, rfl⟩) (.nil _)) 150) hi (by rw [List.length_append, List.length_replicate]; exact (by decide : 151 ≤ 500)) jS
 ·have hne : nW N d n ≠ [] := fun z => hn (by have := congrArg List.length z; simpa [nW] using this)
  have wc : (List.replicate 150 [46, 46] ++ nW N d n).all bL = true := by
   rw [List.all_append, d0, show (List.replicate 150 [46, 46]).all bL = true from (by decide +kernel)]; rfl
  have hw : ∀ w ∈ List.replicate 150 [46, 46] ++ nW N d n, 47 ∉ w ∧ w ≠ [] := fun w hw => let q := gg (List.all_eq_true.mp wc w hw); ⟨q.1, q.2.1⟩
  have h8 : ∀ w ∈ nW N d n, w.length ≤ 8 := fun w hw => (gg (List.all_eq_true.mp d0 w hw)).2.2
  have hln := Tx.sy 47 8 _ h8
  have cu : (nW N d n).length = n := by simp [nW]
  have uA : (L2.aV.dW ++ Tx.bB 47 (nW N d n)).length ≤ 1500 := by
   rw [List.length_append, show L2.aV.dW.length = 450 from (by decide +kernel)]; omega
  have ej : L2.aV.dW ++ Tx.bB 47 (nW N d n) = Tx.bB 47 (List.replicate 150 [46, 46] ++ nW N d n) := zl 150 hne
  rw [ej] at uA
  rw [ej]
  have hwd : Tx.words 47 (47 :: Tx.bB 47 (List.replicate 150 [46, 46] ++ nW N d n)) = List.replicate 150 [46, 46] ++ nW N d n := by rw [Tx.p8, Tx.ng 47 _ hw]
  refine ⟨List.replicate 150 (pos c d) ++ (List.range' d n).map (pos c), by rw [List.length_cons]; omega, by rw [List.length_cons]; omega, by rw [hwd]; exact wc, ?_⟩
  rw [hwd, zc wc, List.map_append, A4, hU]
  exact h.i9 hz (.inl ⟨rfl, rfl⟩) (Nat.le_refl _) (by omega) (rp h (by omega) (h.way z (pos c d) n d hi) 150) hi (by rw [List.length_append, List.length_replicate, List.length_map, List.length_range']; omega) jS
def kZ (K : PySem.W.Frag) : Sp := fun vs H Q _ => match vs with
 | [.ref a] => (∃ ns : List Int, aL K H a (ns.map V.int)) ∧ lD H ∧ ∀ H', Q (.bl true) H'
 | _ => False
theorem Fe {H J : Hp} {x dx : Addr} {C : Addr} (hx : H x = none) (hdx : H dx = none) (k : Kp [x] (upd (upd H dx (.own x)) x (.ins C dx [])) J) : ax H J := fun b o e => by
 refine k _ _ (by rw [List.mem_singleton]; exact aF e hx) ?_
 rw [ah (aF e hx), ah (aF e hdx)]
 exact e
theorem E6 (T : Tx K mg) : aB P w K mg base aK 17 T.mh T.oO ["_law_script"] (kZ K) := by
 have jW := zP (P := P) (w := w) (base := base) T
 have G_l_row := Lf (P := P) (w := w) (base := base) T
 have BE := Di (P := P) (w := w) (base := base) T
 have G_House___init__ := Du (P := P) (w := w) (base := base) T
 have G_House_enroll := K3 (P := P) (w := w) (base := base) T
 have G_set_root := HK (P := P) (w := w) (base := base) T
 have l6 := uS (P := P) (w := w) (base := base) T
 have mf := sE (P := P) (w := w) (base := base) T
 have G_is_below := GY (P := P) (w := w) (base := base) T
 have mr := tY (P := P) (w := w) (base := base) T
 refine T.mV.ok d6 (fun vs H Q E h => ?_) (fun cdv A outer s H vs Q E hr h => ?_)
 ·unfold kZ at h
  split at h
  ·rfl
  ·exact h.elim
 ·unfold kZ at h
  split at h
  ·rename_i a
   obtain ⟨⟨ns, hS⟩, hO, q⟩ := h
   refine bj (b := aS tM) ((Dv.cut (Dv.aN 1 d6.nd (Dv.make T.D8 G_House___init__ (hr.mono (by decide)) T.Dd T.kP.b .nil aw (Dv.ag Dv.str Dv.ai)))
   (Dv.cut (Dv.aU (Dv.aY T.aI T.j5.h G_House_enroll (hr.mono (by decide)) T.j5.b .nil aw (Dv.v 1) (Dv.ag Dv.str Dv.ai)))
   (Dv.cut (Dv.aN 2 d6.nd (Dv.op bR (Dv.op bR Dv.int (Dv.op da (Dv.call jW (hr.mono (by decide)) T.cw.m T.cw.F.kp T.cw.b .nil aw (Dv.ag (Dv.v 0) (Dv.ag Dv.int Dv.ai))) Dv.int)) (Dv.op gC Dv.int (Dv.qA ym T.rH sX (Dv.ag (Dv.cmp dm (Dv.op da (Dv.op gY (Dv.call jW (hr.mono (by decide)) T.cw.m T.cw.F.kp T.cw.b .nil aw (Dv.ag (Dv.v 0) (Dv.ag Dv.int Dv.ai))) Dv.int) Dv.int) Dv.int) Dv.ai)))))
   (Dv.cut (Dv.aN 3 d6.nd (Dv.op da (Dv.call jW (hr.mono (by decide)) T.cw.m T.cw.F.kp T.cw.b .nil aw (Dv.ag (Dv.v 0) (Dv.ag Dv.int Dv.ai))) (Dv.v 2)))
   (Dv.cut (Dv.aN 4 d6.nd (Dv.op da (Dv.call jW (hr.mono (by decide)) T.cw.m T.cw.F.kp T.cw.b .nil aw (Dv.ag (Dv.v 0) (Dv.ag Dv.int Dv.ai))) (Dv.v 2)))
   (Dv.cut (Dv.zm (Dv.call G_l_row (hr.mono (by decide)) T.jo.m T.jo.F.kp T.jo.b .nil aw (Dv.ag (Dv.v 1) (Dv.ag (Dv.v 0) (Dv.ag (Dv.v 2) (Dv.ag (Dv.v 3) Dv.ai))))) (Dv.xD (K := K) rfl rfl (Dv.nI (Dv.f6 5 d6.nd) (Dv.nI (Dv.f6 6 d6.nd) Dv.wQ))))
   (Dv.cut (Dv.aN 7 d6.nd (Dv.op bR Dv.str (Dv.gz PySem.F.slot_str_join PySem.F.type_str_join (lN (K := K) rfl) Dv.str (Dv.ag (Dv.slice (j7 (K := K) rfl) (Dv.v 5) Dv.nK (Dv.jO (Dv.op bR (Dv.v 4) Dv.int))) Dv.ai))))
   (Dv.cut (Dv.aU (Dv.call G_set_root (hr.mono (by decide)) T.iK.m T.iK.F.kp T.iK.b .nil aw (Dv.ag (Dv.v 1) (Dv.ag Dv.str (Dv.ag (Dv.v 7) Dv.ai)))))
   (Dv.cut (Dv.j0 PassesOwn.never rfl (Dv.Eo T.pE (Dv.ag Dv.int (Dv.ag (Dv.v 2) (Dv.ag Dv.int Dv.ai)))) (Dv.f6 8 d6.nd) (Dv.cut (Dv.ba (Dv.b8 (Dv.bT (Dv.call BE (hr.mono (by decide)) T.fc.m T.fc.F.kp T.fc.b .nil aw (Dv.ag (Dv.v 1) (Dv.ag Dv.str (Dv.ag (Dv.op bR Dv.str (Dv.gz PySem.F.slot_str_join PySem.F.type_str_join (lN (K := K) rfl) Dv.str (Dv.ag (Dv.slice (j7 (K := K) rfl) (Dv.v 5) Dv.nK (Dv.jO (Dv.op bR (Dv.v 8) Dv.int))) Dv.ai))) (Dv.ag (Dv.ix (bq (K := K) rfl) (Dv.v 6) (Dv.v 8)) (Dv.ag (Dv.op bR (Dv.v 8) Dv.int) Dv.ai)))))))) (Dv.au (Dv.aM Dv.bl)) Dv.nil)
   (Dv.cut (Dv.aN 7 d6.nd (Dv.op bR Dv.str (Dv.gz PySem.F.slot_str_join PySem.F.type_str_join (lN (K := K) rfl) Dv.str (Dv.ag (Dv.slice (j7 (K := K) rfl) (Dv.v 5) (Dv.jO (Dv.op bR (Dv.v 4) Dv.int)) (Dv.jO (Dv.op bR (Dv.v 8) Dv.int))) Dv.ai))))
   (Dv.cut (Dv.ba (Dv.dq (Dv.w_and (Dv.bg Bk (Dv.v 8) (Dv.v 4)) (Dv.oI (Dv.b8 (Dv.bT (Dv.call BE (hr.mono (by decide)) T.fc.m T.fc.F.kp T.fc.b .nil aw (Dv.ag (Dv.v 1) (Dv.ag Dv.str (Dv.ag (Dv.v 7) (Dv.ag (Dv.ix (bq (K := K) rfl) (Dv.v 6) (Dv.v 8)) (Dv.ag (Dv.op GX (Dv.v 8) (Dv.v 4)) Dv.ai))))))))))) (Dv.au (Dv.aM Dv.bl)) Dv.nil)
   (Dv.cut (Dv.ba (Dv.bg eP (Dv.call l6 (hr.mono (by decide)) T.dM.m T.dM.F.kp T.dM.b .nil aw (Dv.ag (Dv.v 1) (Dv.ag Dv.str (Dv.ag (Dv.ix (bq (K := K) rfl) (Dv.v 6) (Dv.v 8)) Dv.ai)))) (Dv.cmp uL (Dv.v 8) (Dv.v 4))) (Dv.au (Dv.aM Dv.bl)) Dv.nil)
   (Dv.cut (Dv.ba (Dv.bg eP (Dv.call mf (hr.mono (by decide)) T.dX.m T.dX.F.kp T.dX.b .nil aw (Dv.ag (Dv.v 1) (Dv.ag (Dv.ix (bq (K := K) rfl) (Dv.v 6) (Dv.v 8)) Dv.ai))) (Dv.ix (bq (K := K) rfl) (Dv.lst (Dv.ag Dv.str (Dv.ag Dv.str Dv.ai))) (Dv.qA ym T.rH sX (Dv.ag (Dv.cmp uL (Dv.v 8) (Dv.v 3)) Dv.ai)))) (Dv.au (Dv.aM Dv.bl)) Dv.nil)
   (Dv.au (Dv.ba (Dv.bg eP (Dv.call G_is_below (hr.mono (by decide)) T.iD.m T.iD.F.kp T.iD.b .nil aw (Dv.ag (Dv.v 1) (Dv.ag (Dv.ix (bq (K := K) rfl) (Dv.v 6) (Dv.un ef Dv.int)) (Dv.ag (Dv.ix (bq (K := K) rfl) (Dv.v 6) (Dv.v 8)) Dv.ai)))) (Dv.xh (Dv.cmp uL (Dv.v 8) (Dv.v 3)) (Dv.one (Dv.cmp dm (Dv.ix (bq (K := K) rfl) (Dv.v 6) (Dv.un ef Dv.int)) (Dv.ix (bq (K := K) rfl) (Dv.v 6) (Dv.v 8)))))) (Dv.au (Dv.aM Dv.bl)) Dv.nil))))))))
   (Dv.cut (Dv.aN 9 d6.nd (Dv.call mr (hr.mono (by decide)) T.si T.iQ.kp T.kf (.cons (show RelV (.bl true) _ from rfl) .nil) aw (Dv.ag (Dv.v 1) (Dv.ag Dv.str (Dv.ag (Dv.op bR (Dv.op bR Dv.str (Dv.op gC Dv.str Dv.int)) (Dv.gz PySem.F.slot_str_join PySem.F.type_str_join (lN (K := K) rfl) Dv.str (Dv.ag (Dv.slice (j7 (K := K) rfl) (Dv.v 5) (Dv.jO (Dv.op bR (Dv.v 4) Dv.int)) Dv.nK) Dv.ai))) Dv.ai)))))
   (Dv.au (Dv.aM (Dv.mX (Dv.bZ (vc (K := K) rfl) T.ei eh (Dv.ag (Dv.v 9) (Dv.ag (Dv.glob (.ref T.bH) T.oA rfl) Dv.ai))) (Dv.one (Dv.cmp dm (Dv.fld T.fH T.oK (Dv.v 9)) (Dv.ix (bq (K := K) rfl) (Dv.v 6) (Dv.un ef Dv.int)))))))))))))))))) ?_
   rw [show start ["_law_script", "_law_house", "_law_many", "_law_at", "_law_deep", "_law_names", "_law_numbers", "_law_way", "_law_k", "_law_told"] [V.ref a] = [some (.ref a), none, none, none, none, none, none, none, none, none] from rfl]
   have sc0 : dH K H a ns := by
    rcases hS with hS | hS
    ·rcases hS with hS | hS
     ·rcases hO a with z | ⟨o, xs, z⟩
      ·rw [z] at hS; cases hS
      ·rw [z] at hS; cases hS
     ·exact .inr hS
    ·exact .inl fun J => .inr hS
   refine ao ?_
   walk_at "w"
   intro x dx hx hdx hne
   refine ⟨⟨dx, az⟩, by decide +kernel, by decide +kernel, fun A1 L1 H2 hA1 i2 fr1 kp1 => ⟨rfl, ?_⟩⟩
   subst hA1
   have s2 : ax H H2 := Fe hx hdx kp1
   have sc2 : dH K H2 a ns := sc0.keep (W := []) (.of s2) fun _ _ => by simp
   obtain ⟨gfs, gc, gh, ghl, gsf⟩ := i2.h
   refine ao ?_
   walk_at "w"
   refine ⟨A1.a, _, _, rfl, gh, (gsf _).trans rfl, A1, L1, _, i2, rfl, by decide +kernel, by decide +kernel, by decide, by decide, by decide +kernel, by decide +kernel, fun H3 i3 k3 => ?_⟩
   have inA : ∀ b ∈ [A1.a, A1.ro, A1.st], b ∈ A1.w ++ L1.flatMap Ta.l := jf fun b hb => by
    simp only [List.mem_cons, List.not_mem_nil, or_false] at hb
    rcases hb with rfl | rfl | rfl <;> simp [Ad.w]
   have sc3 : dH K H3 a ns := jZ i2 k3 inA sc2
   clear sc2 gh gsf gc ghl k3 i2 inA kp1 fr1 s2 sc0 hne
   refine b0 (fun σ' H' => H' = H3 ∧ ∃ many : Nat, 30 ≤ many ∧ many ≤ 95 ∧ σ' = [some (.ref a), some (.ref A1.a), some (.int (many : Int)), none, none, none, none, none, none, none]) ?_ ?_
   ·walk_at "w"
    refine ⟨⟨ns, sc3.sq⟩, by decide, fun c0 => ⟨by decide, ⟨ns, sc3.sq⟩, by decide, fun c1 => ⟨⟨by decide, by decide⟩, by decide, ?_⟩⟩⟩
    by_cases hx : c1 / 21 % 8 = 1
    ·rw [decide_eq_true hx]
     refine ⟨by first | exact ⟨by decide, by decide⟩ | decide | trivial | (unfold jJ; decide), rfl, (30 + c0 % 21 + 40).toNat, by omega, by omega, ?_⟩
     rw [show (30 + c0 % 21 + 40 * (if true = true then 1 else 0) : Int) = ((30 + c0 % 21 + 40).toNat : Int) from (by show (30 + c0 % 21 + 40 * 1 : Int) = _; omega)]
    ·rw [decide_eq_false hx]
     refine ⟨by first | exact ⟨by decide, by decide⟩ | decide | trivial | (unfold jJ; decide), rfl, (30 + c0 % 21).toNat, by omega, by omega, ?_⟩
     rw [show (30 + c0 % 21 + 40 * (if false = true then 1 else 0) : Int) = ((30 + c0 % 21).toNat : Int) from (by show (30 + c0 % 21 + 40 * 0 : Int) = _; omega)]
   rintro σ' H' ⟨e3, many, hm30, BQ, rfl⟩
   subst e3
   refine b0 (fun σ' H'' => H'' = H' ∧ ∃ c : Nat, c < many ∧ σ' = [some (.ref a), some (.ref A1.a), some (.int (many : Int)), some (.int (c : Int)), none, none, none, none, none, none]) ?_ ?_
   ·walk_at "w"
    refine ⟨⟨ns, sc3.sq⟩, by decide, fun c0 => ⟨by omega, by first | rfl | trivial, ?_⟩⟩
    obtain ⟨c, hc⟩ : ∃ c : Nat, c0 % (many : Int) = (c : Int) := ⟨(c0 % (many : Int)).toNat, by have := Int.emod_nonneg c0 (show (many : Int) ≠ 0 by omega); omega⟩
    exact ⟨c, by have := Int.emod_lt_of_pos c0 (show (0 : Int) < many by omega); omega, by rw [hc]⟩
   rintro σ' H4 ⟨rfl, c, hcm, rfl⟩
   refine b0 (fun σ' H'' => H'' = H4 ∧ ∃ d : Nat, d < many ∧ σ' = [some (.ref a), some (.ref A1.a), some (.int (many : Int)), some (.int (c : Int)), some (.int (d : Int)), none, none, none, none, none]) ?_ ?_
   ·walk_at "w"
    refine ⟨⟨ns, sc3.sq⟩, by decide, fun c0 => ⟨by omega, by first | rfl | trivial, ?_⟩⟩
    obtain ⟨c, hc⟩ : ∃ c : Nat, c0 % (many : Int) = (c : Int) := ⟨(c0 % (many : Int)).toNat, by have := Int.emod_nonneg c0 (show (many : Int) ≠ 0 by omega); omega⟩
    exact ⟨c, by have := Int.emod_lt_of_pos c0 (show (0 : Int) < many by omega); omega, by rw [hc]⟩
   rintro σ' H5 ⟨rfl, d, hdm, rfl⟩
   refine b0 (fun σ' H' => ∃ (ln lm : Addr) (N : List (List Nat)), N.length = many ∧ (∀ w ∈ N, isNm w = true) ∧ RJ K T.aj T.ay T.aA a ns H' A1 N ln lm c many many (cq (c + 2)) (many + 2) ((List.range many).map (num c)) (fun _ => True) ∧ σ' = [some (.ref a), some (.ref A1.a), some (.int (many : Int)), some (.int (c : Int)), some (.int (d : Int)), some (.ref ln), some (.ref lm), none, none, none]) ?_ ?_
   ·walk_at "w"
    refine ⟨A1, L1, _, ns, many, c, i3, rfl, rfl, rfl, hcm, BQ, sc3, rfl, rfl, rfl, rfl, rfl, rfl, fun p ln lm N H6 hNl rj hp => ?_⟩
    obtain ⟨L6, M6, i6, ch6, _⟩ := rj.ex
    refine ⟨p, [.ref ln, .ref lm], rfl, .inl (.of hp), rfl, _, _, rfl, _, _, rfl, rfl, ln, lm, N, hNl, fun w hw => ?_, rj, rfl⟩
    obtain ⟨j, hj, rfl⟩ := List.getElem_of_mem hw
    have := ch6.nm j (by omega)
    rw [List.getD_eq_getElem?_getD, List.getElem?_eq_getElem hj, Option.getD_some] at this
    exact this
   rintro σ' H6 ⟨ln, lm, N, hNl, hNm, rj, rfl⟩
   clear i3 sc3 hx hdx hS hO
   have vn : ∀ (d n : Nat), d + n ≤ many → Str.ofString "/" ++ Str.join (Str.ofString "/") (nS N d n) = Tx.S (47 :: Tx.bB 47 (nW N d n)) := fun d n h => sx
   have hbd : ∀ (d n : Nat), d + n ≤ many → (nS N d n).foldl (fun n z => n + z.length + (Str.ofString "/").length) 0 ≤ sizeLine ∧ (Str.ofString "/").length + (Str.join (Str.ofString "/") (nS N d n)).length ≤ sizeLine := fun d n h => by
    have := rg (ns := nS N d n) (by
     rw [← hU, t8 (by omega)]
     exact zZ hNm fun w hw => List.mem_of_mem_drop (List.mem_of_mem_take hw)) (by simp [nS]; omega)
    have e1 : (Str.ofString "/").length = 1 := by decide +kernel
    have e2 : 1000 ≤ sizeLine := by decide
    omega
   have hPS : ∀ (d n : Nat), d + n ≤ many → PV ((N.drop d).take n) = (nS N d n).map V.str := fun d n h => by rw [← hU, t8 (by omega), fA]
   have hP0 : ∀ (n : Nat), n ≤ many → PV (N.take n) = (nS N 0 n).map V.str := fun n h => by rw [← hPS 0 n (by omega), List.drop_zero]
   have hla : bF (nV ((List.range many).map (num c))) (-1) = some (V.int ((num c (many - 1) : Nat) : Int)) := by
    obtain ⟨m, rfl⟩ : ∃ m, many = m + 1 := ⟨many - 1, by omega⟩
    exact Fz
   refine b0 (fun σ' H' => RJ K T.aj T.ay T.aA a ns H' A1 N ln lm c many many (cq (c + 2)) (many + 2) ((List.range many).map (num c)) (fun _ => True) ∧ σ' = [some (.ref a), some (.ref A1.a), some (.int (many : Int)), some (.int (c : Int)), some (.int (d : Int)), some (.ref ln), some (.ref lm), some (.str (Tx.S (47 :: Tx.bB 47 (nW N 0 (d + 1))))), none, none]) ?_ ?_
   ·walk_at "w"
    refine ⟨_, .of rj.hn, fun p hp => ⟨_, .of az, ?_⟩⟩
    rw [show (d : Int) + 1 = ((d + 1 : Nat) : Int) from rfl, Ba, ve, hP0 (d + 1) (by omega)]
    refine ⟨_, rfl, (hbd _ _ (by omega)).1, (hbd _ _ (by omega)).2, ?_⟩
    rw [vn _ _ (by omega)]
    exact ⟨rj.same (ax.upd hp), rfl⟩
   rintro σ' H7 ⟨rj1, rfl⟩
   clear rj
   refine b0 (fun σ' H' => LK T.aj T.ay T.aA H' A1 N ln lm c many d ∧ ∃ v, σ' = [some (.ref a), some (.ref A1.a), some (.int (many : Int)), some (.int (c : Int)), some (.int (d : Int)), some (.ref ln), some (.ref lm), v, none, none]) ?_ ?_
   ·walk_at "w"
    obtain ⟨L7, M7, i7, ch7, _, hro, hst, htr, _⟩ := rj1.ex
    have hz : aH (sD M7.ro) (.inr ("guest" : Str)) = some (.int ((pos c 0 : Nat) : Int)) := by rw [hro]; exact kj
    refine ⟨A1, L7, M7, _, _, _, _, rfl, i7, rfl, ch7.path hz (show 0 + (d + 1) ≤ many by omega) (by omega), by rw [hst]; exact (by decide : 2 ≤ 40), by rw [hro]; exact (by decide : 2 ≤ 40), fun H8 i8 k8 => ⟨⟨⟨L7, _, i8, ?_, ?_, htr⟩, ?_, ?_⟩, _, rfl⟩⟩
    ·exact ⟨ch7.hL, ch7.root, ch7.eO, ch7.js, ch7.ov, ch7.un, ch7.nm⟩
    ·show dh M7.ro _ _ = _
     rw [hro, Nat.zero_add]; exact Fj
    ·exact eC i7 k8 (jf fun b hb => by
      simp only [List.mem_cons, List.not_mem_nil, or_false] at hb
      rcases hb with rfl | rfl | rfl <;> simp [Ad.w]) rj1.hn rj1.n1
    ·exact eC i7 k8 (jf fun b hb => by
      simp only [List.mem_cons, List.not_mem_nil, or_false] at hb
      rcases hb with rfl | rfl | rfl <;> simp [Ad.w]) rj1.hm rj1.n2
   rintro σ' H8 ⟨lk8, v8, rfl⟩
   clear rj1
   obtain ⟨PX, hPX⟩ : ∃ PX : Nat → St → Hp → Prop, PX = fun i σ' H' => LK T.aj T.ay T.aA H' A1 N ln lm c many d ∧ ∃ v t, σ' = [some (.ref a), some (.ref A1.a), some (.int (many : Int)), some (.int (c : Int)), some (.int (d : Int)), some (.ref ln), some (.ref lm), v, t, none] := ⟨_, rfl⟩
   refine b0 (PX ((many + 12) / 13)) ?_ ?_
   ·walk_at "w"
    refine ⟨0, (many : Int), 13, (many + 12) / 13, rfl, by decide, PyProof.noPylong_small (by decide), ?_, ?_, ?_⟩
    ·have hf : ∀ x : Int, 0 ≤ x → x < 1000 → Builtin.Range.rangeFitsLong x = true := fun x h1 h2 => by
      unfold Builtin.Range.rangeFitsLong
      simp only [Bool.and_eq_true, decide_eq_true_eq]
      omega
     simp [Builtin.Range.small, Builtin.Range.rangeSize]
     refine ⟨⟨⟨⟨hf _ (by omega) (by omega), hf _ (by omega) (by omega)⟩, hf _ (by omega) (by omega)⟩, hf _ (by split <;> omega) (by split <;> omega)⟩, .inr (hf _ (by omega) (by omega))⟩
    ·unfold Builtin.Range.rangeSize
     rw [if_pos (by decide)]
     split <;> omega
    refine D3 PX (by rw [hPX]; exact ⟨lk8, _, _, rfl⟩) ?_ (fun σ' H' h => h)
    clear lk8
    intro i σ' H9 hi hI
    rw [hPX] at hI
    obtain ⟨lk9, v9, t9, rfl⟩ := hI
    obtain ⟨k, hk⟩ : ∃ k, k = 13 * i := ⟨_, rfl⟩
    have hkm : k < many := by omega
    walk_at "w"
    rw [show (0 : Int) + (i : Int) * 13 = (k : Int) by omega]
    refine b0 (fun σ' H' => LK T.aj T.ay T.aA H' A1 N ln lm c many d ∧ ∃ v, σ' = [some (.ref a), some (.ref A1.a), some (.int (many : Int)), some (.int (c : Int)), some (.int (d : Int)), some (.ref ln), some (.ref lm), v, some (.int (k : Int)), none]) ?_ ?_
    ·walk_at "w"
     refine ⟨_, .of lk9.hn, fun p hp => ⟨_, .of az, ?_⟩⟩
     rw [show (k : Int) + 1 = ((k + 1 : Nat) : Int) from rfl, Ba, ve, hP0 (k + 1) (by omega)]
     refine ⟨_, rfl, (hbd _ _ (by omega)).1, (hbd _ _ (by omega)).2, ?_⟩
     rw [vn _ _ (by omega)]
     have lkp := lk9.same (ax.upd (o := .lst ((nS N 0 (k + 1)).map V.str)) hp)
     generalize upd H9 p _ = J at lkp ⊢
     simp only [bp, lkp.hm, jB hkm]
     obtain ⟨L, M, i, ch, hro, htr⟩ := lkp.ex
     have hz : aH (sD M.ro) (.inr ("own" : Str)) = some (.int ((pos c 0 : Nat) : Int)) := by rw [hro]; exact kG
     have pg := ch.path hz (show 0 + (k + 1) ≤ many by omega) (by omega)
     rw [Nat.zero_add] at pg
     have sn := ch.seen 0 (k + 1) (by omega)
     rw [decide_eq_true (Nat.zero_le _)] at sn
     exact ⟨A1, L, M, _, _, _, _, _, rfl, i, rfl, pg, sx, rfl, by simp, by simp; omega, hz, ⟨_, sn⟩, fun H' s => aO ⟨lkp.same s, _, rfl⟩⟩
    rintro σ' H10 ⟨vK, v10, rfl⟩
    clear lk9
    refine b0 (fun σ' H' => LK T.aj T.ay T.aA H' A1 N ln lm c many d ∧ σ' = [some (.ref a), some (.ref A1.a), some (.int (many : Int)), some (.int (c : Int)), some (.int (d : Int)), some (.ref ln), some (.ref lm), some (.str (Tx.S (47 :: Tx.bB 47 (nW N (d + 1) (k - d))))), some (.int (k : Int)), none]) ?_ ?_
    ·walk_at "w"
     refine ⟨_, .of vK.hn, fun p hp => ⟨_, .of az, ?_⟩⟩
     rw [show (k : Int) + 1 = ((k + 1 : Nat) : Int) from rfl, show (d : Int) + 1 = ((d + 1 : Nat) : Int) from rfl, Jz, AY, ve, Nat.add_sub_add_right, hPS (d + 1) (k - d) (by omega)]
     refine ⟨_, rfl, (hbd _ _ (by omega)).1, (hbd _ _ (by omega)).2, ?_⟩
     rw [vn _ _ (by omega)]
     exact ⟨vK.same (ax.upd hp), rfl⟩
    rintro σ' H11 ⟨mv, rfl⟩
    clear vK
    refine b0 (fun σ' H' => LK T.aj T.ay T.aA H' A1 N ln lm c many d ∧ ∃ v, σ' = [some (.ref a), some (.ref A1.a), some (.int (many : Int)), some (.int (c : Int)), some (.int (d : Int)), some (.ref ln), some (.ref lm), v, some (.int (k : Int)), none]) ?_ ?_
    ·walk_at "w"
     by_cases hdk : d < k
     ·refine yB (decide_eq_true (show (d : Int) < (k : Int) by omega)) ?_
      simp only [bp, mv.hm, jB hkm]
      obtain ⟨L, M, i, ch, hro, htr⟩ := mv.ex
      have hz : aH (sD M.ro) (.inr ("guest" : Str)) = some (.int ((pos c (d + 1) : Nat) : Int)) := by rw [hro]; exact kj
      have pg := ch.path hz (show (d + 1) + (k - d) ≤ many by omega) (by omega)
      rw [show (d + 1) + (k - d) = k + 1 by omega] at pg
      have sn := ch.seen (d + 1) (k + 1) (by omega)
      rw [decide_eq_true (show d + 1 ≤ k + 1 by omega)] at sn
      exact ⟨A1, L, M, _, _, _, _, _, rfl, i, rfl, pg, sx, rfl, by simp; omega, by simp; omega, hz, ⟨_, sn⟩, fun H' s => aO ⟨mv.same s, _, rfl⟩⟩
     ·exact jF (decide_eq_false (show ¬ (d : Int) < (k : Int) by omega)) (aO ⟨mv, _, rfl⟩)
    rintro σ' H12 ⟨oS, v12, rfl⟩
    clear mv
    refine b0 (fun σ' H' => LK T.aj T.ay T.aA H' A1 N ln lm c many d ∧ ∃ v, σ' = [some (.ref a), some (.ref A1.a), some (.int (many : Int)), some (.int (c : Int)), some (.int (d : Int)), some (.ref ln), some (.ref lm), v, some (.int (k : Int)), none]) ?_ ?_
    ·walk_at "w"
     simp only [bp, oS.hm, jB hkm]
     obtain ⟨L, M, i, ch, hro, htr⟩ := oS.ex
     have sn := ch.seen (d + 1) (k + 1) (by omega)
     rw [show decide (d + 1 ≤ k + 1) = decide ((d : Int) ≤ (k : Int)) from decide_eq_decide.mpr (by omega)] at sn
     refine ⟨A1, L, M, _, _, _, i, rfl, rfl, by rw [hro]; exact kj, ⟨_, sn⟩, fun H' s => ?_⟩
     refine jF ?_ ⟨oS.same s, _, rfl⟩
     simp
    rintro σ' H13 ⟨lX, v13, rfl⟩
    clear oS
    refine b0 (fun σ' H' => LK T.aj T.ay T.aA H' A1 N ln lm c many d ∧ ∃ v, σ' = [some (.ref a), some (.ref A1.a), some (.int (many : Int)), some (.int (c : Int)), some (.int (d : Int)), some (.ref ln), some (.ref lm), v, some (.int (k : Int)), none]) ?_ ?_
    ·walk_at "w"
     simp only [bp, lX.hm, jB hkm]
     obtain ⟨L, M, i, ch, hro, htr⟩ := lX.ex
     have up := ch.qK (k + 1) (by omega)
     by_cases hck : c ≤ k
     ·rw [if_pos (show c < k + 1 by omega)] at up
      refine ⟨A1, L, M, _, _, _, i, rfl, rfl, ⟨_, up⟩, by rw [htr]; exact (by decide : 2 < 64), DE htr, fun H' s => ⟨fits (by simp), fun p hp => ?_⟩⟩
      have eat : ∀ x : Int, x = 1 → bF [V.str (Str.ofString "main"), V.str (Str.ofString "elm")] x = some (V.str (Str.ofString "elm")) := fun x e => by rw [e]; rfl
      simp only [az]
      rw [eat _ (if_pos (decide_eq_true (show (c : Int) ≤ (k : Int) by omega)))]
      dsimp only
      refine jF ?_ ⟨(lX.same s).same (ax.upd hp), _, rfl⟩
      rw [decide_eq_true (show Str.ofString "elm" = Str.ofString "elm" from rfl)]; rfl
     ·rw [if_neg (show ¬ c < k + 1 by omega)] at up
      refine ⟨A1, L, M, _, _, _, i, rfl, rfl, ⟨_, up⟩, by rw [htr]; exact (by decide : 2 < 64), yh htr (by omega), fun H' s => ⟨fits (by simp), fun p hp => ?_⟩⟩
      have eat : ∀ x : Int, x = 0 → bF [V.str (Str.ofString "main"), V.str (Str.ofString "elm")] x = some (V.str (Str.ofString "main")) := fun x e => by rw [e]; rfl
      simp only [az]
      rw [eat _ (if_neg (by simp; omega))]
      dsimp only
      refine jF ?_ ⟨(lX.same s).same (ax.upd hp), _, rfl⟩
      rw [decide_eq_true (show Str.ofString "main" = Str.ofString "main" from rfl)]; rfl
    rintro σ' H14 ⟨l7, v14, rfl⟩
    clear lX
    walk_at "w"
    simp only [bp, l7.hm, jB hkm, hla]
    obtain ⟨L, M, i, ch, hro, htr⟩ := l7.ex
    obtain ⟨a1, t1, ha1, ht1, _⟩ := ch.cY (Nat.le_refl many)
    obtain ⟨a2, t2, ha2, ht2, _⟩ := ch.cY (show k + 1 ≤ many by omega)
    have bl := ch.below (k + 1) (many - (c + 1)) (by omega)
    rw [show c + 1 + (many - (c + 1)) = many by omega] at bl
    rw [show pos c many = num c (many - 1) from (by obtain ⟨m, rfl⟩ : ∃ m, many = m + 1 := ⟨many - 1, by omega⟩; rfl)] at bl ha1 ht1
    by_cases hck : c ≤ k
    ·rw [decide_eq_true (show c + 1 ≤ k + 1 ∧ k + 1 ≤ many by omega)] at bl
     refine ⟨A1, L, M, _, _, _, _, _, _, true, i, rfl, rfl, rfl, ha1, ht1, ha2, ht2, ⟨_, bl⟩, yB (decide_eq_true (show (c : Int) ≤ (k : Int) by omega)) (aO ?_)⟩
     rw [hPX]; exact ⟨l7, _, _, rfl⟩
    ·rw [decide_eq_false (show ¬ (c + 1 ≤ k + 1 ∧ k + 1 ≤ many) by omega)] at bl
     refine ⟨A1, L, M, _, _, _, _, _, _, false, i, rfl, rfl, rfl, ha1, ht1, ha2, ht2, ⟨_, bl⟩, jF (decide_eq_false (show ¬ (c : Int) ≤ (k : Int) by omega)) ?_⟩
     simp only [l7.hm, jB hkm, hla]
     refine jF ?_ ?_
     ·rw [decide_eq_false (show ¬ ((num c (many - 1) : Nat) : Int) = ((num c k : Nat) : Int) by unfold num; split <;> split <;> omega)]; rfl
     ·rw [hPX]; exact ⟨l7, _, _, rfl⟩
   rintro σ' H9 hI
   rw [hPX] at hI
   obtain ⟨lk9, v9, t9, rfl⟩ := hI
   refine ao ?_
   walk_at "w"
   have lS : (Str.ofString "/" ++ Txt.mul (Str.ofString "../") 150).length = 451 := by decide +kernel
   have e1 : (Str.ofString "/").length = 1 := by decide +kernel
   refine ⟨Ig, by decide +kernel, _, .of lk9.hn, fun p hp => ⟨_, .of az, ?_⟩⟩
   have hxl : d + 1 ≤ (PV N).length := by rw [fA, List.length_map, List.length_map, hNl]; omega
   rw [show (d : Int) + 1 = ((d + 1 : Nat) : Int) from rfl, Ap hxl, AY, ← List.take_of_length_le (l := N.drop (d + 1)) (i := many - (d + 1)) (by rw [List.length_drop, hNl]; exact Nat.le_refl _), hPS (d + 1) (many - (d + 1)) (by omega)]
   have hb := rg (ns := nS N (d + 1) (many - (d + 1))) (by
     rw [← hU, t8 (by omega)]
     exact zZ hNm fun w hw => List.mem_of_mem_drop (List.mem_of_mem_take hw)) (by simp [nS]; omega)
   refine ⟨_, rfl, (hbd _ _ (by omega)).1, ?_, ?_⟩
   ·rw [lS]
    have e2 : 10000 ≤ sizeLine := by decide
    omega
   have lkp := lk9.same (ax.upd (o := .lst ((nS N (d + 1) (many - (d + 1))).map V.str)) hp)
   generalize upd H9 p _ = J at lkp ⊢
   obtain ⟨L, M, i, ch, hro, htr⟩ := lkp.ex
   have hz : aH (sD M.ro) (.inr ("guest" : Str)) = some (.int ((pos c (d + 1) : Nat) : Int)) := by rw [hro]; exact kj
   obtain ⟨bs, pg⟩ := ch.dW hz (show (d + 1) + (many - (d + 1)) ≤ many by omega) (by omega)
   rw [show (d + 1) + (many - (d + 1)) = many by omega] at pg
   rw [show pos c many = num c (many - 1) from (by obtain ⟨m, rfl⟩ : ∃ m, many = m + 1 := ⟨many - 1, by omega⟩; rfl)] at pg
   rw [C6, ← hU, yZ, Tx.sO, Tx.i5]
   refine ⟨A1, L, M, _, _, _, _, rfl, i, rfl, pg, fun fd dfd H1 s1 hfd => ?_⟩
   refine ⟨_, _, _, .of (.ins hfd T.fH T.q1 T.q2 T.q3 T.q4), .cls T.q5, bo ?_⟩
   refine ⟨fd, _, _, _, rfl, hfd, rfl, ?_⟩
   simp only [bp, (lkp.same s1).hm, hla, decide_true]
   exact q _
  ·exact h.elim
end
theorem Ej {K : PySem.W.Frag} {a : Addr} {od : Option Addr} {tk : Nat} {sl : Array (Option Value)} {t0 t1 : Tok} (l : K.lookup a = some ⟨.type "tuple", od, .seq ([.str "." t0, .str ".." t1] : List Value).toArray tk, sl⟩) (H : Hp) : bY K H a [.str ".", .str ".."] := .inr ⟨_, _, _, l, rfl, rfl, fits (by simp), (.cons ⟨_, rfl⟩ (.cons ⟨_, rfl⟩ .nil))⟩
theorem Jn {K : PySem.W.Frag} {a : Addr} {od : Option Addr} {tk : Nat} {sl : Array (Option Value)} {t0 t1 t2 t3 t4 t5 t6 t7 : Tok} (l : K.lookup a = some ⟨.type "tuple", od, .seq ([.str "" t0, .str "l" t1, .str "g" t2, .str "w" t3, .str "lg" t4, .str "lw" t5, .str "gw" t6, .str "lgw" t7] : List Value).toArray tk, sl⟩) (H : Hp) : bY K H a [.str "", .str "l", .str "g", .str "w", .str "lg", .str "lw", .str "gw", .str "lgw"] := .inr ⟨_, _, _, l, rfl, rfl, fits (by simp), (.cons ⟨_, rfl⟩ (.cons ⟨_, rfl⟩ (.cons ⟨_, rfl⟩ (.cons ⟨_, rfl⟩ (.cons ⟨_, rfl⟩ (.cons ⟨_, rfl⟩ (.cons ⟨_, rfl⟩ (.cons ⟨_, rfl⟩ .nil))))))))⟩
theorem JZ {K : PySem.W.Frag} {a : Addr} {od : Option Addr} {tk : Nat} {sl : Array (Option Value)} {t0 t1 t2 : Tok} (l : K.lookup a = some ⟨.type "tuple", od, .seq ([.str "l" t0, .str "g" t1, .str "w" t2] : List Value).toArray tk, sl⟩) (H : Hp) : bY K H a [.str "l", .str "g", .str "w"] := .inr ⟨_, _, _, l, rfl, rfl, fits (by simp), (.cons ⟨_, rfl⟩ (.cons ⟨_, rfl⟩ (.cons ⟨_, rfl⟩ .nil)))⟩
theorem Jr {K : PySem.W.Frag} {H : Hp} {a : Addr} {ns : List Int} (hO : lD H) (hS : aL K H a (ns.map V.int)) : kZ K [.ref a] H (fun v _ => v = .bl true) fun _ _ _ => False := ⟨⟨ns, hS⟩, hO, fun _ => rfl⟩
theorem walk {l : PySem.W.OpenLaw} {q : Program} {loose : List Str} {XP : (Str → Option Value) → Heap → Prop} {YP : World → Heap → Prop} {d : DefRec} {K : Params → PySem.W.Frag} (hn : l.most = some 63) (hdf : d.params.defaults = []) (hdn : d.name = "law")
  (hY : ∀ (w : World) (h : Heap), YP w h → (K w.params).In h)
  (F : ∀ (w : World) (mg : Str → Option Value) (h : Heap), (K w.params).In h → h.Ns mainGlobals mg → ∃ T : Tx (K w.params) mg, T.mh = T.mh) :
  PySem.W.WalkO q loose XP YP l.row.toRowW d [] (fun f vs => PySem.call f vs) :=
 L2.Kc (n := 63) (k := 17) (x := "_law_script") (CX := fun _ => aK) (sp := fun w => kZ (K w.params)) hn (by decide) hdf ⟨rfl, by decide, by decide⟩ hY
  (fun w mg fa h KX G hfa => by
   obtain ⟨T, _⟩ := F w mg h KX G
   rw [hdn] at hfa
   have e := hfa.symm.trans T.HQ
   cases e
   exact ⟨T.oO, fun s u => by obtain ⟨oc, od, kV, doc, pm, an, cdv, ct, osl, e, _⟩ := T.mV.ex; rw [e]; exact .of_eq rfl, fun base _ _ => E6 T⟩)
  (fun _ _ a ns _ hO hS => Jr hO hS) fun _ _ _ _ _ z => z
end L2.aV

open PySem PySem.W PyProof.Rows
local macro_rules | `(tactic| walk_at "fa") => `(tactic| (refine' L2.FA.mk ?n ?l ?c ?k; (case n => k_is); (case l => k_is); (case c => k_is); (case k => k_is)))
local macro_rules | `(tactic| walk_at "ma") => `(tactic| (refine' L2.MA.mk ?n ?l ?c ?k ?t; (case n => k_is); (case l => k_is); (case c => k_is); (case k => k_is); (case t => k_is)))
local macro_rules | `(tactic| walk_at "ar") => `(tactic| (intro _ _ _ _ _ _ us hl; first | exact (match us, hl with | [_], _ => rfl) | exact (match us, hl with | [_, _], _ => rfl) | exact (match us, hl with | [_, _, _], _ => rfl) | exact (match us, hl with | [_, _, _, _], _ => rfl) | exact (match us, hl with | [_, _, _, _, _], _ => rfl) | exact (match us, hl with | [_, _, _, _, _, _], _ => rfl) | exact (match us, hl with | [_, _, _, _, _, _, _], _ => rfl) | exact (match us, hl with | [], _ => rfl)))
local macro_rules | `(tactic| walk_at "mg") => `(tactic| (refine' PySem.W.mg_of (by assumption) (by assumption) ?n; (case n => k_is)))
local macro_rules | `(tactic| walk_at "mn") => `(tactic| (refine' PySem.W.mg_none_of (by assumption) (by assumption) ?n; (case n => k_is)))
local macro_rules | `(tactic| walk_at "ft") => `(tactic| (refine' Classical.choice (L2.FA.gt (by assumption) (by assumption) ?b ?a); (case a => walk_at "fa"); (case b => walk_at "ar")))
local macro_rules | `(tactic| walk_at "mt") => `(tactic| (refine' Classical.choice (L2.MA.gt ?b ?a); (case a => walk_at "ma"); (case b => walk_at "ar")))
local macro_rules | `(tactic| walk_at "mk") => `(tactic| (refine' L2.K8 ?a ?b; (case a => k_is); (case b => k_is)))
local macro_rules | `(tactic| walk_at "cl") => `(tactic| (refine' L2.bK.mk ?a ?b ?c ?d; (case a => k_is); (case b => k_is); (case c => k_is); (case d => k_is)))
local macro_rules | `(tactic| walk_at "fu") => `(tactic| (refine' L2.uo ?l ?c ?k; (case l => k_is); (case c => k_is); (case k => k_is)))
local macro_rules | `(tactic| walk_at "fd") => `(tactic| (refine' L2.JO ?l ?c ?k ?d ?h; (case l => k_is); (case c => k_is); (case k => k_is); (case d => k_is); (case h => exact rfl)))
set_option maxRecDepth 100000 in
set_option maxHeartbeats 0 in
theorem PySem.Challenge.cw_leadnames_k22_a_deep_house_holds : PySem.Challenge.rw_leadnames_k22_a_deep_house.Holds := by
 refine L2.aV.hd0 ?_
 unfold L2.aV.dz
 k_fill
 refine L2.aV.walk (l := PySem.Challenge.rw_leadnames_k22_a_deep_house) rfl rfl rfl (fun w h Y => PySem.W.kIn_of (e := fun _ => by kernel_rfl) Y) ?F
 case F =>
  intro w mg h KX G
  refine' ⟨L2.aV.Tx.mk ?_ ?_ ?_ ?_ ?_ ?_ ?_ ?_ ?_ ?_ ?_ ?_ ?_ ?_ ?_ ?_ ?_ ?iQ ?_ ?xk ?kf ?mQ ?_ ?Ag ?qa ?_ ?_ ?_ ?_ ?_ ?_ ?_ ?_ ?_ ?_ ?_ ?_ ?n6 ?_ ?vh ?zp ?xN ?_ ?_ ?_ ?_ ?_ ?_ ?_ ?_ ?_ ?_ ?_ ?mV ?_ ?yO ?_ ?uU ?_ ?_ ?_ ?_ ?_ ?_ ?_ ?_ ?_ ?_ ?_ ?_ ?tL ?_ ?uP ?_ ?_ ?_ ?_ ?_ ?_ ?_ ?_ ?_ ?_ ?_ ?_ ?_ ?_ ?_ ?_ ?_ ?_ ?_ ?_ ?_ ?_ ?_ ?_ ?_ ?_ ?_ ?_ ?_ ?_ ?_ ?_ ?_ ?_ ?_ ?_ ?_ ?_ ?_ ?_ ?_ ?_ ?_ ?_ ?_ ?_ ?_ ?_ ?_ ?_ ?_ ?_ ?_ ?_ ?_ ?_ ?_ ?_ ?_ ?_ ?_ ?_ ?_ ?_ ?_ ?_ ?_ ?_ ?_ ?_ ?_ ?_ ?_ ?_ ?_ ?_ ?_ ?_ ?_ ?_ ?_ ?_ ?_ ?_ ?_ ?_ ?_ ?_ ?_ ?_ ?_ ?_ ?_ ?_ ?_ ?_ ?_ ?_ ?_ ?_ ?_ ?_ ?_ ?_ ?_ ?_ ?_ ?_ ?_ ?_ ?_ ?_, rfl⟩

  all_goals try (first | walk_at "mg" | walk_at "ft" | walk_at "mt" | k_is | (show PySem.W.findIn _ _ _ = some none; k_is) | walk_at "mn" | kit_is | k_exc | walk_at "mk" | walk_at "cl" | exact rfl | kernel_rfl)
  (case uU => (refine' L2.aV.Ej ?l_DOTS; (case l_DOTS => k_is)))
  (case tL => (refine' L2.aV.Jn ?l_RIGHTS; (case l_RIGHTS => k_is)))
  (case uP => (refine' L2.aV.JZ ?l_SINGLE_RIGHTS; (case l_SINGLE_RIGHTS => k_is)))
  (case iQ => walk_at "fd")
  (case xk => exact L2.gG (x := "walk") (y := "walk") (st := L2.aV.kR) (ds := [.bool true]) 1 (by k_is) (by exact rfl) (fun _ _ _ _ _ _ _ us hl => by (have e : us.length = 4 := (by have h := hl; rw [List.length_append] at h; simp at h; omega)); clear hl; exact (match us, e with | [_, _, _, _], _ => ⟨_, rfl, rfl⟩)))
  (case kf => exact L2.gG (x := "walk") (y := "walk") (st := L2.aV.kR) (ds := [.bool true]) 0 (by k_is) (by exact rfl) (fun _ _ _ _ _ _ _ us hl => by (have e : us.length = 3 := (by have h := hl; rw [List.length_append] at h; simp at h; omega)); clear hl; exact (match us, e with | [_, _, _], _ => ⟨_, rfl, rfl⟩)))
  (case mQ => walk_at "fd")
  (case Ag => exact L2.gG (x := "asked_of") (y := "asked_of") (st := L2.aV.kY) (ds := [.bool true]) 1 (by k_is) (by exact rfl) (fun _ _ _ _ _ _ _ us hl => by (have e : us.length = 4 := (by have h := hl; rw [List.length_append] at h; simp at h; omega)); clear hl; exact (match us, e with | [_, _, _, _], _ => ⟨_, rfl, rfl⟩)))
  (case qa => exact L2.gG (x := "asked_of") (y := "asked_of") (st := L2.aV.kY) (ds := [.bool true]) 0 (by k_is) (by exact rfl) (fun _ _ _ _ _ _ _ us hl => by (have e : us.length = 3 := (by have h := hl; rw [List.length_append] at h; simp at h; omega)); clear hl; exact (match us, e with | [_, _, _], _ => ⟨_, rfl, rfl⟩)))
  (case n6 => walk_at "fd")
  (case vh => exact L2.gG (x := "make_folder") (y := "make_folder") (st := L2.aV.iZ) (ds := [.str "lgw" _, .str "" _]) 2 (by k_is) (by exact rfl) (fun _ _ _ _ _ _ _ us hl => by (have e : us.length = 5 := (by have h := hl; rw [List.length_append] at h; simp at h; omega)); clear hl; exact (match us, e with | [_, _, _, _, _], _ => ⟨_, rfl, rfl⟩)))
  (case zp => exact L2.gG (x := "make_folder") (y := "make_folder") (st := L2.aV.iZ) (ds := [.str "lgw" _, .str "" _]) 1 (by k_is) (by exact rfl) (fun _ _ _ _ _ _ _ us hl => by (have e : us.length = 4 := (by have h := hl; rw [List.length_append] at h; simp at h; omega)); clear hl; exact (match us, e with | [_, _, _, _], _ => ⟨_, rfl, rfl⟩)))
  (case xN => exact L2.gG (x := "make_folder") (y := "make_folder") (st := L2.aV.iZ) (ds := [.str "lgw" _, .str "" _]) 0 (by k_is) (by exact rfl) (fun _ _ _ _ _ _ _ us hl => by (have e : us.length = 3 := (by have h := hl; rw [List.length_append] at h; simp at h; omega)); clear hl; exact (match us, e with | [_, _, _], _ => ⟨_, rfl, rfl⟩)))
  (case mV => walk_at "fu")
  (case yO => exact L2.Binds.all (fun us hl => match us, hl with | [_], _ => rfl))
  all_goals try (first | walk_at "mg" | walk_at "ft" | walk_at "mt" | k_is | (show PySem.W.findIn _ _ _ = some none; k_is) | walk_at "mn" | kit_is | k_exc | walk_at "mk" | walk_at "cl" | exact rfl | kernel_rfl)

