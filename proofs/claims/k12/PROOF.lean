import PyProof.Rows.All
import Wide.All
import OpenK.AllK
import Wide.FinOn
import Lean
import PyProof.EqAt
import PyProof.EqKinds
import PyProof.TupleCall
import PyProof.NsDelKeeps
import PyProof.InstStoreFacts
import KE.KLam
import KE.KRevIter
import PyProof.ZipIter
import KE.KUnpack
import PyProof.Conv_int_bool
import PySem.Challenge.RW_leadnames_k12_who_may
set_option Elab.async false
set_option linter.all false
set_option maxRecDepth 100000
namespace L2
open PySem PySem.W
def jQ (tb : String → Option Builtin) (p : Program) (w : World) (n₀ : Nat) (ann : Option Value) : Nat → SharedT → Thread → Option SharedT
 | 0, _, _ => none
 | n + 1, s, t => match through t with
  | true => some s
  | false => match stepOk n₀ ann t with
   | false => none
   | true => match stepT (denote tb) p w s t with
    | some (s', t') => jQ tb p w n₀ ann n s' t'
    | none => none
theorem yX {tb : String → Option Builtin} {p : Program} {w : World} {n₀ : Nat} {ann : Option Value} : ∀ {n : Nat} {s s' : SharedT} {t : Thread}, jQ tb p w n₀ ann n s t = some s' → topRun tb p w n₀ ann n s.abs t = some s'.abs
 | 0, _, _, _, h => by cases h
 | n + 1, s, s', t, h => by
  unfold jQ at h
  unfold topRun
  cases he : through t with
  | true => rw [he] at h; cases h; rfl
  | false =>
   rw [he] at h
   cases hk : stepOk n₀ ann t with
   | false => rw [hk] at h; cases h
   | true =>
    rw [hk] at h
    cases hs : stepT (denote tb) p w s t with
    | none => rw [hs] at h; cases h
    | some r => obtain ⟨s₂, t₂⟩ := r; rw [hs] at h; rw [stepT_spec hs]; exact yX h
def treeOf : List Obj → Nat → BT → BT
 | [], _, t => t
 | o :: r, n, t => treeOf r (n + 1) (t.ins n o)
theorem LeftO.Kl {p q : Program} {loose : List Str} {Xt : Shared → Bool} {α : Type} {Yf : Shared → α} {Ya : World → α} {N : Nat} {g0 : Bool} {H₀ : Params → Heap} {T₀ : Params → BT} {n₀ : Nat} {life : Life} {gs₀ : Array GenState} {d₀ : Drawn} {k₀ : Nat} {ann : Option Value}
  (wu : ∀ w : World, (fencedOpening treeTable p w N).map (fun s => (s.heap, s.gens, s.drawn, s.toks)) = some (H₀ w.params, gs₀, d₀, k₀))
  (tr : ∀ P : Params, absHeap (T₀ P) n₀ life = H₀ P)
  (size : ∀ P : Params, ((H₀ P).isNs mainGlobals && gs₀.size == 0, (H₀ P).objs.size, (H₀ P).nsMap mainGlobals "__annotations__") = (true, n₀, ann))
  (run : ∀ (w : World) (os : OsState), (jQ treeTable p w n₀ ann N ⟨T₀ w.params, n₀, life, gs₀, d₀, k₀, os⟩ (topStub p)).map (fun s => ((staticsOk (importedModules p.main.body) (H₀ w.params) s.abs.heap && namesBound p s.abs.heap && gensDone s.abs && laidKept (H₀ w.params) s.abs.heap),
    openSeen q loose (importedModules p.main.body) Xt g0 s.abs, Yf s.abs)) = some (true, openGood q loose, Ya w)) : LeftO p q loose Xt Yf Ya N g0 := fun w => by
 obtain ⟨⟨h, gs, d, k, os⟩, e, e'⟩ := Option.map_eq_some_iff.mp (wu w)
 obtain ⟨rfl, rfl, rfl, rfl⟩ : h = H₀ w.params ∧ gs = gs₀ ∧ d = d₀ ∧ k = k₀ := by simpa using e'
 obtain ⟨z1, z2, z3⟩ : _ ∧ _ ∧ _ := by simpa only [Prod.mk.injEq] using size w.params
 obtain ⟨s₁, r1, r2⟩ := Option.map_eq_some_iff.mp (run w os)
 obtain ⟨l1, l2, l3⟩ : _ ∧ _ ∧ _ := by simpa only [Prod.mk.injEq] using r2
 have r := yX r1
 have ea : SharedT.abs ⟨T₀ w.params, n₀, life, gs, d, k, os⟩ = ⟨H₀ w.params, gs, d, k, os⟩ := by
  unfold SharedT.abs
  rw [tr]
 rw [ea] at r
 have t : topFrom treeTable p w N ⟨H₀ w.params, gs, d, k, os⟩ = some s₁.abs := by
  unfold topFrom
  dsimp only
  rw [z1, z2, z3, r]
  show (match staticsOk (importedModules p.main.body) (H₀ w.params) s₁.abs.heap && namesBound p s₁.abs.heap && gensDone s₁.abs && laidKept (H₀ w.params) s₁.abs.heap with | true => _ | false => _) = _
  rw [l1]
 unfold openEnds
 rw [e]
 show (topFrom treeTable p w N _).map _ = _
 rw [t]
 exact congrArg some (Prod.ext l2 l3)
def eQ (ok : Nat → Option Value → Thread → Bool) (st : SharedT → Thread → Option (SharedT × Thread)) (n₀ : Nat) (ann : Option Value) : Nat → SharedT → Thread → Option SharedT
 | 0, _, _ => none
 | n + 1, s, t => match through t with
  | true => some s
  | false => match ok n₀ ann t with
   | false => none
   | true => match st s t with
    | some (s', t') => eQ ok st n₀ ann n s' t'
    | none => none
theorem zi {tb : String → Option Builtin} {p : Program} {w : World} {n₀ : Nat} {ann : Option Value} : ∀ (n : Nat) (s : SharedT) (t : Thread), eQ stepOk (stepT (denote tb) p w) n₀ ann n s t = jQ tb p w n₀ ann n s t
 | 0, _, _ => rfl
 | n + 1, s, t => by
  unfold eQ jQ
  cases through t with
  | true => rfl
  | false =>
   cases stepOk n₀ ann t with
   | false => rfl
   | true =>
    cases stepT (denote tb) p w s t with
    | none => rfl
    | some r => exact zi n r.1 r.2
theorem LeftO.Mj {p q : Program} {loose : List Str} {Xt : Shared → Bool} {α : Type} {Yf : Shared → α} {Ya : World → α} {N : Nat} {g0 : Bool} {H₀ : Params → Heap} {T₀ : Params → BT} {n₀ : Nat} {life : Life} {gs₀ : Array GenState} {d₀ : Drawn} {k₀ : Nat} {ann : Option Value}
  {ok : Nat → Option Value → Thread → Bool} {st : (Code → Sem Fin) → Program → World → SharedT → Thread → Option (SharedT × Thread)} {den : (String → Option Builtin) → Code → Sem Fin} {tb : String → Option Builtin}
  (e1 : stepOk = ok) (e2 : stepT = st) (e3 : denote = den) (e4 : treeTable = tb)
  (wu : ∀ w : World, (fencedOpening treeTable p w N).map (fun s => (s.heap, s.gens, s.drawn, s.toks)) = some (H₀ w.params, gs₀, d₀, k₀))
  (tr : ∀ P : Params, absHeap (T₀ P) n₀ life = H₀ P)
  (size : ∀ P : Params, ((H₀ P).isNs mainGlobals && gs₀.size == 0, (H₀ P).objs.size, (H₀ P).nsMap mainGlobals "__annotations__") = (true, n₀, ann))
  (run : ∀ (w : World) (os : OsState), (eQ ok (st (den tb) p w) n₀ ann N ⟨T₀ w.params, n₀, life, gs₀, d₀, k₀, os⟩ (topStub p)).map (fun s => ((staticsOk (importedModules p.main.body) (H₀ w.params) s.abs.heap && namesBound p s.abs.heap && gensDone s.abs && laidKept (H₀ w.params) s.abs.heap),
    openSeen q loose (importedModules p.main.body) Xt g0 s.abs, Yf s.abs)) = some (true, openGood q loose, Ya w)) : LeftO p q loose Xt Yf Ya N g0 := by
 subst e1 e2 e3 e4
 refine LeftO.Kl wu tr size fun w os => ?_
 rw [← zi]
 exact run w os
noncomputable def gp (P : Params) : BT := treeOf (boot_heap P).objs.toList 0 .nil
end L2

namespace L2
open PySem PySem.W PyProof.Rows
theorem IY {α β γ : Type} {o : Option α} {F : α → β × γ} {G : β × γ} (h1 : o.map (fun s => (F s).1) = some G.1) (h2 : o.map (fun s => (F s).2) = some G.2) : o.map F = some G := by
 cases o with
 | none => cases h1
 | some a => injection h1 with h1; injection h2 with h2; exact congrArg some (Prod.ext h1 h2)
theorem atS {α β : Type} {o : Option α} {s : α} {f : α → β} {g : β} (hs : o = some s) (h : o.map f = some g) : f s = g := by
 subst hs; exact Option.some.inj h
theorem fP {α β : Type} {a b : α} {c d : β} (h : a = b) (k : c = d) : (a, c) = (b, d) := by rw [h, k]
def F0 (p : Program) (H₀ : Heap) (s : SharedT) : Bool := staticsOk (importedModules p.main.body) H₀ s.abs.heap && namesBound p s.abs.heap && gensDone s.abs && laidKept H₀ s.abs.heap
def F3 (p q : Program) (loose : List Str) (Xt : Shared → Bool) (g0 : Bool) (s : SharedT) : Bool := s.abs.heap.keysOk (looseW q loose) ((recsOf q).map (·.name)) ((litsOf q).map (·.1)) ((clssOf q (looseW q loose)).map (·.name)) && s.abs.heap.accountedOkI (importedModules p.main.body) && s.abs.heap.isNs mainGlobals && s.abs.heap.isNs builtinsNs && tablesOk q s.abs.heap && Xt s.abs && (if g0 then s.abs.gens.size == 0 else !leftWithCleanup s.abs.gens)
def F1 (q : Program) (s : SharedT) := seen ((recsOf q).map (·.name)) (ownsOf q) [] { s.abs with gens := #[] }
theorem DU {p q : Program} {loose : List Str} {Xt : Shared → Bool} {α : Type} {Yf : Shared → α} {Ya : World → α} {g0 : Bool} {H₀ : Heap} {o : Option SharedT} {w : World}
  (q0 : o.map (F0 p H₀) = some true) (q1 : o.map (F1 q) = some (expectedOf q)) (q2 : o.map (fun s : SharedT => s.abs.heap.bltView) = some bltViewBooted)
  (q3 : o.map (F3 p q loose Xt g0) = some true) (q4 : o.map (fun s : SharedT => tabsOk q s.abs) = some true) (q5 : o.map (fun s : SharedT => pinSeenD q (drecsOf q) s.abs) = some (pinGoodD (drecsOf q)))
  (q6 : o.map (fun s : SharedT => plainSeenE q (looseW q loose) s.abs) = some (plainGoodE q (looseW q loose))) (q7 : o.map (fun s : SharedT => plainSeenD q loose s.abs) = some (plainGoodD q loose))
  (q8 : o.map (fun s : SharedT => wideSeen q s.abs) = some (wideGood q)) (q9 : o.map (fun s : SharedT => clsSeenW q loose s.abs) = some (clsGoodW q loose))
  (hJ : o.map (fun s : SharedT => Yf s.abs) = some (Ya w)) :
  o.map (fun s : SharedT => (F0 p H₀ s, openSeen q loose (importedModules p.main.body) Xt g0 s.abs, Yf s.abs)) = some (true, openGood q loose, Ya w) := by
 obtain ⟨s, hs, a0⟩ := Option.map_eq_some_iff.mp q0
 have a1 := atS hs q1
 have a2 := atS hs q2
 have a3 := atS hs q3
 have a4 := atS hs q4
 have a5 := atS hs q5
 have a6 := atS hs q6
 have a7 := atS hs q7
 have a8 := atS hs q8
 have a9 := atS hs q9
 have a10 := atS hs hJ
 clear q0 q1 q2 q3 q4 q5 q6 q7 q8 q9 hJ
 subst hs
 show some _ = some _
 refine congrArg some (fP a0 (fP ?_ a10))
 unfold openSeen openGood
 exact fP a1 (fP a2 (fP a3 (fP a4 (fP a5 (fP a6 (fP a7 (fP a8 a9)))))))
theorem jq {α β γ : Type} {o : Option α} {f : α → β} {g : α → γ} {b : β} {c : γ} (h : o.map (fun s => (f s, g s)) = some (b, c)) : o.map f = some b := by
 cases o with
 | none => cases h
 | some a => injection h with h; exact congrArg some (congrArg Prod.fst h)
theorem dg {α β γ : Type} {o : Option α} {f : α → β} {g : α → γ} {b : β} {c : γ} (h : o.map (fun s => (f s, g s)) = some (b, c)) : o.map g = some c := by
 cases o with
 | none => cases h
 | some a => injection h with h; exact congrArg some (congrArg Prod.snd h)
theorem Er {α β γ : Type} {o : Option α} {l : List β} {f : α → β → γ} {g : β → γ} (n : Nat) (h1 : o.map (fun s => (l.take n).map (f s)) = some ((l.take n).map g)) (h2 : o.map (fun s => (l.drop n).map (f s)) = some ((l.drop n).map g)) : o.map (fun s => l.map (f s)) = some (l.map g) := by
 cases o with
 | none => cases h1
 | some a =>
  injection h1 with h1
  injection h2 with h2
  refine congrArg some ?_
  show l.map (f a) = l.map g
  rw [← List.take_append_drop n l, List.map_append, List.map_append]
  exact congr (congrArg _ h1) h2
theorem JQ {K : Params → Frag} {as : List Addr} {e : ∀ P, as = (K P).map (·.1)} {ts : List Addr} {o : Option SharedT} {w : World} (h : o.map (fun s => (K w.params).map fun p => s.abs.heap.get? p.1) = some ((K w.params).map fun p => some p.2)) (ht : o.map (fun s => ts.map s.abs.heap.get?) = some (ts.map fun _ => some (tabObj #[]))) :
  o.map (fun s => (kmHook K as e ts).obs s.abs) = some ((kmHook K as e ts).val w) := by
 refine IY (F := fun s : SharedT => (kmHook K as e ts).obs s.abs) (G := (kmHook K as e ts).val w) ?_ ht
 show o.map (fun s : SharedT => as.map s.abs.heap.get?) = some ((K w.params).map fun p => some p.2)
 rw [e w.params]
 simp only [List.map_map]
 exact h
end L2

section
open PySem PySem.W PyProof.Rows
local macro_rules | `(tactic| o_head $H) => `(tactic| (refine (by assumption : ∀ h' : PySem.W.Hook, h' = _ → PySem.W.OpenRow.Holds _) $H ?_; rfl))
set_option maxHeartbeats 0 in
noncomputable def L2.bf.ee : (h : Hook) ×' ((∀ h' : Hook, h' = h → (PySem.Challenge.rw_leadnames_k12_who_may).row.Holds) → (PySem.Challenge.rw_leadnames_k12_who_may).row.Holds) := by
 refine' ⟨_, fun x => _⟩
 rotate_left
 k_head
end
section
open PySem PySem.W PyProof.Rows
namespace L2.bf
noncomputable def QV : Program := view (PySem.Challenge.rw_leadnames_k12_who_may).prog [0, 2, 3, 4, 5, 6, 7, 8, 9, 10, 11, 12, 13, 15, 16, 17, 18, 19, 20, 21, 22, 23, 24, 25, 26, 27, 28, 29, 30, 31, 32, 33, 35, 36, 37, 38, 39, 41, 42, 44, 45, 46, 47, 49, 50, 51, 52, 53, 54, 55, 56, 57, 58, 61, 62, 63, 64, 65, 66, 67, 68, 69, 70, 71, 74, 75, 77, 78, 79, 80, 81, 82, 83, 84, 85]
theorem fb : ∀ w : World, (fencedOpening treeTable (PySem.Challenge.rw_leadnames_k12_who_may).prog w 16346).map (fun s => (s.heap, s.gens, s.drawn, s.toks)) = some (boot_heap w.params, Array.mk [], boot_drawn, boot_toks) := boot_open rfl rfl (fun _ => rfl)
theorem dE : ∀ P : Params, absHeap (L2.gp P) 11 {} = boot_heap P := by intro P; kernel_rfl
theorem K5 : ∀ P : Params, ((boot_heap P).isNs mainGlobals && (Array.mk ([] : List GenState)).size == 0, (boot_heap P).objs.size, (boot_heap P).nsMap mainGlobals "__annotations__") = (true, 11, some (.ref 6)) := by intro P; kernel_rfl
set_option maxHeartbeats 0
theorem qL (w : World) (os : OsState) : ((eQ PySem.W.Fast.tw6613529449190102663 (PySem.W.Fast.tw10156331382660048174 (PySem.W.Fast.tw11892475500146522536 PySem.W.Fast.tw14364793385576792824) (PySem.Challenge.rw_leadnames_k12_who_may).prog w) 11 (some (.ref 6)) 16346 ⟨L2.gp w.params, 11, {}, Array.mk [], boot_drawn, boot_toks, os⟩ (topStub (PySem.Challenge.rw_leadnames_k12_who_may).prog))).map (fun s => (((staticsOk (importedModules (PySem.Challenge.rw_leadnames_k12_who_may).prog.main.body) (boot_heap w.params) s.abs.heap && namesBound (PySem.Challenge.rw_leadnames_k12_who_may).prog s.abs.heap && gensDone s.abs && laidKept (boot_heap w.params) s.abs.heap)), s.abs.heap.bltView, pinSeenD QV (drecsOf QV) s.abs, plainSeenD QV [PySem.Str.ofString "walk", PySem.Str.ofString "make_folder", PySem.Str.ofString "make_file"] s.abs, clsSeenW QV [PySem.Str.ofString "walk", PySem.Str.ofString "make_folder", PySem.Str.ofString "make_file"] s.abs, [1044].map s.abs.heap.get?)) = some ((true, bltViewBooted, pinGoodD (drecsOf QV), plainGoodD QV [PySem.Str.ofString "walk", PySem.Str.ofString "make_folder", PySem.Str.ofString "make_file"], clsGoodW QV [PySem.Str.ofString "walk", PySem.Str.ofString "make_folder", PySem.Str.ofString "make_file"], [1044].map fun _ => some (tabObj #[]))) := by kernel_rfl
theorem qM (w : World) (os : OsState) : ((eQ PySem.W.Fast.tw6613529449190102663 (PySem.W.Fast.tw10156331382660048174 (PySem.W.Fast.tw11892475500146522536 PySem.W.Fast.tw14364793385576792824) (PySem.Challenge.rw_leadnames_k12_who_may).prog w) 11 (some (.ref 6)) 16346 ⟨L2.gp w.params, 11, {}, Array.mk [], boot_drawn, boot_toks, os⟩ (topStub (PySem.Challenge.rw_leadnames_k12_who_may).prog))).map (fun s => (seen ((recsOf QV).map (·.name)) (ownsOf QV) [] { s.abs with gens := #[] }, wideSeen QV s.abs)) = some ((expectedOf QV, wideGood QV)) := by kernel_rfl
theorem q3 (w : World) (os : OsState) : ((eQ PySem.W.Fast.tw6613529449190102663 (PySem.W.Fast.tw10156331382660048174 (PySem.W.Fast.tw11892475500146522536 PySem.W.Fast.tw14364793385576792824) (PySem.Challenge.rw_leadnames_k12_who_may).prog w) 11 (some (.ref 6)) 16346 ⟨L2.gp w.params, 11, {}, Array.mk [], boot_drawn, boot_toks, os⟩ (topStub (PySem.Challenge.rw_leadnames_k12_who_may).prog))).map (fun s => (s.abs.heap.keysOk (looseW QV [PySem.Str.ofString "walk", PySem.Str.ofString "make_folder", PySem.Str.ofString "make_file"]) ((recsOf QV).map (·.name)) ((litsOf QV).map (·.1)) ((clssOf QV (looseW QV [PySem.Str.ofString "walk", PySem.Str.ofString "make_folder", PySem.Str.ofString "make_file"])).map (·.name)) && s.abs.heap.accountedOkI (importedModules (PySem.Challenge.rw_leadnames_k12_who_may).prog.main.body) && s.abs.heap.isNs mainGlobals && s.abs.heap.isNs builtinsNs && tablesOk QV s.abs.heap && (fun s => xlAt QV [] s && recOk (RowW.records (OpenRow.toRowW (PySem.Challenge.rw_leadnames_k12_who_may).row)) s) s.abs && (if true then s.abs.gens.size == 0 else !leftWithCleanup s.abs.gens))) = some (true) := by kernel_rfl
theorem q4 (w : World) (os : OsState) : ((eQ PySem.W.Fast.tw6613529449190102663 (PySem.W.Fast.tw10156331382660048174 (PySem.W.Fast.tw11892475500146522536 PySem.W.Fast.tw14364793385576792824) (PySem.Challenge.rw_leadnames_k12_who_may).prog w) 11 (some (.ref 6)) 16346 ⟨L2.gp w.params, 11, {}, Array.mk [], boot_drawn, boot_toks, os⟩ (topStub (PySem.Challenge.rw_leadnames_k12_who_may).prog))).map (fun s => tabsOk QV s.abs) = some (true) := by kernel_rfl
theorem q6 (w : World) (os : OsState) : ((eQ PySem.W.Fast.tw6613529449190102663 (PySem.W.Fast.tw10156331382660048174 (PySem.W.Fast.tw11892475500146522536 PySem.W.Fast.tw14364793385576792824) (PySem.Challenge.rw_leadnames_k12_who_may).prog w) 11 (some (.ref 6)) 16346 ⟨L2.gp w.params, 11, {}, Array.mk [], boot_drawn, boot_toks, os⟩ (topStub (PySem.Challenge.rw_leadnames_k12_who_may).prog))).map (fun s => plainSeenE QV (looseW QV [PySem.Str.ofString "walk", PySem.Str.ofString "make_folder", PySem.Str.ofString "make_file"]) s.abs) = some (plainGoodE QV (looseW QV [PySem.Str.ofString "walk", PySem.Str.ofString "make_folder", PySem.Str.ofString "make_file"])) := by kernel_rfl
theorem y0 (w : World) (os : OsState) : ((eQ PySem.W.Fast.tw6613529449190102663 (PySem.W.Fast.tw10156331382660048174 (PySem.W.Fast.tw11892475500146522536 PySem.W.Fast.tw14364793385576792824) (PySem.Challenge.rw_leadnames_k12_who_may).prog w) 11 (some (.ref 6)) 16346 ⟨L2.gp w.params, 11, {}, Array.mk [], boot_drawn, boot_toks, os⟩ (topStub (PySem.Challenge.rw_leadnames_k12_who_may).prog))).map (fun s => ((ee.heap_1 w.params).take 330).map fun p => s.abs.heap.get? p.1) = some (((ee.heap_1 w.params).take 330).map fun p => some p.2) := by kernel_rfl
theorem y1 (w : World) (os : OsState) : ((eQ PySem.W.Fast.tw6613529449190102663 (PySem.W.Fast.tw10156331382660048174 (PySem.W.Fast.tw11892475500146522536 PySem.W.Fast.tw14364793385576792824) (PySem.Challenge.rw_leadnames_k12_who_may).prog w) 11 (some (.ref 6)) 16346 ⟨L2.gp w.params, 11, {}, Array.mk [], boot_drawn, boot_toks, os⟩ (topStub (PySem.Challenge.rw_leadnames_k12_who_may).prog))).map (fun s => ((ee.heap_1 w.params).drop 330).map fun p => s.abs.heap.get? p.1) = some (((ee.heap_1 w.params).drop 330).map fun p => some p.2) := by kernel_rfl
theorem hJ (w : World) (os : OsState) : ((eQ PySem.W.Fast.tw6613529449190102663 (PySem.W.Fast.tw10156331382660048174 (PySem.W.Fast.tw11892475500146522536 PySem.W.Fast.tw14364793385576792824) (PySem.Challenge.rw_leadnames_k12_who_may).prog w) 11 (some (.ref 6)) 16346 ⟨L2.gp w.params, 11, {}, Array.mk [], boot_drawn, boot_toks, os⟩ (topStub (PySem.Challenge.rw_leadnames_k12_who_may).prog))).map (fun s => Hook.obs ee.1 s.abs) = some (Hook.val ee.1 w) :=
 L2.JQ (K := ee.heap_1) (e := fun _ => by kernel_rfl) (L2.Er 330 (y0 w os) (y1 w os)) (L2.dg (L2.dg (L2.dg (L2.dg (L2.dg (qL w os))))))
end L2.bf
local macro_rules | `(tactic| o_law) => `(tactic| refine PySem.W.holds_law (by kernel_rfl) fun said => ?_)
local macro_rules | `(tactic| k_head) => `(tactic| (
 refine holds_open (q := L2.bf.QV) (loose := [PySem.Str.ofString "walk", PySem.Str.ofString "make_folder", PySem.Str.ofString "make_file"]) (Xt := fun s => xlAt L2.bf.QV [] s && recOk (RowW.records (OpenRow.toRowW (PySem.Challenge.rw_leadnames_k12_who_may).row)) s) (XP := XL L2.bf.QV []) (Yf := Hook.obs L2.bf.ee.1) (Ya := Hook.val L2.bf.ee.1) (YP := Hook.says L2.bf.ee.1) (N := 16346) ?hl (Hook.of L2.bf.ee.1) (Hook.keeps L2.bf.ee.1) (fun s e => xl_of s (Bool.and_eq_true_iff.mp e).1) XL.keeps (by rfl) (by rfl) (by rfl) (fun s e => recFacts_of (Bool.and_eq_true_iff.mp e).2) (by rfl) (by first | assumption | decide +kernel) (by decide +kernel) ⟨rfl, rfl, rfl, rfl, rfl, by decide +kernel⟩ ?hw ?hc
 case hl =>
  refine L2.LeftO.Mj PySem.W.Fast.te6613529449190102663 PySem.W.Fast.te10156331382660048174 PySem.W.Fast.te11892475500146522536 PySem.W.Fast.te14364793385576792824 L2.bf.fb L2.bf.dE L2.bf.K5 (fun w os => ?_)
  exact L2.DU (L2.jq (L2.bf.qL w os)) (L2.jq (L2.bf.qM w os)) (L2.jq (L2.dg (L2.bf.qL w os))) (L2.bf.q3 w os) (L2.bf.q4 w os) (L2.jq (L2.dg (L2.dg (L2.bf.qL w os)))) (L2.bf.q6 w os) (L2.jq (L2.dg (L2.dg (L2.dg (L2.bf.qL w os))))) (L2.dg (L2.bf.qM w os)) (L2.jq (L2.dg (L2.dg (L2.dg (L2.dg (L2.bf.qL w os)))))) (L2.bf.hJ w os)))
set_option maxHeartbeats 0 in
open_top L2.bf.hd0 for PySem.Challenge.rw_leadnames_k12_who_may
end

namespace L2
open PySem PySem.Spec PyProof.Rows
abbrev Key := Sum Int Str
def iG : Key → Value → Bool
 | .inl k, v => Value.isInt k v
 | .inr x, v => Value.isStrOf x v
def Kd (w : World) : Key → Int
 | .inl k => hashInt k
 | .inr x => hashStr w x
theorem gm : ∀ {k : Key} {v : Value}, iG k v = true → (∃ i t, k = Sum.inl i ∧ v = Value.int i t) ∨ (∃ x t, k = Sum.inr x ∧ v = Value.str x t)
 | .inl i, v, h => by
  obtain ⟨t, e⟩ := Value.isInt_shape (k := i) (v := v) h
  exact .inl ⟨i, t, rfl, e⟩
 | .inr x, v, h => by
  obtain ⟨t, e⟩ := Value.isStrOf_shape (x := x) (v := v) h
  exact .inr ⟨x, t, rfl, e⟩
theorem KH (i : Int) (t : Tok) : iG (.inl i) (.int i t) = true := by simp [iG, Value.isInt]
theorem Hc (x : Str) (t : Tok) : iG (.inr x) (.str x t) = true := by simp [iG, Value.isStrOf]
theorem Np (a b : Int) : decide ((Sum.inl a : Key) = Sum.inl b) = (a == b) := by
 by_cases e : a = b
 ·subst e; simp
 ·have h : ¬ (Sum.inl a : Key) = Sum.inl b := fun q => e (Sum.inl.inj q)
  rw [decide_eq_false h]
  exact (beq_eq_false_iff_ne.mpr e).symm
theorem MY (a b : Str) : decide ((Sum.inr a : Key) = Sum.inr b) = decide (a = b) := by
 by_cases e : a = b
 ·subst e; simp
 ·have h : ¬ (Sum.inr a : Key) = Sum.inr b := fun q => e (Sum.inr.inj q)
  rw [decide_eq_false h, decide_eq_false e]
theorem Jc (a : Int) (b : Str) : decide ((Sum.inl a : Key) = Sum.inr b) = false := decide_eq_false (fun q => nomatch q)
theorem KP (a : Str) (b : Int) : decide ((Sum.inr a : Key) = Sum.inl b) = false := decide_eq_false (fun q => nomatch q)
def cJ (prog : Program) (w : World) : PySem.KeyKind prog w Key where
 is := iG
 hash := Kd w
 inj := fun v a b ha hb => by
  rcases gm ha with ⟨i, t, rfl, rfl⟩ | ⟨x, t, rfl, rfl⟩
  ·rcases gm hb with ⟨j, u, rfl, e⟩ | ⟨y, u, rfl, e⟩
   ·injection e with e1 _; rw [e1]
   ·exact nomatch e
  ·rcases gm hb with ⟨j, u, rfl, e⟩ | ⟨y, u, rfl, e⟩
   ·exact nomatch e
   ·injection e with e1 _; rw [e1]
 byValue := fun k v h => by
  rcases gm h with ⟨i, t, rfl, rfl⟩ | ⟨x, t, rfl, rfl⟩ <;> rfl
 pyHash := fun hv h => by
  rcases gm hv with ⟨i, t, rfl, rfl⟩ | ⟨x, t, rfl, rfl⟩
  ·exact wpAny_pyHash_int h
  ·exact wpAny_pyHash_str h
 eqBool := fun hu hv h => by
  rcases gm hu with ⟨i, t, rfl, rfl⟩ | ⟨x, t, rfl, rfl⟩
  ·rcases gm hv with ⟨j, u, rfl, rfl⟩ | ⟨y, u, rfl, rfl⟩
   ·rw [Np] at h; exact wpAny_eqBool_int h
   ·rw [Jc] at h; exact SeqAt.EqAt.int_str i t y u _ _ _ _ h
  ·rcases gm hv with ⟨j, u, rfl, rfl⟩ | ⟨y, u, rfl, rfl⟩
   ·rw [KP] at h; exact SeqAt.EqAt.str_int x t j u _ _ _ _ h
   ·rw [MY] at h; exact wpAny_eqBool_str h
 «strs» := fun k x t v h => by
  rcases gm h with ⟨i, u, rfl, e⟩ | ⟨y, u, rfl, e⟩
  ·exact nomatch e
  ·injection e with e1 _
   subst e1
   cases v <;> rfl
theorem G7 (prog : Program) (w : World) (i : Int) (t : Tok) : (cJ prog w).is (.inl i) (.int i t) = true := KH i t
theorem HW (prog : Program) (w : World) (x : Str) (t : Tok) : (cJ prog w).is (.inr x) (.str x t) = true := Hc x t
end L2
namespace L2
open PySem PySem.Spec PyProof.Rows
inductive V where
 | au | bl (b : Bool) | int (i : Int) | str (x : Str) | byt (b : Array UInt8) | ir (b : UInt64) | ref (a : Addr) | ty (n : String)
 deriving DecidableEq
def RelV : V → Value → Prop
 | .au, u => u = Value.none
 | .bl b, u => u = Value.bool b
 | .int i, u => ∃ t, u = Value.int i t
 | .str x, u => ∃ t, u = Value.str x t
 | .byt b, u => ∃ t, u = Value.bytes b t
 | .ir b, u => ∃ t, u = Value.float b t
 | .ref a, u => u = Value.ref a
 | .ty n, u => u = Value.type n
abbrev Vals : List V → List Value → Prop := Paired RelV
theorem Vals.length {xs : List V} {us : List Value} (r : Vals xs us) : xs.length = us.length := Paired.length r
theorem Vals.get : ∀ {xs : List V} {us : List Value} {i : Nat} {x : V}, Vals xs us → xs[i]? = some x → ∃ u, us[i]? = some u ∧ RelV x u
 | _, _, _, _, .nil, e => by simp at e
 | _, _, 0, _, .cons r _, e => by simp at e; subst e; exact ⟨_, rfl, r⟩
 | _, _, i + 1, x, .cons _ t, e => by
  obtain ⟨u, h1, h2⟩ := Vals.get (i := i) (x := x) t (by simpa using e)
  exact ⟨u, by simpa using h1, h2⟩
theorem Vals.set {x : V} {u : Value} (r : RelV x u) : ∀ {xs : List V} {us : List Value} (i : Nat), Vals xs us → Vals (xs.set i x) (us.set i u)
 | _, _, _, .nil => .nil
 | _, _, 0, .cons _ t => .cons r t
 | _, _, i + 1, .cons q t => .cons q (Vals.set r i t)
theorem Vals.append : ∀ {xs ys : List V} {us ws : List Value}, Vals xs us → Vals ys ws → Vals (xs ++ ys) (us ++ ws)
 | _, _, _, _, .nil, s => s
 | _, _, _, _, .cons r t, s => .cons r (Vals.append t s)
theorem Vals.take : ∀ {xs : List V} {us : List Value} (n : Nat), Vals xs us → Vals (xs.take n) (us.take n)
 | _, _, 0, _ => .nil
 | _, _, _ + 1, .nil => .nil
 | _, _, n + 1, .cons r t => .cons r (Vals.take n t)
theorem Vals.drop : ∀ {xs : List V} {us : List Value} (n : Nat), Vals xs us → Vals (xs.drop n) (us.drop n)
 | _, _, 0, r => r
 | _, _, _ + 1, .nil => .nil
 | _, _, n + 1, .cons _ t => Vals.drop n t
def cO : Option V → Option Value → Prop
 | some v, some u => RelV v u
 | none, none => True
 | _, _ => False
def KV {κ : Type} : List (κ × V) → List (κ × Value) → Prop := Paired fun (p : κ × V) (q : κ × Value) => p.1 = q.1 ∧ RelV p.2 q.2
def kV : Key → V
 | .inl i => .int i
 | .inr x => .str x
inductive HO where
 /-- a list -/
 | lst (xs : List V)
 /-- a tuple (never changes) -/
 | tup (xs : List V)
 /-- a dict whose keys are ints and texts; one whose keys are tuples of ints and texts (the empty one is both) -/
 | dK (kvs : List (Key × V)) | dT (kvs : List (List Key × V))
 /-- a set of ints: its members, its size -/
 | set (S : Int → Bool) (n : Nat)
 /-- an instance of the class at C, its dict at dx, its attributes -/
 | ins (C dx : Addr) (fs : List (Str × V))
 /-- the dict of the instance at x -/
 | own (x : Addr)
 /-- the dict of an exception -/
 | xd (fs : List (Str × V))
 /-- a bound method, f of x -/
 | met (f x : Addr)
 /-- a range object lo, lo + 1, .. below hi -/
 | oS (lo hi : Int)
 /-- a thing that is known to the object (the script; a dict while a loop walks it): read, never written while it is so -/
 | c7 (o : Obj) (u : HO)
 /-- a code object's table -/
 | gO (ps : Array Value)
 /-- any other thing, by what is true of its one object (a def of one's own: SetO a S n := HO.ext fun h => ..) -/
 | ext (φ : Heap → Prop)
abbrev Hp := Addr → Option HO
def upd (H : Hp) (a : Addr) (o : HO) : Hp := fun b => if b = a then some o else H b
theorem aw {H : Hp} {a : Addr} {o : HO} : upd H a o a = some o := by unfold upd; rw [if_pos rfl]
theorem ah {H : Hp} {a b : Addr} {o : HO} (h : b ≠ a) : upd H a o b = H b := by unfold upd; rw [if_neg h]
theorem iN {H : Hp} {a : Addr} {o u : HO} : upd (upd H a o) a u = upd H a u := by
 funext b; unfold upd; split <;> rfl
theorem Js {H : Hp} {a b : Addr} {o u : HO} (h : H a = some o) (h' : H b = some u) (d : o ≠ u) : a ≠ b := by
 intro e; subst e; rw [h] at h'; exact d (Option.some.inj h')
theorem cj {H : Hp} {a b : Addr} {o : HO} (h : H a = some o) (h' : H b = none) : a ≠ b := by
 intro e; subst e; rw [h] at h'; cases h'
section
variable (P : Program) (w : World)
def bp (H : Hp) (h : Heap) (a : Addr) : HO → Prop
 | .lst xs => xs.length ≤ sizeLine ∧ ∃ (its : List Value) (n : Nat), Vals xs its ∧ h.get? a = some { cls := .type "list", data := .seq its.toArray n }
 | .tup xs => xs.length ≤ sizeLine ∧ ∃ its : List Value, Vals xs its ∧ IsTup h a its.toArray
 | .dK kvs => kvs.length ≤ sizeLine ∧ (a == sysModules) = false ∧ ∃ vs, KV kvs vs ∧ h.DictOf (cJ P w) a vs
 | .dT kvs => kvs.length ≤ sizeLine ∧ (a == sysModules) = false ∧ ∃ xs : List (List Key × Addr × Value),
   Paired (fun (p : List Key × V) (q : List Key × Addr × Value) => p.1 = q.1 ∧ H q.2.1 = some (.tup (p.1.map kV)) ∧ RelV p.2 q.2.2) kvs xs ∧
   ∃ o es ep, h.get? a = some o ∧ o.ExactDict ∧ o.data = .dict es ep ∧ es.toList = xs.map (entryOfKey (tupleKind (cJ P w))) ∧ (xs.map (·.1)).Nodup
 | .set S n => h.SetOf (intKind P w) a S n
 | .ins C dx fs => H dx = some (.own a) ∧ fs.length ≤ 1000 ∧ dx ≠ a ∧ h.get? a = some (PySem.W.instObj C dx) ∧
   ∃ mA, h.Ns1 dx mA ∧ (∀ f, cO (fs.lookup f) (mA f)) ∧ PySem.Within mA (fs.map (·.1))
 | .own _ => ∃ o, h.get? a = some o
 | .xd fs => ∃ mA, h.Ns1 a mA ∧ ∀ f, cO (fs.lookup f) (mA f)
 | .oS lo hi => ∃ t u v, h.get? a = some { cls := .type "range", data := .fields #[.int lo t, .int hi u, .int 1 v] }
 | .c7 o u => h.get? a = some o ∧ bp H h a u
 | .gO ps => h.get? a = some { cls := .none, data := .fields ps }
 | .met f x => h.get? a = some (PySem.W.methodObj (.ref f) (.ref x))
 | .ext φ => φ h ∧ (∃ o, h.get? a = some o) ∧ ∀ h1 h2 : Heap, φ h1 → (∀ o, h1.get? a = some o → h2.get? a = some o) → φ h2
def bz (H : Hp) (h : Heap) : Prop := ∀ a o, H a = some o → bp P w H h a o
end
section
variable {P : Program} {w : World} {H H' : Hp} {h h' : Heap} {a : Addr} {o : HO}
theorem bp.lt (x : bp P w H h a o) : a < h.objs.size := by
 cases o with
 | lst xs => obtain ⟨_, _, _, _, e⟩ := x; exact Heap.lt_size e
 | tup xs => obtain ⟨_, _, _, p⟩ := x; exact p.lt
 | dK kvs => obtain ⟨_, _, _, _, o, _, _, e, _⟩ := x; exact Heap.lt_size e
 | dT kvs => obtain ⟨_, _, _, _, o, _, _, e, _⟩ := x; exact Heap.lt_size e
 | set S n => obtain ⟨o, _, _, _, e, _⟩ := x; exact Heap.lt_size e
 | ins C dx fs => obtain ⟨_, _, _, e, _⟩ := x; exact Heap.lt_size e
 | own y => obtain ⟨_, e⟩ := x; exact Heap.lt_size e
 | xd fs => obtain ⟨_, ⟨_, _, _, e, _⟩, _⟩ := x; exact Heap.lt_size e
 | oS lo hi => obtain ⟨_, _, _, e⟩ := x; exact Heap.lt_size e
 | c7 ob u => obtain ⟨e, _⟩ := x; exact Heap.lt_size e
 | gO ps => exact Heap.lt_size (show h.get? a = some _ from x)
 | met f y => exact Heap.lt_size (show h.get? a = some _ from x)
 | ext φ => obtain ⟨_, ⟨_, e⟩, _⟩ := x; exact Heap.lt_size e
theorem Paired.su {α β : Type} {F G : α → β → Prop} : ∀ {l₁ : List α} {l₂ : List β}, Paired F l₁ l₂ → (∀ a b, F a b → G a b) → Paired G l₁ l₂
 | _, _, .nil, _ => .nil
 | _, _, .cons r t, f => .cons (f _ _ r) (Paired.su t f)
theorem bp.eM (x : bp P w H h a o) (k : ∀ b u, (b = a ∨ H b = some (.own a)) → h.get? b = some u → h'.get? b = some u)
  (ho : ∀ b, H b = some (.own a) → H' b = some (.own a)) (ht : ∀ b xs, H b = some (.tup xs) → H' b = some (.tup xs)) : bp P w H' h' a o := by
 induction o with
 | lst xs => obtain ⟨z, its, n, r, e⟩ := x; exact ⟨z, its, n, r, k _ _ (.inl rfl) e⟩
 | tup xs => obtain ⟨z, its, r, ob, e, c⟩ := x; exact ⟨z, its, r, ob, k _ _ (.inl rfl) e, c⟩
 | dK kvs => obtain ⟨z, y, vs, r, ob, es, ep, e, c⟩ := x; exact ⟨z, y, vs, r, ob, es, ep, k _ _ (.inl rfl) e, c⟩
 | dT kvs =>
  obtain ⟨z, y, xs, r, ob, es, ep, e, c⟩ := x
  exact ⟨z, y, xs, Paired.su r fun p q z => ⟨z.1, ht _ _ z.2.1, z.2.2⟩, ob, es, ep, k _ _ (.inl rfl) e, c⟩
 | set S n => obtain ⟨ob, es, ep, t, e, c⟩ := x; exact ⟨ob, es, ep, t, k _ _ (.inl rfl) e, c⟩
 | ins C dx fs =>
  obtain ⟨d, z, ne, e, mA, ⟨od, es, ep, e2, c⟩, r⟩ := x
  exact ⟨ho _ d, z, ne, k _ _ (.inl rfl) e, mA, ⟨od, es, ep, k _ _ (.inr d) e2, c⟩, r⟩
 | own y => obtain ⟨ob, e⟩ := x; exact ⟨ob, k _ _ (.inl rfl) e⟩
 | xd fs => obtain ⟨mA, ⟨od, es, ep, e, c⟩, r⟩ := x; exact ⟨mA, ⟨od, es, ep, k _ _ (.inl rfl) e, c⟩, r⟩
 | oS lo hi => obtain ⟨t, u, v, e⟩ := x; exact ⟨t, u, v, k _ _ (.inl rfl) e⟩
 | c7 ob u ih => obtain ⟨e, q⟩ := x; exact ⟨k _ _ (.inl rfl) e, ih q⟩
 | gO ps =>
  have e : h.get? a = some { cls := .none, data := .fields ps } := x
  show h'.get? a = some { cls := .none, data := .fields ps }
  exact k a _ (.inl rfl) e
 | met f y =>
  have e : h.get? a = some (PySem.W.methodObj (.ref f) (.ref y)) := x
  show h'.get? a = some (PySem.W.methodObj (.ref f) (.ref y))
  exact k a _ (.inl rfl) e
 | ext φ => obtain ⟨p, ⟨o, e⟩, st⟩ := x; exact ⟨st _ _ p fun o q => k _ _ (.inl rfl) q, ⟨o, k _ _ (.inl rfl) e⟩, st⟩
theorem bz.lt (x : bz P w H h) (e : H a = some o) : a < h.objs.size := (x a o e).lt
theorem bz.fresh (x : bz P w H h) (e : h.objs.size ≤ a) : H a = none := by
 cases q : H a with
 | none => rfl
 | some u => exact absurd (Nat.lt_of_lt_of_le (x.lt q) e) (Nat.lt_irrefl _)
theorem bz.kept (x : bz P w H h) (k : ∀ b u, h.get? b = some u → h'.get? b = some u) : bz P w H h' := fun a o e =>
 (x a o e).eM (fun b u _ q => k b u q) (fun _ q => q) fun _ _ q => q
theorem bz.laid (x : bz P w H h) (k : ∀ b u, h.get? b = some u → h'.get? b = some u) (hp : h.objs.size ≤ a) (new : bp P w (upd H a o) h' a o) : bz P w (upd H a o) h' := fun b u e => by
 have hn := x.fresh hp
 by_cases hb : b = a
 ·subst hb; rw [aw] at e; cases e; exact new
 ·rw [ah hb] at e
  exact (x b u e).eM (fun c v _ q => k c v q) (fun c q => by rw [ah (cj q hn)]; exact q) fun c xs q => by rw [ah (cj q hn)]; exact q
end
def Rd (H : Hp) (a : Addr) (u : HO) : Prop := H a = some u ∨ ∃ o, H a = some (.c7 o u)
theorem Rd.ok {P : Program} {w : World} {H : Hp} {h : Heap} {a : Addr} {u : HO} (r : Rd H a u) (x : bz P w H h) : bp P w H h a u := by
 rcases r with r | ⟨o, r⟩
 ·exact x a u r
 ·obtain ⟨_, q⟩ := x a _ r
  exact q
def mP : Option HO → Prop
 | some (.lst _) => True
 | some (.dK _) => True
 | some (.dT _) => True
 | some (.set _ _) => True
 | some (.ins _ _ _) => True
 | some (.ext _) => True
 | _ => False
section
variable {P : Program} {w : World} {H : Hp} {h h' : Heap} {x e : Addr} {o' : HO}
theorem bz.write (ok : bz P w H h) (mu : mP (H x)) (he : e = x ∨ H e = some (.own x)) (k : ∀ b u, b ≠ e → h.get? b = some u → h'.get? b = some u) (heo : ∃ u, h'.get? e = some u)
  (new : bp P w (upd H x o') h' x o') : bz P w (upd H x o') h' := fun b u q => by
 have Cb : ∀ c y, H c = some (.own y) → c ≠ x := fun c y r z => by subst z; rw [r] at mu; exact mu
 have ntup : ∀ c xs, H c = some (.tup xs) → c ≠ x := fun c xs r z => by subst z; rw [r] at mu; exact mu
 by_cases hb : b = x
 ·subst hb; rw [aw] at q; cases q; exact new
 ·rw [ah hb] at q
  by_cases hbe : b = e
  ·have q' : H b = some (.own x) := by
    rcases he with z | z
    ·exact absurd (hbe.trans z) hb
    ·rw [hbe]; exact z
   rw [q] at q'; cases q'
   obtain ⟨v, hv⟩ := heo
   exact ⟨v, by rw [hbe]; exact hv⟩
  ·refine (ok b u q).eM (fun c v hc r => k c v ?_ r) (fun c r => by rw [ah (Cb c b r)]; exact r) fun c xs r => by rw [ah (ntup c xs r)]; exact r
   rcases hc with rfl | hc
   ·exact hbe
   ·rintro rfl
    rcases he with z | z
    ·exact Cb c b hc z
    ·rw [hc] at z; cases z; exact hb rfl
end
structure Un (fs ex : List Addr) (H H' : Hp) (h h' : Heap) : Prop where
 keep : ∀ b o, h.get? b = some o → H b = none → b ∉ fs → b ∉ ex → h'.get? b = some o
 slot : ∀ b o, h.get? b = some o → H b = none → b ∈ fs → b ∉ ex → ∃ sl, h'.get? b = some { o with slots := sl }
 free : ∀ b o, h.get? b = some o → H b = none → b ∉ ex → H' b = none
 there : ∀ b o, h.get? b = some o → b ∉ ex → ∃ o', h'.get? b = some o'
 dB : ∀ b xs, H b = some (.tup xs) → H' b = some (.tup xs)
 df : ∀ b o u, H b = some (.c7 o u) → H' b = some (.c7 o u)
 dw : ∀ b ps, H b = some (.gO ps) → ∃ more, H' b = some (.gO (ps ++ more))
section
variable {fs fs' ex ex' : List Addr} {H H1 H2 : Hp} {h h1 h2 h' : Heap} {a x e : Addr} {o : HO}
theorem Un.any (u : Un fs ex H H1 h h1) {b : Addr} {ob : Obj} (q : h.get? b = some ob) (n : H b = none) (hx : b ∉ ex) : ∃ sl, h1.get? b = some { ob with slots := sl } := by
 by_cases hb : b ∈ fs
 ·exact u.slot b ob q n hb hx
 ·exact ⟨ob.slots, u.keep b ob q n hb hx⟩
theorem Un.kept (k : ∀ b u, h.get? b = some u → h'.get? b = some u) : Un fs ex H H h h' :=
 ⟨fun b ob q _ _ _ => k b ob q, fun b ob q _ _ _ => ⟨ob.slots, k b ob q⟩, fun _ _ _ n _ => n, fun b ob q _ => ⟨ob, k b ob q⟩, fun _ _ q => q, fun _ _ _ q => q, fun _ ps q => ⟨#[], by rw [q]; simp⟩⟩
theorem Un.refl : Un fs ex H H h h := Un.kept fun _ _ q => q
theorem Un.laid (k : ∀ b u, h.get? b = some u → h'.get? b = some u) (hp : h.objs.size ≤ a) (hn : H a = none) : Un fs ex H (upd H a o) h h' where
 keep := fun b u q _ _ _ => k b u q
 slot := fun b u q _ _ _ => ⟨u.slots, k b u q⟩
 free := fun b u q n _ => by rw [ah (Nat.ne_of_lt (Nat.lt_of_lt_of_le (Heap.lt_size q) hp))]; exact n
 there := fun b u q _ => ⟨u, k b u q⟩
 dB := fun b xs q => by rw [ah (cj q hn)]; exact q
 df := fun b u xs q => by rw [ah (cj q hn)]; exact q
 dw := fun b ps q => ⟨#[], by rw [ah (cj q hn), q]; simp⟩
theorem Un.write (mu : mP (H x)) (he : e = x ∨ H e = some (.own x)) (k : ∀ b u, b ≠ e → h.get? b = some u → h'.get? b = some u) (heo : ∃ u, h'.get? e = some u) : Un fs ex H (upd H x o) h h' := by
 have hx : ∀ b, H b = none → b ≠ x := fun b n z => by subst z; rw [n] at mu; exact mu
 have hb : ∀ b, H b = none → b ≠ e := fun b n z => by
  subst z
  rcases he with r | r
  ·exact hx b n r
  ·rw [n] at r; cases r
 have hm : ∀ b u, H b = some u → ¬ mP (some u) → b ≠ x := fun b u q nm z => by subst z; rw [q] at mu; exact nm mu
 refine ⟨fun b u q n _ _ => k b u (hb b n) q, fun b u q n _ _ => ⟨u.slots, k b u (hb b n) q⟩, fun b u q n _ => by rw [ah (hx b n)]; exact n, fun b u q _ => ?_,
  fun b xs q => by rw [ah (hm b _ q fun z => z)]; exact q, fun b u xs q => by rw [ah (hm b _ q fun z => z)]; exact q, fun b ps q => ⟨#[], by rw [ah (hm b _ q fun z => z), q]; simp⟩⟩
 by_cases hbe : b = e
 ·subst hbe; exact heo
 ·exact ⟨u, k b u hbe q⟩
end
def oA (h : Heap) (H : Hp) : List Addr := (List.range h.objs.size).filter fun a => (H a).isSome
def fi (h : Heap) (H : Hp) : Heap := PySem.W.hideAll h (oA h H)
theorem Ff (h : Heap) (H : Hp) : (fi h H).objs.size = h.objs.size := PySem.W.hideAll_size _ _
theorem DQ {h : Heap} {H : Hp} {b : Addr} {o : Obj} (e : h.get? b = some o) (n : H b = none) : (fi h H).get? b = some o :=
 PySem.W.hideAll_get _ e fun hm => by
  have q : (H b).isSome = true := (List.mem_filter.mp hm).2
  rw [n] at q; simp at q
theorem Ht {h : Heap} {H : Hp} {b : Addr} {o : Obj} (e : (fi h H).get? b = some o) : h.get? b = some o ∧ H b = none := by
 have e' : h.get? b = some o := PySem.W.of_hideAll (oA h H) e
 refine ⟨e', ?_⟩
 cases q : H b with
 | none => rfl
 | some x =>
  have hm : b ∈ oA h H := List.mem_filter.mpr ⟨List.mem_range.mpr (Heap.lt_size e'), by simp [q]⟩
  have z : (fi h H).get? b = none := PySem.W.hideAll_none (oA h H) hm
  rw [z] at e; cases e
def IW (g h : Heap) (L : Addr) : List (Addr × Obj) := (List.range h.objs.size).filterMap fun a => if a = L ∨ (g.get? a).isSome = true then none else (h.get? a).map fun o => (a, o)
def rest (g h : Heap) (L d : Addr) : List (Addr × Obj) := (IW g h L).filter fun p => decide (p.1 ≠ d)
end L2
namespace L2
open PySem PySem.Spec PyProof.Rows
structure Mod (K : PySem.W.Frag) (mg : Str → Option Value) (base : Heap) : Prop where
 fC : K.In base
 glob : base.Ns mainGlobals mg
 blt : ∃ mb, base.Ns builtinsNs mb ∧ ∀ x : Str, x ≠ "__name__" → mb x = bootBuiltins x
 nolimit : base.NoLimit
structure Cx where
 prog : Program
 w : World
 K : PySem.W.Frag
 mg : Str → Option Value
 base : Heap
 A : Around
 N : List Str
 s₀ : Shared
 H₀ : Hp
 env : Env
 outer : List Env
 stack : List Env
 ex : List Addr
 fn : Str → Bool
 calm : Bool
 pn : List (Addr × Obj)
 xe : Value → Shared → Prop
def bG (l : List Env) : List Addr := l.filterMap (·.frame)
abbrev Cx.fs (X : Cx) : List Addr := bG X.outer
def hX (sc : Scope) (x : Str) : Prop := sc.names.lookup x = some .local ∨ sc.names.lookup x = some .cell ∨ sc.names.lookup x = some .free
def Loc (sc : Scope) (x : Str) : Prop := sc.names.lookup x = some .local ∨ sc.names.lookup x = some .cell
def Look (env : Env) (h : Heap) (m : Str → Option Value) (x : Str) (u : Value) : Prop :=
 (env.kindOf x = some .local ∧ m x = some u) ∨ ((env.kindOf x = some .cell ∨ env.kindOf x = some .free) ∧ ∃ c, env.cells.lookup x = some c ∧ h.IsCell c (some u))
structure Cx.Ok (X : Cx) : Prop where
 mod : Mod X.K X.mg X.base
 kind : X.env.scope.kind = .function
 glob : X.env.globals = mainGlobals
 blt : X.env.builtins = builtinsNs
 above : X.s₀.heap.objs.size ≤ X.env.locals
 inj : ∀ x y c, X.env.cells.lookup x = some c → X.env.cells.lookup y = some c → x = y
 has : ∀ x, (X.env.kindOf x = some .cell ∨ X.env.kindOf x = some .free) → ∃ c, X.env.cells.lookup x = some c
 gk : ∀ x c, X.fn x = true → X.env.cells.lookup x = some c → X.s₀.heap.objs.size ≤ c
 hd : X.calm = true → X.A.handled = none
 frames : X.A.frames = some X.stack
 eh : X.stack = X.outer ∨ (X.stack = X.env :: X.outer ∧ X.env.frame = some X.env.locals)
 lG : ∀ b ∈ X.ex, b ≠ X.env.locals ∧ ∀ x c, X.env.cells.lookup x = some c → c ≠ b
 bs : ∀ b o, X.base.get? b = some o → X.s₀.heap.get? b = some o ∧ X.H₀ b = none
 dD : X.base.objs.size ≤ X.s₀.heap.objs.size
 gq : ∀ b o, X.base.get? b = some o → b ∉ X.ex
 f6 : ∀ b ∈ X.ex, b ∉ X.fs
 cU : X.s₀.heap.FunFrames X.base X.outer
 e7 : ∀ b ∈ X.fs, X.H₀ b = none
structure Inv (X : Cx) (pins : List (Addr × Obj)) (σ : List (Option V)) (H : Hp) (s : Shared) : Prop where
 ok : X.Ok
 os : s.os = X.s₀.os
 bare : AllBare s.gens
 base : Un X.fs X.ex X.H₀ H X.s₀.heap s.heap
 loc : ∃ m, s.heap.Ns X.env.locals m ∧ ∀ (i : Nat) (x : Str) (v : V), X.N[i]? = some x → σ[i]? = some (some v) → hX X.env.scope x → ∃ u, RelV v u ∧ Look X.env s.heap m x u
 cell : ∀ x c, X.env.cells.lookup x = some c → ∃ v, s.heap.IsCell c v
 free : H X.env.locals = none
 cY : ∀ x c, X.env.cells.lookup x = some c → H c = none
 pin : ∀ p ∈ X.pn ++ pins, s.heap.get? p.1 = some p.2 ∧ H p.1 = none ∧ p.1 ≠ X.env.locals ∧ p.1 ∉ X.fs ∧ ∀ v, p.2.data ≠ .cell v
 ax : bz X.prog X.w H s.heap
 len : σ.length = X.N.length
section
variable {X : Cx} {pins : List (Addr × Obj)} {σ : List (Option V)} {H H' : Hp} {s : Shared} {h' : Heap}
theorem Cx.Ok.Nf (ok : X.Ok) {b : Addr} {o : Obj} (e : X.base.get? b = some o) : b ∉ X.fs := fun hb => by
 have := (ok.cU.mem hb).1
 rw [e] at this; cases this
theorem Inv.bs (I : Inv X pins σ H s) : ∀ b o, X.base.get? b = some o → s.heap.get? b = some o ∧ H b = none := fun b o e =>
 ⟨I.base.keep b o (I.ok.bs b o e).1 (I.ok.bs b o e).2 (I.ok.Nf e) (I.ok.gq b o e), I.base.free b o (I.ok.bs b o e).1 (I.ok.bs b o e).2 (I.ok.gq b o e)⟩
theorem Inv.bk (I : Inv X pins σ H s) : ∀ b o, X.base.get? b = some o → s.heap.get? b = some o := fun b o e => (I.bs b o e).1
theorem Inv.mod (I : Inv X pins σ H s) : Mod X.K X.mg X.base := I.ok.mod
theorem Inv.bx (I : Inv X pins σ H s) : X.K.In s.heap := I.ok.mod.fC.keeps I.bk
theorem Inv.lt (I : Inv X pins σ H s) : X.env.locals < s.heap.objs.size := let ⟨_, hn, _⟩ := I.loc; hn.lt
theorem Inv.sz (I : Inv X pins σ H s) : X.s₀.heap.objs.size ≤ s.heap.objs.size := Nat.le_trans I.ok.above (Nat.le_of_lt I.lt)
theorem Inv.uZ (I : Inv X pins σ H s) {a : Addr} (h : s.heap.objs.size ≤ a) : a ∉ X.fs := fun hb => by
 obtain ⟨_, o, ho, _⟩ := I.ok.cU.mem hb
 exact absurd (Nat.lt_of_lt_of_le (Heap.lt_size ho) (Nat.le_trans I.sz h)) (Nat.lt_irrefl _)
theorem Inv.fL (I : Inv X pins σ H s) : ∀ x c, X.env.cells.lookup x = some c → c ≠ X.env.locals := fun x c e z => by
 obtain ⟨v, o, ho, hd⟩ := I.cell x c e
 obtain ⟨m, ⟨o', es, ep, ho', hd', _⟩, _⟩ := I.loc
 rw [z, ho'] at ho; cases ho; rw [hd'] at hd; cases hd
theorem Inv.cU (I : Inv X pins σ H s) : s.heap.FunFrames X.base X.outer := by
 have all : ∀ (l : List Env), (∀ b ∈ bG l, b ∈ X.fs) → X.s₀.heap.FunFrames X.base l → s.heap.FunFrames X.base l := by
  intro l
  induction l with
  | nil => intro _ _; trivial
  | cons env r ih =>
   intro hs hl
   obtain ⟨hk, ⟨L, o, hf, hn, ho, hd⟩, hr⟩ := hl
   have hL : L ∈ X.fs := hs L (by unfold bG; rw [List.filterMap_cons, hf]; exact List.mem_cons_self)
   obtain ⟨sl, e⟩ := I.base.slot L o ho (I.ok.e7 L hL) hL fun z => I.ok.f6 L z hL
   exact ⟨hk, ⟨L, _, hf, hn, e, hd⟩, ih (fun b hb => hs b (by unfold bG; rw [List.filterMap_cons, hf]; exact List.mem_cons_of_mem _ hb)) hr⟩
 exact all X.outer (fun _ hb => hb) I.ok.cU
theorem Inv.stack (I : Inv X pins σ H s) : s.heap.FunFrames X.base X.stack := by
 rcases I.ok.eh with e | ⟨e, hf⟩
 ·rw [e]; exact I.cU
 ·rw [e]
  obtain ⟨m, hn, _⟩ := I.loc
  refine .cons (by rw [I.ok.kind]; decide) hf hn ?_ I.cU
  exact Heap.get?_none_of_le (Nat.le_trans I.ok.dD I.ok.above)
theorem Inv.iS (I : Inv X pins σ H s) : ∀ b ∈ bG X.stack, b ∈ X.env.locals :: X.fs := fun b hb => by
 rcases I.ok.eh with e | ⟨e, hf⟩
 ·rw [e] at hb; exact List.mem_cons_of_mem _ hb
 ·rw [e] at hb
  unfold bG at hb
  rw [List.filterMap_cons, hf] at hb
  exact hb
theorem Inv.ph (I : Inv X pins σ H s) : ∀ b ∈ bG X.stack, H b = none := fun b hb => by
 rcases List.mem_cons.mp (I.iS b hb) with e | hb
 ·rw [e]; exact I.free
 ·obtain ⟨_, o, ho, _⟩ := I.ok.cU.mem hb
  exact I.base.free b o ho (I.ok.e7 b hb) fun z => I.ok.f6 b z hb
theorem Inv.step {g' : Array GenState} {t' : Nat} {d' : Drawn} {ch : List Addr} (I : Inv X pins σ H s)
  (hch : ∀ b ∈ ch, (b ∈ X.ex ∨ X.s₀.heap.objs.size ≤ b) ∧ b ≠ X.env.locals ∧ (∀ x c, X.env.cells.lookup x = some c → c ≠ b) ∧ ∀ p ∈ X.pn ++ pins, p.1 ≠ b)
  (keep : ∀ b o, b ≠ X.env.locals → b ∉ X.fs → b ∉ ch → s.heap.get? b = some o → H b = none → h'.get? b = some o)
  (slot : ∀ b o, b ≠ X.env.locals → b ∈ X.fs → b ∉ ch → s.heap.get? b = some o → H b = none → ∃ sl, h'.get? b = some { o with slots := sl }) (free : ∀ b o, b ∉ ch → s.heap.get? b = some o → H b = none → H' b = none)
  (there : ∀ b o, b ∉ ch → s.heap.get? b = some o → ∃ o', h'.get? b = some o')
  (dB : ∀ b xs, H b = some (.tup xs) → H' b = some (.tup xs)) (df : ∀ b o u, H b = some (.c7 o u) → H' b = some (.c7 o u)) (dw : ∀ b ps, H b = some (.gO ps) → ∃ more, H' b = some (.gO (ps ++ more)))
  (ns : ∀ m, s.heap.Ns X.env.locals m → h'.Ns X.env.locals m) (ax : bz X.prog X.w H' h') (hg : AllBare g') :
  Inv X pins σ H' { s with heap := h', gens := g', drawn := d', toks := t' } := by
 have neL : ∀ b o, X.s₀.heap.get? b = some o → b ≠ X.env.locals := fun b o e => Nat.ne_of_lt (Nat.lt_of_lt_of_le (Heap.lt_size e) I.ok.above)
 have neC : ∀ b o, X.s₀.heap.get? b = some o → b ∉ X.ex → b ∉ ch := fun b o e hx hb => by
  rcases (hch b hb).1 with z | z
  ·exact hx z
  ·exact absurd (Nat.lt_of_lt_of_le (Heap.lt_size e) z) (Nat.lt_irrefl _)
 have cellK : ∀ x c, X.env.cells.lookup x = some c → ∀ v, s.heap.IsCell c v → h'.IsCell c v := fun x c e v ⟨o, ho, hd⟩ => by
  have nch : c ∉ ch := fun z => (hch c z).2.2.1 x c e rfl
  by_cases hc : c ∈ X.fs
  ·obtain ⟨sl, q⟩ := slot c o (I.fL x c e) hc nch ho (I.cY x c e)
   exact ⟨_, q, hd⟩
  ·exact ⟨o, keep c o (I.fL x c e) hc nch ho (I.cY x c e), hd⟩
 refine ⟨I.ok, I.os, hg, ⟨fun b o e n hb hx => ?_, fun b o e n hb hx => ?_, fun b o e n hx => ?_, fun b o e hx => ?_, fun b xs e => dB b xs (I.base.dB b xs e), fun b o xs e => df b o xs (I.base.df b o xs e), fun b ps e => ?_⟩, ?_, fun x c e => ?_, ?_, fun x c e => ?_, fun p hp => ?_, ax, I.len⟩
 ·exact keep b o (neL b o e) hb (neC b o e hx) (I.base.keep b o e n hb hx) (I.base.free b o e n hx)
 ·obtain ⟨sl, e1⟩ := I.base.slot b o e n hb hx
  obtain ⟨sl', e2⟩ := slot b _ (neL b o e) hb (neC b o e hx) e1 (I.base.free b o e n hx)
  exact ⟨sl', e2⟩
 ·obtain ⟨o', e1⟩ := I.base.there b o e hx
  exact free b o' (neC b o e hx) e1 (I.base.free b o e n hx)
 ·obtain ⟨o', e1⟩ := I.base.there b o e hx
  exact there b o' (neC b o e hx) e1
 ·obtain ⟨m1, e1⟩ := I.base.dw b ps e
  obtain ⟨m2, e2⟩ := dw b _ e1
  exact ⟨m1 ++ m2, by rw [e2, Array.append_assoc]⟩
 ·obtain ⟨m, hn, hl⟩ := I.loc
  refine ⟨m, ns m hn, fun i x v e1 e2 e3 => ?_⟩
  obtain ⟨u, r, l⟩ := hl i x v e1 e2 e3
  refine ⟨u, r, ?_⟩
  rcases l with l | ⟨k, c, e, z⟩
  ·exact .inl l
  ·exact .inr ⟨k, c, e, cellK x c e _ z⟩
 ·obtain ⟨v, z⟩ := I.cell x c e
  exact ⟨v, cellK x c e v z⟩
 ·obtain ⟨m, ⟨o, _, _, ho, _⟩, _⟩ := I.loc
  exact free _ o (fun z => (hch _ z).2.1 rfl) ho I.free
 ·obtain ⟨v, o, ho, hd⟩ := I.cell x c e
  exact free c o (fun z => (hch c z).2.2.1 x c e rfl) ho (I.cY x c e)
 ·obtain ⟨e, n, ne, nf, d⟩ := I.pin p hp
  have nch : p.1 ∉ ch := fun z => (hch p.1 z).2.2.2 p hp rfl
  exact ⟨keep p.1 p.2 ne nf nch e n, free p.1 p.2 nch e n, ne, nf, d⟩
theorem Inv.un {t' : Nat} (I : Inv X pins σ H s) (u : Un X.fs [] H H' s.heap h') (ax : bz X.prog X.w H' h') : Inv X pins σ H' { s with heap := h', toks := t' } := by
 obtain ⟨m, ⟨o, es, ep, ho, r⟩, _⟩ := id I.loc
 obtain ⟨sl, hL⟩ := u.any ho I.free (by simp)
 exact I.step (g' := s.gens) (d' := s.drawn) (ch := []) (fun _ z => nomatch z) (fun b o _ hb _ e n => u.keep b o e n hb (by simp)) (fun b o _ hb _ e n => u.slot b o e n hb (by simp)) (fun b o _ e n => u.free b o e n (by simp)) (fun b o _ e => u.there b o e (by simp)) u.dB u.df u.dw (fun m' hm => by
  obtain ⟨o', es', ep', ho', r'⟩ := hm
  rw [ho] at ho'; cases ho'
  exact ⟨_, es', ep', hL, r'⟩) ax I.bare
theorem Inv.call {g' : Array GenState} {t' : Nat} {d' : Drawn} {ch : List Addr} (I : Inv X pins σ H s) (u : Un (bG X.stack) ch H H' s.heap h') (ax : bz X.prog X.w H' h') (hg : AllBare g')
  (hch : ∀ b ∈ ch, (b ∈ X.ex ∨ X.s₀.heap.objs.size ≤ b) ∧ b ≠ X.env.locals ∧ (∀ x c, X.env.cells.lookup x = some c → c ≠ b) ∧ ∀ p ∈ X.pn ++ pins, p.1 ≠ b) :
  Inv X pins σ H' { s with heap := h', gens := g', drawn := d', toks := t' } := by
 obtain ⟨m, ⟨o, es, ep, ho, r⟩, _⟩ := id I.loc
 obtain ⟨sl, hL⟩ := u.any ho I.free fun z => (hch _ z).2.1 rfl
 exact I.step (ch := ch) hch (fun b o hL hb hc e n => u.keep b o e n (fun z => (List.mem_cons.mp (I.iS b z)).elim hL hb) hc) (fun b o _ _ hc e n => u.any e n hc) (fun b o hc e n => u.free b o e n hc) (fun b o hc e => u.there b o e hc) u.dB u.df u.dw (fun m' hm => by
  obtain ⟨o', es', ep', ho', r'⟩ := hm
  rw [ho] at ho'; cases ho'
  exact ⟨_, es', ep', hL, r'⟩) ax hg
theorem Inv.turned {t' : Nat} {it : Addr} (I : Inv X pins σ H s) (k : ∀ b o, b ≠ it → s.heap.get? b = some o → h'.get? b = some o) (hn : H it = none) (hL : it ≠ X.env.locals)
  (h1 : it ∈ X.ex ∨ X.s₀.heap.objs.size ≤ it) (h2 : ∀ x c, X.env.cells.lookup x = some c → c ≠ it) (h3 : ∀ p ∈ X.pn ++ pins, p.1 ≠ it) : Inv X pins σ H { s with heap := h', toks := t' } := by
 have nit : ∀ b u, H b = some u → b ≠ it := fun b u e z => by rw [z, hn] at e; cases e
 refine I.step (g' := s.gens) (d' := s.drawn) (ch := [it]) (fun b hb => ?_) (fun b o _ _ hc e _ => k b o (fun z => hc (by simp [z])) e) (fun b o _ _ hc e _ => ⟨o.slots, k b o (fun z => hc (by simp [z])) e⟩) (fun _ _ _ _ n => n)
  (fun b o hc e => ⟨o, k b o (fun z => hc (by simp [z])) e⟩) (fun _ _ e => e) (fun _ _ _ e => e) (fun b ps e => ⟨#[], by rw [e]; simp⟩) (fun m hm => ?_) (fun b u e => ?_) I.bare
 ·have e : b = it := by simpa using hb
  subst e
  exact ⟨h1, hL, h2, h3⟩
 ·obtain ⟨o, es, ep, ho, r⟩ := hm
  exact ⟨o, es, ep, k _ o (Ne.symm hL) ho, r⟩
 ·refine (I.ax b u e).eM (fun c v hc q => k c v ?_ q) (fun _ q => q) fun _ _ q => q
  rcases hc with z | z
  ·rw [z]; exact nit b u e
  ·exact nit c _ z
theorem Inv.tok (I : Inv X pins σ H s) (t : Nat) : Inv X pins σ H { s with toks := t } := I.un (h' := s.heap) (t' := t) Un.refl I.ax
theorem Inv.kept {t' : Nat} (I : Inv X pins σ H s) (k : ∀ b u, s.heap.get? b = some u → h'.get? b = some u) : Inv X pins σ H { s with heap := h', toks := t' } := I.un (Un.kept k) (I.ax.kept k)
theorem Inv.laid {a : Addr} {o : HO} {t' : Nat} (I : Inv X pins σ H s) (k : ∀ b u, s.heap.get? b = some u → h'.get? b = some u) (hp : s.heap.objs.size ≤ a) (new : bp X.prog X.w (upd H a o) h' a o) :
  Inv X pins σ (upd H a o) { s with heap := h', toks := t' } := I.un (Un.laid k hp (I.ax.fresh hp)) (I.ax.laid k hp new)
theorem Inv.write {x e : Addr} {o : HO} {t' : Nat} (I : Inv X pins σ H s) (mu : mP (H x)) (he : e = x ∨ H e = some (.own x)) (k : ∀ b u, b ≠ e → s.heap.get? b = some u → h'.get? b = some u) (heo : ∃ u, h'.get? e = some u)
  (new : bp X.prog X.w (upd H x o) h' x o) : Inv X pins σ (upd H x o) { s with heap := h', toks := t' } := I.un (Un.write mu he k heo) (I.ax.write mu he k heo new)
theorem Inv.gP {pins' : List (Addr × Obj)} (I : Inv X pins σ H s) (h : ∀ p ∈ pins', s.heap.get? p.1 = some p.2 ∧ H p.1 = none ∧ p.1 ≠ X.env.locals ∧ p.1 ∉ X.fs ∧ ∀ v, p.2.data ≠ .cell v) : Inv X pins' σ H s :=
 ⟨I.ok, I.os, I.bare, I.base, I.loc, I.cell, I.free, I.cY, fun p hp => (List.mem_append.mp hp).elim (fun z => I.pin p (List.mem_append_left _ z)) (h p), I.ax, I.len⟩
theorem sM {N : List Str} (hN : N.Nodup) {i j : Nat} {x : Str} (a : N[i]? = some x) (b : N[j]? = some x) : i = j := by
 obtain ⟨h1, e1⟩ := List.getElem?_eq_some_iff.mp a
 obtain ⟨h2, e2⟩ := List.getElem?_eq_some_iff.mp b
 exact (List.getElem_inj hN).mp (e1.trans e2.symm)
theorem rS {M : Model} {A : Around} {E : Value → Shared → Prop} {i : Nat} {x : Str} {v : V} {u : Value} {Q : Unit → Shared → Prop} (I : Inv X pins σ H s) (hN : X.N.Nodup) (hi : X.N[i]? = some x) (hx : Loc X.env.scope x) (r : RelV v u)
  (h : ∀ s', Inv X pins (σ.set i (some v)) H s' → (∃ a, Heap.SameBut a s.heap s'.heap ∧ (a = X.env.locals ∨ X.env.cells.lookup x = some a)) → Q () s') (hf : X.fn x = true ∨ X.env.scope.names.lookup x = some .local := by first | exact .inl rfl | exact .inr rfl | assumption) : wpAny M A (storeName X.env x u) Q E s := by
 obtain ⟨m, hn, hl⟩ := id I.loc
 have xm : (X.env.scope.kind == .class || (X.env.scope.kind == .module && X.env.locals != X.env.globals)) = false := by rw [I.ok.kind]; rfl
 have hiσ : i < σ.length := by rw [I.len]; exact (List.getElem?_eq_some_iff.mp hi).1
 have fL := I.fL
 have tracked : ∀ {a : Addr} {h' : Heap}, (∃ o, s.heap.get? a = some o ∧ H a = none) → Heap.SameBut a s.heap h' → bz X.prog X.w H h' := fun {a h'} ha hs b ob e => by
  obtain ⟨_, _, pS⟩ := ha
  refine (I.ax b ob e).eM (fun c w' hc q => (hs.2 c ?_).trans q) (fun _ q => q) fun _ _ q => q
  rintro rfl
  rcases hc with rfl | hc
  ·rw [pS] at e; cases e
  ·rw [pS] at hc; cases hc
 rcases hx with hk | hk
 ·refine wpAny_storeName_local hk hn (fun h' hn' hs => ?_) xm
  obtain ⟨oL, _, _, hoL, _⟩ := id hn
  refine h _ ⟨I.ok, I.os, I.bare, ⟨fun b o e n hb hx => ?_, fun b o e n hb hx => ?_, I.base.free, fun b o e hx => ?_, I.base.dB, I.base.df, I.base.dw⟩, ⟨_, hn', fun j y v' e1 e2 e3 => ?_⟩, fun y c e => ?_, I.free, I.cY, fun p hp => ?_, tracked ⟨oL, hoL, I.free⟩ hs, by simpa using I.len⟩ ⟨_, hs, .inl rfl⟩
  ·exact (hs.2 b (Nat.ne_of_lt (Nat.lt_of_lt_of_le (Heap.lt_size e) I.ok.above))).trans (I.base.keep b o e n hb hx)
  ·obtain ⟨sl, e1⟩ := I.base.slot b o e n hb hx
   exact ⟨sl, (hs.2 b (Nat.ne_of_lt (Nat.lt_of_lt_of_le (Heap.lt_size e) I.ok.above))).trans e1⟩
  ·obtain ⟨o', e1⟩ := I.base.there b o e hx
   exact ⟨o', (hs.2 b (Nat.ne_of_lt (Nat.lt_of_lt_of_le (Heap.lt_size e) I.ok.above))).trans e1⟩
  ·by_cases hj : j = i
   ·subst hj
    rw [hi] at e1; cases e1
    rw [List.getElem?_set_self hiσ] at e2
    cases e2
    exact ⟨u, r, .inl ⟨hk, by simp⟩⟩
   ·rw [List.getElem?_set_ne (Ne.symm hj)] at e2
    obtain ⟨u', r', q⟩ := hl j y v' e1 e2 e3
    refine ⟨u', r', ?_⟩
    rcases q with ⟨k, e⟩ | ⟨k, c, e, z⟩
    ·refine .inl ⟨k, ?_⟩
     have : y ≠ x := fun e => hj (sM hN e1 (e ▸ hi))
     simp [this, e]
    ·exact .inr ⟨k, c, e, z.sameBut hs (fL y c e)⟩
  ·obtain ⟨w', z⟩ := I.cell y c e
   exact ⟨w', z.sameBut hs (fL y c e)⟩
  ·obtain ⟨e, n, ne, nf, d⟩ := I.pin p hp
   exact ⟨(hs.2 p.1 ne).trans e, n, ne, nf, d⟩
 ·have hfn : X.fn x = true := by
   rcases hf with z | z
   ·exact z
   ·rw [z] at hk; cases hk
  obtain ⟨c, hc⟩ := I.ok.has x (.inl hk)
  obtain ⟨w', z⟩ := I.cell x c hc
  refine wpAny_storeName_cell I.ok.kind hk hc z (fun h' hc' hs => ?_)
  obtain ⟨oc, hoc, hocd⟩ := id z
  refine h { s with heap := h' } ⟨I.ok, I.os, I.bare, ⟨fun b o e n hb hx => ?_, fun b o e n hb hx => ?_, I.base.free, fun b o e hx => ?_, I.base.dB, I.base.df, I.base.dw⟩, ⟨m, hn.sameBut hs (Ne.symm (fL x c hc)), fun j y v' e1 e2 e3 => ?_⟩, fun y c' e => ?_, I.free, I.cY, fun p hp => ?_, tracked ⟨oc, hoc, I.cY x c hc⟩ hs, by simpa using I.len⟩ ⟨c, hs, .inr hc⟩
  ·exact (hs.2 b (Nat.ne_of_lt (Nat.lt_of_lt_of_le (Heap.lt_size e) (I.ok.gk x c hfn hc)))).trans (I.base.keep b o e n hb hx)
  ·obtain ⟨sl, e1⟩ := I.base.slot b o e n hb hx
   exact ⟨sl, (hs.2 b (Nat.ne_of_lt (Nat.lt_of_lt_of_le (Heap.lt_size e) (I.ok.gk x c hfn hc)))).trans e1⟩
  ·obtain ⟨o', e1⟩ := I.base.there b o e hx
   exact ⟨o', (hs.2 b (Nat.ne_of_lt (Nat.lt_of_lt_of_le (Heap.lt_size e) (I.ok.gk x c hfn hc)))).trans e1⟩
  ·by_cases hj : j = i
   ·subst hj
    rw [hi] at e1; cases e1
    rw [List.getElem?_set_self hiσ] at e2
    cases e2
    exact ⟨u, r, .inr ⟨.inl hk, c, hc, hc'⟩⟩
   ·rw [List.getElem?_set_ne (Ne.symm hj)] at e2
    obtain ⟨u', r', q⟩ := hl j y v' e1 e2 e3
    refine ⟨u', r', ?_⟩
    rcases q with q | ⟨k, c', e, z'⟩
    ·exact .inl q
    ·refine .inr ⟨k, c', e, z'.sameBut hs ?_⟩
     rintro rfl
     exact hj (sM hN e1 (I.ok.inj _ _ _ e hc ▸ hi))
  ·by_cases hcc : c' = c
   ·subst hcc; exact ⟨_, hc'⟩
   ·obtain ⟨w2, z2⟩ := I.cell y c' e
    exact ⟨w2, z2.sameBut hs hcc⟩
  ·obtain ⟨e, n, ne, nf, d⟩ := I.pin p hp
   refine ⟨(hs.2 p.1 ?_).trans e, n, ne, nf, d⟩
   intro q
   rw [q, hoc] at e
   have q' : oc = p.2 := Option.some.inj e
   exact d w' (by rw [← q']; exact hocd)
theorem si {M : Model} {A : Around} {E : Value → Shared → Prop} {i : Nat} {x : Str} {v : V} {u : Value} {Q : Unit → Shared → Prop} (I : Inv X pins σ H s) (hN : X.N.Nodup) (hi : X.N[i]? = some x) (hx : Loc X.env.scope x) (r : RelV v u)
  (h : ∀ s', Inv X pins (σ.set i (some v)) H s' → Q () s') (hf : X.fn x = true ∨ X.env.scope.names.lookup x = some .local := by first | exact .inl rfl | exact .inr rfl | assumption) : wpAny M A (storeName X.env x u) Q E s :=
 rS I hN hi hx r (fun s' I' _ => h s' I') hf
theorem Inv.kM {s' : Shared} {ch : List Addr} (I : Inv X pins σ H s) (ho : s'.os = s.os) (u : Un (bG X.stack) ch H H' s.heap s'.heap) (ax : bz X.prog X.w H' s'.heap) (hg : AllBare s'.gens)
  (hch : ∀ b ∈ ch, (b ∈ X.ex ∨ X.s₀.heap.objs.size ≤ b) ∧ b ≠ X.env.locals ∧ (∀ x c, X.env.cells.lookup x = some c → c ≠ b) ∧ ∀ p ∈ X.pn ++ pins, p.1 ≠ b) : Inv X pins σ H' s' := by
 obtain ⟨h', g', d', t', o'⟩ := s'
 have e : o' = s.os := ho
 subst e
 exact I.call (g' := g') (t' := t') (d' := d') u ax hg hch
end
abbrev XK := Value → Option Addr → Hp → Prop
abbrev St := List (Option V)
abbrev VK := V → Hp → Prop
abbrev TE := St → Hp → VK → Prop
abbrev TT := St → Hp → (Bool → Hp → Prop) → Prop
abbrev TA := St → Hp → (List V → Hp → Prop) → Prop
structure Ends where
 nx : St → Hp → Prop
 rt : VK
 bk : St → Hp → Prop := fun _ _ => False
 ct : St → Hp → Prop := fun _ _ => False
abbrev TS := Ends → St → Hp → Prop
def EP (X : Cx) (pins : List (Addr × Obj)) (σ : St) (Q : VK) (u : Value) (s' : Shared) : Prop := ∃ v H', Inv X pins σ H' s' ∧ RelV v u ∧ Q v H'
def TP (X : Cx) (pins : List (Addr × Obj)) (σ : St) (Q : Bool → Hp → Prop) (b : Bool) (s' : Shared) : Prop := ∃ H', Inv X pins σ H' s' ∧ Q b H'
def AP (X : Cx) (pins : List (Addr × Obj)) (σ : St) (Q : List V → Hp → Prop) (us : List Value) (s' : Shared) : Prop := ∃ vs H', Inv X pins σ H' s' ∧ Vals vs us ∧ Q vs H'
def SP (X : Cx) (pins : List (Addr × Obj)) (D : Ends) (f : Flow) (s' : Shared) : Prop :=
 match f with
 | .next => ∃ σ' H', Inv X pins σ' H' s' ∧ D.nx σ' H'
 | .brk => ∃ σ' H', Inv X pins σ' H' s' ∧ D.bk σ' H'
 | .cont => ∃ σ' H', Inv X pins σ' H' s' ∧ D.ct σ' H'
 | .ret u => ∃ v σ' H', Inv X pins σ' H' s' ∧ RelV v u ∧ D.rt v H'
def PE (X : Cx) (e : Expr) (t : TE) : Prop :=
 ∀ (pins : List (Addr × Obj)) (s : Shared) (σ : St) (H : Hp) (Q : VK), Inv X pins σ H s → t σ H Q → wpAny (model X.prog X.w) X.A (eval e X.env) (EP X pins σ Q) X.xe s
def PT (X : Cx) (e : Expr) (t : TT) : Prop :=
 ∀ (pins : List (Addr × Obj)) (s : Shared) (σ : St) (H : Hp) (Q : Bool → Hp → Prop), Inv X pins σ H s → t σ H Q → wpAny (model X.prog X.w) X.A (isTrue e X.env (eval e X.env)) (TP X pins σ Q) X.xe s
def PW (X : Cx) (e : Expr) (t : TT) : Prop :=
 ∀ (whole : Sem Value) (pins : List (Addr × Obj)) (s : Shared) (σ : St) (H : Hp) (Q : Bool → Hp → Prop), Inv X pins σ H s → t σ H Q → wpAny (model X.prog X.w) X.A (isTrue e X.env whole) (TP X pins σ Q) X.xe s
theorem PW.pt {X : Cx} {e : Expr} {t : TT} (h : PW X e t) : PT X e t := h _
def PA (X : Cx) (es : List Expr) (t : TA) : Prop :=
 ∀ (pos : Pos) (pins : List (Addr × Obj)) (s : Shared) (σ : St) (H : Hp) (Q : List V → Hp → Prop), Inv X pins σ H s → t σ H Q → wpAny (model X.prog X.w) X.A (spliced (backTo pos (starEach es X.env))) (AP X pins σ Q) X.xe s
def PS (X : Cx) (st : Stmt) (t : TS) : Prop :=
 ∀ (pins : List (Addr × Obj)) (s : Shared) (σ : St) (H : Hp) (D : Ends), Inv X pins σ H s → t D σ H → wpAny (model X.prog X.w) X.A (exec st X.env) (SP X pins D) X.xe s
def bT (X : Cx) (st : List Stmt) (t : TS) : Prop :=
 ∀ (pins : List (Addr × Obj)) (s : Shared) (σ : St) (H : Hp) (D : Ends), Inv X pins σ H s → t D σ H → wpAny (model X.prog X.w) X.A (execs st X.env) (SP X pins D) X.xe s
theorem aA {α : Type} {t : Sem α} {Q Q' : α → Shared → Prop} {M : Model} {A : Around} {E : Value → Shared → Prop} {s : Shared} (h : wpAny M A t Q E s) (hQ : ∀ a s, Q a s → Q' a s) : wpAny M A t Q' E s := wpAny_mono h hQ fun _ _ x => x
end L2
namespace L2
open PySem PySem.Spec PyProof.Rows
section
variable {X : Cx}
def z9 (i : Nat) : TE := fun σ H Q => ∃ v, σ[i]? = some (some v) ∧ Q v H
def tC (v : V) : TE := fun _ H Q => Q v H
theorem vc {i : Nat} {x : Str} {pos : Pos} (hN : X.N[i]? = some x) (hv : hX X.env.scope x) (hd : (x == ("__debug__" : Str)) = false := by decide) (hcd : (x == ("__classdict__" : Str)) = false := by decide) : PE X (.Name x pos) (z9 i) := by
 intro pins s σ H Q I h
 obtain ⟨v, e, h⟩ := h
 obtain ⟨m, hn, hl⟩ := I.loc
 obtain ⟨u, r, l⟩ := hl i x v hN e hv
 have fin : EP X pins σ Q u s := ⟨v, H, I, r, h⟩
 rcases l with ⟨hk, hm⟩ | ⟨hk, c, hc, BY⟩
 ·exact wpAny_Name (wpAny_loadName_local I.ok.kind hk hn hm fin) hd
 ·rcases hk with hk | hk
  ·exact wpAny_Name (wpAny_loadName_cell I.ok.kind hk hc BY fin) hd
  ·exact wpAny_Name (wpAny_loadName_free I.ok.kind hk hc BY fin hcd) hd
theorem NH {i j pos} : PE X (.Constant (.int i) j pos) (tC (.int i)) := fun _ _ _ H _ I h => wpAny_Constant_int ⟨.int i, H, I.tok _, ⟨_, rfl⟩, h⟩
theorem JH {b j pos} : PE X (.Constant (.bool b) j pos) (tC (.bl b)) := fun _ _ _ H _ I h => Constant_bool ⟨.bl b, H, I, rfl, h⟩
theorem DE {j pos} : PE X (.Constant .none j pos) (tC .au) := fun _ _ _ H _ I h => Constant_none ⟨.au, H, I, rfl, h⟩
theorem Gv {x j pos} : PE X (.Constant (.str x) j pos) (tC (.str x)) := fun _ _ _ H _ I h => Calls.Constant_str ⟨.str x, H, I.tok _, ⟨_, rfl⟩, h⟩
def Gl (X : Cx) (x : Str) : Prop := X.env.kindOf x = some .globalImplicit
theorem gW {E : Value → Shared → Prop} {pins : List (Addr × Obj)} {s : Shared} {σ : St} {H : Hp} {x : Str} {u : Value} {pos : Pos} {Q : Value → Shared → Prop} (I : Inv X pins σ H s) (hg : Gl X x) (hm : X.mg x = some u) (h : Q u s)
  (hd : (x == ("__debug__" : Str)) = false := by decide) : wpAny (model X.prog X.w) X.A (eval (.Name x pos) X.env) Q E s :=
 Calls.Name_function_global I.ok.kind hg (Calls.loadGlobal_global (by rw [I.ok.glob]; exact I.mod.glob.keeps I.bk) hm h) hd
theorem hV {E : Value → Shared → Prop} {pins : List (Addr × Obj)} {s : Shared} {σ : St} {H : Hp} {x : Str} {u : Value} {pos : Pos} {Q : Value → Shared → Prop} (I : Inv X pins σ H s) (hg : Gl X x) (hm : X.mg x = none) (hv : bootBuiltins x = some u) (h : Q u s)
  (hn : x ≠ "__name__" := by decide) (hd : (x == ("__debug__" : Str)) = false := by decide) : wpAny (model X.prog X.w) X.A (eval (.Name x pos) X.env) Q E s := by
 obtain ⟨mb, h1, h2⟩ := I.mod.blt
 exact Calls.Name_function_global I.ok.kind hg (Calls.loadGlobal_builtin (by rw [I.ok.glob]; exact I.mod.glob.keeps I.bk) hm (by rw [I.ok.blt]; exact h1.keeps I.bk) ((h2 x hn).trans hv) h) hd
theorem KQ {x : Str} {v : V} {u : Value} {pos : Pos} (hg : Gl X x) (hm : X.mg x = some u) (r : RelV v u) (hd : (x == ("__debug__" : Str)) = false := by decide) : PE X (.Name x pos) (tC v) :=
 fun _ _ _ H _ I h => gW I hg hm ⟨v, H, I, r, h⟩ hd
theorem ME {x : Str} {v : V} {u : Value} {pos : Pos} (hg : Gl X x) (hm : X.mg x = none) (hv : bootBuiltins x = some u) (r : RelV v u) (hn : x ≠ "__name__" := by decide) (hd : (x == ("__debug__" : Str)) = false := by decide) : PE X (.Name x pos) (tC v) :=
 fun _ _ _ H _ I h => hV I hg hm hv ⟨v, H, I, r, h⟩ hn hd
def HM (ta tb : TE) (k : Int → Int → Hp → Prop) : St → Hp → Prop := fun σ H => ta σ H fun x H1 => tb σ H1 fun y H2 => ∃ i j, x = .int i ∧ y = .int j ∧ k i j H2
variable {a b : Expr} {ta tb : TE} {pos : Pos}
def PC (X : Cx) (op : CmpOp) (a b : Expr) (t : TE) : Prop :=
 ∀ (pins : List (Addr × Obj)) (s : Shared) (σ : St) (H : Hp) (Q : VK), Inv X pins σ H s → t σ H Q →
  wpAny (model X.prog X.w) X.A (eval a X.env) (fun v s₁ => wpAny (model X.prog X.w) X.A (eval b X.env) (fun u s₂ => wpAny (model X.prog X.w) X.A (compareOp op v u) (EP X pins σ Q) X.xe s₂) X.xe s₁) X.xe s
theorem oT (b : Expr) {op : CmpOp} (h : op ≠ .In) (h2 : op ≠ .NotIn) : behindInMarks op b = false := by
 have e1 : (op == CmpOp.In) = false := by cases op <;> first | rfl | exact absurd rfl h
 have e2 : (op == CmpOp.NotIn) = false := by cases op <;> first | rfl | exact absurd rfl h2
 cases b <;> simp [behindInMarks, e1, e2]
def jj (p : Int → Int → Bool) (ta tb : TE) : TE := fun σ H Q => HM ta tb (fun i j H2 => Q (.bl (p i j)) H2) σ H
abbrev OU : TE → TE → TE := jj fun i j => decide (i < j)
abbrev ON : TE → TE → TE := jj fun i j => decide (i ≤ j)
abbrev OO : TE → TE → TE := jj fun i j => decide (j < i)
abbrev OR : TE → TE → TE := jj fun i j => decide (j ≤ i)
abbrev OT : TE → TE → TE := jj fun i j => decide (i = j)
abbrev OM : TE → TE → TE := jj fun i j => !decide (i = j)
def JJ (ta : TE) : TE := fun σ H Q => ta σ H fun x H1 => Q (.bl (decide (x = .au))) H1
def tB (t : TE) : TT := fun σ H Q => t σ H fun x H1 => ∃ c, x = .bl c ∧ Q c H1
variable {tA tB' : TT} {rest : List Expr}
def vR (t u : TT) : TT := fun σ H Q => t σ H fun c H1 => if c = true then u σ H1 Q else Q false H1
def uv (t u : TT) : TT := fun σ H Q => t σ H fun c H1 => if c = true then Q true H1 else u σ H1 Q
def qm (t : TT) : TT := fun σ H Q => t σ H fun c H1 => Q (!c) H1
theorem Dt (ha : PT X a tA) : PW X (.BoolOp .And [a] pos) tA := by
 intro wh pins s σ H Q I h
 refine isTrue_and (aA (ha pins s σ H Q I h) fun c s1 e => ?_)
 cases c with
 | true => exact isTrue_and_nil e
 | false => exact e
theorem KS (ha : PT X a tA) : PW X (.BoolOp .Or [a] pos) tA := by
 intro wh pins s σ H Q I h
 refine isTrue_or (aA (ha pins s σ H Q I h) fun c s1 e => ?_)
 cases c with
 | false => exact isTrue_or_nil e
 | true => exact e
theorem MR (ha : PT X a tA) (hb : PW X (.BoolOp .And (b :: rest) pos) tB') : PW X (.BoolOp .And (a :: b :: rest) pos) (vR tA tB') := by
 intro wh pins s σ H Q I h
 refine isTrue_and (aA (ha pins s σ H _ I h) fun c s1 ⟨H1, I1, q1⟩ => ?_)
 cases c with
 | true => exact hb wh pins s1 σ H1 Q I1 q1
 | false => exact ⟨H1, I1, q1⟩
theorem DM (ha : PT X a tA) (hb : PW X (.BoolOp .Or (b :: rest) pos) tB') : PW X (.BoolOp .Or (a :: b :: rest) pos) (uv tA tB') := by
 intro wh pins s σ H Q I h
 refine isTrue_or (aA (ha pins s σ H _ I h) fun c s1 ⟨H1, I1, q1⟩ => ?_)
 cases c with
 | true => exact ⟨H1, I1, q1⟩
 | false => exact hb wh pins s1 σ H1 Q I1 q1
theorem ES (ha : PT X a tA) : PT X (.UnaryOp .Not a pos) (qm tA) := by
 intro pins s σ H Q I h
 exact isTrue_not (ha pins s σ H (fun c H1 => Q (!c) H1) I h)
theorem E2 {op} {t : TE} (h : PE X a t) : PE X (.BoolOp op [a] pos) t := fun pins s σ H Q I hw => BoolOp_one (h pins s σ H Q I hw)
def uB (t : TT) (ta tb : TE) : TE := fun σ H Q => t σ H fun c H1 => if c = true then ta σ H1 Q else tb σ H1 Q
theorem Em {c : Expr} (hc : PT X c tA) (ha : PE X a ta) (hb : PE X b tb) : PE X (.IfExp c a b pos) (uB tA ta tb) := by
 intro pins s σ H Q I h
 refine wpAny_IfExp (aA (hc pins s σ H _ I h) fun d s1 ⟨H1, I1, q1⟩ => ?_)
 cases d with
 | true => exact ha pins s1 σ H1 Q I1 q1
 | false => exact hb pins s1 σ H1 Q I1 q1
end
end L2
namespace L2
open PySem PySem.Spec PyProof.Rows
def aJ (K : PySem.W.Frag) (H : Hp) (a : Addr) (xs : List V) : Prop :=
 Rd H a (.lst xs) ∨
  ∃ (o : Obj) (its : Array Value) (n : Nat), K.lookup a = some o ∧ o.cls = .type "list" ∧ o.dict = none ∧ o.data = .seq its n ∧ its.size ≤ sizeLine ∧ Vals xs its.toList
def cn (K : PySem.W.Frag) (H : Hp) (a : Addr) (xs : List V) : Prop :=
 Rd H a (.tup xs) ∨
  ∃ (o : Obj) (its : Array Value) (n : Nat), K.lookup a = some o ∧ o.cls = .type "tuple" ∧ o.data = .seq its n ∧ its.size ≤ sizeLine ∧ Vals xs its.toList
def Ep : Value → Option V
 | .none => some .au
 | .bool b => some (.bl b)
 | .int i _ => some (.int i)
 | .str x _ => some (.str x)
 | .bytes b _ => some (.byt b)
 | .float b _ => some (.ir b)
 | .ref a => some (.ref a)
 | .type n => some (.ty n)
 | _ => none
theorem RelV.abs {x : V} {u : Value} (r : RelV x u) : Ep u = some x := by
 cases x with
 | au => cases r; rfl
 | bl _ => cases r; rfl
 | int _ => obtain ⟨t, rfl⟩ := r; rfl
 | str _ => obtain ⟨t, rfl⟩ := r; rfl
 | byt _ => obtain ⟨t, rfl⟩ := r; rfl
 | ir _ => obtain ⟨t, rfl⟩ := r; rfl
 | ref _ => cases r; rfl
 | ty _ => cases r; rfl
theorem RelV.inj {x y : V} {u : Value} (r : RelV x u) (q : RelV y u) : x = y := Option.some.inj (r.abs.symm.trans q.abs)
theorem Vals.inj : ∀ {xs ys : List V} {us : List Value}, Vals xs us → Vals ys us → xs = ys
 | _, _, _, .nil, .nil => rfl
 | _, _, _, .cons r t, .cons r' t' => by rw [r.inj r', Vals.inj t t']
section
variable {X : Cx} {pins : List (Addr × Obj)} {σ : St} {H : Hp} {s : Shared} {a : Addr} {xs ys : List V}
theorem aJ.of {K : PySem.W.Frag} (h : H a = some (.lst xs)) : aJ K H a xs := .inl (.inl h)
theorem cn.of {K : PySem.W.Frag} (h : H a = some (.tup xs)) : cn K H a xs := .inl (.inl h)
theorem Inv.list (I : Inv X pins σ H s) (h : aJ X.K H a xs) : ∃ its : List Value, Vals xs its ∧ PlainL s.heap a its.toArray ∧ xs.length ≤ sizeLine := by
 rcases h with h | ⟨o, its, n, hk, hc, hd, hs, hz, r⟩
 ·obtain ⟨z, its, n, r, e⟩ := h.ok I.ax
  exact ⟨its, r, ⟨_, n, e, rfl, rfl, rfl⟩, z⟩
 ·refine ⟨its.toList, r, ⟨o, n, I.bx a o hk, hc, hd, by simpa using hs⟩, ?_⟩
  have e := r.length
  simp only [Array.length_toList] at e
  omega
theorem Inv.tuple (I : Inv X pins σ H s) (h : cn X.K H a xs) : ∃ its : List Value, Vals xs its ∧ IsTup s.heap a its.toArray ∧ xs.length ≤ sizeLine := by
 rcases h with h | ⟨o, its, n, hk, hc, hs, hz, r⟩
 ·obtain ⟨z, its, r, p⟩ := h.ok I.ax
  exact ⟨its, r, p, z⟩
 ·refine ⟨its.toList, r, ⟨o, I.bx a o hk, hc, n, by simpa using hs⟩, ?_⟩
  have e := r.length
  simp only [Array.length_toList] at e
  omega
theorem Inv.vm (I : Inv X pins σ H s) (h : aJ X.K H a xs) (h' : aJ X.K H a ys) : xs = ys := by
 obtain ⟨its, r, ⟨o, n, e, _, _, d⟩, _⟩ := I.list h
 obtain ⟨its', r', ⟨o', n', e', _, _, d'⟩, _⟩ := I.list h'
 rw [e] at e'; cases e'
 rw [d] at d'
 injection d' with d1 _
 have : its = its' := by simpa using congrArg Array.toList d1
 subst this
 exact r.inj r'
end
abbrev Cx.bA (X : Cx) (E : Value → Shared → Prop) : Cx := { X with xe := E }
abbrev Cx.j7 (X : Cx) : Cx := X.bA fun _ _ => False
theorem Cx.Ok.bA {X : Cx} (ok : X.Ok) (E : Value → Shared → Prop) : (X.bA E).Ok :=
 ⟨ok.mod, ok.kind, ok.glob, ok.blt, ok.above, ok.inj, ok.has, ok.gk, ok.hd, ok.frames, ok.eh, ok.lG, ok.bs, ok.dD, ok.gq, ok.f6, ok.cU, ok.e7⟩
theorem Cx.Ok.gJ {X : Cx} {E : Value → Shared → Prop} (ok : (X.bA E).Ok) : X.Ok :=
 ⟨ok.mod, ok.kind, ok.glob, ok.blt, ok.above, ok.inj, ok.has, ok.gk, ok.hd, ok.frames, ok.eh, ok.lG, ok.bs, ok.dD, ok.gq, ok.f6, ok.cU, ok.e7⟩
section
variable {X : Cx} {pins : List (Addr × Obj)} {σ : St} {H : Hp} {s : Shared} {E : Value → Shared → Prop}
theorem Inv.bA (I : Inv X pins σ H s) (E : Value → Shared → Prop) : Inv (X.bA E) pins σ H s := ⟨I.ok.bA E, I.os, I.bare, I.base, I.loc, I.cell, I.free, I.cY, I.pin, I.ax, I.len⟩
theorem Inv.gJ (I : Inv (X.bA E) pins σ H s) : Inv X pins σ H s := ⟨I.ok.gJ, I.os, I.bare, I.base, I.loc, I.cell, I.free, I.cY, I.pin, I.ax, I.len⟩
theorem SP.gJ {D : Ends} {f : Flow} {s' : Shared} (h : SP (X.bA E) pins D f s') : SP X pins D f s' := by
 cases f with
 | next => obtain ⟨σ', H', I, q⟩ := h; exact ⟨σ', H', I.gJ, q⟩
 | brk => obtain ⟨σ', H', I, q⟩ := h; exact ⟨σ', H', I.gJ, q⟩
 | cont => obtain ⟨σ', H', I, q⟩ := h; exact ⟨σ', H', I.gJ, q⟩
 | ret u => obtain ⟨v, σ', H', I, r, q⟩ := h; exact ⟨v, σ', H', I.gJ, r, q⟩
theorem bT.j7 {st : List Stmt} {t : TS} (h : bT X.j7 st t) : bT X st t := fun pins s σ H D I hw =>
 wpAny_mono (h pins s σ H D (I.bA _) hw) (fun _ _ q => q.gJ) fun _ _ z => False.elim z
end
section
variable {X : Cx} {st : Stmt} {rest : List Stmt} {t u : TS} {e : Expr} {te : TE} {pos : Pos}
def vf : TS := fun D σ H => D.nx σ H
def HG (t u : TS) : TS := fun D σ H => t { D with nx := u D } σ H
theorem Na : bT X [] vf := fun _ _ σ H _ I h => wpAny_execs_nil ⟨σ, H, I, h⟩
theorem Hm (h1 : PS X st t) (h2 : bT X rest u) : bT X (st :: rest) (HG t u) := by
 intro pins s σ H D I h
 refine wpAny_execs_cons (aA (h1 pins s σ H { D with nx := u D } I h) fun f s1 q => ?_)
 cases f with
 | next =>
  obtain ⟨σ', H', I', q⟩ := q
  exact h2 pins s1 σ' H' D I' q
 | ret v => exact q
 | brk => exact q
 | cont => exact q
theorem EV (h1 : PS X st t) : bT X [st] t := by
 intro pins s σ H D I h
 refine wpAny_execs_cons (aA (h1 pins s σ H D I h) fun f s1 q => ?_)
 cases f with
 | next => exact wpAny_execs_nil q
 | ret v => exact q
 | brk => exact q
 | cont => exact q
theorem Inv.quiet {pins : List (Addr × Obj)} {σ : St} {H : Hp} {s : Shared} (I : Inv X pins σ H s) : interactive X.env = false := by simp [interactive, I.ok.kind]
def sR (te : TE) : TS := fun D σ H => te σ H fun _ H1 => D.nx σ H1
theorem HH (he : PE X e te) (hs : swapsWith e none pos.line X.env = pure false := by rfl) : PS X (.Expr e pos) (sR te) := by
 intro pins s σ H D I h
 exact wpAny_Expr_any (aA (he pins s σ H _ I h) fun v s1 ⟨x, H1, I1, r1, q1⟩ => ⟨σ, H1, I1, q1⟩) I.quiet hs
def vh (te : TE) : TS := fun D σ H => te σ H D.rt
theorem DA (he : PE X e te) : PS X (.Return (some e) pos) (vh te) := by
 intro pins s σ H D I h
 exact wpAny_Return_some (aA (he pins s σ H _ I h) fun v s1 ⟨x, H1, I1, r1, q1⟩ => ⟨x, σ, H1, I1, r1, q1⟩)
def Lw : TS := fun D _ H => D.rt .au H
def u9 (c : TT) (t u : TS) : TS := fun D σ H => c σ H fun b H1 => if b = true then t D σ H1 else u D σ H1
theorem Gg {c : Expr} {a b : List Stmt} {tc : TT} (hc : PT X c tc) (ha : bT X a t) (hb : bT X b u) : PS X (.If c a b pos) (u9 tc t u) := by
 intro pins s σ H D I h
 refine wpAny_If (aA (hc pins s σ H _ I h) fun d s1 ⟨H1, I1, q1⟩ => ?_)
 cases d with
 | true => exact ha pins s1 σ H1 D I1 q1
 | false => exact hb pins s1 σ H1 D I1 q1
def tj : TS := fun _ _ _ => False
theorem L7 : PS X st tj := fun _ _ _ _ _ _ h => h.elim
end
abbrev TG := V → St → Hp → (St → Hp → Prop) → Prop
abbrev er := List V → St → Hp → (St → Hp → Prop) → Prop
def PG (X : Cx) (target : Expr) (t : TG) : Prop :=
 ∀ (pins : List (Addr × Obj)) (s : Shared) (σ : St) (H : Hp) (v : V) (u : Value) (Q : St → Hp → Prop), Inv X pins σ H s → RelV v u → t v σ H Q →
  wpAny (model X.prog X.w) X.A (assign target X.env u) (fun _ s' => ∃ σ' H', Inv X pins σ' H' s' ∧ Q σ' H') X.xe s
def kj (X : Cx) (ts : List Expr) (t : er) : Prop :=
 ∀ (pins : List (Addr × Obj)) (s : Shared) (σ : St) (H : Hp) (vs : List V) (us : List Value) (Q : St → Hp → Prop), Inv X pins σ H s → Vals vs us → t vs σ H Q →
  wpAny (model X.prog X.w) X.A (assignInOrder ((assignEach ts X.env).map (·.2)) us) (fun _ s' => ∃ σ' H', Inv X pins σ' H' s' ∧ Q σ' H') X.xe s
abbrev mh := V → V → V → Hp → (Hp → Prop) → Prop
def pG (X : Cx) (t : mh) : Prop :=
 ∀ (pins : List (Addr × Obj)) (s : Shared) (σ : St) (H : Hp) (o i v : V) (ov iv u : Value) (Q : Hp → Prop), Inv X pins σ H s → RelV o ov → RelV i iv → RelV v u → t o i v H Q →
  wpAny (model X.prog X.w) X.A (setItem ov iv u) (fun _ s' => ∃ H', Inv X pins σ H' s' ∧ Q H') X.xe s
abbrev OW := V → V → Hp → VK → Prop
section
variable {X : Cx} {pos : Pos}
def eE (i : Nat) : TG := fun v σ H Q => Q (σ.set i (some v)) H
theorem yY {i : Nat} {x : Str} (hN : X.N.Nodup) (hi : X.N[i]? = some x) (hx : Loc X.env.scope x) (hf : X.fn x = true ∨ X.env.scope.names.lookup x = some .local := by first | exact .inl rfl | exact .inr rfl | assumption) : PG X (.Name x pos) (eE i) := by
 intro pins s σ H v u Q I r h
 exact wpAny_assign_Name (si I hN hi hx r (fun s' I' => ⟨_, H, I', h⟩) hf)
def nq : er := fun vs σ H Q => vs = [] ∧ Q σ H
def mG (t : TG) (u : er) : er := fun vs σ H Q => ∃ v r, vs = v :: r ∧ t v σ H fun σ' H' => u r σ' H' Q
theorem NB : kj X [] nq := by
 intro pins s σ H vs us Q I r h
 obtain ⟨e, h⟩ := h
 subst e
 cases r
 exact assignInOrder_nil ⟨σ, H, I, h⟩
theorem Ds {e : Expr} {es : List Expr} {t : TG} {u : er} (h1 : PG X e t) (h2 : kj X es u)
  (hs : (assignEach (e :: es) X.env).map (·.2) = assign e X.env :: (assignEach es X.env).map (·.2) := by rfl) : kj X (e :: es) (mG t u) := by
 intro pins s σ H vs us Q I r h
 obtain ⟨v, vr, e1, h⟩ := h
 subst e1
 cases r with
 | cons r rr =>
  rw [hs]
  refine assignInOrder_cons (aA (h1 pins s σ H _ _ _ I r h) fun _ s1 ⟨σ1, H1, I1, q1⟩ => ?_)
  exact h2 pins s1 σ1 H1 _ _ Q I1 rr q1
def oJ (K : PySem.W.Frag) (n : Nat) (t : er) : TG := fun v σ H Q => ∃ a xs, v = .ref a ∧ cn K H a xs ∧ xs.length = n ∧ t xs σ H Q
theorem G6 {es : List Expr} {k : Nat} {t : er} {n : Nat} (hc : X.calm = true) (h : kj X es t)
  (hn : (assignEach es X.env).length = n := by rfl) (hst : (assignEach es X.env).findIdx? (·.1) = none := by rfl) : PG X (.Tuple es k pos) (oJ X.K n t) := by
 intro pins s σ H v u Q I r hw
 obtain ⟨a, xs, e1, hq, hl, hw⟩ := hw
 subst e1
 cases r
 obtain ⟨its, rv, ht, hz⟩ := I.tuple hq
 refine assign_Tuple_tuple (I.ok.hd hc) ht (by simp [hn, ← hl, rv.length]) hst fun h' hx => ?_
 have I1 : Inv X pins σ H { s with heap := h' } := I.kept (t' := s.toks) fun b o e => hx b o (Nat.ne_of_lt (Heap.lt_size e)) e
 exact h pins _ σ H xs _ Q I1 (by simpa using rv) hw
def rm (to ti : TE) (t : mh) : TG := fun v σ H Q => to σ H fun o H1 => ti σ H1 fun i H2 => t o i v H2 fun H3 => Q σ H3
theorem JM {o i : Expr} {to ti : TE} {t : mh} (ho : PE X o to) (hi : PE X i ti) (hs : pG X t)
  (ha : ∀ v, assign (.Subscript o i pos) X.env v = (do
   let ov ← holding [v] (eval o X.env)
   let iv ← holding [v, ov] (eval i X.env)
   standAt pos
   holding [v, ov, iv] (setItem ov iv v)
   release [v, ov, iv] []) := by intro _; rfl) : PG X (.Subscript o i pos) (rm to ti t) := by
 intro pins s σ H v u Q I r h
 rw [ha]
 refine wpAny_bind (wpAny_holding (aA (ho pins s σ H _ I h) fun ov s1 ⟨x, H1, I1, r1, q1⟩ => ?_))
 refine wpAny_bind (wpAny_holding (aA (hi pins s1 σ H1 _ I1 q1) fun iv s2 ⟨y, H2, I2, r2, q2⟩ => ?_))
 refine wpAny_bind (wpAny_standAt (wpAny_bind (wpAny_holding (aA (hs pins s2 σ H2 x y v ov iv u _ I2 r1 r2 r q2) fun _ s3 ⟨H3, I3, q3⟩ => ?_))))
 exact wpAny_release ⟨σ, H3, I3, q3⟩
def fX (te : TE) (g : TG) : TS := fun D σ H => te σ H fun x H1 => g x σ H1 D.nx
theorem E6 {tg e : Expr} {te : TE} {g : TG} (he : PE X e te) (hg : PG X tg g) (hs : swapsWithSole [tg] e pos.line X.env = pure false := by rfl) (hw : swappedStores [tg] e X.env = pure none := by rfl)
  (h1 : (assignEach [tg] X.env).map (·.2) = [assign tg X.env] := by rfl) : PS X (.Assign [tg] e pos) (fX te g) := by
 intro pins s σ H D I h
 refine wpAny_Assign_stores (aA (he pins s σ H _ I h) fun v s1 ⟨x, H1, I1, r1, q1⟩ => ?_) hs hw
 rw [h1]
 exact aA (hg pins s1 σ H1 x v _ I1 r1 q1) fun _ s2 q => q
theorem Dw {i : Nat} {x : Str} {e : Expr} {te : TE} {pos' : Pos} (hN : X.N.Nodup) (hi : X.N[i]? = some x) (hx : Loc X.env.scope x) (he : PE X e te) (hs : swapsWith e (some (.Name x pos')) pos.line X.env = pure false := by rfl) (hf : X.fn x = true ∨ X.env.scope.names.lookup x = some .local := by first | exact .inl rfl | exact .inr rfl | assumption) :
  PS X (.Assign [.Name x pos'] e pos) (fX te (eE i)) := by
 intro pins s σ H D I h
 refine wpAny_Assign_Name (aA (he pins s σ H _ I h) fun v s1 ⟨y, H1, I1, r1, q1⟩ => ?_) hs
 exact si I1 hN hi hx r1 (fun s2 I2 => ⟨_, H1, I2, q1⟩) hf
end
section
variable {X : Cx} {pos : Pos}
def Be (c : TT) (tb : TS) : TS := fun D σ H => ∃ W : Nat → St → Hp → Prop, (∃ m, W m σ H) ∧ ∀ m σ H, W m σ H →
 c σ H fun b H1 => if b = true then ∃ N : St → Hp → Prop, (∀ σ' H', N σ' H' → ∃ m', m' < m ∧ W m' σ' H') ∧ tb { D with nx := N, ct := N, bk := D.nx } σ H1 else D.nx σ H1
theorem ER {c : Expr} {body : List Stmt} {tc : TT} {tb : TS} (hp : PassesOwn (model X.prog X.w) X.A X.env X.xe) (hc : PT X c tc) (hb : bT X body tb) : PS X (.While c body [] pos) (Be tc tb) := by
 intro pins s σ H D I h
 obtain ⟨W, ⟨m0, w0⟩, turn⟩ := h
 refine wpAny_While (codeAny_whileLoop (fun n s' => ∃ σ' H', Inv X pins σ' H' s' ∧ W n σ' H') ?_ m0 ⟨σ, H, I, w0⟩)
 rintro n s1 ⟨σ1, H1, I1, w1⟩
 refine wpAny_passesOwn hp (aA (hc pins s1 σ1 H1 _ I1 (turn n σ1 H1 w1)) fun b s2 ⟨H2, I2, q2⟩ => ?_)
 cases b with
 | true =>
  obtain ⟨N, hN, q2⟩ := q2
  rw [if_pos rfl]
  refine wpAny_passesOwn hp (aA (hb pins s2 σ1 H2 _ I2 q2) fun f s3 q3 => ?_)
  cases f with
  | next =>
   obtain ⟨σ3, H3, I3, n3⟩ := q3
   obtain ⟨m', hm, w3⟩ := hN σ3 H3 n3
   exact ⟨m', hm, σ3, H3, I3, w3⟩
  | cont =>
   obtain ⟨σ3, H3, I3, n3⟩ := q3
   obtain ⟨m', hm, w3⟩ := hN σ3 H3 n3
   exact ⟨m', hm, σ3, H3, I3, w3⟩
  | brk => exact q3
  | ret v => exact q3
 | false =>
  rw [if_neg Bool.false_ne_true]
  exact wpAny_execs_nil ⟨σ1, H2, I2, q2⟩
end
structure It where
 go : Nat → Hp → Prop
 gN : Nat → Hp → V → Hp → Prop
 stop : Nat → Hp → Prop
def eO (X : Cx) (pins : List (Addr × Obj)) (H : Hp) (b : Addr) : Prop :=
 H b = none ∧ b ≠ X.env.locals ∧ b ∉ X.fs ∧ (b ∈ X.ex ∨ X.s₀.heap.objs.size ≤ b) ∧ (∀ x c, X.env.cells.lookup x = some c → c ≠ b) ∧ ∀ p ∈ X.pn ++ pins, p.1 ≠ b
theorem Inv.oU {X : Cx} {pins : List (Addr × Obj)} {σ : St} {H H' : Hp} {s : Shared} {b : Addr} (I : Inv X pins σ H s) (hb : s.heap.objs.size ≤ b) (hn : H' b = none) : eO X pins H' b := by
 refine ⟨hn, Nat.ne_of_gt (Nat.lt_of_lt_of_le I.lt hb), I.uZ hb, .inr (Nat.le_trans I.sz hb), fun x c e z => ?_, fun p hp z => ?_⟩
 ·obtain ⟨v, q⟩ := I.cell x c e
  exact absurd (Nat.lt_of_lt_of_le q.lt (by rw [z]; exact hb)) (Nat.lt_irrefl _)
 ·exact absurd (Nat.lt_of_lt_of_le (Heap.lt_size (I.pin p hp).1) (by rw [z]; exact hb)) (Nat.lt_irrefl _)
structure Turn (P : Program) (w : World) (K : PySem.W.Frag) (tg : Expr) (J : It) (fp : List Addr) (it : Addr) (tn : Nat → Heap → Prop) : Prop where
 mem : it ∈ fp
 obj : ∀ i h, tn i h → ∀ b ∈ fp, ∃ o, h.get? b = some o ∧ ∀ v, o.data ≠ .cell v
 keep : ∀ i h h', tn i h → (∀ b ∈ fp, ∀ o, h.get? b = some o → h'.get? b = some o) → tn i h'
 item : ∀ (X : Cx), X.prog = P → X.w = w → X.K = K → X.calm = true → ∀ (i : Nat) (pins : List (Addr × Obj)) (s : Shared) (σ : St) (H : Hp) (E : Value → Shared → Prop), Inv X pins σ H s → (∀ b ∈ fp, eO X pins H b) → tn i s.heap → J.go i H →
  wpAny (model P w) X.A (pyNext (.ref it)) (fun r s1 => ∃ u, r = some u ∧
   wpAny (model P w) X.A (letOwnedTupleGo tg (.ref it) u) (fun _ s2 => ∃ x H', Inv X pins σ H' s2 ∧ RelV x u ∧ J.gN i H x H' ∧ tn (i + 1) s2.heap ∧ ∀ b ∈ fp, H' b = none) E s1) E s
 done : ∀ (X : Cx), X.prog = P → X.w = w → X.K = K → X.calm = true → ∀ (i : Nat) (pins : List (Addr × Obj)) (s : Shared) (σ : St) (H : Hp) (E : Value → Shared → Prop), Inv X pins σ H s → (∀ b ∈ fp, eO X pins H b) → tn i s.heap → J.stop i H →
  wpAny (model P w) X.A (pyNext (.ref it)) (fun r s1 => r = none ∧ Inv X pins σ H s1) E s
 self : ∀ (A : Around) (i : Nat) (s : Shared) (Q : Value → Shared → Prop) (E : Value → Shared → Prop), tn i s.heap → Q (.ref it) s → wpAny (model P w) A (pyIter (.ref it)) Q E s
abbrev TI := St → Hp → (It → Hp → Prop) → Prop
def yD (X : Cx) (pins : List (Addr × Obj)) (σ : St) (tg : Expr) (R : It → Hp → Prop) (itv : Value) (s2 : Shared) : Prop :=
 ∃ (it : Addr) (fp : List Addr) (tn : Nat → Heap → Prop) (J : It) (H' : Hp), itv = .ref it ∧ Inv X pins σ H' s2 ∧ Turn X.prog X.w X.K tg J fp it tn ∧ tn 0 s2.heap ∧ (∀ b ∈ fp, eO X pins H' b) ∧ R J H'
def PI (X : Cx) (tg iter : Expr) (wi : TI) : Prop :=
 ∀ (pins : List (Addr × Obj)) (s : Shared) (σ : St) (H : Hp) (R : It → Hp → Prop), Inv X pins σ H s → wi σ H R →
  wpAny (model X.prog X.w) X.A (eval iter X.env) (fun v s1 => wpAny (model X.prog X.w) X.A (pyIter v) (yD X pins σ tg R) X.xe s1) X.xe s
theorem ui {M : Model} {A : Around} {E : Value → Shared → Prop} {s : Shared} {tg : Expr} {it : Addr} {u : Value} {o : Obj} {n : String} {vs : Array Value} {Q : Unit → Shared → Prop} (ho : s.heap.get? it = some o) (hc : o.cls = .type n) (hd : o.data = .fields vs)
  (hn : ["enumerate", "zip", "dict_itemiterator", "dict_reverseitemiterator", "odict_iterator", "itertools.zip_longest", "itertools.pairwise"].contains n = false) (hQ : Q () s) : wpAny M A (letOwnedTupleGo tg (.ref it) u) Q E s := by
 unfold letOwnedTupleGo
 cases tg <;> first
  | exact wpAny_pure hQ
  | (cases u <;> first
    | exact wpAny_pure hQ
    | (refine wpAny_bind (wpAny_load ho ?_)
       rw [hc, hd]
       show wpAny M A (if (["enumerate", "zip", "dict_itemiterator", "dict_reverseitemiterator", "odict_iterator", "itertools.zip_longest", "itertools.pairwise"].contains n && vs[0]? == some (rawInt _)) = true then _ else _) Q E s
       rw [if_neg (by intro h; rw [hn, Bool.false_and] at h; cases h)]
       exact wpAny_pure hQ))
def hZ (K : PySem.W.Frag) (a : Addr) : It :=
 ⟨fun i H => ∃ xs x, aJ K H a xs ∧ xs[i]? = some x, fun i H x H' => H' = H ∧ ∀ xs, aJ K H a xs → xs[i]? = some x, fun i H => ∃ xs, aJ K H a xs ∧ xs.length ≤ i⟩
def gS (lo : Int) (n : Nat) : It := ⟨fun i _ => i < n, fun i H x H' => H' = H ∧ x = .int (lo + i), fun i _ => n ≤ i⟩
theorem EO {P : Program} {w : World} {K : PySem.W.Frag} {tg : Expr} (a it : Addr) : Turn P w K tg (hZ K a) [it] it (fun i h => h.IsListIter it a i) where
 mem := by simp
 obj := fun i h st b hb => by
  have e : b = it := by simpa using hb
  subst e
  obtain ⟨o, e, c, d⟩ := st
  exact ⟨o, e, fun v z => by rw [d] at z; cases z⟩
 keep := fun i h h' st k => st.at fun o e => k it (by simp) o e
 item := by
  intro X hP hw hK hc i pins s σ H E I hf st hg
  subst hP hw hK
  obtain ⟨xs, x, hq, hx⟩ := hg
  obtain ⟨its, rv, p, hz⟩ := I.list hq
  obtain ⟨u, hu, ru⟩ := rv.get hx
  obtain ⟨f0, f1, f2, f3, f4, f5⟩ := hf it (by simp)
  refine wpAny_pyNext_list_item st p.isList (x := u) (by simpa using hu) fun h' st' sb => ?_
  have I1 : Inv X pins σ H { s with heap := h' } := I.turned (t' := s.toks) (fun b o hb e => (sb.2 b hb).trans e) f0 f1 f3 f4 f5
  obtain ⟨o, e, c, d⟩ := id st'
  exact ⟨u, rfl, ui (s := { s with heap := h' }) e c d (by decide) ⟨x, H, I1, ru, ⟨rfl, fun ys hy => by rw [I.vm hy hq]; exact hx⟩, st', fun b hb => (hf b hb).1⟩⟩
 done := by
  intro X hP hw hK hc i pins s σ H E I hf st hg
  subst hP hw hK
  obtain ⟨xs, hq, hx⟩ := hg
  obtain ⟨its, rv, p, hz⟩ := I.list hq
  obtain ⟨f0, f1, f2, f3, f4, f5⟩ := hf it (by simp)
  have hl := rv.length
  exact wpAny_pyNext_list_end (I.ok.hd hc) st p.isList (by simp; omega) fun h' eb => ⟨rfl, I.turned (t' := s.toks) (fun b o hb e => eb b o hb e) f0 f1 f3 f4 f5⟩
 self := fun _ _ _ _ _ st h => wpAny_pyIter_listiter st h
theorem G8 {P : Program} {w : World} {K : PySem.W.Frag} {tg : Expr} (it : Addr) (lo : Int) (n : Nat) : Turn P w K tg (gS lo n) [it] it (fun i h => IsRangeIter h it (lo + (i : Nat) * 1) ((n : Int) - (i : Nat)) 1) where
 mem := by simp
 obj := fun i h st b hb => by
  have e : b = it := by simpa using hb
  subst e
  exact ⟨_, st, fun v z => by
   have z' : Data.fields _ = Data.cell v := z
   cases z'⟩
 keep := fun i h h' st k => k it (by simp) _ st
 item := by
  intro X hP hw hK hc i pins s σ H E I hf st hg
  subst hP hw hK
  obtain ⟨f0, f1, f2, f3, f4, f5⟩ := hf it (by simp)
  have W := Walks.range (prog := X.prog) (w := X.w) (I.ok.hd hc) it lo 1 n
  refine W.item i s _ _ hg st fun v h' tk hv st' kk => ?_
  obtain ⟨t, rfl⟩ := hv
  have I1 : Inv X pins σ H { s with heap := h', toks := tk } := I.turned (fun b o hb e => kk b o (by simpa using hb) e) f0 f1 f3 f4 f5
  refine ⟨_, rfl, ui (s := { s with heap := h', toks := tk }) (n := "range_iterator") st' rfl rfl (by decide) ⟨.int (lo + i), H, I1, ⟨t, ?_⟩, ⟨rfl, rfl⟩, st', fun b hb => (hf b hb).1⟩⟩
  rw [Int.mul_one]
 done := by
  intro X hP hw hK hc i pins s σ H E I hf st hg
  subst hP hw hK
  obtain ⟨f0, f1, f2, f3, f4, f5⟩ := hf it (by simp)
  exact wpAny_pyNext_range_end (I.ok.hd hc) st (by have : n ≤ i := hg; omega) fun h' eb => ⟨rfl, I.turned (t' := s.toks) (fun b o hb e => eb b o hb e) f0 f1 f3 f4 f5⟩
 self := fun _ _ _ _ _ st h => wpAny_pyIter_rangeiter st h
end L2
namespace L2
open PySem PySem.Spec PyProof.Rows
section
variable {X : Cx} {tg : Expr}
def LA (K : PySem.W.Frag) (tl : TE) : TI := fun σ H R => tl σ H fun x H1 => ∃ a, x = .ref a ∧ (∃ xs, aJ K H1 a xs) ∧ R (hZ K a) H1
theorem Hv {l : Expr} {tl : TE} (hl : PE X l tl) : PI X tg l (LA X.K tl) := by
 intro pins s σ H R I h
 refine aA (hl pins s σ H _ I h) fun v s1 ⟨x, H1, I1, r1, q1⟩ => ?_
 obtain ⟨a, e, ⟨xs, hq⟩, q⟩ := q1
 subst e
 cases r1
 obtain ⟨its, rv, p, hz⟩ := I1.list hq
 refine wpAny_pyIter_list p.isList ?_
 refine ⟨s1.heap.objs.size, [s1.heap.objs.size], _, _, H1, rfl, I1.kept (t' := s1.toks) fun b o e => Heap.get?_push_of_some _ e, EO a _, ⟨_, Heap.get?_push_size _ rfl, rfl, rfl⟩, fun b hb => ?_, q⟩
 have e : b = s1.heap.objs.size := by simpa using hb
 subst e
 exact I1.oU (Nat.le_refl _) (I1.ax.fresh (Nat.le_refl _))
theorem Om {pins : List (Addr × Obj)} {σ : St} {H : Hp} {s : Shared} {R : It → Hp → Prop} {E : Value → Shared → Prop} {lo hi : Int} {t u v : Tok} {tk : Nat} (I : Inv X pins σ H s) (h1 : -(2 ^ 62) ≤ lo) (h2 : lo < 2 ^ 62) (h3 : -(2 ^ 62) ≤ hi) (h4 : hi < 2 ^ 62)
  (q : R (gS lo (hi - lo).toNat) H) : wpAny (model X.prog X.w) X.A (pyIter (.ref s.heap.objs.size)) (yD X pins σ tg R) E { s with heap := s.heap.push { cls := .type "range", data := .fields #[.int lo t, .int hi u, .int 1 v] }, toks := tk } := by
 refine wpAny_pyIter_range (IsRange.new ..) (small_one h1 h2 h3 h4) ?_
 have I1 : Inv X pins σ H { s with heap := s.heap.push { cls := .type "range", data := .fields #[.int lo t, .int hi u, .int 1 v] }, toks := tk } := I.kept fun b o e => Heap.get?_push_of_some _ e
 refine ⟨(s.heap.push { cls := .type "range", data := .fields #[.int lo t, .int hi u, .int 1 v] }).objs.size, [(s.heap.push { cls := .type "range", data := .fields #[.int lo t, .int hi u, .int 1 v] }).objs.size], _, _, H, rfl,
  I1.kept (t' := tk) fun b o e => Heap.get?_push_of_some _ e, G8 _ lo (hi - lo).toNat, ?_, fun b hb => ?_, q⟩
 ·have e1 : lo + ((0 : Nat) : Int) * 1 = lo := by simp
  have e2 : (((hi - lo).toNat : Nat) : Int) - ((0 : Nat) : Int) = Builtin.Range.rangeSize lo hi 1 := by rw [rangeSize_one]; split <;> omega
  show IsRangeIter _ _ (lo + ((0 : Nat) : Int) * 1) ((((hi - lo).toNat : Nat) : Int) - ((0 : Nat) : Int)) 1
  rw [e1, e2]
  exact Heap.get?_push_size _ rfl
 ·have e : b = (s.heap.push { cls := .type "range", data := .fields #[.int lo t, .int hi u, .int 1 v] }).objs.size := by simpa using hb
  subst e
  exact I1.oU (Nat.le_refl _) (I1.ax.fresh (Nat.le_refl _))
def JD (ta : TA) : TI := fun σ H R => ta σ H fun vs H1 => ∃ j : Int, vs = [.int j] ∧ -(2 ^ 62) ≤ j ∧ j < 2 ^ 62 ∧ R (gS 0 j.toNat) H1
theorem GP {a : Expr} {ta : TA} {p pos : Pos} (hg : Gl X "range") (hm : X.mg "range" = none) (ha : PA X [a] ta) (hs : starEach [a] X.env = [(false, eval a X.env)] := by rfl) : PI X tg (.Call (.Name "range" p) [a] [] pos) (JD ta) := by
 intro pins s σ H R I h
 refine Call_ (hV I hg hm boot_range (PyProof.Rows.callWith_type1 (aA (ha pos pins s σ H _ I h) fun us s1 ⟨vs, H1, I1, r1, q1⟩ => ?_) hs rfl))
 obtain ⟨j, e, q1, q2, q⟩ := q1
 subst e
 cases r1 with
 | cons r rr =>
  cases rr
  obtain ⟨t, rfl⟩ := r
  exact call_range_1 (Om I1 (by omega) (by omega) q1 q2 (by simpa using q))
def qc (wi : TI) (g : TG) (tb : TS) : TS := fun D σ H => wi σ H fun J H1 => ∃ W : Nat → Nat → St → Hp → Prop, (∃ m, W 0 m σ H1) ∧ ∀ i m σ H, W i m σ H →
 (J.stop i H ∧ D.nx σ H) ∨ (J.go i H ∧ ∃ N : St → Hp → Prop, (∀ σ' H', N σ' H' → ∃ m', m' < m ∧ W (i + 1) m' σ' H') ∧ ∀ x H', J.gN i H x H' → g x σ H' fun σ2 H2 => tb { D with nx := N, ct := N, bk := D.nx } σ2 H2)
def js (fp : List Addr) (h : Heap) : List (Addr × Obj) := fp.filterMap fun b => (h.get? b).map fun o => (b, o)
theorem jM {fp : List Addr} {h : Heap} {b : Addr} {o : Obj} (hb : b ∈ fp) (e : h.get? b = some o) : (b, o) ∈ js fp h := List.mem_filterMap.mpr ⟨b, hb, by rw [e]; rfl⟩
theorem Oo {fp : List Addr} {h : Heap} {p : Addr × Obj} (hp : p ∈ js fp h) : p.1 ∈ fp ∧ h.get? p.1 = some p.2 := by
 obtain ⟨b, hb, e⟩ := List.mem_filterMap.mp hp
 cases q : h.get? b with
 | none => rw [q] at e; cases e
 | some o =>
  rw [q] at e
  have e' : (b, o) = p := Option.some.inj e
  subst e'
  exact ⟨hb, q⟩
theorem Inv.pinned {pins : List (Addr × Obj)} {σ : St} {H : Hp} {s : Shared} {fp : List Addr} (I : Inv X pins σ H s) (hf : ∀ b ∈ fp, eO X pins H b) (ho : ∀ b ∈ fp, ∃ o, s.heap.get? b = some o ∧ ∀ v, o.data ≠ .cell v) : Inv X (pins ++ js fp s.heap) σ H s :=
 I.gP fun p hp => (List.mem_append.mp hp).elim (fun z => I.pin p (List.mem_append_right _ z)) fun z => by
  obtain ⟨hb, e⟩ := Oo z
  obtain ⟨f0, f1, f2, _⟩ := hf p.1 hb
  obtain ⟨o, e', d⟩ := ho p.1 hb
  rw [e] at e'; cases e'
  exact ⟨e, f0, f1, f2, d⟩
theorem Inv.rQ {pins pl : List (Addr × Obj)} {σ : St} {H : Hp} {s : Shared} (I : Inv X (pins ++ pl) σ H s) : Inv X pins σ H s := I.gP fun p hp => I.pin p (List.mem_append_right _ (List.mem_append_left _ hp))
theorem IQ {iter : Expr} {body : List Stmt} {wi : TI} {g : TG} {tb : TS} {pos : Pos} (hp : PassesOwn (model X.prog X.w) X.A X.env X.xe) (hc : X.calm = true) (hi : PI X tg iter wi) (hg : PG X tg g) (hb : bT X body tb)
  (hs : ∀ x, foldedSetIterable iter X.env x = pure x := by intro _; rfl) : PS X (.For tg iter body [] pos) (qc wi g tb) := by
 intro pins s σ H D I h
 refine wpAny_For (aA (hi pins s σ H _ I h) fun v s1 h1 => aA h1 fun itv s2 h2 => ?_) hs
 obtain ⟨it, fp, tn, J, H2, e, I2, T, st2, f2, W, ⟨m0, w0⟩, turn⟩ := h2
 subst e
 -- what stays true of the iterator's objects through the loop
 have wm : ∀ {H' : Hp}, (∀ b ∈ fp, H' b = none) → ∀ b ∈ fp, eO X pins H' b := fun hn b hb => ⟨hn b hb, (f2 b hb).2⟩
 refine codeAny_forLoop_any (fun n s' => ∃ i σ' H', Inv X pins σ' H' s' ∧ tn i s'.heap ∧ (∀ b ∈ fp, H' b = none) ∧ W i n σ' H') ?_ m0 ⟨0, σ, H2, I2, st2, fun b hb => (f2 b hb).1, w0⟩
 rintro n s3 ⟨i, σ3, H3, I3, st3, fr3, w3⟩
 rcases turn i n σ3 H3 w3 with ⟨stop, qn⟩ | ⟨go, N, hN, step⟩
 ·refine wpAny_passesOwn hp (aA (T.done X rfl rfl rfl hc i pins s3 σ3 H3 X.xe I3 (wm fr3) st3 stop) fun r s4 ⟨hr, I4⟩ => ?_)
  subst hr
  exact wpAny_execs_nil ⟨σ3, H3, I4, qn⟩
 ·refine wpAny_passesOwn hp (aA (T.item X rfl rfl rfl hc i pins s3 σ3 H3 X.xe I3 (wm fr3) st3 go) fun r s4 ⟨u, hr, h4⟩ => ?_)
  subst hr
  refine wpAny_passesOwn hp (aA h4 fun _ s5 ⟨x, H5, I5, r5, y5, st5, fr5⟩ => ?_)
  have I5' := I5.pinned (wm fr5) (T.obj _ _ st5)
  refine wpAny_passesOwn hp (aA (hg _ s5 σ3 H5 x u _ I5' r5 (step x H5 y5)) fun _ s6 ⟨σ6, H6, I6, q6⟩ => ?_)
  refine wpAny_passesOwn hp (aA (hb _ s6 σ6 H6 _ I6 q6) fun f s7 q7 => ?_)
  have again : ∀ {σ7 : St} {H7 : Hp}, Inv X (pins ++ js fp s5.heap) σ7 H7 s7 → N σ7 H7 → ∃ m, m < n ∧ ∃ i σ' H', Inv X pins σ' H' s7 ∧ tn i s7.heap ∧ (∀ b ∈ fp, H' b = none) ∧ W i m σ' H' := fun {σ7 H7} I7 n7 => by
   obtain ⟨m', hm, w7⟩ := hN σ7 H7 n7
   refine ⟨m', hm, i + 1, σ7, H7, I7.rQ, T.keep _ _ _ st5 fun b hb o e => (I7.pin (b, o) (List.mem_append_right _ (List.mem_append_right _ (jM hb e)))).1, fun b hb => ?_, w7⟩
   obtain ⟨o, e, d⟩ := T.obj _ _ st5 b hb
   exact (I7.pin (b, o) (List.mem_append_right _ (List.mem_append_right _ (jM hb e)))).2.1
  cases f with
  | next => obtain ⟨σ7, H7, I7, n7⟩ := q7; exact again I7 n7
  | cont => obtain ⟨σ7, H7, I7, n7⟩ := q7; exact again I7 n7
  | brk => obtain ⟨σ7, H7, I7, q7⟩ := q7; exact ⟨σ7, H7, I7.rQ, q7⟩
  | ret v => obtain ⟨x7, σ7, H7, I7, r7, q7⟩ := q7; exact ⟨x7, σ7, H7, I7.rQ, r7, q7⟩
end
theorem IH {K : PySem.W.Frag} {a : Addr} {xs : List V} {g : TG} {tb : TS} {D : Ends} {σ : St} {H : Hp} (Pv : Nat → St → Hp → Prop) (h0 : Pv 0 σ H) (hl : ∀ i σ H, i ≤ xs.length → Pv i σ H → aJ K H a xs)
  (hs : ∀ i x σ H, xs[i]? = some x → Pv i σ H → g x σ H fun σ2 H2 => tb { D with nx := Pv (i + 1), ct := Pv (i + 1), bk := D.nx } σ2 H2) (hd : ∀ σ H, Pv xs.length σ H → D.nx σ H) :
  ∃ W : Nat → Nat → St → Hp → Prop, (∃ m, W 0 m σ H) ∧ ∀ i m σ H, W i m σ H →
   ((hZ K a).stop i H ∧ D.nx σ H) ∨ ((hZ K a).go i H ∧ ∃ N : St → Hp → Prop, (∀ σ' H', N σ' H' → ∃ m', m' < m ∧ W (i + 1) m' σ' H') ∧ ∀ x H', (hZ K a).gN i H x H' → g x σ H' fun σ2 H2 => tb { D with nx := N, ct := N, bk := D.nx } σ2 H2) := by
 refine ⟨fun i m σ H => m = xs.length - i ∧ i ≤ xs.length ∧ Pv i σ H, ⟨xs.length, by simp, Nat.zero_le _, h0⟩, ?_⟩
 rintro i m σ H ⟨rfl, hi, p⟩
 have q := hl i σ H hi p
 by_cases hlt : i < xs.length
 ·refine .inr ⟨⟨xs, xs[i], q, by simp [hlt]⟩, Pv (i + 1), fun σ' H' p' => ⟨xs.length - (i + 1), by omega, rfl, hlt, p'⟩, fun x H' y => ?_⟩
  obtain ⟨e, y⟩ := y
  subst e
  exact hs i x σ _ (y xs q) p
 ·have e : i = xs.length := by omega
  subst e
  exact .inl ⟨⟨xs, q, Nat.le_refl _⟩, hd σ H p⟩
theorem NC {lo : Int} {n : Nat} {g : TG} {tb : TS} {D : Ends} {σ : St} {H : Hp} (Pv : Nat → St → Hp → Prop) (h0 : Pv 0 σ H)
  (hs : ∀ i σ H, i < n → Pv i σ H → g (.int (lo + i)) σ H fun σ2 H2 => tb { D with nx := Pv (i + 1), ct := Pv (i + 1), bk := D.nx } σ2 H2) (hd : ∀ σ H, Pv n σ H → D.nx σ H) :
  ∃ W : Nat → Nat → St → Hp → Prop, (∃ m, W 0 m σ H) ∧ ∀ i m σ H, W i m σ H →
   ((gS lo n).stop i H ∧ D.nx σ H) ∨ ((gS lo n).go i H ∧ ∃ N : St → Hp → Prop, (∀ σ' H', N σ' H' → ∃ m', m' < m ∧ W (i + 1) m' σ' H') ∧ ∀ x H', (gS lo n).gN i H x H' → g x σ H' fun σ2 H2 => tb { D with nx := N, ct := N, bk := D.nx } σ2 H2) := by
 refine ⟨fun i m σ H => m = n - i ∧ i ≤ n ∧ Pv i σ H, ⟨n, by simp, Nat.zero_le _, h0⟩, ?_⟩
 rintro i m σ H ⟨rfl, hi, p⟩
 by_cases hlt : i < n
 ·refine .inr ⟨hlt, Pv (i + 1), fun σ' H' p' => ⟨n - (i + 1), by omega, rfl, hlt, p'⟩, fun x H' y => ?_⟩
  obtain ⟨e, y⟩ := y
  subst e y
  exact hs i σ _ hlt p
 ·have e : i = n := by omega
  subst e
  exact .inl ⟨Nat.le_refl _, hd σ H p⟩
end L2
namespace L2
open PySem PySem.Spec PyProof.Rows
abbrev R2 := V → V → Hp → VK → Prop
def aO (X : Cx) (f : Value → Value → Sem Value) (r : R2) : Prop :=
 ∀ (pins : List (Addr × Obj)) (s : Shared) (σ : St) (H : Hp) (x y : V) (v u : Value) (Q : VK), Inv X pins σ H s → RelV x v → RelV y u → r x y H Q →
  wpAny (model X.prog X.w) X.A (f v u) (EP X pins σ Q) X.xe s
def kR (X : Cx) (f : Value → Sem Value) (r : V → Hp → VK → Prop) : Prop :=
 ∀ (pins : List (Addr × Obj)) (s : Shared) (σ : St) (H : Hp) (x : V) (v : Value) (Q : VK), Inv X pins σ H s → RelV x v → r x H Q →
  wpAny (model X.prog X.w) X.A (f v) (EP X pins σ Q) X.xe s
def bX (X : Cx) (f : Value) (r : List V → Hp → VK → Prop) : Prop :=
 ∀ (pins : List (Addr × Obj)) (s : Shared) (σ : St) (H : Hp) (xs : List V) (us : List Value) (Q : VK), Inv X pins σ H s → Vals xs us → r xs H Q →
  wpAny (model X.prog X.w) X.A (call f us) (EP X pins σ Q) X.xe s
def gj (r : R2) (ta tb : TE) : TE := fun σ H Q => ta σ H fun x H1 => tb σ H1 fun y H2 => r x y H2 Q
def qP (r : V → Hp → VK → Prop) (ta : TE) : TE := fun σ H Q => ta σ H fun x H1 => r x H1 Q
def rI (C : Int → Int → Prop) (g : Int → Int → V) : R2 := fun x y H Q => ∃ i j, x = .int i ∧ y = .int j ∧ C i j ∧ Q (g i j) H
def iI (g : Int → Int → V) : R2 := fun x y H Q => ∃ i j, x = .int i ∧ y = .int j ∧ Q (g i j) H
def rU (g : Int → V) : V → Hp → VK → Prop := fun x H Q => ∃ i, x = .int i ∧ Q (g i) H
section
variable {X : Cx} {a b c : Expr} {ta tb tc : TE} {pos : Pos}
theorem sU (ha : PE X a ta) (hb : PE X b tb) {pins : List (Addr × Obj)} {s : Shared} {σ : St} {H : Hp} {R : V → V → Hp → Prop} (I : Inv X pins σ H s)
  (h : ta σ H fun x H1 => tb σ H1 fun y H2 => R x y H2) {Q : Value → Shared → Prop} {f : Value → Value → Sem Value}
  (hf : ∀ v u s2 x y H2, Inv X pins σ H2 s2 → RelV x v → RelV y u → R x y H2 → wpAny (model X.prog X.w) X.A (f v u) Q X.xe s2) :
  wpAny (model X.prog X.w) X.A (eval a X.env) (fun v s₁ => wpAny (model X.prog X.w) X.A (eval b X.env) (fun u s₂ => wpAny (model X.prog X.w) X.A (f v u) Q X.xe s₂) X.xe s₁) X.xe s := by
 refine aA (ha pins s σ H _ I h) fun v s1 ⟨x, H1, I1, r1, q1⟩ => ?_
 refine aA (hb pins s1 σ H1 _ I1 q1) fun u s2 ⟨y, H2, I2, r2, q2⟩ => ?_
 exact hf v u s2 x y H2 I2 r1 r2 q2
theorem MG {op : Operator} {r : R2} (ho : aO X (binaryOp op) r) (ha : PE X a ta) (hb : PE X b tb) : PE X (.BinOp a op b pos) (gj r ta tb) := by
 intro pins s σ H Q I h
 exact wpAny_BinOp (sU ha hb I h fun v u s2 x y H2 I2 rx ry q => ho pins s2 σ H2 x y v u Q I2 rx ry q)
theorem Et {op : UnaryOp} {r : V → Hp → VK → Prop} (ho : kR X (unaryOp op) r) (ha : PE X a ta) : PE X (.UnaryOp op a pos) (qP r ta) := by
 intro pins s σ H Q I h
 exact UnaryOp_ (aA (ha pins s σ H _ I h) fun v s1 ⟨x, H1, I1, r1, q1⟩ => ho pins s1 σ H1 x v Q I1 r1 q1)
theorem oK {f : Value → Value → Sem Value} {C : Int → Int → Prop} {g : Int → Int → Int}
  (rule : ∀ (i j : Int) (t u : Tok) (s : Shared) (Q : Value → Shared → Prop) (E : Value → Shared → Prop), C i j → Q (.int (g i j) s.toks) { s with toks := s.toks + 1 } → wpAny (model X.prog X.w) X.A (f (.int i t) (.int j u)) Q E s) :
  aO X f (rI C fun i j => .int (g i j)) := by
 intro pins s σ H x y v u Q I rx ry h
 obtain ⟨i, j, rfl, rfl, hc, q⟩ := h
 obtain ⟨t, rfl⟩ := rx
 obtain ⟨t', rfl⟩ := ry
 exact rule i j t t' s _ _ hc ⟨.int (g i j), H, I.tok _, ⟨_, rfl⟩, q⟩
theorem HK {f : Value → Value → Sem Value} {g : Int → Int → Int}
  (rule : ∀ (i j : Int) (t u : Tok) (s : Shared) (Q : Value → Shared → Prop) (E : Value → Shared → Prop), Q (.int (g i j) s.toks) { s with toks := s.toks + 1 } → wpAny (model X.prog X.w) X.A (f (.int i t) (.int j u)) Q E s) :
  aO X f (iI fun i j => .int (g i j)) := by
 intro pins s σ H x y v u Q I rx ry h
 obtain ⟨i, j, rfl, rfl, q⟩ := h
 obtain ⟨t, rfl⟩ := rx
 obtain ⟨t', rfl⟩ := ry
 exact rule i j t t' s _ _ ⟨.int (g i j), H, I.tok _, ⟨_, rfl⟩, q⟩
theorem qp {f : Value → Value → Sem Value} {g : Int → Int → Bool}
  (rule : ∀ (i j : Int) (t u : Tok) (s : Shared) (Q : Value → Shared → Prop) (E : Value → Shared → Prop), Q (.bool (g i j)) s → wpAny (model X.prog X.w) X.A (f (.int i t) (.int j u)) Q E s) :
  aO X f (iI fun i j => .bl (g i j)) := by
 intro pins s σ H x y v u Q I rx ry h
 obtain ⟨i, j, rfl, rfl, q⟩ := h
 obtain ⟨t, rfl⟩ := rx
 obtain ⟨t', rfl⟩ := ry
 exact rule i j t t' s _ _ ⟨.bl (g i j), H, I, rfl, q⟩
def zK (i j : Int) : Prop := 0 < j ∧ j < 1073741824
def zB (i j : Int) : Prop := 0 ≤ j ∧ j ≤ 1000000 ∧ i.natAbs < 2 ^ 64
def oe (i j : Int) : Prop := (-(2 ^ 64) < i ∧ i < 2 ^ 64) ∨ (-(2 ^ 64) < j ∧ j < 2 ^ 64)
theorem oe.ok {i j : Int} (h : oe i j) : IntMulOk i j := by
 rcases h with ⟨h1, h2⟩ | ⟨h1, h2⟩
 ·exact .of_left (intBits_le_64 h1 h2)
 ·exact .of_right (intBits_le_64 h1 h2)
theorem Iv : aO X (binaryOp .Add) (iI fun i j => .int (i + j)) := HK fun _ _ _ _ _ _ _ q => add_int q
theorem DF : aO X (binaryOp .Mult) (rI oe fun i j => .int (i * j)) := oK fun _ _ _ _ _ _ _ hc q => mul_int q hc.ok
theorem Mt : aO X (binaryOp .FloorDiv) (rI zK fun i j => .int (i / j)) := oK fun i j _ _ _ _ _ hc q => by
 have h1 : (0 : Int) < j := hc.1
 have h2 : j < 1073741824 := hc.2
 exact floordiv_int (by omega) (by rw [Int.fdiv_eq_ediv_of_nonneg i (by omega)]; exact q) (.inl (PyProof.noPylong_small (by omega)))
theorem MC : aO X (binaryOp .Mod) (rI (fun _ j => 0 < j) fun i j => .int (i % j)) := oK fun i j _ _ _ _ _ hc q => by
 have h1 : (0 : Int) < j := hc
 exact mod_int' (by omega) (by rw [Int.fmod_eq_emod_of_nonneg i (by omega)]; exact q)
theorem NL : aO X (binaryOp .Pow) (rI zB fun i j => .int (i ^ j.toNat)) := oK fun _ _ _ _ _ _ _ hc q => pow_int_small hc.1 hc.2.1 hc.2.2 q
theorem Kj {f : Value → Sem Value} {g : Int → Int}
  (rule : ∀ (i : Int) (t : Tok) (s : Shared) (Q : Value → Shared → Prop) (E : Value → Shared → Prop), Q (.int (g i) s.toks) { s with toks := s.toks + 1 } → wpAny (model X.prog X.w) X.A (f (.int i t)) Q E s) :
  kR X f (rU fun i => .int (g i)) := by
 intro pins s σ H x v Q I rx h
 obtain ⟨i, rfl, q⟩ := h
 obtain ⟨t, rfl⟩ := rx
 exact rule i t s _ _ ⟨.int (g i), H, I.tok _, ⟨_, rfl⟩, q⟩
theorem Kw : kR X (unaryOp .USub) (rU fun i => .int (-i)) := Kj fun _ _ _ _ _ q => neg_int q
end
def uJ : V → V → Bool
 | .au, .au => true | .au, .int _ => true | .int _, .au => true | .au, .bl _ => true | .bl _, .au => true | .au, .str _ => true | .str _, .au => true
 | .int _, .int _ => true | .bl _, .bl _ => true | .str _, .str _ => true | .byt _, .byt _ => true
 | .int _, .str _ => true | .str _, .int _ => true | .bl _, .str _ => true | .str _, .bl _ => true
 | _, _ => false
def Nn : R2 := fun x y H Q => uJ x y = true ∧ Q (.bl (decide (x = y))) H
def KJ : R2 := fun x y H Q => uJ x y = true ∧ Q (.bl (!decide (x = y))) H
theorem xF {i j : Int} : decide (V.int i = V.int j) = (i == j) := by
 rw [Bool.eq_iff_iff]
 simp
theorem BH {i j : Bool} : decide (V.bl i = V.bl j) = (i == j) := by
 rw [Bool.eq_iff_iff]
 simp
theorem AK {i j : Str} : decide (V.str i = V.str j) = (i == j) := by
 rw [Bool.eq_iff_iff]
 simp
theorem Bh {i j : Array UInt8} : decide (V.byt i = V.byt j) = (i.toList == j.toList) := by
 rw [Bool.eq_iff_iff]
 cases i
 cases j
 simp
section
variable {X : Cx} {a b c : Expr} {ta tb tc : TE} {pos : Pos}
theorem bE {pins : List (Addr × Obj)} {σ : St} {H : Hp} {s : Shared} {Q : VK} {k k' : Bool} (I : Inv X pins σ H s) (q : Q (.bl k) H) (e : k = k') : EP X pins σ Q (.bool k') s := by
 subst e
 exact ⟨.bl k, H, I, rfl, q⟩
theorem Gs : aO X (compareOp .Eq) Nn := by
 intro pins s σ H x y v u Q I rx ry h
 obtain ⟨hs, q⟩ := h
 cases x with
 | au =>
  cases rx
  cases y with
  | au => cases ry; exact PySem.EqNone.eq_none_none (bE I q (by simp))
  | bl j => cases ry; exact PySem.EqNone.eq_none_bool (bE I q (by simp))
  | int j => obtain ⟨t', rfl⟩ := ry; exact PySem.EqNone.eq_none_int (bE I q (by simp))
  | str j => obtain ⟨t', rfl⟩ := ry; exact PySem.EqNone.eq_none_str (bE I q (by simp))
  | _ => exact absurd (show false = true from hs) Bool.false_ne_true
 | bl i =>
  cases rx
  cases y with
  | au => cases ry; exact PySem.EqNone.eq_bool_none (bE I q (by simp))
  | bl j => cases ry; exact eq_bool (bE I q BH)
  | str j => obtain ⟨t', rfl⟩ := ry; exact PySem.EqMixed.eq_bool_str (bE I q (by simp))
  | _ => exact absurd (show false = true from hs) Bool.false_ne_true
 | int i =>
  obtain ⟨t, rfl⟩ := rx
  cases y with
  | au => cases ry; exact PySem.EqNone.eq_int_none (bE I q (by simp))
  | int j => obtain ⟨t', rfl⟩ := ry; exact eq_int (bE I q xF)
  | str j => obtain ⟨t', rfl⟩ := ry; exact PySem.EqMixed.eq_int_str (bE I q (by simp))
  | _ => exact absurd (show false = true from hs) Bool.false_ne_true
 | str i =>
  obtain ⟨t, rfl⟩ := rx
  cases y with
  | au => cases ry; exact PySem.EqNone.eq_str_none (bE I q (by simp))
  | bl j => cases ry; exact PySem.EqMixed.eq_str_bool (bE I q (by simp))
  | int j => obtain ⟨t', rfl⟩ := ry; exact PySem.EqMixed.eq_str_int (bE I q (by simp))
  | str j => obtain ⟨t', rfl⟩ := ry; exact eq_str (bE I q AK)
  | _ => exact absurd (show false = true from hs) Bool.false_ne_true
 | byt i =>
  obtain ⟨t, rfl⟩ := rx
  cases y with
  | byt j => obtain ⟨t', rfl⟩ := ry; exact PySem.W.eq_bytes (bE I q Bh)
  | _ => exact absurd (show false = true from hs) Bool.false_ne_true
 | _ => cases y <;> exact absurd (show false = true from hs) Bool.false_ne_true
theorem Nu : aO X (compareOp .NotEq) KJ := by
 intro pins s σ H x y v u Q I rx ry h
 obtain ⟨hs, q⟩ := h
 cases x with
 | au =>
  cases rx
  cases y with
  | au => cases ry; exact PySem.EqNone.ne_none_none (bE I q (by simp))
  | bl j => cases ry; exact PySem.EqNone.ne_none_bool (bE I q (by simp))
  | int j => obtain ⟨t', rfl⟩ := ry; exact PySem.EqNone.ne_none_int (bE I q (by simp))
  | str j => obtain ⟨t', rfl⟩ := ry; exact PySem.EqNone.ne_none_str (bE I q (by simp))
  | _ => exact absurd (show false = true from hs) Bool.false_ne_true
 | bl i =>
  cases rx
  cases y with
  | au => cases ry; exact PySem.EqNone.ne_bool_none (bE I q (by simp))
  | bl j => cases ry; exact ne_bool (bE I q (congrArg not BH))
  | str j => obtain ⟨t', rfl⟩ := ry; exact PySem.EqMixed.ne_bool_str (bE I q (by simp))
  | _ => exact absurd (show false = true from hs) Bool.false_ne_true
 | int i =>
  obtain ⟨t, rfl⟩ := rx
  cases y with
  | au => cases ry; exact PySem.EqNone.ne_int_none (bE I q (by simp))
  | int j => obtain ⟨t', rfl⟩ := ry; exact ne_int (bE I q (congrArg not xF))
  | str j => obtain ⟨t', rfl⟩ := ry; exact PySem.EqMixed.ne_int_str (bE I q (by simp))
  | _ => exact absurd (show false = true from hs) Bool.false_ne_true
 | str i =>
  obtain ⟨t, rfl⟩ := rx
  cases y with
  | au => cases ry; exact PySem.EqNone.ne_str_none (bE I q (by simp))
  | bl j => cases ry; exact PySem.EqMixed.ne_str_bool (bE I q (by simp))
  | int j => obtain ⟨t', rfl⟩ := ry; exact PySem.EqMixed.ne_str_int (bE I q (by simp))
  | str j => obtain ⟨t', rfl⟩ := ry; exact ne_str (bE I q (congrArg not AK))
  | _ => exact absurd (show false = true from hs) Bool.false_ne_true
 | byt i =>
  obtain ⟨t, rfl⟩ := rx
  cases y with
  | byt j => obtain ⟨t', rfl⟩ := ry; exact PySem.W.ne_bytes (bE I q (congrArg not Bh))
  | _ => exact absurd (show false = true from hs) Bool.false_ne_true
 | _ => cases y <;> exact absurd (show false = true from hs) Bool.false_ne_true
theorem GX : aO X (compareOp .Lt) (iI fun i j => .bl (decide (i < j))) := qp fun _ _ _ _ _ _ _ q => lt_int q
theorem MV : aO X (compareOp .LtE) (iI fun i j => .bl (decide (i ≤ j))) := qp fun _ _ _ _ _ _ _ q => le_int q
theorem Jv : aO X (compareOp .Gt) (iI fun i j => .bl (decide (j < i))) := qp fun _ _ _ _ _ _ _ q => gt_int q
theorem Du : aO X (compareOp .In) (fun x y H Q => ∃ i j, x = .str i ∧ y = .str j ∧ Q (.bl (!(Builtin.Str.occurrences j i 0 j.length 1).isEmpty)) H) := by
 intro pins s σ H x y v u Q I rx ry h
 obtain ⟨i, j, rfl, rfl, q⟩ := h
 obtain ⟨t, rfl⟩ := rx
 obtain ⟨t', rfl⟩ := ry
 exact in_str (bE I q rfl)
theorem nU : aO X (compareOp .Is) (fun x y H Q => y = .au ∧ Q (.bl (decide (x = .au))) H) := by
 intro pins s σ H x y v u Q I rx ry h
 obtain ⟨rfl, q⟩ := h
 cases ry
 refine is_none_gen (bE I q ?_)
 cases x <;> first
  | (cases rx; rfl)
  | (obtain ⟨t, rfl⟩ := rx; rfl)
theorem sJ : aO X (compareOp .IsNot) (fun x y H Q => y = .au ∧ Q (.bl (!decide (x = .au))) H) := by
 intro pins s σ H x y v u Q I rx ry h
 obtain ⟨rfl, q⟩ := h
 cases ry
 refine isnot_none_gen (bE I q ?_)
 cases x <;> first
  | (cases rx; rfl)
  | (obtain ⟨t, rfl⟩ := rx; rfl)
theorem aO.or {f : Value → Value → Sem Value} {r r' : R2} (h : aO X f r) (h' : aO X f r') : aO X f (fun x y H Q => r x y H Q ∨ r' x y H Q) := by
 intro pins s σ H x y v u Q I rx ry q
 rcases q with q | q
 ·exact h pins s σ H x y v u Q I rx ry q
 ·exact h' pins s σ H x y v u Q I rx ry q
theorem LY {op : CmpOp} {r : R2} (ho : aO X (compareOp op) r) (ha : PE X a ta) (hb : PE X b tb) (hm : behindInMarks op b = false) : PE X (.Compare a [op] [b] pos) (gj r ta tb) := by
 intro pins s σ H Q I h
 exact wpAny_Compare1 (sU ha hb I h fun v u s2 x y H2 I2 rx ry q => ho pins s2 σ H2 x y v u Q I2 rx ry q) hm
theorem lP : (sizeLine : Nat) < 2 ^ 63 := by rw [sizeLine_eq]; decide
theorem KI : aO X (binaryOp .Add) (fun x y H Q => ∃ i j, x = .str i ∧ y = .str j ∧ i.length + j.length ≤ sizeLine ∧ Q (.str (i ++ j)) H) := by
 intro pins s σ H x y v u Q I rx ry h
 obtain ⟨i, j, rfl, rfl, hz, q⟩ := h
 obtain ⟨t, rfl⟩ := rx
 obtain ⟨t', rfl⟩ := ry
 exact add_str (fun t' tk => ⟨.str (i ++ j), H, I.tok _, ⟨_, rfl⟩, q⟩) hz
theorem vals1 {x : V} {us : List Value} (r : Vals [x] us) : ∃ u, us = [u] ∧ RelV x u := by
 cases r with
 | cons r1 r2 => cases r2; exact ⟨_, rfl, r1⟩
theorem vals2 {x y : V} {us : List Value} (r : Vals [x, y] us) : ∃ u w', us = [u, w'] ∧ RelV x u ∧ RelV y w' := by
 cases r with
 | cons r1 r2 =>
  cases r2 with
  | cons r3 r4 => cases r4; exact ⟨_, _, rfl, r1, r3⟩
def LN (K : PySem.W.Frag) (x : V) (H : Hp) (n : Nat) : Prop :=
 match x with
 | .str y => y.length ≤ sizeLine ∧ n = y.length
 | .byt y => y.size ≤ sizeLine ∧ n = y.size
 | .ref p => (∃ xs, aJ K H p xs ∧ n = xs.length) ∨ ∃ xs, cn K H p xs ∧ n = xs.length
 | _ => False
theorem zP : bX X (.builtin "len") (fun xs H Q => ∃ x n, xs = [x] ∧ LN X.K x H n ∧ Q (.int n) H) := by
 intro pins s σ H xs us Q I r h
 obtain ⟨x, n, rfl, e, q⟩ := h
 obtain ⟨u, rfl, rx⟩ := vals1 r
 have hl := lP
 have hs : sizeLine = 16777216 := sizeLine_eq
 cases x with
 | str y =>
  obtain ⟨t, rfl⟩ := rx
  obtain ⟨hy, e'⟩ : y.length ≤ sizeLine ∧ n = y.length := e
  subst e'
  exact len_str (by omega) ⟨.int _, H, I.tok _, ⟨_, rfl⟩, q⟩
 | byt y =>
  obtain ⟨t, rfl⟩ := rx
  obtain ⟨hy, e'⟩ : y.size ≤ sizeLine ∧ n = y.size := e
  subst e'
  exact PySem.W.len_bytes (by omega) ⟨.int _, H, I.tok _, ⟨_, rfl⟩, q⟩
 | ref p =>
  cases rx
  have e' : (∃ xs, aJ X.K H p xs ∧ n = xs.length) ∨ ∃ xs, cn X.K H p xs ∧ n = xs.length := e
  rcases e' with ⟨xs, hx, e'⟩ | ⟨xs, hx, e'⟩
  ·subst e'
   obtain ⟨its, r', pl, hz⟩ := I.list hx
   have hlen := r'.length
   exact Calls.call_len_list pl.isList (by simp only [List.size_toArray]; omega) ⟨.int xs.length, H, I.tok _, ⟨_, by simp only [List.size_toArray]; rw [hlen]⟩, q⟩
  ·subst e'
   obtain ⟨its, r', pl, hz⟩ := I.tuple hx
   have hlen := r'.length
   exact len_tuple pl (by simp only [List.size_toArray]; omega) ⟨.int xs.length, H, I.tok _, ⟨_, by simp only [List.size_toArray]; rw [hlen]⟩, q⟩
 | _ => exact (show False from e).elim
end
end L2
namespace L2
open PySem PySem.Spec PyProof.Rows
structure iF (h : Heap) (x dx C : Addr) (mA : Str → Option Value) : Prop where
 obj : h.get? x = some (PySem.W.instObj C dx)
 ns : h.Ns1 dx mA
 ne : dx ≠ x
theorem HR {h : Heap} {dx : Addr} {mA : Str → Option Value} (n : h.Ns1 dx mA) : ∃ od, h.get? dx = some od ∧ ∀ name, PySem.W.lookIn name od = some (mA name) := by
 obtain ⟨o, es, ep, ho, hd, hk, _, hm⟩ := n
 refine ⟨o, ho, fun name => ?_⟩
 have e := hm name
 unfold nsFind findBy at e
 rw [← Array.find?_toList] at e
 unfold PySem.W.lookIn
 rw [hd]
 dsimp only
 split
 ·rename_i y q
  rw [q] at e
  exact congrArg some e
 ·rename_i q
  rw [q] at e
  have a : es.toList.any (·.refKey) = false := by
   rw [List.any_eq_false]
   intro y hy
   obtain ⟨z, t, hkey⟩ := hk y (Array.mem_toList_iff.mp hy)
   simp [DictEntry.refKey, hkey]
  have a' : ¬ es.toList.any (·.refKey) = true := by rw [a]; exact Bool.false_ne_true
  rw [if_neg a']
  exact congrArg some e
theorem iF.look {h : Heap} {x dx C : Addr} {mA : Str → Option Value} (I : iF h x dx C mA) : ∃ od, PySem.W.InstAt h x (PySem.W.instObj C dx) C (some od) ∧ ∀ name, PySem.W.lookIn name od = some (mA name) :=
 let ⟨od, ho, hl⟩ := HR I.ns
 ⟨od, ⟨I.obj, rfl, rfl, ho⟩, hl⟩
section
variable {prog : Program} {w : World} {A : Around} {E : Value → Shared → Prop} {s : Shared} {K : PySem.W.Frag} {x dx C f : Addr} {mA : Str → Option Value} {name : Str} {v : Value}
theorem get_map {expr : Bool} {Q : Value → Shared → Prop} (X : K.In s.heap) (I : iF s.heap x dx C mA) (hg : PySem.W.plainGet K C name = true) (hh : PySem.W.hasDictIn K C = true)
  (ha : PySem.W.findIn K (.ref C) name = some none) (hv : mA name = some v) (hv' : PySem.W.handedIn v = true) (h : Q v { s with toks := s.toks + 1 }) :
  wpAny (model prog w) A (getAttr (.ref x) name expr) Q E s := by
 obtain ⟨od, J, hl⟩ := I.look
 exact PySem.W.get_value X J (PySem.W.plainGet_of hg).1 (PySem.W.findObj_own hh ha rfl (by rw [hl, hv])) hv' h
theorem GZ {pl : Sem Bool} {Q : Value × List Value → Shared → Prop} (X : K.In s.heap) (I : iF s.heap x dx C mA) (hg : PySem.W.plainGet K C name = true)
  (hf : PySem.W.findIn K (.ref C) name = some (some (.ref f))) (ht : PySem.W.isFn K (.ref f) = true) (hv : mA name = none) (h : Q (.ref f, [.ref x]) s) :
  wpAny (model prog w) A (getMethod (.ref x) name pl) Q E s := by
 obtain ⟨od, J, hl⟩ := I.look
 exact PySem.W.method_fn X J (PySem.W.plainGet_of hg).1 (PySem.W.plainGet_of hg).2 hf (beq_iff_eq.mp ht) (by show (PySem.W.lookIn name od).map (·.isSome) = some false; rw [hl, hv]; rfl) h
theorem K1 {ns : List Str} {Q : Unit → Shared → Prop} (X : K.In s.heap) (I : iF s.heap x dx C mA)
  (hs : PySem.W.findIn K (.ref C) "__setattr__" = some (some (.builtin "object.__setattr__"))) (hp : PySem.W.plainOver K C = true) (ht : PySem.W.takerIn K C name = some none) (hh : PySem.W.hasDictIn K C = true)
  (hw : PySem.Within mA ns) (hsz : ns.length ≤ sizeLine)
  (h : ∀ h', iF h' x dx C (fun y => if y = name then some v else mA y) → Heap.SameBut dx s.heap h' → Q () { s with heap := h', toks := s.toks + 2 }) :
  wpAny (model prog w) A (setAttr (.ref x) name v) Q E s := by
 obtain ⟨od, J, hl⟩ := I.look
 refine PySem.W.set_plain X J hs (PySem.W.osa_open (s := { s with toks := s.toks + 1 }) (r := none) X J hp ht fun b => ?_)
 obtain ⟨cd, hc, hd'⟩ := PySem.W.any_some hh
 have hx : s.heap.get? x = some ⟨.ref C, some dx, .plain, #[]⟩ := I.obj
 refine wpAny_bind (wpAny_pure (wpAny_bind (wpAny_bind (wpAny_loadPart hx (wpAny_bind (PySem.W.Looks.here (s := { s with toks := s.toks + 1 }) (PySem.W.looks_clsIn X hc) ?_))))))
 rw [hd']
 refine wpAny_pure (a := some dx) (wpAny_bind (wpAny_pure (wpAny_bind ?_)))
 refine wpAny_nsSet1 (s := { s with toks := s.toks + 1 }) I.ns fun h' hn2 hs2 => ?_
 obtain ⟨oD, esD, epD, hoD, hdD, hcD⟩ := hn2.count (PySem.Within.cons name v hw)
 refine wpAny_bind (wpAny_lookBehind hoD (by rw [hdD]; exact pastItsLine_dict (Nat.le_trans hcD (by rw [List.length_cons]; omega))) ?_)
 exact wpAny_pure (h _ ⟨(hs2.2 _ (Ne.symm I.ne)).trans I.obj, hn2, I.ne⟩ hs2)
theorem LJ {R : Result → Shared → Prop} {vs : List Value} {kw : List (Str × Value)} (X : K.In s.heap) (hm : PySem.W.makesIn K C = true)
  (hi : PySem.W.findIn K (.ref C) "__init__" = some (some (.ref f))) (hf : PySem.W.typeIn K (.ref f) = some (.type "function"))
  (h : codeAny (model prog w) (A.under (.builtin "type.__call__" ⟨.ref C :: vs, kw⟩)) (.call (.ref f) ⟨.ref (s.heap.objs.size + 1) :: vs, kw⟩) (PySem.W.InitBack (s.heap.objs.size + 1) R)
   { s with heap := (s.heap.push PySem.W.emptyDict).push (PySem.W.instObj C s.heap.objs.size) }) :
  codeAny (model prog w) A (.call (.ref C) ⟨vs, kw⟩) R s := by
 obtain ⟨hh, g, d, t, os⟩ := s
 exact PySem.W.make_core (PySem.W.makes_of X hm) (PySem.W.looks_findIn X hi) (fun self => PySem.W.bind_fn X self hf) (.inl rfl) h
end
def ae (f : Str) (v : V) : List (Str × V) → List (Str × V)
 | [] => [(f, v)]
 | (g, x) :: r => if g = f then (g, v) :: r else (g, x) :: ae f v r
theorem cG (f g : Str) (v : V) : ∀ fs : List (Str × V), (ae f v fs).lookup g = if g = f then some v else fs.lookup g
 | [] => by
  show List.lookup g [(f, v)] = _
  by_cases h : g = f
  ·have hb : (g == f) = true := beq_iff_eq.mpr h
   simp only [List.lookup, hb, if_pos h]
  ·have hb : (g == f) = false := beq_eq_false_iff_ne.mpr h
   simp only [List.lookup, hb, if_neg h]
 | (k, x) :: r => by
  have ih := cG f g v r
  rw [show ae f v ((k, x) :: r) = (if k = f then (k, v) :: r else (k, x) :: ae f v r) from rfl]
  by_cases hk : k = f
  ·rw [if_pos hk]
   by_cases h : g = k
   ·have hb : (g == k) = true := beq_iff_eq.mpr h
    simp only [List.lookup, hb, if_pos (h.trans hk)]
   ·have hb : (g == k) = false := beq_eq_false_iff_ne.mpr h
    simp only [List.lookup, hb, if_neg (fun e : g = f => h (e.trans hk.symm))]
  ·rw [if_neg hk]
   by_cases h : g = k
   ·have hb : (g == k) = true := beq_iff_eq.mpr h
    simp only [List.lookup, hb, if_neg (fun e : g = f => hk (h.symm.trans e))]
   ·have hb : (g == k) = false := beq_eq_false_iff_ne.mpr h
    simp only [List.lookup, hb]
    exact ih
theorem qW (f : Str) (v : V) : ∀ fs : List (Str × V), f ∈ (ae f v fs).map (·.1) ∧ ∀ g, g ∈ fs.map (·.1) → g ∈ (ae f v fs).map (·.1)
 | [] => ⟨by simp [ae], fun g h => by simp at h⟩
 | (k, x) :: r => by
  obtain ⟨i1, i2⟩ := qW f v r
  rw [show ae f v ((k, x) :: r) = (if k = f then (k, v) :: r else (k, x) :: ae f v r) from rfl]
  by_cases hk : k = f
  ·rw [if_pos hk]
   subst hk
   exact ⟨by simp, fun g h => by simpa using h⟩
  ·rw [if_neg hk]
   refine ⟨?_, fun g h => ?_⟩
   ·rw [List.map_cons]
    exact List.mem_cons_of_mem _ i1
   ·rw [List.map_cons] at h ⊢
    rcases List.mem_cons.mp h with e | e
    ·exact List.mem_cons.mpr (.inl e)
    ·exact List.mem_cons_of_mem _ (i2 g e)
theorem qa (f : Str) (v : V) : ∀ fs : List (Str × V), (ae f v fs).length ≤ fs.length + 1
 | [] => by simp [ae]
 | (k, x) :: r => by
  have ih := qa f v r
  rw [show ae f v ((k, x) :: r) = (if k = f then (k, v) :: r else (k, x) :: ae f v r) from rfl]
  by_cases hk : k = f
  ·rw [if_pos hk, List.length_cons, List.length_cons]; omega
  ·rw [if_neg hk, List.length_cons, List.length_cons]; omega
theorem cO.some_of {v : V} {o : Option Value} (r : cO (some v) o) : ∃ u, o = some u ∧ RelV v u := by
 cases o with
 | none => exact (show False from r).elim
 | some u => exact ⟨u, rfl, r⟩
theorem cO.none_of {o : Option Value} (r : cO none o) : o = none := by
 cases o with
 | none => rfl
 | some u => exact (show False from r).elim
theorem Oj {v : V} {u : Value} (r : RelV v u) : PySem.W.handedIn u = true := by
 cases v with
 | au => cases (show u = Value.none from r); rfl
 | bl b => cases (show u = Value.bool b from r); rfl
 | int i => obtain ⟨t, e⟩ := (show ∃ t, u = Value.int i t from r); cases e; rfl
 | str x => obtain ⟨t, e⟩ := (show ∃ t, u = Value.str x t from r); cases e; rfl
 | byt b => obtain ⟨t, e⟩ := (show ∃ t, u = Value.bytes b t from r); cases e; rfl
 | ir b => obtain ⟨t, e⟩ := (show ∃ t, u = Value.float b t from r); cases e; rfl
 | ref a => cases (show u = Value.ref a from r); rfl
 | ty n => cases (show u = Value.type n from r); rfl
section
variable {P : Program} {w : World} {H H' : Hp} {h h' : Heap} {a C dx : Addr} {fs fs' : List (Str × V)}
theorem nS (ax : bz P w H h) (e : H a = some (.ins C dx fs)) : ∃ mA, iF h a dx C mA ∧ (∀ f, cO (fs.lookup f) (mA f)) ∧ PySem.Within mA (fs.map (·.1)) ∧ fs.length ≤ 1000 ∧ H dx = some (.own a) := by
 obtain ⟨d, z, ne, ob, mA, n, r, q⟩ := (show bp P w H h a (.ins C dx fs) from ax a _ e)
 exact ⟨mA, ⟨ob, n, ne⟩, r, q, z, d⟩
end
structure cb (K : PySem.W.Frag) (C : Addr) : Prop where
 pg : PySem.W.plainGet K C Str.empty = true
 hd : PySem.W.hasDictIn K C = true
 po : PySem.W.plainOver K C = true
 sa : PySem.W.findIn K (.ref C) "__setattr__" = some (some (.builtin "object.__setattr__"))
theorem cb.get {K : PySem.W.Frag} {C : Addr} (c : cb K C) (f : Str) : PySem.W.plainGet K C f = true := c.pg
def aV (K : PySem.W.Frag) (C : Addr) (f : Str) : Prop := PySem.W.findIn K (.ref C) f = some none
theorem aV.Og {K : PySem.W.Frag} {C : Addr} {f : Str} (n : aV K C f) : PySem.W.takerIn K C f = some none := by
 unfold PySem.W.takerIn
 rw [show PySem.W.findIn K (.ref C) f = some none from n]
 rfl
structure OP (K : PySem.W.Frag) (C : Addr) (f : Str) (v : V) (u : Value) : Prop where
 at_ : PySem.W.findIn K (.ref C) f = some (some u)
 rel : RelV v u
 get : PySem.W.specialIn K u "__get__" = some none
 cp : PySem.W.copiedNames.contains f = false
structure Meth (K : PySem.W.Frag) (C : Addr) (m : Str) (f : Addr) : Prop where
 at_ : PySem.W.findIn K (.ref C) m = some (some (.ref f))
 fn : PySem.W.isFn K (.ref f) = true
 kp : PySem.W.keepIn K (.ref f) = true
section
variable {X : Cx} {pins : List (Addr × Obj)} {σ : St} {H : Hp} {s : Shared} {a C dx : Addr} {fs : List (Str × V)} {f : Str} {v : V} {A : Around} {E : Value → Shared → Prop}
theorem zJ {b : Bool} {Q : Value → Shared → Prop} (I : Inv X pins σ H s) (e : H a = some (.ins C dx fs)) (c : cb X.K C) (n : aV X.K C f) (l : fs.lookup f = some v)
  (h : ∀ u s', Inv X pins σ H s' → RelV v u → Q u s') : wpAny (model X.prog X.w) A (getAttr (.ref a) f b) Q E s := by
 obtain ⟨mA, O, r, _, _, _⟩ := nS I.ax e
 obtain ⟨u, hu, ru⟩ := cO.some_of (v := v) (o := mA f) (by rw [← l]; exact r f)
 exact get_map I.bx O (c.get f) c.hd n hu (Oj ru) (h u _ (I.tok _) ru)
theorem sO {m : Str} {g : Addr} {pl : Sem Bool} {Q : Value × List Value → Shared → Prop} (I : Inv X pins σ H s) (e : H a = some (.ins C dx fs)) (c : cb X.K C) (k : Meth X.K C m g) (l : fs.lookup m = none)
  (h : Q (.ref g, [.ref a]) s) : wpAny (model X.prog X.w) A (getMethod (.ref a) m pl) Q E s := by
 obtain ⟨mA, O, r, _, _, _⟩ := nS I.ax e
 have hn : mA m = none := cO.none_of (by rw [← l]; exact r m)
 exact GZ I.bx O (c.get m) k.at_ k.fn hn h
theorem zm {y : V} {u : Value} {Q : Unit → Shared → Prop} (I : Inv X pins σ H s) (e : H a = some (.ins C dx fs)) (c : cb X.K C) (n : aV X.K C f) (hl : fs.length < 1000) (ry : RelV y u)
  (h : ∀ s', Inv X pins σ (upd H a (.ins C dx (ae f y fs))) s' → Q () s') : wpAny (model X.prog X.w) A (setAttr (.ref a) f u) Q E s := by
 obtain ⟨mA, O, r, wi, _, ho⟩ := nS I.ax e
 have hz : (fs.map (·.1)).length ≤ sizeLine := by rw [List.length_map, sizeLine_eq]; omega
 refine K1 I.bx O c.sa c.po n.Og c.hd wi hz fun h' O' sb => h _ ?_
 have hd : ∃ o, h'.get? dx = some o := let ⟨o, _, _, e', _⟩ := O'.ns; ⟨o, e'⟩
 refine I.write (x := a) (e := dx) (by rw [e]; exact True.intro) (.inr ho) (fun b q hb z => (sb.2 b hb).trans z) hd ?_
 refine ⟨by rw [ah O.ne]; exact ho, ?_, O.ne, O'.obj, _, O'.ns, fun g => ?_, fun g hg => ?_⟩
 ·have := qa f y fs; omega
 ·show cO ((ae f y fs).lookup g) (if g = f then some u else mA g)
  rw [cG]
  by_cases q : g = f
  ·rw [if_pos q, if_pos q]; exact ry
  ·rw [if_neg q, if_neg q]; exact r g
 ·by_cases q : g = f
  ·rw [q]; exact (qW f y fs).1
  ·refine (qW f y fs).2 g (wi g fun z => hg ?_)
   show (if g = f then some u else mA g) = none
   rw [if_neg q]; exact z
theorem Inv.made (I : Inv X pins σ H s) : Inv X pins σ (upd (upd H s.heap.objs.size (.own (s.heap.objs.size + 1))) (s.heap.objs.size + 1) (.ins C s.heap.objs.size []))
  { s with heap := (s.heap.push PySem.W.emptyDict).push (PySem.W.instObj C s.heap.objs.size) } := by
 have e1 : (s.heap.push PySem.W.emptyDict).get? s.heap.objs.size = some PySem.W.emptyDict := Heap.get?_push_size s.heap rfl
 have e2 : ((s.heap.push PySem.W.emptyDict).push (PySem.W.instObj C s.heap.objs.size)).get? (s.heap.objs.size + 1) = some (PySem.W.instObj C s.heap.objs.size) := by
  have := Heap.get?_push_size (s.heap.push PySem.W.emptyDict) (o := PySem.W.instObj C s.heap.objs.size) rfl
  rwa [Heap.size_push] at this
 have e3 : (s.heap.push PySem.W.emptyDict).Ns s.heap.objs.size (fun _ => none) := ⟨PySem.W.emptyDict, #[], _, e1, rfl, (fun e he => absurd he (by simp)), fun _ => rfl⟩
 have I1 := I.laid (a := s.heap.objs.size) (o := .own (s.heap.objs.size + 1)) (h' := s.heap.push PySem.W.emptyDict) (t' := s.toks) (fun b u q => Heap.get?_push_of_some _ q) (Nat.le_refl _) ⟨_, e1⟩
 refine I1.laid (a := s.heap.objs.size + 1) (o := .ins C s.heap.objs.size []) (t' := s.toks) (fun b u q => Heap.get?_push_of_some _ q) (Nat.le_of_eq (Heap.size_push _ _)) ?_
 have ne : s.heap.objs.size ≠ s.heap.objs.size + 1 := Nat.ne_of_lt (Nat.lt_succ_self _)
 refine ⟨by rw [ah ne, aw], Nat.zero_le _, ne, e2, fun _ => none, (Heap.Ns1.of_empty e3).at fun o q => Heap.get?_push_of_some _ q, fun _ => True.intro, fun y hy => absurd rfl hy⟩
theorem Oc {prog : Program} {w : World} {env : Env} {e : Expr} {f : Str} {pos : Pos} {s : Shared} {Q : Value → Shared → Prop} (hb : attributeBase e f env (eval e env) = eval e env)
  (h : wpAny (model prog w) A (eval e env) (fun o s₁ => wpAny (model prog w) A (getAttr o f true) Q E s₁) E s) : wpAny (model prog w) A (eval (.Attribute e f pos) env) Q E s :=
 Attribute_any_ h (by rw [arm_eval_Attribute, hb])
end
def pY (X : Cx) (op : Operator) (rd : V → V → Hp → VK → Prop) : Prop :=
 ∀ (pins : List (Addr × Obj)) (s : Shared) (σ : St) (H : Hp) (x y : V) (u v : Value) (Q : VK), Inv X pins σ H s → RelV x u → RelV y v → rd x y H Q → wpAny (model X.prog X.w) X.A (inplaceOp op u v) (EP X pins σ Q) X.xe s
section
variable {X : Cx} {o e value : Expr} {f : Str} {pos pos' fB : Pos} {ta tv : TE}
def zc : V → V → Hp → VK → Prop := fun x y H Q => ∃ i j, x = .int i ∧ y = .int j ∧ Q (.int (i + j)) H
theorem ia : pY X .Add zc := by
 rintro pins s σ H x y u v Q I rx ry ⟨i, j, rfl, rfl, q⟩
 obtain ⟨t, rfl⟩ := (show ∃ t, u = Value.int i t from rx)
 obtain ⟨t', rfl⟩ := (show ∃ t', v = Value.int j t' from ry)
 exact PyProof.Rows.iadd_int ⟨.int (i + j), H, I.tok _, ⟨_, rfl⟩, q⟩
end
section
variable {X : Cx} {pins : List (Addr × Obj)} {σ : St} {H : Hp} {s : Shared} {A : Around} {E : Value → Shared → Prop} {Q : Value → Shared → Prop} {c : Value} {b : Bool}
inductive de (K : PySem.W.Frag) (H : Hp) : V → Value → Prop where
 | au : de K H .au (.type "NoneType")
 | bl (x : Bool) : de K H (.bl x) (.type "bool")
 | int (i : Int) : de K H (.int i) (.type "int")
 | str (x : Str) : de K H (.str x) (.type "str")
 | ir (x : UInt64) : de K H (.ir x) (.type "float")
 | lst {a : Addr} {xs : List V} (e : H a = some (.lst xs)) : de K H (.ref a) (.type "list")
 | c7 {a : Addr} {o : Obj} {xs : List V} (e : H a = some (.c7 o (.lst xs))) : de K H (.ref a) (.type "list")
 | tup {a : Addr} {xs : List V} (e : H a = some (.tup xs)) : de K H (.ref a) (.type "tuple")
 | dK {a : Addr} {kvs : List (Key × V)} (e : H a = some (.dK kvs)) : de K H (.ref a) (.type "dict")
 | dT {a : Addr} {kvs : List (List Key × V)} (e : H a = some (.dT kvs)) : de K H (.ref a) (.type "dict")
 | ins {a C dx : Addr} {fs : List (Str × V)} (e : H a = some (.ins C dx fs)) (cl : cb K C) (ha : PySem.W.findIn K (.ref C) "__class__" = some (some (.builtin "object.__class__")))
   (hn : PySem.W.specialIn K (.builtin "object.__class__") "__get__" = some (some (.builtin "getset_descriptor.__get__"))) (dv : PySem.W.takesIn K (.builtin "object.__class__") = some true)
   (hm : PySem.W.mroIn K C (.type "object") = some true) : de K H (.ref a) (.ref C)
theorem rV {x : V} {u t : Value} (I : Inv X pins σ H s) (rx : RelV x u) (ty : de X.K H x t) (e : PySem.W.kitOne X.K t c = some b) (h : ∀ tk, Q (.bool b) { s with toks := tk }) :
  wpAny (model X.prog X.w) A (call (.builtin "isinstance") [u, c]) Q E s := by
 cases ty with
 | au => cases (show u = Value.none from rx); exact PySem.W.kia_one PySem.W.kitx_none I.bx True.intro e (fun z => nomatch z) h
 | bl y => cases (show u = Value.bool y from rx); exact PySem.W.kia_one PySem.W.kitx_bool I.bx True.intro e (fun z => nomatch z) h
 | int i => obtain ⟨t, q⟩ := (show ∃ t, u = Value.int i t from rx); cases q; exact PySem.W.kia_one PySem.W.kitx_int I.bx True.intro e (fun z => nomatch z) h
 | str y => obtain ⟨t, q⟩ := (show ∃ t, u = Value.str y t from rx); cases q; exact PySem.W.kia_one PySem.W.kitx_str I.bx True.intro e (fun z => nomatch z) h
 | ir y => obtain ⟨t, q⟩ := (show ∃ t, u = Value.float y t from rx); cases q; exact PySem.W.kia_one PySem.W.kitx_float I.bx True.intro e (fun z => nomatch z) h
 | @lst a xs ea =>
  cases (show u = Value.ref a from rx)
  obtain ⟨_, _, n, _, h1⟩ := (show bp X.prog X.w H s.heap a (.lst xs) from I.ax a _ ea)
  exact PySem.W.kia_one PySem.W.kitx_list I.bx ⟨_, h1, rfl⟩ e (fun z => nomatch z) h
 | @c7 a ob xs ea =>
  cases (show u = Value.ref a from rx)
  obtain ⟨_, _, _, n, _, h1⟩ := (show bp X.prog X.w H s.heap a (.c7 ob (.lst xs)) from I.ax a _ ea)
  exact PySem.W.kia_one PySem.W.kitx_list I.bx ⟨_, h1, rfl⟩ e (fun z => nomatch z) h
 | @tup a xs ea =>
  cases (show u = Value.ref a from rx)
  obtain ⟨_, _, _, p⟩ := (show bp X.prog X.w H s.heap a (.tup xs) from I.ax a _ ea)
  obtain ⟨o, h1, h2, _⟩ := p
  exact PySem.W.kia_one PySem.W.kitx_tuple I.bx ⟨o, h1, h2⟩ e (fun z => nomatch z) h
 | @dK a kvs ea =>
  cases (show u = Value.ref a from rx)
  obtain ⟨_, _, vs, _, p⟩ := (show bp X.prog X.w H s.heap a (.dK kvs) from I.ax a _ ea)
  obtain ⟨o, es, ep, h1, h2, _⟩ := p
  exact PySem.W.kia_one PySem.W.kitx_dict I.bx ⟨o, h1, h2.1⟩ e (fun z => nomatch z) h
 | @dT a kvs ea =>
  cases (show u = Value.ref a from rx)
  obtain ⟨_, _, xs, _, o, es, ep, h1, h2, _⟩ := (show bp X.prog X.w H s.heap a (.dT kvs) from I.ax a _ ea)
  exact PySem.W.kia_one PySem.W.kitx_dict I.bx ⟨o, h1, h2.1⟩ e (fun z => nomatch z) h
 | @ins a C dx fs ea cl ha hn dv hm =>
  cases (show u = Value.ref a from rx)
  obtain ⟨mA, O, _⟩ := nS I.ax ea
  obtain ⟨od, J, _⟩ := O.look
  exact PySem.W.kia_one (PySem.W.kitx_own (cl.get _) cl.hd ha hn dv hm) I.bx J e (fun z => nomatch z) h
end
end L2
namespace L2
open PySem PySem.Spec PyProof.Rows
structure aN (k : Nat) (A : Around) : Prop where
 hd : A.handled = none
 dp : A.depth + 3 * k + 5 < recursionLimit
 un : A.units + 16 * k + 200 < cLine
theorem aN.mono {j k : Nat} {A : Around} (r : aN k A) (h : j ≤ k) : aN j A := ⟨r.hd, by have := r.dp; omega, by have := r.un; omega⟩
theorem aN.deeper {k : Nat} {A : Around} (r : aN (k + 1) A) (env : Env) : aN k (A.deeper env) :=
 ⟨r.hd, by have := r.dp; show A.depth + 1 + 3 * k + 5 < _; omega, by have := r.un; show A.units + 3 + 16 * k + 200 < _; omega⟩
theorem N9 {A : Around} {C : Addr} {us : List Value} {kw : List (Str × Value)} : (A.under (.builtin "type.__call__" ⟨.ref C :: us, kw⟩)).depth = A.depth + 1 := by
 first | rfl | simp [Around.under, Code.weight, Code.isCreation, Code.isGuard, Code.isCaller, Code.frames, Code.isFrame, guardIds]
theorem Mc {A : Around} {C : Addr} {us : List Value} {kw : List (Str × Value)} : (A.under (.builtin "type.__call__" ⟨.ref C :: us, kw⟩)).units = A.units + 1 := by
 first | rfl | simp [Around.under, Code.cUnits, Code.frames, Code.isFrame]
theorem aN.make {k : Nat} {A : Around} (r : aN (k + 1) A) (C : Addr) (us : List Value) (kw : List (Str × Value)) : aN k (A.under (.builtin "type.__call__" ⟨.ref C :: us, kw⟩)) :=
 ⟨r.hd, by have := r.dp; rw [N9]; omega, by have := r.un; rw [Mc]; omega⟩
theorem aN.depth {k : Nat} {A : Around} (r : aN k A) : A.depth < recursionLimit := by have := r.dp; omega
theorem aN.units {k : Nat} {A : Around} (r : aN k A) : A.units + 64 < cLine := by have := r.un; omega
theorem aN.iA {k : Nat} {A : Around} (r : aN k A) : A.units < cLine := by have := r.un; omega
def ik : TA := fun _ H Q => Q [] H
def oz (ta : TE) (tr : TA) : TA := fun σ H Q => ta σ H fun x H1 => tr σ H1 fun xs H2 => Q (x :: xs) H2
section
variable {X : Cx} {e : Expr} {es : List Expr} {te : TE} {t : TA} {pos : Pos}
theorem N4 : PA X [] ik := fun _ _ _ _ H Q I h => Calls.spliced_nil ⟨[], H, I, .nil, h⟩
theorem FW (ha : PE X e te) (hr : PA X es t) (hs : starEach (e :: es) X.env = (false, eval e X.env) :: starEach es X.env := by rfl) : PA X (e :: es) (oz te t) := by
 intro pos pins s σ H Q I h
 rw [hs]
 show wpAny _ _ (spliced ((false, eval e X.env) :: backTo pos (starEach es X.env))) _ _ s
 refine Calls.spliced_cons (aA (ha pins s σ H _ I h) fun u s1 ⟨x, H1, I1, r1, q1⟩ => ?_)
 exact aA (hr pos pins s1 σ H1 _ I1 q1) fun us s2 ⟨xs, H2, I2, r2, q2⟩ => ⟨x :: xs, H2, I2, .cons r1 r2, q2⟩
def qO (t : TA) : TE := fun σ H Q => t σ H fun xs H1 => xs.length ≤ sizeLine ∧ ∀ p, H1 p = none → Q (.ref p) (upd H1 p (.tup xs))
def rM (t : TA) : TE := fun σ H Q => t σ H fun xs H1 => xs.length ≤ sizeLine ∧ ∀ p, H1 p = none → Q (.ref p) (upd H1 p (.lst xs))
theorem Kk {x1} (h : PA X es t) : PE X (.Tuple es x1 pos) (qO t) := by
 intro pins s σ H Q I hq
 refine wpAny_Tuple_spliced (aA (h pos pins s σ H _ I hq) fun us s1 ⟨xs, H1, I1, r, z, q⟩ => ⟨by rw [← r.length]; exact z, ?_⟩)
 have hf : H1 s1.heap.objs.size = none := I1.ax.fresh (Nat.le_refl _)
 refine ⟨.ref s1.heap.objs.size, upd H1 s1.heap.objs.size (.tup xs), I1.laid (t' := s1.toks) (fun b u e => Heap.get?_push_of_some _ e) (Nat.le_refl _) ?_, rfl, q _ hf⟩
 exact ⟨z, us, r, ⟨_, Heap.get?_push_size _ rfl, rfl, _, rfl⟩⟩
theorem Ij (h : PA X es t) : PE X (.List es pos) (rM t) := by
 intro pins s σ H Q I hq
 refine wpAny_List_spliced (aA (h pos pins s σ H _ I hq) fun us s1 ⟨xs, H1, I1, r, z, q⟩ => ⟨by rw [← r.length]; exact z, ?_⟩)
 have hf : H1 s1.heap.objs.size = none := I1.ax.fresh (Nat.le_refl _)
 refine ⟨.ref s1.heap.objs.size, upd H1 s1.heap.objs.size (.lst xs), I1.laid (t' := s1.toks) (fun b u e => Heap.get?_push_of_some _ e) (Nat.le_refl _) ?_, rfl, q _ hf⟩
 exact ⟨z, us, 0, r, Heap.get?_push_size _ rfl⟩
end
abbrev Sp := List V → Hp → VK → XK → Prop
abbrev cu := List Env → Hp → Shared → XK → Value → Shared → Prop
structure fW (P : Program) (w : World) (K : PySem.W.Frag) (mg : Str → Option Value) (base : Heap) (A : Around) (outer : List Env) (s : Shared) (H : Hp) : Prop where
 frames : A.frames = some outer
 mod : Mod K mg base
 bs : ∀ b o, base.get? b = some o → s.heap.get? b = some o ∧ H b = none
 dD : base.objs.size ≤ s.heap.objs.size
 cU : s.heap.FunFrames base outer
 e7 : ∀ b ∈ bG outer, H b = none
 ax : bz P w H s.heap
 bare : AllBare s.gens
def CE (outer : List Env) (P : Program) (w : World) (H : Hp) (s : Shared) (Q : VK) (u : Value) (s' : Shared) : Prop :=
 ∃ v H', s'.os = s.os ∧ AllBare s'.gens ∧ Un (bG outer) [] H H' s.heap s'.heap ∧ bz P w H' s'.heap ∧ RelV v u ∧ Q v H'
def CR (CX : cu) (outer : List Env) (P : Program) (w : World) (H : Hp) (s : Shared) (Q : VK) (E : XK) (r : Result) (s' : Shared) : Prop :=
 match r with
 | .ok (.ret u) => CE outer P w H s Q u s'
 | .ok _ => False
 | .error e => CX outer H s E e s'
structure aD (P : Program) (w : World) (K : PySem.W.Frag) (mg : Str → Option Value) (base : Heap) (CX : cu) (k : Nat) (f : Addr) (fd : FuncData) (ps : List Str) (sp : Sp) : Prop where
 len : ∀ vs H Q E, sp vs H Q E → vs.length = ps.length
 run : ∀ (A : Around) (outer : List Env) (s : Shared) (H : Hp) (args : Args) (us : List Value) (vs : List V) (Q : VK) (E : XK), aN k A → fW P w K mg base A outer s H → BindsTo s fd args (ps.zip us) → Vals vs us → sp vs H Q E →
  codeAny (model P w) A (.call (.ref f) args) (CR CX outer P w H s Q E) s
theorem fW.make {P : Program} {w : World} {K : PySem.W.Frag} {mg : Str → Option Value} {base : Heap} {A : Around} {outer : List Env} {s : Shared} {H : Hp} (e : fW P w K mg base A outer s H) (C : Addr) (us : List Value) (kw : List (Str × Value)) :
  fW P w K mg base (A.under (.builtin "type.__call__" ⟨.ref C :: us, kw⟩)) outer s H := ⟨by first | exact e.frames | (simpa [Around.under, Code.envs, Code.isFrame, pushEnvs] using e.frames), e.mod, e.bs, e.dD, e.cU, e.e7, e.ax, e.bare⟩
section
variable {X : Cx} {pins : List (Addr × Obj)} {σ : St} {H : Hp} {s s' : Shared}
theorem Inv.md (I : Inv X pins σ H s) : fW X.prog X.w X.K X.mg X.base X.A X.stack s H :=
 ⟨I.ok.frames, I.ok.mod, I.bs, Nat.le_trans I.ok.dD I.sz, I.stack, I.ph, I.ax, I.bare⟩
theorem Inv.after {Q : VK} {u : Value} (I : Inv X pins σ H s) (h : CE X.stack X.prog X.w H s Q u s') : EP X pins σ Q u s' := by
 obtain ⟨v, H', os, bare, un, ax, r, q⟩ := h
 obtain ⟨hh, g, d, t, os'⟩ := s'
 obtain rfl : os' = s.os := os
 exact ⟨v, H', I.call (h' := hh) (g' := g) (d' := d) (t' := t) (ch := []) un ax bare (fun b z => absurd z (by simp)), r, q⟩
end
def oP (sp : Sp) (dvs : List V) (E : XK) (t : TA) : TE := fun σ H Q => t σ H fun vs H1 => sp (vs ++ dvs) H1 Q E
def kT (C : Addr) (m : Str) (sp : Sp) (dvs : List V) (E : XK) (ta : TE) (t : TA) : TE := fun σ H Q => ta σ H fun x H1 => ∃ a dx fs, x = .ref a ∧ H1 a = some (.ins C dx fs) ∧ fs.lookup m = none ∧
 t σ H1 fun vs H2 => sp (x :: (vs ++ dvs)) H2 Q E
def lx (C : Addr) (sp : Sp) (dvs : List V) (E : XK) (t : TA) : TE := fun σ H Q => t σ H fun vs H1 => ∀ x dx, H1 x = none → H1 dx = none → dx ≠ x →
 sp (.ref x :: (vs ++ dvs)) (upd (upd H1 dx (.own x)) x (.ins C dx [])) (fun v H2 => v = .au ∧ Q (.ref x) H2) E
def Binds (K : PySem.W.Frag) (fd : FuncData) (ps : List Str) (ds : List Value) : Prop :=
 ∀ (s : Shared) (us : List Value), K.In s.heap → (us ++ ds).length = ps.length → BindsTo s fd ⟨us, []⟩ (ps.zip (us ++ ds))
theorem Binds.all {K : PySem.W.Frag} {fd : FuncData} {ps : List Str} (h : ∀ us : List Value, us.length = ps.length → bindArgs fd ⟨us, []⟩ = pure (ps.zip us)) : Binds K fd ps [] := fun s us _ hl => by
 rw [List.append_nil] at hl ⊢
 exact .of_eq (h us hl)
def Passes (CX : cu) (X : Cx) (E : XK) : Prop := ∀ (pins : List (Addr × Obj)) (σ : St) (H : Hp) (s : Shared) (e : Value) (s' : Shared), Inv X pins σ H s → CX X.stack H s E e s' → X.xe e s'
section
variable {X : Cx} {CX : cu} {k : Nat} {f C : Addr} {fd : FuncData} {ps : List Str} {sp : Sp} {dvs : List V} {ds : List Value} {E : XK} {x m : Str} {p pos apos : Pos} {e o : Expr} {es : List Expr} {ta : TE} {t : TA}
theorem rN {pins : List (Addr × Obj)} {σ : St} {H : Hp} {s : Shared} {Q : VK} {us : List Value} {vs : List V} (F : aD X.prog X.w X.K X.mg X.base CX k f fd ps sp) (hr : aN k X.A) (hb : Binds X.K fd ps ds) (hd : Vals dvs ds) (hx : Passes CX X E)
  (I : Inv X pins σ H s) (r : Vals vs us) (h : sp (vs ++ dvs) H Q E) : wpAny (model X.prog X.w) X.A (call (.ref f) us) (EP X pins σ Q) X.xe s := by
 have r2 : Vals (vs ++ dvs) (us ++ ds) := r.append hd
 have hl : (us ++ ds).length = ps.length := by rw [← r2.length]; exact F.len _ _ _ _ h
 refine wpAny_call (codeAny_mono (F.run X.A X.stack s H ⟨us, []⟩ (us ++ ds) (vs ++ dvs) Q E hr I.md (hb s us I.bx hl) r2 h) fun r s' hq => ?_)
 cases r with
 | error e => exact hx pins σ H s e s' I hq
 | ok fl =>
  cases fl with
  | ret u => exact I.after hq
  | next => exact False.elim hq
  | brk => exact False.elim hq
  | cont => exact False.elim hq
theorem IJ (F : aD X.prog X.w X.K X.mg X.base CX k f fd ps sp) (hr : aN k X.A) (hg : Gl X x) (hm : X.mg x = some (.ref f)) (hk : PySem.W.keepIn X.K (.ref f) = true) (hb : Binds X.K fd ps ds) (hd : Vals dvs ds) (hx : Passes CX X E)
  (ha : PA X (e :: es) t) (hdb : (x == ("__debug__" : Str)) = false := by decide) (he : starEach (e :: es) X.env = (false, eval e X.env) :: starEach es X.env := by rfl) (hpl : (backTo pos (starEach es X.env)).any (·.1) = false := by rfl) :
  PE X (.Call (.Name x p) (e :: es) [] pos) (oP sp dvs E t) := by
 intro pins s σ H Q I h
 refine wpAny_Call_Name_kw (gW I hg hm ?_ hdb)
 refine PySem.W.callWith_K (h₀ := X.base) I.ok.mod.fC hk (aA (ha pos pins s σ H _ I h) fun us s1 ⟨vs, H1, I1, r, q⟩ => ⟨I1.bx, ?_⟩) he hpl
 exact rN F hr hb hd hx I1 r q
theorem NT {pl : Sem Bool} (he : PE X o ta) (c : cb X.K C) (hm : Meth X.K C m f) (F : aD X.prog X.w X.K X.mg X.base CX k f fd ps sp) (hr : aN k X.A) (hb : Binds X.K fd ps ds) (hd : Vals dvs ds) (hx : Passes CX X E) (ha : PA X (e :: es) t)
  (hst : starEach (e :: es) X.env = (false, eval e X.env) :: starEach es X.env := by rfl) (hpl : (backTo pos (starEach es X.env)).any (·.1) = false := by rfl)
  (ht : eval (.Call (.Attribute o m apos) (e :: es) [] pos) X.env = (do
   let ov ← eval o X.env
   standAt apos.atName
   let (f, first) ← holding [ov] (getMethod ov m pl)
   callWith pos f first (backTo pos (starEach (e :: es) X.env)) (backToKw pos (keywordEach [] X.env))) := by rfl) :
  PE X (.Call (.Attribute o m apos) (e :: es) [] pos) (kT C m sp dvs E ta t) := by
 intro pins s σ H Q I h
 refine PySem.W.methodCall_KW (pl := pl) (aA (he pins s σ H _ I h) fun u s1 ⟨x, H1, I1, rx, a, dx, fs, ex, ea, l, q⟩ => ?_) ht
 subst ex
 obtain rfl : u = Value.ref a := rx
 refine sO I1 ea c hm l ?_
 refine PySem.W.callWith_K (first := [.ref a]) (h₀ := X.base) I.ok.mod.fC hm.kp (aA (ha pos pins s1 σ H1 _ I1 q) fun us s2 ⟨vs, H2, I2, r, q2⟩ => ⟨I2.bx, ?_⟩) hst hpl
 exact rN (us := .ref a :: us) (vs := .ref a :: vs) F hr hb hd hx I2 (.cons rfl r) q2
theorem HF {pl : Sem Bool} (he : PE X o ta) (c : cb X.K C) (hm : Meth X.K C m f) (F : aD X.prog X.w X.K X.mg X.base CX k f fd ps sp) (hr : aN k X.A) (hb : Binds X.K fd ps ds) (hd : Vals dvs ds) (hx : Passes CX X E)
  (ht : eval (.Call (.Attribute o m apos) [] [] pos) X.env = (do
   let ov ← eval o X.env
   standAt apos.atName
   let (f, first) ← holding [ov] (getMethod ov m pl)
   callWith pos f first (backTo pos (starEach [] X.env)) (backToKw pos (keywordEach [] X.env))) := by rfl) :
  PE X (.Call (.Attribute o m apos) [] [] pos) (kT C m sp dvs E ta ik) := by
 intro pins s σ H Q I h
 refine PySem.W.methodCall_KW (pl := pl) (aA (he pins s σ H _ I h) fun u s1 ⟨x, H1, I1, rx, a, dx, fs, ex, ea, l, q⟩ => ?_) ht
 subst ex
 obtain rfl : u = Value.ref a := rx
 refine sO I1 ea c hm l ?_
 exact PySem.W.callWith_K0 (first := [.ref a]) I1.bx hm.kp (rN (us := [.ref a]) (vs := [.ref a]) F hr hb hd hx I1 (.cons rfl .nil) q)
structure Mk (K : PySem.W.Frag) (C f : Addr) : Prop where
 makes : PySem.W.makesIn K C = true
 init : PySem.W.findIn K (.ref C) "__init__" = some (some (.ref f))
 fn : PySem.W.isFn K (.ref f) = true
 kp : PySem.W.keepIn K (.ref C) = true
theorem yf {pins : List (Addr × Obj)} {σ : St} {H : Hp} {s : Shared} {Q : VK} {us : List Value} {vs : List V} (M : Mk X.K C f) (F : aD X.prog X.w X.K X.mg X.base CX k f fd ps sp) (hr : aN (k + 1) X.A) (hb : Binds X.K fd ps ds) (hd : Vals dvs ds)
  (hx : Passes CX X E) (I : Inv X pins σ H s) (r : Vals vs us)
  (h : ∀ x dx, H x = none → H dx = none → dx ≠ x → sp (.ref x :: (vs ++ dvs)) (upd (upd H dx (.own x)) x (.ins C dx [])) (fun v H2 => v = .au ∧ Q (.ref x) H2) E) :
  wpAny (model X.prog X.w) X.A (call (.ref C) us) (EP X pins σ Q) X.xe s := by
 have hq := h (s.heap.objs.size + 1) s.heap.objs.size (I.ax.fresh (Nat.le_succ _)) (I.ax.fresh (Nat.le_refl _)) (Nat.ne_of_lt (Nat.lt_succ_self _))
 have I2 := Inv.made (C := C) I
 have r2 : Vals (V.ref (s.heap.objs.size + 1) :: (vs ++ dvs)) (Value.ref (s.heap.objs.size + 1) :: (us ++ ds)) := .cons rfl (r.append hd)
 have hl : (Value.ref (s.heap.objs.size + 1) :: us ++ ds).length = ps.length := by
  have e := r2.length
  rw [F.len _ _ _ _ hq] at e
  exact e.symm
 refine wpAny_call (LJ (f := f) I.bx M.makes M.init (beq_iff_eq.mp M.fn) (codeAny_mono (F.run _ X.stack _ _ ⟨Value.ref (s.heap.objs.size + 1) :: us, []⟩ (Value.ref (s.heap.objs.size + 1) :: (us ++ ds)) _ _ E (hr.make C us [])
  (I2.md.make C us []) (hb _ (Value.ref (s.heap.objs.size + 1) :: us) I2.bx hl) r2 hq) fun r s' hq' => ?_))
 cases r with
 | error e => exact hx pins σ _ _ e s' I2 hq'
 | ok fl =>
  cases fl with
  | ret u =>
   obtain ⟨v, H', I3, rv, ev, q3⟩ := I2.after hq'
   subst ev
   exact ⟨rv, ⟨V.ref (s.heap.objs.size + 1), H', I3, rfl, q3⟩⟩
  | next => exact False.elim hq'
  | brk => exact False.elim hq'
  | cont => exact False.elim hq'
theorem ND (M : Mk X.K C f) (F : aD X.prog X.w X.K X.mg X.base CX k f fd ps sp) (hr : aN (k + 1) X.A) (hg : Gl X x) (hm : X.mg x = some (.ref C)) (hb : Binds X.K fd ps ds) (hd : Vals dvs ds) (hx : Passes CX X E)
  (ha : PA X (e :: es) t) (hdb : (x == ("__debug__" : Str)) = false := by decide) (he : starEach (e :: es) X.env = (false, eval e X.env) :: starEach es X.env := by rfl) (hpl : (backTo pos (starEach es X.env)).any (·.1) = false := by rfl) :
  PE X (.Call (.Name x p) (e :: es) [] pos) (lx C sp dvs E t) := by
 intro pins s σ H Q I h
 refine wpAny_Call_Name_kw (gW I hg hm ?_ hdb)
 refine PySem.W.callWith_K (h₀ := X.base) I.ok.mod.fC M.kp (aA (ha pos pins s σ H _ I h) fun us s1 ⟨vs, H1, I1, r, q⟩ => ⟨I1.bx, ?_⟩) he hpl
 exact yf M F hr hb hd hx I1 r q
theorem JU (M : Mk X.K C f) (F : aD X.prog X.w X.K X.mg X.base CX k f fd ps sp) (hr : aN (k + 1) X.A) (hg : Gl X x) (hm : X.mg x = some (.ref C)) (hb : Binds X.K fd ps ds) (hd : Vals dvs ds) (hx : Passes CX X E)
  (hdb : (x == ("__debug__" : Str)) = false := by decide) : PE X (.Call (.Name x p) [] [] pos) (lx C sp dvs E ik) := by
 intro pins s σ H Q I h
 refine wpAny_Call_Name_kw (gW I hg hm ?_ hdb)
 exact PySem.W.callWith_K0 I.bx M.kp (yf (us := []) M F hr hb hd hx I .nil h)
end
section
variable {X : Cx} {CX : cu} {k : Nat} {f C : Addr} {fd : FuncData} {ps ks : List Str} {sp : Sp} {E : XK} {x m : Str} {p pos apos kpos : Pos} {e o : Expr} {es : List Expr} {kws : List Keyword} {te ta : TE} {t tk : TA} {nm : Option Str}
structure OX (K : PySem.W.Frag) (fd : FuncData) (ps ks : List Str) (g : List Value → List Value → List Value) (gV : List V → List V → List V) : Prop where
 to : ∀ (s : Shared) (us ws : List Value), K.In s.heap → (g us ws).length = ps.length → BindsTo s fd ⟨us, ks.zip ws⟩ (ps.zip (g us ws))
 rel : ∀ {vs : List V} {us : List Value} {zs : List V} {ws : List Value}, Vals vs us → Vals zs ws → Vals (gV vs zs) (g us ws)
variable {g : List Value → List Value → List Value} {gV : List V → List V → List V}
end
structure aF (N P : List Str) (sc : Scope) : Prop where
 kind : sc.kind = .function
 co : sc.isCoroutine = false
 gen : sc.isGenerator = false
 nd : N.Nodup
 pre : N.take P.length = P
 par : ∀ x ∈ P, sc.names.lookup x = some .local ∨ sc.names.lookup x = some .cell
 Gi : ∀ y ∈ sc.names, y.2 ≠ .free
theorem x6 {kindOf : Str → Option NameKind} {x : Str} : ∀ {binds : List (Str × Value)} {m : Str → Option Value}, (∀ v, (x, v) ∉ binds) → bindL kindOf binds m x = m x
 | [], _, _ => rfl
 | (n, v) :: r, m, h => by
  unfold bindL
  rw [x6 fun w hw => h w (List.mem_cons_of_mem _ hw)]
  split
  ·have : x ≠ n := by rintro rfl; exact h v List.mem_cons_self
   simp [this]
  ·rfl
theorem BC {kindOf : Str → Option NameKind} {x : Str} : ∀ {binds : List (Str × Value)} {m : Str → Option Value}, (∀ v, (x, v) ∉ binds) → bindC kindOf binds m x = m x
 | [], _, _ => rfl
 | (n, v) :: r, m, h => by
  unfold bindC
  rw [BC fun w hw => h w (List.mem_cons_of_mem _ hw)]
  split
  ·rfl
  ·have : x ≠ n := by rintro rfl; exact h v List.mem_cons_self
   simp [this]
theorem BP {kindOf : Str → Option NameKind} {x : Str} {v : Value} : ∀ {P : List Str} {vs : List Value} {i : Nat} {m : Str → Option Value}, P.Nodup → P[i]? = some x → vs[i]? = some v → kindOf x = some .local →
  bindL kindOf (P.zip vs) m x = some v
 | [], _, _, _, _, h, _, _ => by simp at h
 | _ :: _, [], _, _, _, _, h, _ => by simp at h
 | p :: P, w :: vs, 0, m, nd, h1, h2, hk => by
  simp at h1 h2; subst h1; subst h2
  show bindL kindOf ((p, w) :: P.zip vs) m p = _
  unfold bindL
  rw [x6 fun v hv => (List.nodup_cons.mp nd).1 (List.of_mem_zip hv).1, if_pos hk]
  simp
 | p :: P, w :: vs, i + 1, m, nd, h1, h2, hk => by
  show bindL kindOf ((p, w) :: P.zip vs) m x = _
  unfold bindL
  exact BP (i := i) (List.nodup_cons.mp nd).2 (by simpa using h1) (by simpa using h2) hk
theorem BK {kindOf : Str → Option NameKind} {x : Str} {v : Value} : ∀ {P : List Str} {vs : List Value} {i : Nat} {m : Str → Option Value}, P.Nodup → P[i]? = some x → vs[i]? = some v → kindOf x ≠ some .local →
  bindC kindOf (P.zip vs) m x = some v
 | [], _, _, _, _, h, _, _ => by simp at h
 | _ :: _, [], _, _, _, _, h, _ => by simp at h
 | p :: P, w :: vs, 0, m, nd, h1, h2, hk => by
  simp at h1 h2; subst h1; subst h2
  show bindC kindOf ((p, w) :: P.zip vs) m p = _
  unfold bindC
  rw [BC fun v hv => (List.nodup_cons.mp nd).1 (List.of_mem_zip hv).1, if_neg hk]
  simp
 | p :: P, w :: vs, i + 1, m, nd, h1, h2, hk => by
  show bindC kindOf ((p, w) :: P.zip vs) m x = _
  unfold bindC
  exact BK (i := i) (List.nodup_cons.mp nd).2 (by simpa using h1) (by simpa using h2) hk
def start (N : List Str) (vs : List V) : St := vs.map some ++ List.replicate (N.length - vs.length) none
def bM (CX : cu) (P : Program) (w : World) (K : PySem.W.Frag) (mg : Str → Option Value) (base : Heap) (N : List Str) (qual : Str) (scope : Scope) (f : Addr) (cd : Value) (A : Around) (outer : List Env) (s : Shared) (H : Hp) (E : XK) : Cx where
 prog := P
 w := w
 K := K
 mg := mg
 base := base
 A := A.deeper (envOfC qual scope s.heap.objs.size f cd)
 N := N
 s₀ := s
 H₀ := H
 env := envOfC qual scope s.heap.objs.size f cd
 outer := outer
 stack := envOfC qual scope s.heap.objs.size f cd :: outer
 ex := []
 calm := true
 fn := fun _ => true
 pn := []
 xe := fun e s' => wpAny (model P w) (A.deeper (envOfC qual scope s.heap.objs.size f cd)) (leaving (envOfC qual scope s.heap.objs.size f cd) e) (fun _ s'' => CX outer H s E e s'') (fun e' s'' => CX outer H s E e' s'') s'
theorem xK {sc : Scope} {n : Nat} {x : Str} (h : sc.names.lookup x = some .cell) : ∃ c, (cellsFrom n sc.names []).lookup x = some c := by
 have q := PySem.W.cellsFrom_some sc.names n [] (.inl h)
 exact Option.isSome_iff_exists.mp q
theorem AS {CX : cu} {P : Program} {w : World} {K : PySem.W.Frag} {mg : Str → Option Value} {base : Heap} {N ps : List Str} {qual : Str} {scope : Scope} {f : Addr} {cd : Value} {A : Around} {outer : List Env} {s s1 : Shared} {H : Hp} {E : XK} {us : List Value} {vs : List V}
  (S : aF N ps scope) (hd : A.handled = none) (e0 : fW P w K mg base A outer s H) (hl : vs.length = ps.length) (r : Vals vs us)
  (x : InCallC s s.heap.objs.size (bindL (envOfC qual scope s.heap.objs.size f cd).kindOf (ps.zip us) fun _ => none) (cellsFrom (s.heap.objs.size + 1) scope.names []) (bindC (envOfC qual scope s.heap.objs.size f cd).kindOf (ps.zip us) fun _ => none) s1) :
  Inv (bM CX P w K mg base N qual scope f cd A outer s H E) [] (start N vs) H s1 := by
 have hpl : ps.length ≤ N.length := by have := congrArg List.length S.pre; rw [List.length_take] at this; omega
 obtain ⟨h1, tk, rfl, hk⟩ := x.done
 have noA : ∀ b : Addr, b ∉ (bM CX P w K mg base N qual scope f cd A outer s H E).ex := fun b z => absurd (show b ∈ ([] : List Addr) from z) (by simp)
 refine ⟨⟨e0.mod, S.kind, rfl, rfl, Nat.le_refl _, fun y z c h1 h2 => ?_, fun y hy => ?_, fun y c _ h => ?_, fun _ => hd, Around.frames_deeper e0.frames, .inr ⟨rfl, rfl⟩, fun b z => absurd z (noA b), e0.bs, e0.dD, fun b _ _ => noA b, fun b z => absurd z (noA b), e0.cU, e0.e7⟩,
  rfl, e0.bare, Un.kept hk, ⟨_, x.toInCall.ns, fun i y v h1 h2 h3 => ?_⟩, fun y c h => ⟨_, x.cell y c h⟩, e0.ax.fresh (Nat.le_refl _), fun y c h => ?_, fun p hp => absurd (show p ∈ ([] : List (Addr × Obj)) from hp) (by simp), e0.ax.kept hk, ?_⟩
 ·exact name_of_addr x.apart (PySem.mem_of_lookup h1) (PySem.mem_of_lookup h2)
 ·have hy : scope.names.lookup y = some .cell ∨ scope.names.lookup y = some .free := hy
  rcases hy with hy | hy
  ·exact xK hy
  ·exact absurd rfl (S.Gi _ (PySem.mem_of_lookup hy))
 ·exact Nat.le_of_lt (x.above y c (PySem.mem_of_lookup h))
 ·have hi : i < vs.length := by
   unfold start at h2
   by_cases hi : i < vs.length
   ·exact hi
   ·rw [List.getElem?_append_right (by simpa using hi)] at h2
    rw [List.getElem?_replicate] at h2
    split at h2 <;> cases h2
  have ha : vs[i]? = some v := by
   unfold start at h2
   rw [List.getElem?_append_left (by simpa using hi), List.getElem?_map] at h2
   cases e : vs[i]? with
   | none => rw [e] at h2; cases h2
   | some a => rw [e] at h2; cases h2; rfl
  obtain ⟨u, hu, rv⟩ := r.get ha
  have hp : ps[i]? = some y := by
   rw [← S.pre, List.getElem?_take_of_lt (by omega)]; exact h1
  have ndP : ps.Nodup := by rw [← S.pre]; exact S.nd.sublist (List.take_sublist _ _)
  refine ⟨u, rv, ?_⟩
  rcases S.par y (List.mem_of_getElem? hp) with k | k
  ·exact .inl ⟨k, BP ndP hp hu k⟩
  ·obtain ⟨c, e⟩ := xK (n := s.heap.objs.size + 1) k
   refine .inr ⟨.inl k, c, e, ?_⟩
   have q := x.cell y c e
   rw [BK ndP hp hu (by show scope.names.lookup y ≠ _; rw [k]; decide)] at q
   exact q
 ·exact e0.ax.fresh (Nat.le_of_lt (x.above y c (PySem.mem_of_lookup h)))
 ·unfold start
  show _ = N.length
  rw [List.length_append, List.length_map, List.length_replicate]
  omega
theorem pA {CX : cu} {P : Program} {w : World} {K : PySem.W.Frag} {mg : Str → Option Value} {base : Heap} {k : Nat} {f : Addr} {name qual : Str} {params : Arguments} {body : List Stmt} {scope : Scope} {dV kV doc pm cdv ct oc : Value} {an od : Option Addr}
  {osl : Array (Option Value)} {N ps : List Str} {sp : Sp} (lk : K.lookup f = some ⟨oc, od, .func (PySem.W.fnOf name qual params body scope dV kV doc pm an cdv ct), osl⟩) (hcd : PySem.W.codeIn K cdv qual = true) (S : aF N ps scope)
  (len : ∀ vs H Q E, sp vs H Q E → vs.length = ps.length)
  (fv : ∀ (A : Around) (outer : List Env) (s : Shared) (H : Hp) (vs : List V) (Q : VK) (E : XK), aN k (A.deeper (envOfC qual scope s.heap.objs.size f cdv)) → sp vs H Q E →
   ∃ t, bT (bM CX P w K mg base N qual scope f cdv A outer s H E) body t ∧ t { nx := fun _ H' => Q .au H', rt := Q } (start N vs) H) :
  aD P w K mg base CX (k + 1) f (PySem.W.fnOf name qual params body scope dV kV doc pm an cdv ct) ps sp := by
 refine ⟨len, fun A outer s H args us vs Q E hr e0 hb r hsp => ?_⟩
 have hl := len _ _ _ _ hsp
 have KX : K.In s.heap := e0.mod.fC.keeps fun b o e => (e0.bs b o e).1
 have lim : s.heap.NoLimit := e0.mod.nolimit.keeps fun b o e => (e0.bs b o e).1
 have wU : ∀ y ∈ ps.zip us, scope.names.lookup y.1 = some .local ∨ (scope.names.lookup y.1 = some .cell ∧ ((cellsFrom (s.heap.objs.size + 1) scope.names []).lookup y.1).isSome = true) := fun ⟨n, v⟩ hy => by
  rcases S.par n (List.of_mem_zip hy).1 with q | q
  ·exact .inl q
  ·exact .inr ⟨q, PySem.W.cellsFrom_some _ _ _ (.inl q)⟩
 refine codeAny_call_function hr.depth (KX _ _ lk) rfl S.co S.gen rfl (PySem.W.codeRec_of KX hcd) (hb _ _ _ _ ?_)
 refine wpAny_newFunctionEnv_cells S.kind wU fun env he s1 x => ?_
 subst he
 refine ⟨lim.keeps x.toInCall.keep, codeAny_func ?_⟩
 obtain ⟨t, ht, hq⟩ := fv A outer s H vs Q E (hr.deeper _) hsp
 have I : Inv (bM CX P w K mg base N qual scope f cdv A outer s H E) [] (start N vs) H s1 := AS S hr.hd e0 hl r x
 refine wpAny_mono (ht [] s1 (start N vs) H _ I hq) (fun fl s' hs => ?_) fun e s' hs => hs
 have fin : ∀ {σ' : St} {H' : Hp} {v : V} {u : Value}, Inv (bM CX P w K mg base N qual scope f cdv A outer s H E) [] σ' H' s' → RelV v u → Q v H' → CE outer P w H s Q u s' :=
  fun {σ' H' v u} J rv q => ⟨v, H', J.os, J.bare, J.base, J.ax, rv, q⟩
 cases fl with
 | ret u =>
  obtain ⟨v, σ', H', J, rv, q⟩ := hs
  exact fin J rv q
 | next =>
  obtain ⟨σ', H', J, q⟩ := hs
  exact fin (v := V.au) (u := Value.none) J rfl q
 | brk =>
  obtain ⟨_, _, _, q⟩ := hs
  exact False.elim q
 | cont =>
  obtain ⟨_, _, _, q⟩ := hs
  exact False.elim q
end L2
namespace L2
open PySem PySem.Spec PyProof.Rows
section
variable {X : Cx} {x : Str} {p pos : Pos} {e : Expr} {es : List Expr} {t : TA} {id T : String} {r : List V → Hp → VK → Prop}
def iQ (r : List V → Hp → VK → Prop) (t : TA) : TE := fun σ H Q => t σ H fun vs H1 => r vs H1 Q
theorem JR (hc : bX X (.builtin id) r) (hg : Gl X x) (hm : X.mg x = none) (hv : bootBuiltins x = some (.builtin id)) (ha : PA X (e :: es) t) (hn : x ≠ "__name__" := by decide) (hdb : (x == ("__debug__" : Str)) = false := by decide)
  (he : starEach (e :: es) X.env = (false, eval e X.env) :: starEach es X.env := by rfl) (hpl : (backTo pos (starEach es X.env)).any (·.1) = false := by rfl) : PE X (.Call (.Name x p) (e :: es) [] pos) (iQ r t) := by
 intro pins s σ H Q I h
 refine wpAny_Call_Name_kw (hV I hg hm hv ?_ hn hdb)
 exact PyProof.Rows.callWith_builtin1 (aA (ha pos pins s σ H _ I h) fun us s1 ⟨vs, H1, I1, r1, q1⟩ => hc pins s1 σ H1 vs us Q I1 r1 q1) he hpl
theorem Jo (hc : bX X (.type T) r) (hg : Gl X x) (hm : X.mg x = none) (hv : bootBuiltins x = some (.type T)) (ha : PA X (e :: es) t) (hn : x ≠ "__name__" := by decide) (hdb : (x == ("__debug__" : Str)) = false := by decide)
  (he : starEach (e :: es) X.env = (false, eval e X.env) :: starEach es X.env := by rfl) (hpl : (backTo pos (starEach es X.env)).any (·.1) = false := by rfl) : PE X (.Call (.Name x p) (e :: es) [] pos) (iQ r t) := by
 intro pins s σ H Q I h
 refine wpAny_Call_Name_kw (hV I hg hm hv ?_ hn hdb)
 exact PyProof.Rows.callWith_type1 (aA (ha pos pins s σ H _ I h) fun us s1 ⟨vs, H1, I1, r1, q1⟩ => hc pins s1 σ H1 vs us Q I1 r1 q1) he hpl
end
end L2
namespace HT
open PySem PyProof.Rows
section
open PySem.SeqAt
open PySem.AutoSeq1 (wpAny_loadPart')
open PySem.MeetsSeq PySem.MeetsSeq2 PySem.MeetsSeq3
end
section
variable {prog : Program} {w : World} {A : Around} {E : Value → Shared → Prop} {s : Shared}
def dJ (n d : Nat) : Option Int → Nat
 | none => d
 | some v => if v < 0 then (v + (n : Int)).toNat else min v.toNat n
end
end HT
namespace L2
open PySem PySem.Spec PyProof.Rows
abbrev TO := St → Hp → (Option Int → Hp → Prop) → Prop
def PO (X : Cx) (e : Option Expr) (t : TO) : Prop :=
 ∀ (pins : List (Addr × Obj)) (s : Shared) (σ : St) (H : Hp) (Q : Option Int → Hp → Prop), Inv X pins σ H s → t σ H Q →
  wpAny (model X.prog X.w) X.A (evalPart e X.env) (fun u s' => ∃ o H', Inv X pins σ H' s' ∧ IsPart u o ∧ Q o H') X.xe s
def rT : TO := fun _ H Q => Q none H
section
variable {X : Cx} {e : Expr} {te : TE} {lo hi : Option Expr} {tl th : TO} {pos p2 : Pos}
theorem FD : PO X none rT := by
 intro pins s σ H Q I h
 rw [evalPart_none]
 exact wpAny_pure ⟨none, H, I, .none, h⟩
def fH (X : Cx) (r : V → Option Int → Option Int → Hp → VK → Prop) : Prop :=
 ∀ (pins : List (Addr × Obj)) (s : Shared) (σ : St) (H : Hp) (x : V) (v vl vu : Value) (lo hi : Option Int) (sl : Addr) (Q : VK), Inv X pins σ H s → RelV x v → s.heap.IsSliceOf sl vl vu .none → IsPart vl lo → IsPart vu hi → r x lo hi H Q →
  ∃ T id, typeLookup (.type T) "__getitem__" = pure (some (.builtin id)) ∧ s.TypeIs v T ∧ wpAny (model X.prog X.w) X.A (getItem v (.ref sl)) (EP X pins σ Q) X.xe s
theorem fH.or {r r' : V → Option Int → Option Int → Hp → VK → Prop} (h : fH X r) (h' : fH X r') : fH X (fun x lo hi H Q => r x lo hi H Q ∨ r' x lo hi H Q) := by
 intro pins s σ H x v vl vu lo hi sl Q I rx hs pl pu q
 rcases q with q | q
 ·exact h pins s σ H x v vl vu lo hi sl Q I rx hs pl pu q
 ·exact h' pins s σ H x v vl vu lo hi sl Q I rx hs pl pu q
def vG (r : V → Option Int → Option Int → Hp → VK → Prop) (te : TE) (tl th : TO) : TE := fun σ H Q => te σ H fun x H1 => tl σ H1 fun l H2 => th σ H2 fun u H3 => r x l u H3 Q
theorem Hj {r : V → Option Int → Option Int → Hp → VK → Prop} (hr : fH X r) (he : PE X e te) (hl : PO X lo tl) (hu : PO X hi th) : PE X (.Subscript e (.Slice lo hi none p2) pos) (vG r te tl th) := by
 intro pins s σ H Q I h
 refine Subscript_ (aA (he pins s σ H _ I h) fun v s1 ⟨x, H1, I1, r1, q1⟩ => ?_)
 refine wpAny_Slice (aA (hl pins s1 σ H1 _ I1 q1) fun vl s2 ⟨l, H2, I2, pl, q2⟩ => aA (hu pins s2 σ H2 _ I2 q2) fun vu s3 ⟨u, H3, I3, pu, q3⟩ => ?_)
 rw [evalPart_none]
 refine wpAny_pure ?_
 have I4 : Inv X pins σ H3 { s3 with heap := s3.heap.push { cls := .type "slice", data := .fields #[vl, vu, .none] } } := I3.kept (t' := s3.toks) fun b ob q => Heap.get?_push_of_some _ q
 obtain ⟨T, id, hT, ht, hg⟩ := hr pins { s3 with heap := s3.heap.push { cls := .type "slice", data := .fields #[vl, vu, .none] } } σ H3 x v vl vu l u s3.heap.objs.size Q I4 r1 (Heap.IsSliceOf.new ..) pl pu q3
 show wpAny (model X.prog X.w) X.A (subscriptTail e (.Slice lo hi none p2) v (.ref s3.heap.objs.size)) (EP X pins σ Q) X.xe { s3 with heap := s3.heap.push { cls := .type "slice", data := .fields #[vl, vu, .none] } }
 exact tail_any (ops := [.ref s3.heap.objs.size, v]) ht hT hg (by with_unfolding_all rfl)
def jE (xs : List V) (lo hi : Option Int) : List V := (xs.drop (HT.dJ xs.length 0 lo)).take (HT.dJ xs.length xs.length hi - HT.dJ xs.length 0 lo)
theorem GI (xs : List V) (lo hi : Option Int) : (jE xs lo hi).length ≤ xs.length := by
 unfold jE
 rw [List.length_take, List.length_drop]
 omega
end
end L2
namespace L2
open PySem PySem.Spec PyProof.Rows
def eK (n : Nat) (i : Int) : Option Nat := if 0 ≤ i then (if i < n then some i.toNat else none) else if -(n : Int) ≤ i then some (i + n).toNat else none
def bu {α : Type} (xs : List α) (i : Int) : Option α := (eK xs.length i).bind fun j => xs[j]?
theorem Ap {n : Nat} {i : Int} {j : Nat} (h : eK n i = some j) : seqIndex? i n = some j ∧ j < n ∧ -(n : Int) ≤ i ∧ i < n := by
 unfold eK at h
 by_cases h0 : 0 ≤ i
 ·rw [if_pos h0] at h
  by_cases h1 : i < n
  ·rw [if_pos h1] at h
   have e : i.toNat = j := Option.some.inj h
   exact ⟨by rw [seqIndex_of h0 h1, e], by omega, by omega, h1⟩
  ·rw [if_neg h1] at h; cases h
 ·rw [if_neg h0] at h
  by_cases h1 : -(n : Int) ≤ i
  ·rw [if_pos h1] at h
   have e : (i + n).toNat = j := Option.some.inj h
   exact ⟨by rw [seqIndex_neg (by omega) h1, e], by omega, h1, by omega⟩
  ·rw [if_neg h1] at h; cases h
theorem tu {α : Type} {xs : List α} {i : Int} {v : α} (h : bu xs i = some v) : ∃ j, seqIndex? i xs.length = some j ∧ xs[j]? = some v ∧ j < xs.length ∧ -(xs.length : Int) ≤ i ∧ i < xs.length := by
 unfold bu at h
 cases e : eK xs.length i with
 | none => rw [e] at h; cases h
 | some j =>
  rw [e] at h
  obtain ⟨h1, h2, h3, h4⟩ := Ap e
  exact ⟨j, h1, h, h2, h3, h4⟩
theorem lX {α : Type} {xs : List α} {j : Nat} {v : α} (h : xs[j]? = some v) : bu xs (j : Int) = some v := by
 have hj : j < xs.length := (List.getElem?_eq_some_iff.mp h).1
 have e : eK xs.length (j : Int) = some j := by
  unfold eK
  rw [if_pos (by omega), if_pos (by omega)]; simp
 unfold bu; rw [e]; exact h
theorem o7 {α : Type} (xs : List α) (v : α) : bu (xs ++ [v]) (-1) = some v := by
 have hl : (xs ++ [v]).length = xs.length + 1 := by simp
 have e : eK (xs ++ [v]).length (-1) = some xs.length := by
  unfold eK
  rw [hl, if_neg (by decide), if_pos (by omega)]
  congr 1
  omega
 unfold bu
 rw [e]
 show (xs ++ [v])[xs.length]? = some v
 simp
def yE (b : Expr) : Prop := ∀ o i, subscripted b false o i = operate [o, i] (getItem o i)
def di (X : Cx) (r : R2) : Prop :=
 ∀ (value slice : Expr) (pins : List (Addr × Obj)) (s : Shared) (σ : St) (H : Hp) (x y : V) (v u : Value) (Q : VK), Inv X pins σ H s → RelV x v → RelV y u → r x y H Q →
  subscripted slice false v u = operate [v, u] (getItem v u) → wpAny (model X.prog X.w) X.A (subscriptTail value slice v u) (EP X pins σ Q) X.xe s
def cI (X : Cx) (id : String) (r : V → List V → Hp → VK → Prop) : Prop :=
 ∀ (pins : List (Addr × Obj)) (s : Shared) (σ : St) (H : Hp) (x : V) (xs : List V) (v : Value) (us : List Value) (Q : VK), Inv X pins σ H s → RelV x v → Vals xs us → r x xs H Q →
  wpAny (model X.prog X.w) X.A (call (.builtin id) (v :: us)) (EP X pins σ Q) X.xe s
section
variable {X : Cx} {a b : Expr} {ta tb : TE} {pos : Pos}
theorem di.or {r r' : R2} (h : di X r) (h' : di X r') : di X (fun x y H Q => r x y H Q ∨ r' x y H Q) := by
 intro value slice pins s σ H x y v u Q I rx ry q hs
 rcases q with q | q
 ·exact h value slice pins s σ H x y v u Q I rx ry q hs
 ·exact h' value slice pins s σ H x y v u Q I rx ry q hs
theorem NV {r : R2} (hr : di X r) (ha : PE X a ta) (hb : PE X b tb) (hs : yE b) : PE X (.Subscript a b pos) (gj r ta tb) := by
 intro pins s σ H Q I h
 exact Subscript_ (sU ha hb I h fun v u s2 x y H2 I2 rx ry q => hr a b pins s2 σ H2 x y v u Q I2 rx ry q (hs _ _))
def yr (K : PySem.W.Frag) : R2 := fun x y H Q => ∃ p xs i v, x = .ref p ∧ y = .int i ∧ aJ K H p xs ∧ bu xs i = some v ∧ Q v H
def zy (K : PySem.W.Frag) : R2 := fun x y H Q => ∃ p xs i v, x = .ref p ∧ y = .int i ∧ cn K H p xs ∧ bu xs i = some v ∧ Q v H
def xJ : R2 := fun x y H Q => ∃ z i c, x = .str z ∧ y = .int i ∧ z.length ≤ sizeLine ∧ bu z.cps.toList i = some c ∧ Q (.str ⟨#[c]⟩) H
theorem Bd : di X (yr X.K) := by
 intro value slice pins s σ H x y v u Q I rx ry h hs
 obtain ⟨p, xs, i, z, rfl, rfl, hq, he, q⟩ := h
 cases rx
 obtain ⟨t, rfl⟩ := ry
 obtain ⟨its, r, pl, hz⟩ := I.list hq
 obtain ⟨j, h1, h2, h3, h4, h5⟩ := tu he
 obtain ⟨w, ew, rw'⟩ := r.get h2
 have hl := r.length
 have hn := lP
 have fin : EP X pins σ Q w s := ⟨z, H, I, rw', q⟩
 by_cases h0 : 0 ≤ i
 ·have hj : i.toNat = j := by
   rw [seqIndex_of h0 h5] at h1
   exact Option.some.inj h1
  exact item_listR pl.isList h0 (by omega) (by rw [hj]; simpa using ew) fin hs
 ·have hj : (i + (its.toArray.size : Int)).toNat = j := by
   rw [seqIndex_neg (by omega) h4] at h1
   rw [List.size_toArray, ← hl]
   exact Option.some.inj h1
  exact subscriptTail_builtinR (x := w) pl.isList.typeIs slot_list_getitem.lookup
   (wpAny_getItem_list_neg (Q := fun r s' => r = w ∧ EP X pins σ Q r s') pl.isList (by omega) (by rw [List.size_toArray] <;> omega) (by omega) (by rw [hj]; simpa using ew) ⟨rfl, fin⟩) hs
theorem EE : di X (zy X.K) := by
 intro value slice pins s σ H x y v u Q I rx ry h hs
 obtain ⟨p, xs, i, z, rfl, rfl, hq, he, q⟩ := h
 cases rx
 obtain ⟨t, rfl⟩ := ry
 obtain ⟨its, r, pl, hz⟩ := I.tuple hq
 obtain ⟨j, h1, h2, h3, h4, h5⟩ := tu he
 obtain ⟨w, ew, rw'⟩ := r.get h2
 have hl := r.length
 have hn := lP
 have fin : EP X pins σ Q w s := ⟨z, H, I, rw', q⟩
 exact subscriptTail_builtinR (x := w) pl.typeIs slot_tuple_getitem.lookup
  (getItem_tuple (j := j) (Q := fun r s' => r = w ∧ EP X pins σ Q r s') pl (by omega) (by omega) (by rw [List.size_toArray, ← hl]; exact h1) (by simpa using ew) ⟨rfl, fin⟩) hs
theorem Ou : di X xJ := by
 intro value slice pins s σ H x y v u Q I rx ry h hs
 obtain ⟨z, i, c, rfl, rfl, hz, he, q⟩ := h
 obtain ⟨t, rfl⟩ := rx
 obtain ⟨t', rfl⟩ := ry
 obtain ⟨j, h1, h2, h3, h4, h5⟩ := tu he
 have hl : z.cps.toList.length = z.length := by simp [Str.length]
 rw [hl] at h1 h4 h5
 have hn := lP
 exact tail_any (typeIs_str s z t) slot_str_getitem.lookup (getItem_str (c := c) (by
  have e1 : decide (i < -(2 ^ 63 : Int)) = false := decide_eq_false (by omega)
  have e2 : decide (i ≥ 2 ^ 63) = false := decide_eq_false (by omega)
  rw [e1, e2, Bool.or_false]) (by rw [h1]; simpa using h2) ⟨.str ⟨#[c]⟩, H, I.tok _, ⟨_, rfl⟩, q⟩) hs
def Gn (K : PySem.W.Frag) : R2 := fun x y H Q => yr K x y H Q ∨ zy K x y H Q ∨ xJ x y H Q
theorem JS : di X (Gn X.K) := Bd.or (EE.or Ou)
theorem Ni (its : List Value) (n j : Nat) (u : Value) : Obj.mapSeq (·.setIfInBounds j u) { cls := .type "list", data := .seq its.toArray n } = { cls := .type "list", data := .seq (its.set j u).toArray n } := by
 simp [Obj.mapSeq]
theorem Inv.lst {pins : List (Addr × Obj)} {σ : St} {H : Hp} {s : Shared} {p : Addr} {xs : List V} (I : Inv X pins σ H s) (h : H p = some (.lst xs)) :
  ∃ (its : List Value) (n : Nat), Vals xs its ∧ s.heap.get? p = some { cls := .type "list", data := .seq its.toArray n } ∧ xs.length ≤ sizeLine := by
 obtain ⟨z, its, n, r, e⟩ := I.ax p _ h
 exact ⟨its, n, r, e, z⟩
theorem Inv.N7 {pins : List (Addr × Obj)} {σ : St} {H : Hp} {s : Shared} {p : Addr} {xs ys : List V} {its its' : List Value} {n n' : Nat} {f : Obj → Obj} (I : Inv X pins σ H s) (h : H p = some (.lst xs))
  (ho : s.heap.get? p = some { cls := .type "list", data := .seq its.toArray n }) (hf : f { cls := .type "list", data := .seq its.toArray n } = { cls := .type "list", data := .seq its'.toArray n' }) (r : Vals ys its') (hz : ys.length ≤ sizeLine) (t : Nat) :
  Inv X pins σ (upd H p (.lst ys)) { s with heap := s.heap.update p f, toks := t } := by
 have e : (s.heap.update p f).get? p = some { cls := .type "list", data := .seq its'.toArray n' } := by
  rw [Heap.get?_update_self f ho (by rw [hf] <;> rfl), hf]
 refine I.write (x := p) (e := p) (by rw [h]; trivial) (.inl rfl) (fun b u hb q => (Heap.get?_update_other _ _ (Ne.symm hb)).trans q) ⟨_, e⟩ ?_
 exact ⟨hz, its', n', r, e⟩
def MZ : V → V → V → Hp → (Hp → Prop) → Prop := fun o i v H Q => ∃ p xs k j, o = .ref p ∧ i = .int k ∧ H p = some (.lst xs) ∧ eK xs.length k = some j ∧ Q (upd H p (.lst (xs.set j v)))
theorem set_list : pG X MZ := by
 intro pins s σ H o i v ov iv u Q I ro ri rv h
 obtain ⟨p, xs, k, j, rfl, rfl, hp, hj, q⟩ := h
 cases ro
 obtain ⟨t, rfl⟩ := ri
 obtain ⟨its, n, r, ho, hz⟩ := I.lst hp
 obtain ⟨h1, h2, h3, h4⟩ := Ap hj
 have hl := r.length
 have hn := lP
 have I' : Inv X pins σ (upd H p (.lst (xs.set j v))) { s with heap := s.heap.update p (Obj.mapSeq (·.setIfInBounds j u)) } :=
  I.N7 hp ho (Ni its n j u) (r.set rv j) (by rw [List.length_set]; exact hz) s.toks
 by_cases h0 : 0 ≤ k
 ·have hk : k.toNat = j := by
   rw [seqIndex_of h0 h4] at h1
   exact Option.some.inj h1
  exact PySem.W.ki_setAt ho h0 (by omega) (by rw [List.size_toArray, ← hl]; exact h4) (by rw [hk]; exact ⟨_, I', q⟩)
 ·have hk : (k + (its.toArray.size : Int)).toNat = j := by
   rw [seqIndex_neg (by omega) h3] at h1
   rw [List.size_toArray, ← hl]
   exact Option.some.inj h1
  exact PySem.W.ki_setBack ho (by omega) (by rw [List.size_toArray, ← hl]; exact h3) (by omega) (by rw [hk]; exact ⟨_, I', q⟩)
theorem Nk (lo hi : Option Int) (n : Nat) : (sliceBounds lo hi none n).1 = ((HT.dJ n 0 lo : Nat) : Int) ∧ (sliceBounds lo hi none n).2.1 = ((HT.dJ n n hi : Nat) : Int) ∧ (sliceBounds lo hi none n).2.2 = 1 := by
 refine ⟨?_, ?_, rfl⟩
 ·cases lo with
  | none => simp [sliceBounds, HT.dJ]
  | some i =>
   simp only [sliceBounds, HT.dJ, Option.getD_none, show (1 : Int) > 0 by decide, if_true]
   by_cases h : i < 0
   ·simp only [h, if_true] <;> omega
   ·simp only [h, if_false] <;> omega
 ·cases hi with
  | none => simp [sliceBounds, HT.dJ]
  | some i =>
   simp only [sliceBounds, HT.dJ, Option.getD_none, show (1 : Int) > 0 by decide, if_true]
   by_cases h : i < 0
   ·simp only [h, if_true] <;> omega
   ·simp only [h, if_false] <;> omega
theorem MB (its : List Value) (lo hi : Option Int) : slicePick its.toArray lo hi none = ((its.drop (HT.dJ its.length 0 lo)).take (HT.dJ its.length its.length hi - HT.dJ its.length 0 lo)).toArray := by
 obtain ⟨h1, h2, h3⟩ := Nk lo hi its.toArray.size
 unfold slicePick
 rw [h1, h2, h3]
 simp only [sliceRange_one, pick_run, List.size_toArray] <;> rfl
def Il (K : PySem.W.Frag) : V → Option Int → Option Int → Hp → VK → Prop := fun x lo hi H Q => ∃ a xs, x = .ref a ∧ aJ K H a xs ∧ ∀ p, H p = none → Q (.ref p) (upd H p (.lst (jE xs lo hi)))
theorem Nl : fH X (Il X.K) := by
 intro pins s σ H x v vl vu lo hi sl Q I rx hs pl pu h
 obtain ⟨a, xs, rfl, hx, q⟩ := h
 cases rx
 obtain ⟨its, r, ht, hz⟩ := I.list hx
 have hlen := r.length
 refine ⟨"list", _, slot_list_getitem.lookup, ht.isList.typeIs, ?_⟩
 refine wpAny_getItem_list_slice ht.isList hs pl pu .none (by simp) ?_ (by rw [List.size_toArray] <;> omega)
 rw [MB, ← hlen]
 refine ⟨.ref s.heap.objs.size, _, I.laid (t' := s.toks) (o := .lst (jE xs lo hi)) (fun b ob q => Heap.get?_push_of_some _ q) (Nat.le_refl _) ?_, rfl, q _ (I.ax.fresh (Nat.le_refl _))⟩
 exact ⟨Nat.le_trans (GI xs lo hi) hz, _, 0, (r.drop (HT.dJ xs.length 0 lo)).take (HT.dJ xs.length xs.length hi - HT.dJ xs.length 0 lo), Heap.get?_push_size _ rfl⟩
def dm : V → Bool
 | .au => true
 | .bl _ => true
 | .int _ => true
 | .str _ => true
 | _ => false
def eD : V → V → Bool
 | .au, .au => true
 | .bl a, .bl b => a == b
 | .bl a, .int b => (if a then 1 else 0) == b
 | .int a, .bl b => a == (if b then 1 else 0)
 | .int a, .int b => a == b
 | .str a, .str b => a == b
 | _, _ => false
theorem xN {A : Around} {s : Shared} {y x : V} {u v : Value} (ry : RelV y u) (rx : RelV x v) (fy : dm y = true) (fx : dm x = true) : SeqAt.EqAt A s u v (eD y x) := by
 cases y with
 | au =>
  cases ry
  cases x with
  | au => cases rx; exact SeqAt.EqAt.same _
  | bl b => cases rx; exact SeqAt.EqAt.none_bool b
  | int b => obtain ⟨t, rfl⟩ := rx; exact SeqAt.EqAt.none_int b t
  | str b => obtain ⟨t, rfl⟩ := rx; exact SeqAt.EqAt.none_str b t
  | _ => exact absurd (show false = true from fx) Bool.false_ne_true
 | bl a =>
  cases ry
  cases x with
  | au => cases rx; exact SeqAt.EqAt.bool_none a
  | bl b => cases rx; exact SeqAt.EqAt.bool_bool a b
  | int b => obtain ⟨t, rfl⟩ := rx; exact SeqAt.EqAt.bool_int a b t
  | str b => obtain ⟨t, rfl⟩ := rx; exact SeqAt.EqAt.bool_str a b t
  | _ => exact absurd (show false = true from fx) Bool.false_ne_true
 | int a =>
  obtain ⟨t', rfl⟩ := ry
  cases x with
  | au => cases rx; exact SeqAt.EqAt.int_none a t'
  | bl b => cases rx; exact SeqAt.EqAt.int_bool a t' b
  | int b => obtain ⟨t, rfl⟩ := rx; exact SeqAt.EqAt.int_int a t' b t
  | str b => obtain ⟨t, rfl⟩ := rx; exact SeqAt.EqAt.int_str a t' b t
  | _ => exact absurd (show false = true from fx) Bool.false_ne_true
 | str a =>
  obtain ⟨t', rfl⟩ := ry
  cases x with
  | au => cases rx; exact SeqAt.EqAt.str_none a t'
  | bl b => cases rx; exact SeqAt.EqAt.str_bool a t' b
  | int b => obtain ⟨t, rfl⟩ := rx; exact SeqAt.EqAt.str_int a t' b t
  | str b => obtain ⟨t, rfl⟩ := rx; exact SeqAt.EqAt.str_str a t' b t
  | _ => exact absurd (show false = true from fx) Bool.false_ne_true
 | _ => exact absurd (show false = true from fy) Bool.false_ne_true
def dH (x : V) (u : Value) : Bool := match u with
 | .none => eD .au x
 | .bool b => eD (.bl b) x
 | .int i _ => eD (.int i) x
 | .str z _ => eD (.str z) x
 | _ => false
theorem BD {x y : V} {u : Value} (r : RelV y u) (f : dm y = true) : dH x u = eD y x := by
 cases y with
 | au => cases r; rfl
 | bl b => cases r; rfl
 | int i => obtain ⟨t, rfl⟩ := r; rfl
 | str z => obtain ⟨t, rfl⟩ := r; rfl
 | _ => exact absurd (show false = true from f) Bool.false_ne_true
theorem mF {x : V} : ∀ {xs : List V} {us : List Value}, Vals xs us → xs.all dm = true → us.any (dH x) = xs.any fun y => eD y x
 | _, _, .nil, _ => rfl
 | y :: xs, u :: us, .cons r t, f => by
  rw [List.all_cons, Bool.and_eq_true] at f
  rw [List.any_cons, List.any_cons, BD r f.1, mF t f.2]
theorem mO {A : Around} {s : Shared} {x : V} {v : Value} (rx : RelV x v) (fx : dm x = true) : ∀ {xs : List V} {us : List Value}, Vals xs us → xs.all dm = true → ∀ u ∈ us, SeqAt.EqAt A s u v (dH x u)
 | _, _, .nil, _ => fun u hu => by cases hu
 | y :: xs, u :: us, .cons r t, f => fun u' hu => by
  rw [List.all_cons, Bool.and_eq_true] at f
  rcases List.mem_cons.mp hu with rfl | hu
  ·rw [BD r f.1]; exact xN r rx f.1 fx
  ·exact mO rx fx t f.2 u' hu
def dQ (x : V) (xs : List V) : Bool := xs.any fun y => eD y x
def xP (K : PySem.W.Frag) (neg : Bool) : R2 := fun x y H Q => ∃ p xs, y = .ref p ∧ (aJ K H p xs ∨ cn K H p xs) ∧ dm x = true ∧ xs.all dm = true ∧ Q (.bl (if neg then !dQ x xs else dQ x xs)) H
theorem BG : aO X (compareOp .In) (xP X.K false) := by
 intro pins s σ H x y v u Q I rx ry h
 obtain ⟨p, xs, rfl, hq, fx, fs, q⟩ := h
 cases ry
 rcases hq with hq | hq
 ·obtain ⟨its, r, pl, hz⟩ := I.list hq
  refine SeqAt.in_listAt (dH x) pl.isList (fun w hw => mO rx fx r fs w (by simpa using hw)) ⟨.bl _, H, I, rfl, ?_⟩
  rw [show its.toArray.any (dH x) = its.any (dH x) by simp, mF r fs]
  exact q
 ·obtain ⟨its, r, pl, hz⟩ := I.tuple hq
  refine SeqAt.in_tupleAt (dH x) pl (fun w hw => mO rx fx r fs w (by simpa using hw)) ⟨.bl _, H, I, rfl, ?_⟩
  rw [show its.toArray.any (dH x) = its.any (dH x) by simp, mF r fs]
  exact q
theorem Ii : aO X (compareOp .NotIn) (xP X.K true) := by
 intro pins s σ H x y v u Q I rx ry h
 obtain ⟨p, xs, rfl, hq, fx, fs, q⟩ := h
 cases ry
 rcases hq with hq | hq
 ·obtain ⟨its, r, pl, hz⟩ := I.list hq
  refine SeqAt.notIn_listAt (dH x) pl.isList (fun w hw => mO rx fx r fs w (by simpa using hw)) ⟨.bl _, H, I, rfl, ?_⟩
  rw [show its.toArray.any (dH x) = its.any (dH x) by simp, mF r fs]
  exact q
 ·obtain ⟨its, r, pl, hz⟩ := I.tuple hq
  refine SeqAt.notIn_tupleAt (dH x) pl (fun w hw => mO rx fx r fs w (by simpa using hw)) ⟨.bl _, H, I, rfl, ?_⟩
  rw [show its.toArray.any (dH x) = its.any (dH x) by simp, mF r fs]
  exact q
def GK (K : PySem.W.Frag) (T : String) (x : V) (H : Hp) : Prop := match x with
 | .str _ => T = "str"
 | .int _ => T = "int"
 | .ref p => (T = "list" ∧ ∃ xs, aJ K H p xs) ∨ (T = "tuple" ∧ ∃ o, K.lookup p = some o ∧ o.cls = .type "tuple" ∧ o.dict = none) ∨
   (T = "dict" ∧ ((∃ kvs, H p = some (.dK kvs)) ∨ ∃ kvs, H p = some (.dT kvs))) ∨ (T = "set" ∧ ∃ S n, H p = some (.set S n))
 | _ => False
theorem qw {pins : List (Addr × Obj)} {σ : St} {H : Hp} {s : Shared} {T : String} {x : V} {v : Value} (I : Inv X pins σ H s) (r : RelV x v) (ty : GK X.K T x H) :
  s.TypeIs v T ∧ ∀ a, v = .ref a → ∃ ob, s.heap.get? a = some ob ∧ ob.dict = none := by
 cases x with
 | str z =>
  obtain ⟨t, rfl⟩ := r
  cases (show T = "str" from ty)
  exact ⟨typeIs_str s z t, fun _ e => nomatch e⟩
 | int i =>
  obtain ⟨t, rfl⟩ := r
  cases (show T = "int" from ty)
  exact ⟨typeIs_int s i t, fun _ e => nomatch e⟩
 | ref p =>
  cases r
  rcases ty with ⟨rfl, xs, hq⟩ | ⟨rfl, o, hk, hc, hd⟩ | ⟨rfl, hk⟩ | ⟨rfl, S, n, hk⟩
  ·obtain ⟨its, _, pl, _⟩ := I.list hq
   refine ⟨pl.isList.typeIs, fun a e => ?_⟩
   cases e
   obtain ⟨o, n, e, c, hd, _⟩ := pl
   exact ⟨o, e, hd⟩
  ·refine ⟨⟨o, I.bx p o hk, hc⟩, fun a e => ?_⟩
   cases e
   exact ⟨o, I.bx _ o hk, hd⟩
  ·have z : ∃ o, s.heap.get? p = some o ∧ o.ExactDict := by
    rcases hk with ⟨kvs, hk⟩ | ⟨kvs, hk⟩
    ·obtain ⟨_, _, _, _, o, _, _, e, ex, _⟩ := I.ax p _ hk
     exact ⟨o, e, ex⟩
    ·obtain ⟨_, _, _, _, o, _, _, e, ex, _⟩ := I.ax p _ hk
     exact ⟨o, e, ex⟩
   obtain ⟨o, e, ex⟩ := z
   refine ⟨⟨o, e, ex.1⟩, fun a e2 => ?_⟩
   cases e2
   exact ⟨o, e, ex.2.1⟩
  ·obtain ⟨o, _, _, _, e, ex, _⟩ := I.ax p _ hk
   refine ⟨⟨o, e, ex.1⟩, fun a e2 => ?_⟩
   cases e2
   exact ⟨o, e, ex.2.1⟩
 | _ => exact False.elim ty
variable {o e : Expr} {es : List Expr} {to : TE} {t : TA} {name : Str} {apos aY : Pos} {T id : String} {r : V → List V → Hp → VK → Prop}
/- xs.append(e), list.index on a module's tuple .. are cI facts of 06m -/
end
end L2
namespace L2
open PySem PySem.Spec PyProof.Rows
def BF (X : Cx) (id : String) (r : V → List V → Hp → VK → Prop) : Prop :=
 ∀ (pins : List (Addr × Obj)) (s : Shared) (σ : St) (H : Hp) (x : V) (xs : List V) (v : Value) (us : List Value) (Q : VK), Inv X pins σ H s → RelV x v → Vals xs us → r x xs H Q →
  wpAny (model X.prog X.w) X.A (call (.builtin id) (v :: us)) (EP X pins σ Q) X.xe s
theorem Vals.one : ∀ {x : V} {us : List Value}, Vals [x] us → ∃ u, us = [u] ∧ RelV x u
 | _, _, .cons r .nil => ⟨_, rfl, r⟩
theorem Vals.zero : ∀ {us : List Value}, Vals [] us → us = []
 | _, .nil => rfl
theorem Vals.dropLast {xs : List V} {us : List Value} (h : Vals xs us) : Vals xs.dropLast us.dropLast := by
 induction h with
 | nil => exact .nil
 | cons r t ih =>
  cases t with
  | nil => exact .nil
  | cons q t' => exact .cons r ih
theorem Vals.rep {xs : List V} {us : List Value} (h : Vals xs us) : ∀ k : Nat, Vals (List.replicate k xs).flatten (List.replicate k us).flatten
 | 0 => .nil
 | k + 1 => by
  rw [List.replicate_succ, List.replicate_succ, List.flatten_cons, List.flatten_cons]
  exact Vals.append h (Vals.rep h k)
theorem FI {α : Type} (l : List α) : l.eraseIdx (l.length - 1) = l.dropLast := by
 induction l with
 | nil => rfl
 | cons a r ih =>
  cases r with
  | nil => rfl
  | cons b r =>
   have e : (a :: b :: r).length - 1 = ((b :: r).length - 1) + 1 := by
    have h1 : (a :: b :: r).length = r.length + 2 := rfl
    have h2 : (b :: r).length = r.length + 1 := rfl
    omega
   rw [e, List.eraseIdx_cons_succ, ih]
   all_goals rfl
theorem foldl_rep (its : List Value) : ∀ (k : Nat) (acc : List Value),
  List.foldl (fun x1 x2 => x1 ++ x2) acc.toArray (List.replicate k its.toArray) = (acc ++ (List.replicate k its).flatten).toArray
 | 0, acc => by simp
 | k + 1, acc => by
  have e : acc.toArray ++ its.toArray = (acc ++ its).toArray := by simp
  have e2 : (acc ++ its) ++ (List.replicate k its).flatten = acc ++ (List.replicate (k + 1) its).flatten := by
   rw [List.replicate_succ, List.flatten_cons, List.append_assoc]
  rw [← e2, ← foldl_rep its k (acc ++ its), ← e, List.replicate_succ, List.foldl_cons]
section
variable {X : Cx} {pins : List (Addr × Obj)} {σ : St} {H : Hp} {s : Shared} {l b : Addr} {xs ys zs : List V}
theorem Inv.zQ {its its' : List Value} {n : Nat} {f : Array Value → Array Value} {t' : Nat} (I : Inv X pins σ H s) (hH : H l = some (.lst xs))
  (e : s.heap.get? l = some { cls := .type "list", data := .seq its.toArray n }) (hf : f its.toArray = its'.toArray) (hv : Vals ys its') (hz : ys.length ≤ sizeLine) :
  Inv X pins σ (upd H l (.lst ys)) { s with heap := s.heap.update l (Obj.mapSeq f), toks := t' } := by
 have q := PySem.IsL.update e f
 rw [hf] at q
 refine I.write (x := l) (e := l) (by rw [hH]; exact trivial) (.inl rfl) (fun b' u hb hu => (Heap.get?_update_other s.heap (Obj.mapSeq f) (Ne.symm hb)).trans hu) ⟨_, q⟩ ?_
 exact ⟨hz, its', _, hv, q⟩
theorem Inv.xB {its : List Value} {t' : Nat} (I : Inv X pins σ H s) (hv : Vals ys its) (hz : ys.length ≤ sizeLine) :
  Inv X pins σ (upd H s.heap.objs.size (.lst ys)) { s with heap := s.heap.push { cls := .type "list", data := .seq its.toArray }, toks := t' } :=
 I.laid (fun _ _ q => Heap.get?_push_of_some _ q) (Nat.le_refl _) ⟨hz, its, 0, hv, Heap.get?_push_size _ rfl⟩
theorem Inv.fresh (I : Inv X pins σ H s) : H s.heap.objs.size = none := I.ax.fresh (Nat.le_refl _)
theorem Inv.lL (I : Inv X pins σ H s) (hH : H l = some (.lst xs)) : xs.length ≤ sizeLine ∧ ∃ (its : List Value) (n : Nat), Vals xs its ∧ xs.length = its.length ∧ s.heap.get? l = some { cls := .type "list", data := .seq its.toArray n } := by
 obtain ⟨z, its, n, r, e⟩ := I.ax l _ hH
 exact ⟨z, its, n, r, r.length, e⟩
theorem Dr {n : Nat} (h : n ≤ sizeLine) : Builtin.List.listTooLong n = false := by
 unfold Builtin.List.listTooLong
 exact decide_eq_false (by omega)
end
section
variable {X : Cx}
def IE : V → List V → Hp → VK → Prop := fun x vs H Q => ∃ l xs y, x = .ref l ∧ vs = [y] ∧ H l = some (.lst xs) ∧ xs.length < sizeLine ∧ Q .au (upd H l (.lst (xs ++ [y])))
theorem Kx : BF X "list.append" IE := by
 intro pins s σ H x vs v us Q I rx rv h
 obtain ⟨l, xs, y, rfl, rfl, hH, hz, q⟩ := h
 cases rx
 obtain ⟨u, rfl, ru⟩ := rv.one
 obtain ⟨z, its, n, r, hl, e⟩ := I.lL hH
 refine call_meets F.slot_list_append ⟨_, e, rfl⟩ F.entry_list_append (F.args_list_append_2 _ _) (PySem.list_append l its.toArray n u (by rw [List.size_toArray]; omega)) ⟨e, ?_⟩
 refine ⟨.au, _, I.zQ (its' := its ++ [u]) hH e (by simp) (r.append (.cons ru .nil)) ?_, rfl, q⟩
 rw [List.length_append, List.length_singleton]
 omega
def Bz : V → List V → Hp → VK → Prop := fun x vs H Q => ∃ l xs y, x = .ref l ∧ vs = [] ∧ H l = some (.lst xs) ∧ xs[xs.length - 1]? = some y ∧ Q y (upd H l (.lst xs.dropLast))
theorem NZ : BF X "list.pop" Bz := by
 intro pins s σ H x vs v us Q I rx rv h
 obtain ⟨l, xs, y, rfl, rfl, hH, hy, q⟩ := h
 cases rx
 have hus := rv.zero
 subst hus
 obtain ⟨z, its, n, r, hl, e⟩ := I.lL hH
 obtain ⟨u, hu, ru⟩ := r.get hy
 have hy' : its.toArray[its.toArray.size - 1]? = some u := by
  show its.toArray[its.length - 1]? = some u
  rw [← Array.getElem?_toList, ← hl]
  exact hu
 refine call_meets F.slot_list_pop ⟨_, e, rfl⟩ F.entry_list_pop (F.args_list_pop_1 _) (MeetsSeq.list_pop_last l its.toArray n u hy' (by rw [List.size_toArray]; omega)) ⟨e, ?_⟩
 refine ⟨y, _, I.zQ (its' := its.dropLast) hH e ?_ r.dropLast ?_, ru, q⟩
 ·show its.toArray.eraseIdxIfInBounds (its.toArray.size - 1) = its.dropLast.toArray
  rw [List.size_toArray, List.eraseIdxIfInBounds_toArray, FI]
 ·rw [List.length_dropLast]
  omega
def Nx : R2 := fun x y H Q => ∃ l b xs zs, x = .ref l ∧ y = .ref b ∧ H l = some (.lst xs) ∧ H b = some (.lst zs) ∧ xs.length + zs.length ≤ sizeLine ∧ ∀ p, H p = none → Q (.ref p) (upd H p (.lst (xs ++ zs)))
theorem Ir : aO X (binaryOp .Add) Nx := by
 intro pins s σ H x y v u Q I rx ry h
 obtain ⟨l, b, xs, zs, rfl, rfl, hH, hB, hz, q⟩ := h
 cases rx
 cases ry
 obtain ⟨z, its, n, r, hl, e⟩ := I.lL hH
 obtain ⟨z2, ky, n2, r2, dE, e2⟩ := I.lL hB
 refine PySem.P.add_list e e2 ?_ (by rw [List.size_toArray, List.size_toArray]; omega)
 have ea : its.toArray ++ ky.toArray = (its ++ ky).toArray := by simp
 rw [ea]
 exact ⟨.ref _, _, I.xB (t' := s.toks) (r.append r2) (by rw [List.length_append]; omega), rfl, q _ I.fresh⟩
def DZ : R2 := fun x y H Q => ∃ l k xs, x = .ref l ∧ y = .int k ∧ H l = some (.lst xs) ∧ -(2 ^ 63) ≤ k ∧ k < 2 ^ 63 ∧ xs.length * k.toNat ≤ sizeLine ∧
 ∀ p, H p = none → Q (.ref p) (upd H p (.lst (List.replicate k.toNat xs).flatten))
theorem len_rep {α : Type} (xs : List α) (k : Nat) : (List.replicate k xs).flatten.length = k * xs.length := by
 induction k with
 | zero => simp
 | succ k ih => rw [List.replicate_succ, List.flatten_cons, List.length_append, ih, Nat.succ_mul, Nat.add_comm]
theorem Ko : aO X (binaryOp .Mult) DZ := by
 intro pins s σ H x y v u Q I rx ry h
 obtain ⟨l, k, xs, rfl, rfl, hH, h1, h2, hz, q⟩ := h
 cases rx
 obtain ⟨t, rfl⟩ := ry
 obtain ⟨z, its, n, r, hl, e⟩ := I.lL hH
 have hlen : its.toArray.size * k.toNat ≤ sizeLine := by rw [List.size_toArray, ← hl]; exact hz
 have hcap : ¬ its.toArray.size * k.toNat > (2 ^ 63 - 1) / 8 := by
  have : (sizeLine : Nat) ≤ (2 ^ 63 - 1) / 8 := by decide
  omega
 have kK : ¬ (!Builtin.List.listFitsIndex k) = true := by
  rw [fitsIndex_both h1 h2]
  exact Bool.false_ne_true
 have hlong : ¬ Builtin.List.listTooLong (its.toArray.size * k.toNat) = true := by
  rw [Dr hlen]
  exact Bool.false_ne_true
 have hnew : List.foldl (fun x1 x2 => x1 ++ x2) #[] (List.replicate (if its.toArray.isEmpty = true then 0 else k.toNat) its.toArray) = (List.replicate k.toNat its).flatten.toArray := by
  have f0 : ∀ m : Nat, List.foldl (fun x1 x2 => x1 ++ x2) #[] (List.replicate m its.toArray) = (List.replicate m its).flatten.toArray := fun m => by
   have := foldl_rep its m []
   rw [List.nil_append] at this
   exact this
  rw [f0]
  cases its with
  | nil => simp
  | cons a r' => rw [if_neg (by simp)]
 refine wpAny_binaryOp_repeat_ref (T := "list") (U := "int") (by decide) ⟨_, e, rfl⟩ (fun s' => typeIs_int s' k t) noFill_list_mul F.fills_int_mul F.slot_int_rmul repeat_list F.slot_int_index.lookup
  (call_meets F.slot_int_rmul (typeIs_int s k t) F.entry_int_rmul (F.args_int_rmul_2 _ _) (int___rmul___int_list k t l its.toArray n)
   ⟨e, rfl, ⟨_, e, rfl⟩, call_meets F.slot_list_mul ⟨_, e, rfl⟩ F.entry_list_mul (F.args_list_mul_2 _ _) (AutoListH.list___mul___list_int_3 l its.toArray n k t kK hcap hlong) ⟨e, ?_⟩⟩)
 rw [hnew]
 exact ⟨.ref _, _, I.xB (t' := s.toks) (r.rep k.toNat) (by rw [len_rep, Nat.mul_comm]; exact hz), rfl, q _ I.fresh⟩
end
section
variable {prog : Program} {w : World} {A : Around} {E : Value → Shared → Prop} {s : Shared}
end
section
variable {X : Cx}
end
end L2
namespace L2
open PySem PySem.Spec PyProof.Rows
section
variable {κ : Type} [DecidableEq κ]
def aL (kvs : List (κ × V)) (k : κ) : Option V := (kvs.find? fun kv => decide (kv.1 = k)).map (·.2)
def putK (kvs : List (κ × V)) (k : κ) (v : V) : List (κ × V) :=
 if (kvs.any fun kv => decide (kv.1 = k)) = true then kvs.map (fun kv => if kv.1 = k then (kv.1, v) else kv) else kvs ++ [(k, v)]
theorem tG {p : κ × V} {r : List (κ × V)} {k : κ} (e : p.1 = k) : aL (p :: r) k = some p.2 := by simp [aL, List.find?_cons, e]
theorem uD {p : κ × V} {r : List (κ × V)} {k : κ} (e : ¬ p.1 = k) : aL (p :: r) k = aL r k := by simp [aL, List.find?_cons, e]
theorem vB (k : κ) : ∀ kvs : List (κ × V), (kvs.any fun kv => decide (kv.1 = k)) = (aL kvs k).isSome
 | [] => rfl
 | p :: r => by
  rw [List.any_cons]
  by_cases e : p.1 = k
  ·simp only [tG e, decide_eq_true e, Bool.true_or, Option.isSome_some]
  ·rw [uD e, decide_eq_false e, Bool.false_or]; exact vB k r
theorem z7 (kvs : List (κ × V)) (k : κ) (v : V) : (putK kvs k v).length ≤ kvs.length + 1 := by
 unfold putK
 split
 ·rw [List.length_map]; omega
 ·rw [List.length_append, List.length_cons, List.length_nil]; omega
theorem cO.mf {o : Option V} {u : Option Value} (r : cO o u) : o.isSome = u.isSome := by
 cases o with
 | none => cases u with
  | none => rfl
  | some _ => exact (show False from r).elim
 | some _ => cases u with
  | none => exact (show False from r).elim
  | some _ => rfl
theorem cO.getD {o : Option V} {u : Option Value} {d : V} {d' : Value} (r : cO o u) (rd : RelV d d') : RelV (o.getD d) (u.getD d') := by
 cases o with
 | none => cases u with
  | none => exact rd
  | some _ => exact (show False from r).elim
 | some _ => cases u with
  | none => exact (show False from r).elim
  | some _ => exact r
theorem KV.val {kvs : List (κ × V)} {vs : List (κ × Value)} (r : KV kvs vs) (k : κ) : cO (aL kvs k) (valueAt vs k) := by
 unfold KV at r
 induction r with
 | nil => exact True.intro
 | @cons p q ps qs h t ih =>
  obtain ⟨h1, h2⟩ := h
  by_cases e : p.1 = k
  ·have e' : q.1 = k := h1.symm.trans e
   have b : valueAt (q :: qs) k = some q.2 := by simp [valueAt, List.find?_cons, e']
   rw [tG e, b]; exact h2
  ·have e' : ¬ q.1 = k := fun z => e (h1.trans z)
   have b : valueAt (q :: qs) k = valueAt qs k := by simp [valueAt, List.find?_cons, e']
   rw [uD e, b]; exact ih
theorem KV.any {kvs : List (κ × V)} {vs : List (κ × Value)} (r : KV kvs vs) (k : κ) : (kvs.any fun kv => decide (kv.1 = k)) = vs.any fun kv => decide (kv.1 = k) := by
 unfold KV at r
 induction r with
 | nil => rfl
 | cons h t ih => rw [List.any_cons, List.any_cons, ih, h.1]
theorem KV.qg {kvs : List (κ × V)} {vs : List (κ × Value)} (r : KV kvs vs) (k : κ) {y : V} {u : Value} (ry : RelV y u) :
  KV (kvs.map fun kv => if kv.1 = k then (kv.1, y) else kv) (vs.map fun kv => if kv.1 = k then (kv.1, u) else kv) := by
 unfold KV at r ⊢
 induction r with
 | nil => exact .nil
 | @cons p q ps qs h t ih =>
  rw [List.map_cons, List.map_cons]
  refine .cons ?_ ih
  obtain ⟨h1, h2⟩ := h
  by_cases e : p.1 = k
  ·rw [if_pos e, if_pos (h1.symm.trans e)]; exact ⟨h1, ry⟩
  ·rw [if_neg e, if_neg (fun z => e (h1.trans z))]; exact ⟨h1, h2⟩
theorem KV.put {kvs : List (κ × V)} {vs : List (κ × Value)} (r : KV kvs vs) (k : κ) {y : V} {u : Value} (ry : RelV y u) : KV (putK kvs k y) (stored vs k u) := by
 unfold putK stored
 rw [r.any k]
 by_cases e : (vs.any fun kv => decide (kv.1 = k)) = true
 ·rw [if_pos e, if_pos e]; exact r.qg k ry
 ·rw [if_neg e, if_neg e]; exact Paired.snoc r ⟨rfl, ry⟩
theorem KV.keys {kvs : List (κ × V)} {vs : List (κ × Value)} (r : KV kvs vs) : kvs.map (·.1) = vs.map (·.1) := by
 unfold KV at r
 induction r with
 | nil => rfl
 | cons h t ih => rw [List.map_cons, List.map_cons, ih, h.1]
theorem KV.length {kvs : List (κ × V)} {vs : List (κ × Value)} (r : KV kvs vs) : kvs.length = vs.length := Paired.length r
end
theorem kf {P : Program} {w : World} {k : Key} {u : Value} (r : RelV (kV k) u) : (cJ P w).is k u = true := by
 cases k with
 | inl i => obtain ⟨t, e⟩ := (show ∃ t, u = Value.int i t from r); subst e; exact G7 P w i t
 | inr x => obtain ⟨t, e⟩ := (show ∃ t, u = Value.str x t from r); subst e; exact HW P w x t
theorem yJ {P : Program} {w : World} : ∀ {ks : List Key} {us : List Value}, Vals (ks.map kV) us → ItemsAre (cJ P w) ks us
 | [], _, r => by rw [List.map_nil] at r; cases r; exact .nil
 | k :: ks, _, r => by
  rw [List.map_cons] at r
  cases r with
  | cons h t => exact .cons (kf h) (yJ t)
abbrev KT (H : Hp) : List (List Key × V) → List (List Key × Addr × Value) → Prop := Paired fun p q => p.1 = q.1 ∧ H q.2.1 = some (.tup (p.1.map kV)) ∧ RelV p.2 q.2.2
theorem KT.val {H : Hp} {kvs : List (List Key × V)} {xs : List (List Key × Addr × Value)} (r : KT H kvs xs) (k : List Key) : cO (aL kvs k) ((atKey xs k).map (·.2)) := by
 induction r with
 | nil => exact True.intro
 | @cons p q ps qs h t ih =>
  obtain ⟨h1, _, h2⟩ := h
  by_cases e : p.1 = k
  ·have e' : q.1 = k := h1.symm.trans e
   have b : atKey (q :: qs) k = some q.2 := by simp [atKey, List.find?_cons, e']
   rw [tG e, b]; exact h2
  ·have e' : ¬ q.1 = k := fun z => e (h1.trans z)
   have b : atKey (q :: qs) k = atKey qs k := by simp [atKey, List.find?_cons, e']
   rw [uD e, b]; exact ih
theorem KT.qg {H : Hp} {kvs : List (List Key × V)} {xs : List (List Key × Addr × Value)} (r : KT H kvs xs) (k : List Key) {y : V} {u : Value} (ry : RelV y u) :
  KT H (kvs.map fun kv => if kv.1 = k then (kv.1, y) else kv) (xs.map (putAt k u)) := by
 induction r with
 | nil => exact .nil
 | @cons p q ps qs h t ih =>
  rw [List.map_cons, List.map_cons]
  refine .cons ?_ ih
  obtain ⟨h1, h2, h3⟩ := h
  unfold putAt
  by_cases e : p.1 = k
  ·rw [if_pos e, if_pos (h1.symm.trans e)]; exact ⟨h1, h2, ry⟩
  ·rw [if_neg e, if_neg (fun z => e (h1.trans z))]; exact ⟨h1, h2, h3⟩
theorem KT.put {H : Hp} {kvs : List (List Key × V)} {xs : List (List Key × Addr × Value)} (r : KT H kvs xs) (k : List Key) {b : Addr} {y : V} {u : Value} (hb : H b = some (.tup (k.map kV))) (ry : RelV y u) :
  KT H (putK kvs k y) (storedH xs k b u) := by
 have e : (kvs.any fun kv => decide (kv.1 = k)) = (atKey xs k).isSome := by
  rw [vB, (r.val k).mf, Option.isSome_map]
 unfold putK storedH
 rw [e]
 by_cases q : (atKey xs k).isSome = true
 ·rw [if_pos q, if_pos q]; exact r.qg k ry
 ·rw [if_neg q, if_neg q]; exact Paired.snoc r ⟨rfl, hb, ry⟩
theorem KT.keeps {H H' : Hp} {kvs : List (List Key × V)} {xs : List (List Key × Addr × Value)} (r : KT H kvs xs) (ht : ∀ b ys, H b = some (.tup ys) → H' b = some (.tup ys)) : KT H' kvs xs :=
 Paired.su r fun _ _ z => ⟨z.1, ht _ _ z.2.1, z.2.2⟩
section
variable {P : Program} {w : World} {H : Hp} {h : Heap} {a : Addr}
theorem Af {u : HO} (ok : bz P w H h) (e : Rd H a u) : bp P w H h a u := e.ok ok
theorem iz {kvs : List (Key × V)} (ok : bz P w H h) (e : Rd H a (.dK kvs)) : kvs.length ≤ sizeLine ∧ (a == sysModules) = false ∧ ∃ vs, KV kvs vs ∧ h.DictOf (cJ P w) a vs :=
 show bp P w H h a (.dK kvs) from Af ok e
theorem Dg {kvs : List (Key × V)} (ok : bz P w H h) (e : H a = some (.dK kvs)) : kvs.length ≤ sizeLine ∧ (a == sysModules) = false ∧ ∃ vs, KV kvs vs ∧ h.DictOf (cJ P w) a vs := iz ok (.inl e)
theorem jT {ks : List Key} (ok : bz P w H h) (e : H a = some (.tup (ks.map kV))) : (tupleKind (cJ P w)).is h ks a := by
 obtain ⟨_, its, r, o, h1, h2, n, h3⟩ := (show bp P w H h a (.tup (ks.map kV)) from ok a _ e)
 exact ⟨o, its.toArray, n, h1, h2, h3, by simpa using yJ r⟩
theorem iy {kvs : List (List Key × V)} (ok : bz P w H h) (e : Rd H a (.dT kvs)) : kvs.length ≤ sizeLine ∧ (a == sysModules) = false ∧
  ∃ xs, KT H kvs xs ∧ h.DictOfH (tupleKind (cJ P w)) a xs := by
 obtain ⟨z, y, xs, r, o, es, ep, h1, h2, h3, h4, h5⟩ := (show bp P w H h a (.dT kvs) from Af ok e)
 refine ⟨z, y, xs, r, o, es, ep, h1, h2, h3, h4, fun x hx => ?_, h5⟩
 have all : ∀ {l : List (List Key × V)} {m : List (List Key × Addr × Value)}, KT H l m → ∀ x ∈ m, (tupleKind (cJ P w)).is h x.1 x.2.1 := by
  intro l m q
  induction q with
  | nil => intro x hx; exact nomatch hx
  | @cons p q ps qs hq t ih =>
   intro x hx
   rcases List.mem_cons.mp hx with e | hx
   ·subst e
    exact jT ok (by rw [← hq.1]; exact hq.2.1)
   ·exact ih x hx
 exact all r x hx
theorem K0 {kvs : List (List Key × V)} (ok : bz P w H h) (e : H a = some (.dT kvs)) : kvs.length ≤ sizeLine ∧ (a == sysModules) = false ∧
  ∃ xs, KT H kvs xs ∧ h.DictOfH (tupleKind (cJ P w)) a xs := iy ok (.inl e)
end
def cS (H : Hp) (a : Addr) (y : V) (r : Option V) : Prop :=
 (∃ kvs k, Rd H a (.dK kvs) ∧ y = kV k ∧ r = aL kvs k) ∨ ∃ kvs k b, Rd H a (.dT kvs) ∧ y = .ref b ∧ H b = some (.tup (k.map kV)) ∧ r = aL kvs k
def eY (H : Hp) (a : Addr) (y v : V) (H' : Hp) : Prop :=
 (∃ kvs k, H a = some (.dK kvs) ∧ y = kV k ∧ kvs.length < sizeLine ∧ H' = upd H a (.dK (putK kvs k v))) ∨
 ∃ kvs k b, H a = some (.dT kvs) ∧ y = .ref b ∧ H b = some (.tup (k.map kV)) ∧ kvs.length < sizeLine ∧ H' = upd H a (.dT (putK kvs k v))
theorem cS.k {H : Hp} {a : Addr} {kvs : List (Key × V)} {k : Key} (e : H a = some (.dK kvs)) : cS H a (kV k) (aL kvs k) := .inl ⟨kvs, k, .inl e, rfl, rfl⟩
theorem eY.k {H : Hp} {a : Addr} {kvs : List (Key × V)} {k : Key} {v : V} (e : H a = some (.dK kvs)) (hl : kvs.length < sizeLine) : eY H a (kV k) v (upd H a (.dK (putK kvs k v))) := .inl ⟨kvs, k, e, rfl, hl, rfl⟩
theorem eY.t {H : Hp} {a b : Addr} {kvs : List (List Key × V)} {k : List Key} {v : V} (e : H a = some (.dT kvs)) (eb : H b = some (.tup (k.map kV))) (hl : kvs.length < sizeLine) :
  eY H a (.ref b) v (upd H a (.dT (putK kvs k v))) := .inr ⟨kvs, k, b, e, rfl, eb, hl, rfl⟩
section
variable {X : Cx} {pins : List (Addr × Obj)} {σ : St} {H : Hp} {s : Shared} {a : Addr} {y v : V} {u r : Value} {o : Option V} {A : Around} {E : Value → Shared → Prop}
theorem Inv.big (I : Inv X pins σ H s) : sysModules < s.heap.objs.size := by
 have h : mainGlobals < s.heap.objs.size := (I.mod.glob.keeps I.bk).lt
 exact Nat.lt_trans (by decide) h
theorem K3 {Q : Value → Shared → Prop} (hu : A.units + 1 < cLine) (I : Inv X pins σ H s) (g : cS H a y (some v)) (ry : RelV y u) (h : ∀ w' s', Inv X pins σ H s' → RelV v w' → Q w' s') :
  wpAny (model X.prog X.w) A (getItem (.ref a) u) Q E s := by
 rcases g with ⟨kvs, k, e, ey, l⟩ | ⟨kvs, k, b, e, ey, eb, l⟩
 ·subst ey
  obtain ⟨z, hd, vs, rel, dd⟩ := iz I.ax e
  obtain ⟨w', hw, rw'⟩ := cO.some_of (v := v) (o := valueAt vs k) (by rw [l]; exact rel.val k)
  exact wpAny_getItem_of (kf ry) dd.mapOf hw (h w' _ (I.tok _) rw')
 ·subst ey
  cases (show u = Value.ref b from ry)
  obtain ⟨z, hd, xs, rel, dd⟩ := iy I.ax e
  obtain ⟨w', hw, rw'⟩ := cO.some_of (v := v) (o := (atKey xs k).map (·.2)) (by rw [l]; exact rel.val k)
  obtain ⟨p, hp, hp2⟩ := Option.map_eq_some_iff.mp hw
  refine wpAny_getItem_heap (tupleKind_room_in1 hu) (jT I.ax eb) dd hp ?_
  rw [hp2]
  exact h w' _ (I.tok _) rw'
theorem GL {Q : Value → Shared → Prop} (hu : A.units + 1 < cLine) (I : Inv X pins σ H s) (g : cS H a y o) (ry : RelV y u) (h : ∀ s', Inv X pins σ H s' → Q (.bool o.isSome) s') :
  wpAny (model X.prog X.w) A (compareOp .In u (.ref a)) Q E s := by
 rcases g with ⟨kvs, k, e, ey, l⟩ | ⟨kvs, k, b, e, ey, eb, l⟩
 ·subst ey
  obtain ⟨z, hd, vs, rel, dd⟩ := iz I.ax e
  refine wpAny_in_of (kf ry) hd dd.mapOf ?_
  rw [← (rel.val k).mf, ← l]
  exact h _ (I.tok _)
 ·subst ey
  cases (show u = Value.ref b from ry)
  obtain ⟨z, hd, xs, rel, dd⟩ := iy I.ax e
  refine wpAny_in_heap (tupleKind_room_in1 hu) (jT I.ax eb) hd dd ?_
  have q := (rel.val k).mf
  rw [Option.isSome_map] at q
  rw [← q, ← l]
  exact h _ (I.tok _)
theorem FX {Q : Value → Shared → Prop} (hu : A.units + 1 < cLine) (I : Inv X pins σ H s) (g : cS H a y o) (ry : RelV y u) (h : ∀ s', Inv X pins σ H s' → Q (.bool (!o.isSome)) s') :
  wpAny (model X.prog X.w) A (compareOp .NotIn u (.ref a)) Q E s := by
 rcases g with ⟨kvs, k, e, ey, l⟩ | ⟨kvs, k, b, e, ey, eb, l⟩
 ·subst ey
  obtain ⟨z, hd, vs, rel, dd⟩ := iz I.ax e
  refine wpAny_notIn_of (kf ry) hd dd.mapOf ?_
  rw [← (rel.val k).mf, ← l]
  exact h _ (I.tok _)
 ·subst ey
  cases (show u = Value.ref b from ry)
  obtain ⟨z, hd, xs, rel, dd⟩ := iy I.ax e
  refine wpAny_notIn_heap (tupleKind_room_in1 hu) (jT I.ax eb) hd dd ?_
  have q := (rel.val k).mf
  rw [Option.isSome_map] at q
  rw [← q, ← l]
  exact h _ (I.tok _)
theorem A0 {h' : Heap} {t' : Nat} {ob : HO} (I : Inv X pins σ H s) (mu : mP (H a)) (hs : Heap.SameBut a s.heap h') (he : ∃ q, h'.get? a = some q) (new : bp X.prog X.w (upd H a ob) h' a ob) :
  Inv X pins σ (upd H a ob) { s with heap := h', toks := t' } :=
 I.write (x := a) (e := a) mu (.inl rfl) (fun b q hb z => (hs.2 b hb).trans z) he new
theorem K8 {P : Program} {w : World} {H' : Hp} {h' : Heap} {kvs : List (Key × V)} {vs : List (Key × Value)} (z : kvs.length ≤ sizeLine) (hd : (a == sysModules) = false) (rel : KV kvs vs) (dd : h'.DictOf (cJ P w) a vs) :
  bp P w H' h' a (.dK kvs) := ⟨z, hd, vs, rel, dd⟩
theorem GH {H' : Hp} {Q : Unit → Shared → Prop} (hu : A.units + 1 < cLine) (I : Inv X pins σ H s) (g : eY H a y v H') (ry : RelV y u) (rv : RelV v r) (h : ∀ s', Inv X pins σ H' s' → Q () s') :
  wpAny (model X.prog X.w) A (setItem (.ref a) u r) Q E s := by
 rcases g with ⟨kvs, k, e, ey, l, eH⟩ | ⟨kvs, k, b, e, ey, eb, l, eH⟩
 ·subst ey eH
  obtain ⟨z, hd, vs, rel, dd⟩ := Dg I.ax e
  have hz : vs.length ≤ sizeLine := by rw [← rel.length]; exact z
  have hl : (putK kvs k v).length ≤ sizeLine := by have := z7 kvs k v; omega
  refine wpAny_setItem_pairs (hsz := hz) (kf ry) dd fun h' dd' hs => h _ ?_
  have he : ∃ q, h'.get? a = some q := let ⟨q, _, _, hq, _⟩ := dd'; ⟨q, hq⟩
  exact A0 I (by rw [e]; exact True.intro) hs he (K8 hl hd (rel.put k rv) dd')
 ·subst ey eH
  cases (show u = Value.ref b from ry)
  obtain ⟨z, hd, xs, rel, dd⟩ := K0 I.ax e
  have hz : xs.length ≤ sizeLine := by rw [← Paired.length rel]; exact z
  have hl : (putK kvs k v).length ≤ sizeLine := by have := z7 kvs k v; omega
  refine wpAny_setItem_heap (hsz := hz) (tupleKind_room_in1 hu) (jT I.ax eb) dd fun h' dd' hs => h _ ?_
  obtain ⟨q, es, ep, hq, h2, h3, h4, _, h5⟩ := dd'
  refine A0 I (by rw [e]; exact True.intro) hs ⟨q, hq⟩ ⟨hl, hd, _, (rel.put k eb rv).keeps fun c ys ec => ?_, q, es, ep, hq, h2, h3, h4, h5⟩
  rw [ah (Js ec e (fun z => nomatch z))]
  exact ec
end
section
variable {X : Cx} {pins : List (Addr × Obj)} {σ : St} {H : Hp} {s : Shared} {a : Addr} {kvs : List (Key × V)} {k : Key} {u : Value} {A : Around} {E : Value → Shared → Prop}
end
def rK (i : Expr) : Prop := ∀ ov iv, subscripted i false ov iv = operate [ov, iv] (getItem ov iv)
theorem Nd {prog : Program} {w : World} {A : Around} {E : Value → Shared → Prop} {s : Shared} {env : Env} {value slice : Expr} {pos : Pos} {T id : String} {Q : Value → Shared → Prop}
  (hl : typeLookup (.type T) "__getitem__" = pure (some (.builtin id))) (hs : rK slice)
  (h : wpAny (model prog w) A (eval value env) (fun o s₁ => wpAny (model prog w) A (eval slice env) (fun i s₂ => s₂.TypeIs o T ∧ wpAny (model prog w) A (getItem o i) Q E s₂) E s₁) E s) :
  wpAny (model prog w) A (eval (.Subscript value slice pos) env) Q E s := by
 refine Subscript_ (wpAny_mono h (fun o s₁ h₁ => wpAny_mono h₁ (fun i s₂ h₂ => ?_) fun _ _ x => x) fun _ _ x => x)
 obtain ⟨hT, h₂⟩ := h₂
 unfold subscriptTail
 refine wpAny_bind ?_
 rw [getitemInPython_of_ne hT.not_modules]
 refine wpAny_bind (wpAny_specialOf hT hl ?_)
 have fin : wpAny (model prog w) A (subscripted slice false o i) (fun r s₃ => wpAny (model prog w) A (letTemporaryGo value o r >>= fun _ => pure r) Q E s₃) E s₂ := by
  rw [hs o i]
  exact wpAny_operating (wpAny_mono h₂ (fun r s₃ h₃ => wpAny_bind (wpAny_letTemporaryGo (wpAny_pure h₃))) fun _ _ x => x)
 first
  | exact wpAny_pure (wpAny_bind fin)
  | exact wpAny_bind (wpAny_pure (wpAny_bind fin))
  | exact wpAny_bind fin
theorem F4 {X : Cx} {pins : List (Addr × Obj)} {σ : St} {H : Hp} {s : Shared} {a : Addr} {y : V} {o : Option V} (I : Inv X pins σ H s) (g : cS H a y o) : s.TypeIs (.ref a) "dict" := by
 rcases g with ⟨kvs, k, e, _, _⟩ | ⟨kvs, k, b, e, _, _, _⟩
 ·obtain ⟨_, _, vs, _, dd⟩ := iz I.ax e
  exact dd.typeIs
 ·obtain ⟨_, _, xs, _, dd⟩ := iy I.ax e
  exact dd.typeIs
def pW (td ty : TE) : TE := fun σ H Q => td σ H fun x H1 => ty σ H1 fun y H2 => ∃ a v, x = .ref a ∧ cS H2 a y (some v) ∧ Q v H2
def tP (ty td : TE) : TE := fun σ H Q => ty σ H fun y H1 => td σ H1 fun x H2 => ∃ a o, x = .ref a ∧ cS H2 a y o ∧ Q (.bl o.isSome) H2
def vY (ty td : TE) : TE := fun σ H Q => ty σ H fun y H1 => td σ H1 fun x H2 => ∃ a o, x = .ref a ∧ cS H2 a y o ∧ Q (.bl (!o.isSome)) H2
def uU (td ty tv : TE) : TS := fun D σ H => tv σ H fun v H1 => td σ H1 fun x H2 => ty σ H2 fun y H3 => ∃ a H4, x = .ref a ∧ eY H3 a y v H4 ∧ D.nx σ H4
section
variable {X : Cx} {o i e value : Expr} {pos pos' fB : Pos} {td ty tv : TE}
theorem Ma (hu : X.A.units + 1 < cLine) (ho : PE X o td) (hi : PE X i ty) (hs : rK i) : PE X (.Subscript o i pos) (pW td ty) := by
 intro pins s σ H Q I h
 refine Nd PySem.F.slot_dict_getitem.lookup hs (aA (ho pins s σ H _ I h) fun u s1 ⟨x, H1, I1, rx, q1⟩ => aA (hi pins s1 σ H1 _ I1 q1) fun iv s2 ⟨y, H2, I2, ry, a, v, ex, g, q2⟩ => ?_)
 subst ex
 obtain rfl : u = Value.ref a := rx
 exact ⟨F4 I2 g, K3 hu I2 g ry fun w' s3 I3 rw' => ⟨v, H2, I3, rw', q2⟩⟩
theorem Im (hu : X.A.units + 1 < cLine) (hi : PE X i ty) (ho : PE X o td) : PC X .In i o (tP ty td) := by
 intro pins s σ H Q I h
 refine aA (hi pins s σ H _ I h) fun iv s1 ⟨y, H1, I1, ry, q1⟩ => aA (ho pins s1 σ H1 _ I1 q1) fun u s2 ⟨x, H2, I2, rx, a, ov, ex, g, q2⟩ => ?_
 subst ex
 obtain rfl : u = Value.ref a := rx
 exact GL hu I2 g ry fun s3 I3 => ⟨.bl ov.isSome, H2, I3, rfl, q2⟩
theorem DT (hu : X.A.units + 1 < cLine) (hi : PE X i ty) (ho : PE X o td) : PC X .NotIn i o (vY ty td) := by
 intro pins s σ H Q I h
 refine aA (hi pins s σ H _ I h) fun iv s1 ⟨y, H1, I1, ry, q1⟩ => aA (ho pins s1 σ H1 _ I1 q1) fun u s2 ⟨x, H2, I2, rx, a, ov, ex, g, q2⟩ => ?_
 subst ex
 obtain rfl : u = Value.ref a := rx
 exact FX hu I2 g ry fun s3 I3 => ⟨.bl (!ov.isSome), H2, I3, rfl, q2⟩
theorem MX (hu : X.A.units + 1 < cLine) (ho : PE X o td) (hi : PE X i ty) (hv : PE X value tv) (hs : swapsWith value (some (.Subscript o i pos')) pos.line X.env = pure false) :
  PS X (.Assign [.Subscript o i pos'] value pos) (uU td ty tv) := by
 intro pins s σ H D I h
 refine wpAny_Assign_Subscript (aA (hv pins s σ H _ I h) fun r s1 ⟨v, H1, I1, rv, q1⟩ => aA (ho pins s1 σ H1 _ I1 q1) fun u s2 ⟨x, H2, I2, rx, q2⟩ => aA (hi pins s2 σ H2 _ I2 q2) fun iv s3 ⟨y, H3, I3, ry, a, H4, ex, g, q3⟩ => ?_) hs
 subst ex
 obtain rfl : u = Value.ref a := rx
 exact GH hu I3 g ry rv fun s4 I4 => ⟨σ, H4, I4, q3⟩
end
theorem ID {P : Program} {w : World} {H : Hp} (h : Heap) (hb : sysModules < h.objs.size) : bp P w H (h.push { cls := .type "dict", data := .dict #[] }) h.objs.size (.dK []) :=
 ⟨Nat.zero_le _, beq_eq_false_iff_ne.mpr (Ne.symm (Nat.ne_of_lt hb)), [], .nil, Heap.DictOf.new h⟩
theorem EN {P : Program} {w : World} {H : Hp} (h : Heap) (hb : sysModules < h.objs.size) : bp P w H (h.push { cls := .type "dict", data := .dict #[] }) h.objs.size (.dT []) :=
 ⟨Nat.zero_le _, beq_eq_false_iff_ne.mpr (Ne.symm (Nat.ne_of_lt hb)), [], .nil, _, #[], 0, Heap.get?_push_size _ rfl, ⟨rfl, rfl, rfl⟩, rfl, rfl, List.nodup_nil⟩
def ua : TE := fun _ H Q => ∀ p, H p = none → Q (.ref p) (upd H p (.dK []))
def sX : TE := fun _ H Q => ∀ p, H p = none → Q (.ref p) (upd H p (.dT []))
section
variable {X : Cx} {pos : Pos}
theorem HB : PE X (.Dict [] [] pos) ua := fun pins s σ H Q I h =>
 wpAny_Dict_empty ⟨.ref s.heap.objs.size, _, I.laid (a := s.heap.objs.size) (o := .dK []) (t' := s.toks) (fun _ _ q => Heap.get?_push_of_some _ q) (Nat.le_refl _) (ID s.heap I.big), rfl, h _ (I.ax.fresh (Nat.le_refl _))⟩
theorem Jy : PE X (.Dict [] [] pos) sX := fun pins s σ H Q I h =>
 wpAny_Dict_empty ⟨.ref s.heap.objs.size, _, I.laid (a := s.heap.objs.size) (o := .dT []) (t' := s.toks) (fun _ _ q => Heap.get?_push_of_some _ q) (Nat.le_refl _) (EN s.heap I.big), rfl, h _ (I.ax.fresh (Nat.le_refl _))⟩
end
def nz : List (TE × TE) → St → Hp → (List (V × V) → Hp → Prop) → Prop
 | [], _, H, Q => Q [] H
 | (tk, tv) :: r, σ, H, Q => tk σ H fun x H1 => tv σ H1 fun y H2 => nz r σ H2 fun ps H3 => Q ((x, y) :: ps) H3
abbrev VV : List (V × V) → List (Value × Value) → Prop := Paired fun p q => RelV p.1 q.1 ∧ RelV p.2 q.2
def Nj (X : Cx) (pos : Pos) (keys : List (Option Expr)) (values : List Expr) (trs : List (TE × TE)) : Prop :=
 ∀ (pins : List (Addr × Obj)) (s : Shared) (σ : St) (H : Hp) (Q : List (V × V) → Hp → Prop), Inv X pins σ H s → nz trs σ H Q →
  wpAny (model X.prog X.w) X.A (evalPairs (pairTrees keys values X.env pos)) (fun vs s' => ∃ ps H', Inv X pins σ H' s' ∧ VV ps vs ∧ Q ps H') X.xe s
def N8 (kvs more : List (Key × V)) : List (Key × V) := more.foldl (fun acc kv => putK acc kv.1 kv.2) kvs
def MF (trs : List (TE × TE)) : TE := fun σ H Q => ∀ p, H p = none → nz trs σ (upd H p (.dK [])) fun ps H2 => H2 p = some (.dK []) ∧ ∃ kvs : List (Key × V), ps = kvs.map (fun kv => (kV kv.1, kv.2)) ∧ kvs.length ≤ 15 ∧ Q (.ref p) (upd H2 p (.dK (N8 [] kvs)))
structure M1 (X : Cx) (o : Expr) (m : Str) (apos : Pos) (e : Expr) (aY : Pos) : Prop where
 base : attributeBase o m X.env (eval o X.env) = eval o X.env
 yc : ((backTo aY (starEach [e] X.env)).all (fun x => !x.1) && (backToKw aY (keywordEach [] X.env)).all (fun x => x.1.isSome)
  && decide (([e] : List Expr).length + ([] : List Keyword).length + (if ([] : List Keyword).isEmpty then 0 else 1) < 30)) = true
 line : (apos.endLine == aY.line) = true
 trees : backTo aY (starEach [e] X.env) = [(false, eval e X.env)]
structure M2 (X : Cx) (o : Expr) (m : Str) (apos : Pos) (e f : Expr) (aY : Pos) : Prop where
 base : attributeBase o m X.env (eval o X.env) = eval o X.env
 yc : ((backTo aY (starEach [e, f] X.env)).all (fun x => !x.1) && (backToKw aY (keywordEach [] X.env)).all (fun x => x.1.isSome)
  && decide (([e, f] : List Expr).length + ([] : List Keyword).length + (if ([] : List Keyword).isEmpty then 0 else 1) < 30)) = true
 line : (apos.endLine == aY.line) = true
 trees : backTo aY (starEach [e, f] X.env) = [(false, eval e X.env), (false, eval f X.env)]
def yi (H : Hp) (a : Addr) : Prop := (∃ kvs, Rd H a (.dK kvs)) ∨ ∃ kvs, Rd H a (.dT kvs)
theorem Jp {X : Cx} {pins : List (Addr × Obj)} {σ : St} {H : Hp} {s : Shared} {a : Addr} (I : Inv X pins σ H s) (d : yi H a) :
  s.TypeIs (.ref a) "dict" ∧ (∀ b, Value.ref a = .ref b → ∃ ob, s.heap.get? b = some ob ∧ ob.dict = none) ∧ (a == sysModules) = false := by
 rcases d with ⟨kvs, e⟩ | ⟨kvs, e⟩
 ·obtain ⟨_, hd, vs, _, dd⟩ := iz I.ax e
  refine ⟨dd.typeIs, fun b q => ?_, hd⟩
  cases q
  obtain ⟨ob, _, _, h1, h2, _⟩ := dd
  exact ⟨ob, h1, h2.2.1⟩
 ·obtain ⟨_, hd, xs, _, dd⟩ := iy I.ax e
  refine ⟨dd.typeIs, fun b q => ?_, hd⟩
  cases q
  obtain ⟨ob, _, _, h1, h2, _⟩ := dd
  exact ⟨ob, h1, h2.2.1⟩
section
variable {X : Cx} {pins : List (Addr × Obj)} {σ : St} {H : Hp} {s : Shared} {a : Addr} {y d : V} {u r : Value} {o : Option V} {A : Around} {E : Value → Shared → Prop}
theorem GW {Q : Value → Shared → Prop} (hu : A.units + 1 < cLine) (I : Inv X pins σ H s) (g : cS H a y o) (ry : RelV y u) (h : ∀ w' s', Inv X pins σ H s' → RelV (o.getD .au) w' → Q w' s') :
  wpAny (model X.prog X.w) A (call (.builtin "dict.get") [.ref a, u]) Q E s := by
 rcases g with ⟨kvs, k, e, ey, l⟩ | ⟨kvs, k, b, e, ey, eb, l⟩
 ·subst ey
  obtain ⟨z, hd, vs, rel, dd⟩ := iz I.ax e
  refine call_meetsIn PySem.F.slot_dict_get dd.typeIs PySem.F.entry_dict_get (PySem.F.args_dict_get_2 _ _) (meets_dict_get (cJ X.prog X.w) a (kf ry) hd) ⟨_, dd.mapOf, h _ _ (I.tok _) ?_⟩
  rw [l]
  exact (rel.val k).getD rfl
 ·subst ey
  cases (show u = Value.ref b from ry)
  obtain ⟨z, hd, xs, rel, dd⟩ := iy I.ax e
  refine call_meetsIn PySem.F.slot_dict_get dd.typeIs PySem.F.entry_dict_get (PySem.F.args_dict_get_2 _ _) (meetsH_dict_get (tupleKind (cJ X.prog X.w)) a b hd) ⟨tupleKind_room_in1 hu, k, xs, jT I.ax eb, dd, h _ _ (I.tok _) ?_⟩
  rw [l]
  exact (rel.val k).getD rfl
end
def qu (td ty : TE) : TE := fun σ H Q => td σ H fun x H1 => ∃ a, x = .ref a ∧ yi H1 a ∧ ty σ H1 fun y H2 => ∃ o, cS H2 a y o ∧ Q (o.getD .au) H2
section
variable {X : Cx} {o e f : Expr} {apos aY : Pos} {td ty tx : TE}
theorem NN (hu : X.A.units + 1 < cLine) (ho : PE X o td) (he : PE X e ty) (m : M1 X o "get" apos e aY) : PE X (.Call (.Attribute o "get" apos) [e] [] aY) (qu td ty) := by
 intro pins s σ H Q I h
 refine wpAny_Call_method m.base m.yc m.line PySem.F.plainAttrs_dict PySem.F.slot_dict_get PySem.F.type_dict_get (aA (ho pins s σ H _ I h) fun u s1 ⟨x, H1, I1, rx, a, ex, d, q1⟩ => ?_)
 subst ex
 obtain rfl : u = Value.ref a := rx
 obtain ⟨t1, t2, _⟩ := Jp I1 d
 refine ⟨t1, t2, ?_⟩
 rw [m.trees]
 refine Calls.callWith_builtin rfl (Calls.evalArgs_plain (Calls.spliced_cons (aA (he pins s1 σ H1 _ I1 q1) fun iv s2 ⟨y, H2, I2, ry, ov, g, q2⟩ => Calls.spliced_nil ?_)))
 exact GW hu I2 g ry fun w' s3 I3 rw' => ⟨_, H2, I3, rw', q2⟩
end
section
variable {X : Cx} {pins : List (Addr × Obj)} {σ : St} {H : Hp} {s : Shared} {a : Addr} {kvs : List (Key × V)} {A : Around} {E : Value → Shared → Prop}
end
section
variable {X : Cx} {pins : List (Addr × Obj)} {σ : St} {H : Hp} {s : Shared} {a : Addr} {y : V} {u : Value} {A : Around} {E : Value → Shared → Prop}
end
end L2
namespace Att
open PySem PySem.W PySem.Calls PyProof.Rows
theorem Mn {P : Params} {h : Heap} : ∀ (ns : List Int) (vs : List Value), WellAll P h vs (ns.map WData.int) → IntsAre vs ns := by
 intro ns
 induction ns with
 | nil =>
  intro vs w
  rw [List.map_nil] at w
  cases w
  exact .nil
 | cons n ns ih =>
  intro vs w
  rw [List.map_cons] at w
  cases w with
  | cons a b =>
   cases a
   exact .cons _ _ (ih _ b)
theorem Lx {l : OpenLaw} {n : Nat} (hn : l.most = some n) {P : Params} {h : Heap} {args : List WData} {vals : List Value}
  (pK : l.row.toRowW.claim.pre args = true) (hwl : WellAll P h vals args) :
  ∃ a vs ns, vals = [Value.ref a] ∧ args = [WData.list (ns.map WData.int)] ∧ h.get? a = some { cls := .type "list", data := .seq vs.toArray } ∧ IntsAre vs ns ∧ ns.length ≤ n := by
 have hsh : WShape.hasAll [] args [.list .int] = true := (pre_splitW pK).1
 have hc : l.pre.holds [] { args := args } = true := (pre_splitW pK).2
 obtain ⟨d, r, rfl, h1, h2⟩ := hasAllW_cons hsh
 obtain rfl := hasAllW_nil h2
 obtain ⟨xs, rfl, h3⟩ := hasW_list h1
 obtain ⟨ns, rfl⟩ := items_int h3
 have hlen : ns.length ≤ n := by
  unfold OpenLaw.pre at hc
  have h4 : (WTm.not (.lt (.lit (.int (n : Int))) (.len (.arg 0)))).holds [] { args := [.list (ns.map .int)] } = true := by
   have h4 := (holds_andW hc).1
   rw [hn] at h4
   exact h4
  have h5 := condW_of h4 (w_not (w_lt w_lit (w_len_list (w_arg rfl))))
  rw [List.length_map] at h5
  refine Nat.le_of_not_lt fun q => ?_
  have q' : (n : Int) < ((ns.length : Nat) : Int) := by omega
  first
   | (rw [decide_eq_true q'] at h5; exact absurd h5 (by decide))
   | (simp at h5; omega)
 cases hwl with
 | cons w1 w2 =>
  cases w2
  cases w1 with
  | list ho eg => exact ⟨_, _, ns, rfl, rfl, ho, Mn ns _ eg, hlen⟩
theorem Jt (l : OpenLaw) (args : List WData) : l.row.toRowW.claim.post args (.bool true) args = true :=
 postW_of (r := l.row.toRowW) (X := (true == true))
  (show WShape.has [] (.bool true) .bool = true by first | rfl | decide | simp [WShape.has, WShape.arms, WShape.armsAll])
  (show (WTm.eq .res (.lit (.bool true))).value [] { args := args, res := some (.bool true), after := args } = some (.bool (true == true)) from w_eq_bool (w_res rfl) w_lit) rfl
theorem F5 {l : OpenLaw} {n : Nat} {q : Program} {loose : List Str} {XP : (Str → Option Value) → Heap → Prop} {YP : World → Heap → Prop} {d : DefRec}
  (hn : l.most = some n) (hdf : d.params.defaults = [])
  (call : ∀ (w : World) (s₀ s₁ : Shared) (mg mb : Str → Option Value) (fa : Addr) (o : Obj) (pm cd doc : Value) (a : Addr) (vs : List Value) (ns : List Int),
   Ground q loose [] XP w s₀ mg mb s₁.heap → YP w s₁.heap →
   s₁.heap.get? fa = some o → o.data = .func (docDef d.name d.params d.body d.scope pm cd doc) → s₁.heap.CodeRec cd d.name → mg d.name = some (.ref fa) →
   s₁.heap.get? a = some { cls := .type "list", data := .seq vs.toArray } → IntsAre vs ns → ns.length ≤ n → s₁.gens = #[] →
   codeAny (model l.prog w) callerA (.call (.ref fa) ⟨[.ref a], []⟩) (fun r s' => r = .ok (.ret (.bool true)) ∧ OldK s₁.heap s'.heap ∧ s'.os = s₁.os ∧ AllBare s'.gens) s₁) :
  WalkO q loose XP YP l.row.toRowW d [] (fun f vs => PySem.call f vs) := by
 intro w s₀ s₁ mg mb G Y fa o pm cd doc dV kV ho hd hcd hD hmg hg args vals as pK hlay hrd hwl hlo
 obtain rfl : dV = .none := Dflts.none hD hdf
 obtain rfl : kV = .none := Dflts.noKw hD
 obtain ⟨a, vs, ns, rfl, rfl, wR, hints, hlen⟩ := Lx hn pK hwl
 refine enter_call (codeAny_mono (call w s₀ s₁ mg mb fa o pm cd doc a vs ns G Y ho (fd_plain hd) hcd hmg wR hints hlen hg) fun r s' hq => ?_)
 obtain ⟨rfl, h2, h3, h4⟩ := hq
 exact ⟨.inl ⟨.bool true, .bool true, [], rfl, fun _ => rfl, .bool true, Jt l _, fun _ => ⟨List.Pairwise.nil, fun _ hm => (nomatch hm)⟩⟩, h2, h3, h4⟩
section
variable {prog : Program} {w : World} {A : Around} {E : Value → Shared → Prop} {s : Shared} {K : Frag}
end
end Att
namespace L2
open PySem PySem.Spec PyProof.Rows
theorem xX : ∀ {vs : List Value} {ns : List Int}, IntsAre vs ns → Vals (ns.map V.int) vs
 | _, _, .nil => .nil
 | _, _, .cons n t h => .cons ⟨t, rfl⟩ (xX h)
end L2
namespace L2
open PySem PySem.Spec PyProof.Rows
abbrev OL {K : PySem.W.Frag} {h : Heap} (_ : K.In h) : PySem.W.Frag := K
end L2
namespace L2
open PySem PySem.Spec PyProof.Rows
def inClass (s : Stmt) (j : Nat) : Stmt := match s with
 | .ClassDef _ _ _ body _ _ _ _ _ _ _ => body.getD j (.Pass ⟨0, 0, 0, 0⟩)
 | _ => .Pass ⟨0, 0, 0, 0⟩
def cR (s : Stmt) : Arguments := match s with
 | .FunctionDef _ a _ _ _ _ _ _ _ _ => a
 | _ => { posonlyargs := [], args := [], vararg := none, kwonlyargs := [], kw_defaults := [], kwarg := none, defaults := [] }
def aU (s : Stmt) : List Stmt := match s with
 | .FunctionDef _ _ b _ _ _ _ _ _ _ => b
 | _ => []
def ay (s : Stmt) : Scope := match s with
 | .FunctionDef _ _ _ _ _ _ sc _ _ _ => sc
 | _ => { kind := .function, names := [], isGenerator := false, isCoroutine := false }
abbrev aG : cu := fun _ _ _ _ _ _ => False
abbrev E0 : XK := fun _ _ _ => False
theorem az {X : Cx} : Passes aG X E0 := fun _ _ _ _ _ _ _ h => h.elim
structure dz (K : PySem.W.Frag) (x qual : Str) (st : Stmt) (f : Addr) (fd : FuncData) : Prop where
 ex : ∃ (oc : Value) (od : Option Addr) (kV doc pm : Value) (an : Option Addr) (cdv ct : Value) (osl : Array (Option Value)),
  fd = PySem.W.fnOf x qual (cR st) (aU st) (ay st) .none kV doc pm an cdv ct ∧ K.lookup f = some ⟨oc, od, .func fd, osl⟩ ∧ PySem.W.codeIn K cdv qual = true
 kp : PySem.W.keepIn K (.ref f) = true
section
variable {P : Program} {w : World} {K : PySem.W.Frag} {mg : Str → Option Value} {base : Heap}
theorem dz.ok {x qual : Str} {st : Stmt} {f : Addr} {fd : FuncData} {N ps : List Str} {k : Nat} {sp : Sp} (F : dz K x qual st f fd) (S : aF N ps (ay st)) (len : ∀ vs H Q E, sp vs H Q E → vs.length = ps.length)
  (fv : ∀ (cdv : Value) (A : Around) (outer : List Env) (s : Shared) (H : Hp) (vs : List V) (Q : VK) (E : XK), aN k (A.deeper (envOfC qual (ay st) s.heap.objs.size f cdv)) → sp vs H Q E →
   ∃ t, bT (bM aG P w K mg base N qual (ay st) f cdv A outer s H E).j7 (aU st) t ∧ t { nx := fun _ H' => Q .au H', rt := Q } (start N vs) H) : aD P w K mg base aG (k + 1) f fd ps sp := by
 obtain ⟨oc, od, kV, doc, pm, an, cdv, ct, osl, rfl, lk, hcd⟩ := F.ex
 refine pA lk hcd S len fun A outer s H vs Q E hr hsp => ?_
 obtain ⟨t, h, q⟩ := fv cdv A outer s H vs Q E hr hsp
 exact ⟨t, h.j7, q⟩
theorem dz.binds {x qual : Str} {st : Stmt} {f : Addr} {fd : FuncData} {ps : List Str} (F : dz K x qual st f fd)
  (h : ∀ (kV doc pm : Value) (an : Option Addr) (cdv ct : Value) (us : List Value), us.length = ps.length → bindArgs (PySem.W.fnOf x qual (cR st) (aU st) (ay st) .none kV doc pm an cdv ct) ⟨us, []⟩ = pure (ps.zip us)) : Binds K fd ps [] := by
 obtain ⟨oc, od, kV, doc, pm, an, cdv, ct, osl, rfl, lk, hcd⟩ := F.ex
 exact .all (h kV doc pm an cdv ct)
theorem tI {x qual : Str} {st : Stmt} {f : Addr} {oc : Value} {od an : Option Addr} {osl : Array (Option Value)} {kV doc pm cdv ct : Value} (l : K.lookup f = some ⟨oc, od, .func (PySem.W.fnOf x qual (cR st) (aU st) (ay st) .none kV doc pm an cdv ct), osl⟩)
  (c : PySem.W.codeIn K cdv qual = true) (k : PySem.W.keepIn K (.ref f) = true) : dz K x qual st f (PySem.W.fnOf x qual (cR st) (aU st) (ay st) .none kV doc pm an cdv ct) := ⟨⟨oc, od, kV, doc, pm, an, cdv, ct, osl, rfl, l, c⟩, k⟩
end
theorem ff {A : Around} {k : Nat} (hr : aN k A) : A.units + 1 < cLine := Nat.lt_of_le_of_lt (Nat.add_le_add_left (by decide : 1 ≤ 64) _) hr.units
theorem yh {n : Nat} (h : n ≤ 1000) : n < sizeLine := Nat.lt_of_le_of_lt h (by decide)
section
variable {X : Cx}
theorem pv (i : Nat) {x : Str} {pos : Pos} (hN : X.N[i]? = some x := by rfl) (hv : hX X.env.scope x := by first | exact Or.inl rfl | exact Or.inr (Or.inl rfl) | exact Or.inr (Or.inr rfl)) (hd : (x == ("__debug__" : Str)) = false := by decide)
  (hcd : (x == ("__classdict__" : Str)) = false := by decide) : PE X (.Name x pos) (z9 i) := vc hN hv hd hcd
end
theorem aS {A B : Prop} (h : B) : if false = true then A else B := by
 rw [if_neg Bool.false_ne_true]
 exact h
theorem bZ {A B : Prop} (h : A) : if true = true then A else B := by
 rw [if_pos rfl]
 exact h
theorem fS {c A B : Prop} [Decidable c] (h1 : c → A) (h2 : ¬ c → B) : if c then A else B := by
 by_cases h : c
 ·rw [if_pos h]
  exact h1 h
 ·rw [if_neg h]
  exact h2 h
def ao (H H' : Hp) : Prop := ∀ b o, H b = some o → H' b = some o
theorem ao.refl (H : Hp) : ao H H := fun _ _ h => h
theorem ao.trans {H H1 H2 : Hp} (a : ao H H1) (b : ao H1 H2) : ao H H2 := fun c o h => b c o (a c o h)
theorem ao.free {H H' : Hp} (e : ao H H') {l : Addr} (h : H' l = Option.none) : H l = Option.none := by
 cases q : H l with
 | none => rfl
 | some o =>
  rw [e l o q] at h
  cases h
theorem ao.seq {K : PySem.W.Frag} {H H' : Hp} {a : Addr} {xs : List V} (e : ao H H') (h : aJ K H a xs) : aJ K H' a xs := by
 rcases h with (h | ⟨o, h⟩) | h
 ·exact .inl (.inl (e _ _ h))
 ·exact .inl (.inr ⟨o, e _ _ h⟩)
 ·exact .inr h
end L2
namespace L2
open PySem PySem.Spec PyProof.Rows
section
variable {X : Cx}
end
end L2
namespace L2
open PySem PySem.Spec PyProof.Rows
section
variable {κ : Type} [DecidableEq κ]
end
end L2
namespace Tx
open PySem PySem.Builtin PySem.Builtin.Str PySem.StrLaws
def S (l : List Nat) : Str := ⟨l.toArray⟩
theorem gH (l : List Nat) : (S l).cps.toList = l := by simp [S]
theorem Nb (s : Str) : S s.cps.toList = s := by cases s; simp [S]
theorem cw (l : List Nat) : (S l).length = l.length := by simp [S, Str.length]
theorem ki {a b : List Nat} (h : S a = S b) : a = b := by
 have := congrArg (fun s => s.cps.toList) h
 simpa [gH] using this
theorem Dx (a b : List Nat) : S a ++ S b = S (a ++ b) := by
 apply Str.ext'
 rw [Str.cps_append]
 simp [S]
theorem fQ (c : Nat) : (S [c]).length = 1 := by rw [cw]; rfl
theorem subAt_one (x : List Nat) (c i : Nat) (h : i < x.length) : subAt (S x) (S [c]) i = decide (x[i]? = some c) := by
 rw [subAt_eq, gH, gH, fQ]
 rw [List.drop_eq_getElem_cons h, List.take_succ_cons, List.take_zero, List.getElem?_eq_getElem h]
 by_cases e : x[i] = c
 ·simp [e]
 ·simp [e]
theorem NR (x : List Nat) (c : Nat) : (!(occurrences (S x) (S [c]) 0 (S x).length 1).isEmpty) = x.contains c := by
 rw [Bool.eq_iff_iff, found_iff, fQ, cw]
 constructor
 ·rintro ⟨i, h1, h2⟩
  rw [subAt_one x c i (by omega)] at h2
  have h3 := of_decide_eq_true h2
  exact List.elem_iff.mpr (List.mem_of_getElem? h3)
 ·intro h
  obtain ⟨i, hi, e⟩ := List.getElem_of_mem (List.elem_iff.mp h)
  refine ⟨i, by omega, ?_⟩
  rw [subAt_one x c i hi, List.getElem?_eq_getElem hi, e]
  simp
def cut (c : Nat) : List Nat → List (List Nat)
 | [] => [[]]
 | a :: r => if a = c then [] :: cut c r else match cut c r with
  | [] => [[a]]
  | h :: t => (a :: h) :: t
theorem GG (c : Nat) : ∀ l, cut c l ≠ []
 | [] => by simp [cut]
 | a :: r => by
  unfold cut
  split
  ·simp
  ·split <;> simp
def bP (c : Nat) : Nat → List Nat → List Nat
 | _, [] => []
 | k, a :: r => if a = c then k :: bP c (k + 1) r else bP c (k + 1) r
theorem yA (c : Nat) : ∀ (l : List Nat) (k j : Nat), bP c (k + j) l = (bP c k l).map (· + j)
 | [], _, _ => rfl
 | a :: r, k, j => by
  unfold bP
  have e : k + j + 1 = (k + 1) + j := by omega
  rw [e, yA c r (k + 1) j]
  split <;> simp
theorem rG (x : List Nat) (c limit : Nat) : ∀ (l : List Nat) (k : Nat) (acc : Array Nat) (free : Nat), x.drop k = l → free ≤ k → acc.size + l.length < limit → k ≤ x.length →
  (forIn (List.range' k (x.length + 1 - k)) (acc, free) (occBody (S x) (S [c]) x.length limit)).run.fst.toList = acc.toList ++ bP c k l
 | [], k, acc, free, hd, hf, hl, hk => by
  have hk2 : k = x.length := by
   have := congrArg List.length hd
   simp at this
   omega
  have e : x.length + 1 - k = 1 := by omega
  have e1 : List.range' k 1 = [k] := rfl
  rw [e, e1, List.forIn_cons]
  unfold occBody
  have hc : ¬ (((((acc, free) : Array Nat × Nat).fst.size < limit ∧ ((acc, free) : Array Nat × Nat).snd ≤ k) ∧ k + (S [c]).length ≤ x.length) ∧ subAt (S x) (S [c]) k = true) := by
   rw [fQ]
   rintro ⟨⟨_, h⟩, _⟩
   omega
  rw [if_neg hc]
  simp [bP]
 | a :: r, k, acc, free, hd, hf, hl, hk => by
  have hlt : k < x.length := by
   have := congrArg List.length hd
   simp at this
   omega
  have e : x.length + 1 - k = (x.length + 1 - (k + 1)) + 1 := by omega
  have hx : x[k]? = some a := by
   have h1 : (x.drop k)[0]? = some a := by rw [hd]; rfl
   rw [List.getElem?_drop] at h1
   simpa using h1
  have hr : x.drop (k + 1) = r := by
   rw [← List.drop_drop, hd]; rfl
  rw [e, List.range'_succ, List.forIn_cons]
  unfold occBody
  simp only [List.length_cons] at hl
  by_cases hac : a = c
  ·have hc : (((((acc, free) : Array Nat × Nat).fst.size < limit ∧ ((acc, free) : Array Nat × Nat).snd ≤ k) ∧ k + (S [c]).length ≤ x.length) ∧ subAt (S x) (S [c]) k = true) := by
    rw [fQ, subAt_one x c k hlt, hx, hac]
    refine ⟨⟨⟨?_, hf⟩, by omega⟩, by simp⟩
    show acc.size < limit
    omega
   rw [if_pos hc]
   have ih := rG x c limit r (k + 1) (acc.push k) (k + (S [c]).length) hr (by rw [fQ]; omega) (by simp; omega) (by omega)
   refine Eq.trans ih ?_
   rw [show bP c k (a :: r) = k :: bP c (k + 1) r from if_pos hac]
   simp
  ·have hc : ¬ (((((acc, free) : Array Nat × Nat).fst.size < limit ∧ ((acc, free) : Array Nat × Nat).snd ≤ k) ∧ k + (S [c]).length ≤ x.length) ∧ subAt (S x) (S [c]) k = true) := by
    rw [subAt_one x c k hlt, hx]
    rintro ⟨_, h⟩
    exact hac (Option.some.inj (of_decide_eq_true h))
   rw [if_neg hc]
   have ih := rG x c limit r (k + 1) acc free hr (by omega) (by omega) (by omega)
   refine Eq.trans ih ?_
   conv => rhs; unfold bP
   rw [if_neg hac]
theorem Am (x : List Nat) (c : Nat) : occurrences (S x) (S [c]) 0 (S x).length ((S x).length + 1) = bP c 0 x := by
 rw [occ_eq, cw]
 have h := rG x c (x.length + 1) x 0 #[] 0 rfl (Nat.le_refl _) (by simp) (Nat.zero_le _)
 rw [h]
 simp
def pieces (l : List Nat) (ps : List Nat) : List (List Nat) := ((0 :: ps.map (· + 1)).zip (ps ++ [l.length])).map fun p => (l.drop p.1).take (p.2 - p.1)
theorem pq (c : Nat) : ∀ l : List Nat, pieces l (bP c 0 l) = cut c l
 | [] => rfl
 | a :: r => by
  have ih := pq c r
  have sh : bP c (0 + 1) r = (bP c 0 r).map (· + 1) := yA c r 0 1
  have tail : ∀ (A B : List Nat), ((A.map (· + 1)).zip (B.map (· + 1))).map (fun p : Nat × Nat => ((a :: r).drop p.1).take (p.2 - p.1)) = (A.zip B).map (fun p : Nat × Nat => (r.drop p.1).take (p.2 - p.1)) := fun A B => by
   rw [List.zip_map, List.map_map]
   refine List.map_congr_left fun p _ => ?_
   show ((a :: r).drop (p.1 + 1)).take (p.2 + 1 - (p.1 + 1)) = _
   rw [List.drop_succ_cons]
   congr 1
   omega
  unfold pieces at ih ⊢
  unfold bP cut
  rw [sh]
  by_cases h : a = c
  ·rw [if_pos h, if_pos h]
   have e1 : (0 :: (0 :: (bP c 0 r).map (· + 1)).map (· + 1)) = 0 :: ((0 :: (bP c 0 r).map (· + 1)).map (· + 1)) := rfl
   have e2 : (0 :: (bP c 0 r).map (· + 1)) ++ [(a :: r).length] = 0 :: ((bP c 0 r ++ [r.length]).map (· + 1)) := by simp
   rw [e1, e2, List.zip_cons_cons, List.map_cons, tail, ih]
   simp
  ·rw [if_neg h, if_neg h]
   have e2 : (bP c 0 r).map (· + 1) ++ [(a :: r).length] = (bP c 0 r ++ [r.length]).map (· + 1) := by simp
   rw [e2]
   generalize hB : bP c 0 r ++ [r.length] = B at ih
   cases B with
   | nil => simp at hB
   | cons b B' =>
    rw [List.zip_cons_cons, List.map_cons] at ih
    rw [← ih]
    rw [List.map_cons (l := B'), List.zip_cons_cons, List.map_cons, tail]
    simp
theorem Ln (x : List Nat) (i j : Nat) : strSub (S x) i j = S ((x.drop i).take (j - i)) := by
 rw [← Nb (strSub (S x) i j), strSub_toList, gH]
theorem yt (x : List Nat) (ps : List Nat) : partsBetween (S x) ps 1 = (pieces x ps).map S := by
 unfold partsBetween pieces
 rw [List.map_map, cw]
 refine List.map_congr_left fun p _ => ?_
 exact Ln x p.1 p.2
theorem BQ (c : Nat) : ∀ l : List Nat, bP c 0 l = [] → cut c l = [l]
 | l, h => by
  have := pq c l
  rw [h] at this
  rw [← this]
  simp [pieces]
theorem Fn (x : List Nat) (c : Nat) (hc : c < 256) : Txt.split (S x) (S [c]) = (cut c x).map S := by
 unfold Txt.split
 rw [Am, fQ, yt, pq]
 have nop : ∀ k, ¬ c ∈ x → bP c k x = [] := by
  intro k
  induction x generalizing k with
  | nil => intro _; rfl
  | cons a r ih =>
   intro hm
   unfold bP
   rw [if_neg (fun e => hm (by simp [e]))]
   exact ih (k + 1) fun m => hm (List.mem_cons_of_mem _ m)
 by_cases h1 : (decide ((S x).length < 1) || decide (PySem.Builtin.Str.strKind (S x) < PySem.Builtin.Str.strKind (S [c]))) = true
 ·rw [if_pos h1]
  have hx : bP c 0 x = [] := by
   refine nop 0 fun m => ?_
   rw [cw] at h1
   have hk : PySem.Builtin.Str.strKind (S [c]) = 1 := by unfold PySem.Builtin.Str.strKind S; simp [hc]
   rw [hk] at h1
   have hp : ¬ x.length < 1 := by cases x with | nil => simp at m | cons _ _ => simp
   have hq : ¬ PySem.Builtin.Str.strKind (S x) < 1 := by unfold PySem.Builtin.Str.strKind; split <;> (try split) <;> omega
   simp [hp, hq] at h1
  rw [BQ c x hx]; rfl
 ·rw [if_neg h1]
  by_cases h2 : (bP c 0 x).isEmpty = true
  ·rw [if_pos h2]
   rw [BQ c x (List.isEmpty_iff.mp h2)]; rfl
  ·rw [if_neg h2]
end Tx
namespace L2
open PySem PySem.Spec PyProof.Rows
def noStar : Expr → Bool
 | .Starred _ _ => false
 | _ => true
theorem dG {e : Expr} {es : List Expr} {env : Env} (h : noStar e = true) : starEach (e :: es) env = (false, eval e env) :: starEach es env := by
 cases e <;> first | rfl | cases h
theorem fo {pos : Pos} {env : Env} : ∀ {es : List Expr}, es.all noStar = true → (backTo pos (starEach es env)).any (·.1) = false
 | [], _ => rfl
 | e :: es, h => by
  rw [List.all_cons, Bool.and_eq_true] at h
  rw [dG h.1]
  have ih := fo (pos := pos) (env := env) h.2
  show ((false || (backTo pos (starEach es env)).any (·.1))) = false
  rw [ih]
  rfl
theorem pV {pos : Pos} {env : Env} : ∀ {es : List Expr}, es.all noStar = true → (backTo pos (starEach es env)).all (fun x => !x.1) = true
 | [], _ => rfl
 | e :: es, h => by
  rw [List.all_cons, Bool.and_eq_true] at h
  rw [dG h.1]
  have ih := pV (pos := pos) (env := env) h.2
  show ((true && (backTo pos (starEach es env)).all (fun x => !x.1))) = true
  rw [ih]
  rfl
section
variable {X : Cx}
theorem DW {e : Expr} {es : List Expr} {te : TE} {t : TA} (ha : PE X e te) (hr : PA X es t) (hs : noStar e = true := by rfl) : PA X (e :: es) (oz te t) := FW ha hr (dG hs)
theorem Ei {CX : cu} {k : Nat} {f : Addr} {fd : FuncData} {ps : List Str} {sp : Sp} {dvs : List V} {ds : List Value} {E : XK} {x : Str} {p pos : Pos} {e : Expr} {es : List Expr} {t : TA}
  (F : aD X.prog X.w X.K X.mg X.base CX k f fd ps sp) (hr : aN k X.A) (hg : Gl X x) (hm : X.mg x = some (.ref f)) (hk : PySem.W.keepIn X.K (.ref f) = true) (hb : Binds X.K fd ps ds) (hd : Vals dvs ds) (hx : Passes CX X E)
  (ha : PA X (e :: es) t) (hs : (e :: es).all noStar = true := by rfl) (hdb : (x == ("__debug__" : Str)) = false := by decide) : PE X (.Call (.Name x p) (e :: es) [] pos) (oP sp dvs E t) := by
 have hs' := hs
 rw [List.all_cons, Bool.and_eq_true] at hs'
 exact IJ F hr hg hm hk hb hd hx ha hdb (dG hs'.1) (fo hs'.2)
theorem G0 {x : Str} {p pos : Pos} {e : Expr} {es : List Expr} {t : TA} {id : String} {r : List V → Hp → VK → Prop} (hc : bX X (.builtin id) r) (hg : Gl X x) (hm : X.mg x = none) (hv : bootBuiltins x = some (.builtin id)) (ha : PA X (e :: es) t)
  (hs : (e :: es).all noStar = true := by rfl) (hn : x ≠ "__name__" := by decide) (hdb : (x == ("__debug__" : Str)) = false := by decide) : PE X (.Call (.Name x p) (e :: es) [] pos) (iQ r t) := by
 have hs' := hs
 rw [List.all_cons, Bool.and_eq_true] at hs'
 exact JR hc hg hm hv ha hn hdb (dG hs'.1) (fo hs'.2)
theorem K4 {x : Str} {p pos : Pos} {e : Expr} {es : List Expr} {t : TA} {T : String} {r : List V → Hp → VK → Prop} (hc : bX X (.type T) r) (hg : Gl X x) (hm : X.mg x = none) (hv : bootBuiltins x = some (.type T)) (ha : PA X (e :: es) t)
  (hs : (e :: es).all noStar = true := by rfl) (hn : x ≠ "__name__" := by decide) (hdb : (x == ("__debug__" : Str)) = false := by decide) : PE X (.Call (.Name x p) (e :: es) [] pos) (iQ r t) := by
 have hs' := hs
 rw [List.all_cons, Bool.and_eq_true] at hs'
 exact Jo hc hg hm hv ha hn hdb (dG hs'.1) (fo hs'.2)
end
end L2
namespace L2
open PySem PySem.Spec PyProof.Rows
section
variable {X : Cx}
theorem PE.imp {e : Expr} {t t' : TE} (h : PE X e t) (i : ∀ σ H Q, t' σ H Q → t σ H Q) : PE X e t' := fun pins s σ H Q I hw => h pins s σ H Q I (i σ H Q hw)
theorem PS.imp {e : Stmt} {t t' : TS} (h : PS X e t) (i : ∀ D σ H, t' D σ H → t D σ H) : PS X e t' := fun pins s σ H D I hw => h pins s σ H D I (i D σ H hw)
theorem aO.imp {f : Value → Value → Sem Value} {r r' : R2} (h : aO X f r) (i : ∀ x y H Q, r' x y H Q → r x y H Q) : aO X f r' := fun pins s σ H x y v u Q I rx ry q => h pins s σ H x y v u Q I rx ry (i x y H Q q)
theorem bX.imp {f : Value} {r r' : List V → Hp → VK → Prop} (h : bX X f r) (i : ∀ xs H Q, r' xs H Q → r xs H Q) : bX X f r' := fun pins s σ H xs us Q I rx q => h pins s σ H xs us Q I rx (i xs H Q q)
def nB (i : Nat) : TE := fun σ H Q => match σ[i]? with
 | some (some v) => Q v H
 | _ => False
theorem qv (i : Nat) {x : Str} {pos : Pos} (hN : X.N[i]? = some x := by rfl) (hv : hX X.env.scope x := by first | exact Or.inl rfl | exact Or.inr (Or.inl rfl) | exact Or.inr (Or.inr rfl)) (hd : (x == ("__debug__" : Str)) = false := by decide)
  (hcd : (x == ("__classdict__" : Str)) = false := by decide) : PE X (.Name x pos) (nB i) := (vc hN hv hd hcd).imp fun σ H Q h => by
 unfold nB at h
 split at h
 ·rename_i v e
  exact ⟨v, e, h⟩
 ·exact h.elim
def vW : R2 := fun x y H Q => match x, y with
 | .int i, .int j => Q (.int (i + j)) H
 | .str a, .str b => a.length + b.length ≤ sizeLine ∧ Q (.str (a ++ b)) H
 | .ref l, .ref b => match H l, H b with
  | some (.lst xs), some (.lst zs) => xs.length + zs.length ≤ sizeLine ∧ ∀ p, H p = none → Q (.ref p) (upd H p (.lst (xs ++ zs)))
  | _, _ => False
 | _, _ => False
theorem dI : aO X (binaryOp .Add) vW := (Iv.or (KI.or Ir)).imp fun x y H Q h => by
 unfold vW at h
 split at h
 ·exact .inl ⟨_, _, rfl, rfl, h⟩
 ·exact .inr (.inl ⟨_, _, rfl, rfl, h.1, h.2⟩)
 ·split at h
  ·rename_i xs zs h1 h2
   exact .inr (.inr ⟨_, _, xs, zs, rfl, rfl, h1, h2, h.1, h.2⟩)
  ·exact h.elim
 ·exact h.elim
def bt (K : PySem.W.Frag) (H : Hp) (p : Addr) (R : List V → Prop) : Prop := match H p with
 | some (.lst xs) => R xs
 | some (.tup xs) => R xs
 | _ => ∃ xs, (aJ K H p xs ∨ cn K H p xs) ∧ R xs
theorem se {K : PySem.W.Frag} {H : Hp} {p : Addr} {R : List V → Prop} (h : bt K H p R) : ∃ xs, (aJ K H p xs ∨ cn K H p xs) ∧ R xs := by
 unfold bt at h
 split at h
 ·rename_i xs e
  exact ⟨xs, .inl (aJ.of e), h⟩
 ·rename_i xs e
  exact ⟨xs, .inr (cn.of e), h⟩
 ·exact h
def pk (K : PySem.W.Frag) (H : Hp) (p : Addr) (R : List V → Prop) : Prop := ∃ xs, aJ K H p xs ∧ R xs
theorem rL {K : PySem.W.Frag} {H : Hp} {p : Addr} {R : List V → Prop} (h : pk K H p R) : ∃ xs, aJ K H p xs ∧ R xs := h
def E5 (f : Int → Int → Int) : R2 := fun x y H Q => match x, y with
 | .int i, .int j => Q (.int (f i j)) H
 | _, _ => False
def jn (C : Int → Int → Prop) (f : Int → Int → Int) : R2 := fun x y H Q => match x, y with
 | .int i, .int j => C i j ∧ Q (.int (f i j)) H
 | _, _ => False
theorem sS {C : Int → Int → Prop} {f : Int → Int → Int} {x y : V} {H : Hp} {Q : VK} (h : jn C f x y H Q) : rI C (fun i j => .int (f i j)) x y H Q := by
 unfold jn at h
 split at h
 ·exact ⟨_, _, rfl, rfl, h.1, h.2⟩
 ·exact h.elim
theorem dF : aO X (binaryOp .Mod) (jn (fun _ j => 0 < j) fun i j => i % j) := MC.imp fun _ _ _ _ h => sS h
theorem jm : aO X (binaryOp .FloorDiv) (jn zK fun i j => i / j) := Mt.imp fun _ _ _ _ h => sS h
def lV (neg : Bool) : R2 := fun x y H Q => match x, y with
 | .int i, .int j => Q (.bl (neg ^^ decide (i = j))) H
 | .str i, .str j => Q (.bl (neg ^^ decide (i = j))) H
 | .bl i, .bl j => Q (.bl (neg ^^ decide (i = j))) H
 | _, _ => uJ x y = true ∧ Q (.bl (neg ^^ decide (x = y))) H
theorem yk (i j : Int) : decide (V.int i = V.int j) = decide (i = j) := by by_cases h : i = j <;> simp [h]
theorem Aq (i j : Str) : decide (V.str i = V.str j) = decide (i = j) := by by_cases h : i = j <;> simp [h]
theorem As (i j : Bool) : decide (V.bl i = V.bl j) = decide (i = j) := by by_cases h : i = j <;> simp [h]
theorem eJ : aO X (compareOp .Eq) (lV false) := Gs.imp fun x y H Q h => by
 unfold lV at h
 simp only [Bool.false_bne] at h
 split at h
 ·exact ⟨rfl, by rw [yk]; exact h⟩
 ·exact ⟨rfl, by rw [Aq]; exact h⟩
 ·exact ⟨rfl, by rw [As]; exact h⟩
 ·exact h
theorem eT : aO X (compareOp .NotEq) (lV true) := Nu.imp fun x y H Q h => by
 unfold lV at h
 simp only [Bool.true_bne] at h
 split at h
 ·exact ⟨rfl, by rw [yk]; exact h⟩
 ·exact ⟨rfl, by rw [Aq]; exact h⟩
 ·exact ⟨rfl, by rw [As]; exact h⟩
 ·exact h
def fO (f : Int → Int → Bool) : R2 := fun x y H Q => match x, y with
 | .int i, .int j => Q (.bl (f i j)) H
 | _, _ => False
theorem uN {f : Int → Int → Bool} {x y : V} {H : Hp} {Q : VK} (h : fO f x y H Q) : iI (fun i j => .bl (f i j)) x y H Q := by
 unfold fO at h
 split at h
 ·exact ⟨_, _, rfl, rfl, h⟩
 ·exact h.elim
theorem Bo : aO X (compareOp .Lt) (fO fun i j => decide (i < j)) := GX.imp fun _ _ _ _ h => uN h
theorem jl : aO X (compareOp .LtE) (fO fun i j => decide (i ≤ j)) := MV.imp fun _ _ _ _ h => uN h
theorem zE : aO X (compareOp .Gt) (fO fun i j => decide (j < i)) := Jv.imp fun _ _ _ _ h => uN h
def ni (K : PySem.W.Frag) : R2 := fun x y H Q => match x, y with
 | .str i, .str j => Q (.bl (!(Builtin.Str.occurrences j i 0 j.length 1).isEmpty)) H
 | _, .ref p => bt K H p fun xs => dm x = true ∧ xs.all dm = true ∧ Q (.bl (dQ x xs)) H
 | _, _ => False
theorem HA : aO X (compareOp .In) (ni X.K) := (Du.or BG).imp fun x y H Q h => by
 unfold ni at h
 split at h
 ·exact .inl ⟨_, _, rfl, rfl, h⟩
 ·obtain ⟨xs, h1, h2, h3, h4⟩ := se h
  exact .inr ⟨_, xs, rfl, h1, h2, h3, h4⟩
 ·exact h.elim
def gG (t : TE) : TT := fun σ H Q => t σ H fun x H' => match x with
 | .bl k => Q k H'
 | _ => False
theorem rE {x : V} {H : Hp} {Q : Bool → Hp → Prop} (h : (match x with | .bl k => Q k H | _ => False)) : ∃ k, x = .bl k ∧ Q k H := by
 split at h
 ·exact ⟨_, rfl, h⟩
 ·exact h.elim
theorem Ie {op : CmpOp} {r : R2} {a b : Expr} {ta tb : TE} {pos : Pos} (ho : aO X (compareOp op) r) (ha : PE X a ta) (hb : PE X b tb) (hm : behindInMarks op b = false := by first | exact oT _ (by decide) (by decide) | rfl) :
  PT X (.Compare a [op] [b] pos) (gG (gj r ta tb)) := by
 intro pins s σ H Q I h
 refine wpAny_isTrue_Compare1 ?_ hm
 refine aA (ha pins s σ H _ I h) fun v s1 ⟨x, H1, I1, r1, q1⟩ => aA (hb pins s1 σ H1 _ I1 q1) fun u s2 ⟨y, H2, I2, r2, q2⟩ => ?_
 refine aA (ho pins s2 σ H2 x y v u _ I2 r1 r2 q2) fun c s3 ⟨z, H3, I3, r3, q3⟩ => ?_
 obtain ⟨k, rfl, q⟩ := rE q3
 cases r3
 exact wpAny_truthy_bool ⟨H3, I3, q⟩
theorem F6 {e : Expr} {t : TE} (h : PE X e t) (he : ∀ whole, isTrue e X.env whole = (do let v ← whole; standAt e.pos; holding [v] (truthy v)) := by intro _; rfl) : PT X e (gG t) := by
 intro pins s σ H Q I hw
 refine isTrue_plain (aA (h pins s σ H _ I hw) fun v s1 ⟨x, H1, I1, r1, q1⟩ => ?_) (he _)
 obtain ⟨d, rfl, q⟩ := rE q1
 cases r1
 exact wpAny_truthy_bool ⟨H1, I1, q⟩
def uI (f g : Int → Int → Bool) (ta tb tc : TE) : TT := fun σ H Q => ta σ H fun x H1 => tb σ H1 fun y H2 => match x, y with
 | .int i, .int j => if f i j = true then tc σ H2 fun z H3 => (match z with | .int k => Q (g j k) H3 | _ => False) else Q false H2
 | _, _ => False
def sL (ta tb : TE) : TE := fun σ H Q => ta σ H fun x H1 => match x with
 | .bl c => if c = true then tb σ H1 Q else Q (.bl false) H1
 | _ => False
def vE (ta tb : TE) : TE := fun σ H Q => ta σ H fun x H1 => match x with
 | .bl c => if c = true then Q (.bl true) H1 else tb σ H1 Q
 | _ => False
def pT (ta : TE) : TE := fun σ H Q => ta σ H fun x H1 => match x with
 | .bl c => Q (.bl (!c)) H1
 | _ => False
variable {a b : Expr} {ta tb : TE} {pos : Pos} {rest : List Expr}
theorem FE (ha : PE X a ta) (hb : PE X (.BoolOp .And (b :: rest) pos) tb) : PE X (.BoolOp .And (a :: b :: rest) pos) (sL ta tb) := by
 intro pins s σ H Q I h
 refine BoolOp_and (aA (ha pins s σ H _ I h) fun v s1 ⟨x, H1, I1, r1, q1⟩ => ?_)
 have q1' : ∃ c, x = .bl c ∧ if c = true then tb σ H1 Q else Q (.bl false) H1 := by
  dsimp only at q1
  split at q1
  ·exact ⟨_, rfl, q1⟩
  ·exact q1.elim
 obtain ⟨c, rfl, q1⟩ := q1'
 cases r1
 refine wpAny_truthy_bool ?_
 cases c with
 | true => exact hb pins s1 σ H1 Q I1 q1
 | false => exact ⟨.bl false, H1, I1, rfl, q1⟩
theorem M4 (ha : PE X a ta) (hb : PE X (.BoolOp .Or (b :: rest) pos) tb) : PE X (.BoolOp .Or (a :: b :: rest) pos) (vE ta tb) := by
 intro pins s σ H Q I h
 refine BoolOp_or (aA (ha pins s σ H _ I h) fun v s1 ⟨x, H1, I1, r1, q1⟩ => ?_)
 have q1' : ∃ c, x = .bl c ∧ if c = true then Q (.bl true) H1 else tb σ H1 Q := by
  dsimp only at q1
  split at q1
  ·exact ⟨_, rfl, q1⟩
  ·exact q1.elim
 obtain ⟨c, rfl, q1⟩ := q1'
 cases r1
 refine wpAny_truthy_bool ?_
 cases c with
 | false => exact hb pins s1 σ H1 Q I1 q1
 | true => exact ⟨.bl true, H1, I1, rfl, q1⟩
def nR : V → Value
 | .ty n => .type n
 | .ref a => .ref a
 | _ => .none
theorem LC : bX X (.builtin "isinstance") (fun xs H Q => ∃ x cV t b, xs = [x, cV] ∧ ((∃ n, cV = .ty n) ∨ ∃ a, cV = .ref a) ∧ de X.K H x t ∧ PySem.W.kitOne X.K t (nR cV) = some b ∧ Q (.bl b) H) := by
 intro pins s σ H xs us Q I r h
 obtain ⟨x, cV, t, b, rfl, hc, ty, e, q⟩ := h
 obtain ⟨u, c', rfl, ru, rc'⟩ := vals2 r
 have ec : c' = nR cV := by
  rcases hc with ⟨n, rfl⟩ | ⟨a, rfl⟩
  ·exact rc'
  ·exact rc'
 subst ec
 exact rV I ru ty e fun tk => ⟨.bl b, H, I.tok tk, rfl, q⟩
end
end L2
namespace L2
open PySem PySem.Spec PyProof.Rows
section
variable {X : Cx}
def qG : V → List V → Hp → VK → Prop := fun x xs H Q => match x, xs with
 | .str a, [.str b] => Q (.bl (Txt.startswith a b)) H
 | _, _ => False
theorem OI : cI X "str.startswith" qG := by
 intro pins s σ H x xs v us Q I rx r h
 unfold qG at h
 split at h
 ·rename_i a b
  obtain ⟨t, rfl⟩ := rx
  obtain ⟨u, rfl, t', rfl⟩ := vals1 r
  exact call_meets F.slot_str_startswith (typeIs_str s a t) F.entry_str_startswith (F.args_str_startswith_2 _ _) (gives_str_startswith a b t t').meets ⟨.bl _, H, I, rfl, h⟩
 ·exact h.elim
def qk : V → List V → Hp → VK → Prop := fun x xs H Q => match x, xs with
 | .str a, [.str b] => Q (.bl (Txt.endswith a b)) H
 | _, _ => False
theorem OF : cI X "str.endswith" qk := by
 intro pins s σ H x xs v us Q I rx r h
 unfold qk at h
 split at h
 ·rename_i a b
  obtain ⟨t, rfl⟩ := rx
  obtain ⟨u, rfl, t', rfl⟩ := vals1 r
  exact call_meets F.slot_str_endswith (typeIs_str s a t) F.entry_str_endswith (F.args_str_endswith_2 _ _) (gives_str_endswith a b t t').meets ⟨.bl _, H, I, rfl, h⟩
 ·exact h.elim
def N3 : V → List V → Hp → VK → Prop := fun x xs H Q => match x, xs with
 | .str a, [] => (Txt.upper a).length ≤ sizeLine ∧ Q (.str (Txt.upper a)) H
 | _, _ => False
theorem Bm : ∀ (l : List (Str × Tok)), Vals ((l.map (·.1)).map V.str) (strValues l)
 | [] => .nil
 | p :: r => .cons ⟨p.2, rfl⟩ (Bm r)
theorem j6 : ∀ {ts : List Str} {us : List Value}, Vals (ts.map V.str) us → ∃ l : List (Str × Tok), us = strValues l ∧ l.map (·.1) = ts
 | [], _, .nil => ⟨[], rfl, rfl⟩
 | t :: r, _, .cons h h' => by
  obtain ⟨k, rfl⟩ := h
  obtain ⟨l, e1, e2⟩ := j6 h'
  exact ⟨(t, k) :: l, by rw [e1]; rfl, by rw [← e2]; rfl⟩
def qC : V → List V → Hp → VK → Prop := fun x xs H Q => match x, xs with
 | .str a, [.str b] => (b.length == 0) = false ∧ a.length ≤ sizeLine ∧ (Builtin.Str.partsBetween a (Builtin.Str.occurrences a b 0 a.length (a.length + 1)) b.length).length ≤ sizeLine ∧
   ∀ l, H l = none → Q (.ref l) (upd H l (.lst ((Txt.split a b).map V.str)))
 | _, _ => False
theorem Mo : cI X "str.split" qC := by
 intro pins s σ H x xs v us Q I rx r h
 unfold qC at h
 split at h
 ·rename_i a b
  obtain ⟨hy, hx, hn, q⟩ := h
  obtain ⟨t, rfl⟩ := rx
  obtain ⟨w', rfl, u, rfl⟩ := vals1 r
  have fin : ∀ (l : List (Str × Tok)) (tk : Nat), l.map (·.1) = Txt.split a b → l.length ≤ sizeLine →
    EP X pins σ Q (.ref s.heap.objs.size) { s with heap := s.heap.push { cls := .type "list", data := .seq (strValues l).toArray }, toks := tk } := fun l tk e hz =>
   ⟨.ref _, _, I.laid (t' := tk) (o := .lst ((Txt.split a b).map V.str)) (fun b' o' q' => Heap.get?_push_of_some _ q') (Nat.le_refl _)
    ⟨by rw [List.length_map, ← e, List.length_map]; exact hz, strValues l, 0, by rw [← e]; exact Bm l, Heap.get?_push_size _ rfl⟩, rfl, q _ (I.ax.fresh (Nat.le_refl _))⟩
  cases h1 : (decide (a.length < b.length) || decide (Builtin.Str.strKind a < Builtin.Str.strKind b))
  ·cases hf : (Builtin.Str.occurrences a b 0 a.length (a.length + 1)).isEmpty
   ·refine call_meets F.slot_str_split (typeIs_str s a t) F.entry_str_split (F.args_str_split_2 _ _) (meets_str_split_sep a b t u h1 hy hf hx hn) ?_
    have e : Txt.split a b = Builtin.Str.partsBetween a (Builtin.Str.occurrences a b 0 a.length (a.length + 1)) b.length := (if_neg (ne_true_of_eq_false h1)).trans (if_neg (ne_true_of_eq_false hf))
    have z := fin (numbered s.toks (Builtin.Str.partsBetween a (Builtin.Str.occurrences a b 0 a.length (a.length + 1)) b.length)) (s.toks + (Builtin.Str.partsBetween a (Builtin.Str.occurrences a b 0 a.length (a.length + 1)) b.length).length)
     ((numbered_texts _ _).trans e.symm) (by
      have := congrArg List.length (numbered_texts s.toks (Builtin.Str.partsBetween a (Builtin.Str.occurrences a b 0 a.length (a.length + 1)) b.length))
      rw [List.length_map] at this
      rw [this]; exact hn)
    rw [← strsFrom_eq] at z
    exact z
   ·exact call_meets F.slot_str_split (typeIs_str s a t) F.entry_str_split (F.args_str_split_2 _ _) (meets_str_split_not_found a b t u h1 hy hf)
     (fin [(a, t)] s.toks ((if_neg (ne_true_of_eq_false h1)).trans (if_pos hf)).symm (by show 1 ≤ sizeLine; decide))
  ·exact call_meets F.slot_str_split (typeIs_str s a t) F.entry_str_split (F.args_str_split_2 _ _) (meets_str_split_cannot_occur a b t u h1)
    (fin [(a, t)] s.toks (if_pos h1).symm (by show 1 ≤ sizeLine; decide))
 ·exact h.elim
def rJoin (K : PySem.W.Frag) : V → List V → Hp → VK → Prop := fun x xs H Q => match x, xs with
 | .str a, [.ref p] => pk K H p fun xs => ∃ ts : List Str, xs = ts.map V.str ∧ ts.foldl (fun n z => n + z.length + a.length) 0 ≤ sizeLine ∧ Q (.str (Str.join a ts)) H
 | _, _ => False
theorem EJ : cI X "str.join" (rJoin X.K) := by
 intro pins s σ H x xs v us Q I rx r h
 unfold rJoin at h
 split at h
 ·rename_i a p
  obtain ⟨xs, hq, ts, rfl, hz, q⟩ := rL h
  obtain ⟨t, rfl⟩ := rx
  obtain ⟨w', rfl, e⟩ := vals1 r
  cases e
  obtain ⟨its, rv, pl, hl⟩ := I.list hq
  obtain ⟨l, rfl, e2⟩ := j6 rv
  have kK : Builtin.Str.tooLong ((l.map (·.1)).toArray.foldl (· + ·.length + a.length) 0) = false := by
   unfold Builtin.Str.tooLong
   refine decide_eq_false (Nat.not_lt.mpr ?_)
   rw [List.foldl_toArray, e2]
   exact hz
  refine call_meets F.slot_str_join (typeIs_str s a t) F.entry_str_join (F.args_str_join_2 _ _) (meets_str_join_list a t p l kK) ⟨pl.isList, ?_⟩
  have hlen : (Builtin.Str.glued a (l.map (·.1))).length ≤ sizeLine := by
   rw [e2, StrLaws.glued_eq_join]
   refine Nat.le_trans ?_ hz
   have : ∀ (us : List Str) (n : Nat), n + (Str.join a us).length ≤ us.foldl (fun n z => n + z.length + a.length) n := by
    intro us
    induction us with
    | nil => intro n; exact Nat.le_refl _
    | cons y r ih =>
     intro n
     cases r with
     | nil => show n + y.length ≤ n + y.length + a.length; omega
     | cons z r' =>
      have h1 : (Str.join a (y :: z :: r')).length = y.length + a.length + (Str.join a (z :: r')).length := by
       show ((y ++ a) ++ Str.join a (z :: r')).length = _
       rw [Str.length_append, Str.length_append]
      have h2 := ih (n + y.length + a.length)
      rw [h1]
      refine Nat.le_trans ?_ h2
      omega
   have h0 := this ts 0
   omega
  have e3 : Builtin.Str.glued a (l.map (·.1)) = Str.join a ts := by rw [e2, StrLaws.glued_eq_join]
  match l, e2, e3, hlen with
  | [], e2, e3, hlen => exact ⟨hlen, ⟨.str (Str.join a ts), H, I.tok _, ⟨_, by rw [e3]⟩, q⟩⟩
  | [p], e2, e3, hlen =>
   have e4 : Str.join a ts = p.1 := by rw [← e2]; rfl
   exact ⟨.str (Str.join a ts), H, I.tok _, ⟨_, by rw [e4]⟩, q⟩
  | p1 :: p2 :: r', e2, e3, hlen => exact ⟨hlen, ⟨.str (Str.join a ts), H, I.tok _, ⟨_, by rw [e3]⟩, q⟩⟩
 ·exact h.elim
theorem yR {v : Value} {o : Option Int} (p : IsPart v o) : ∃ l : Option (Int × Tok), v = partValue l ∧ l.map (·.1) = o := by
 cases p with
 | none => exact ⟨none, rfl, rfl⟩
 | int i t => exact ⟨some (i, t), rfl, rfl⟩
def BA : V → Option Int → Option Int → Hp → VK → Prop := fun x lo hi H Q => match x with
 | .str z => z.length ≤ sizeLine ∧ Q (.str (Txt.slice z lo hi)) H
 | _ => False
theorem LP : fH X BA := by
 intro pins s σ H x v vl vu lo hi sl Q I rx hs pl pu h
 unfold BA at h
 split at h
 ·rename_i z
  obtain ⟨hz, q⟩ := h
  obtain ⟨t, rfl⟩ := rx
  obtain ⟨l, rfl, rfl⟩ := yR pl
  obtain ⟨u, rfl, rfl⟩ := yR pu
  refine ⟨"str", _, F.slot_str_getitem.lookup, typeIs_str _ _ _, wpAny_getItem_str_slice (l := l) (u := u) (st := none) hs rfl
   (post_val_or_str ⟨Nat.le_trans (Txt.slice_le z _ _) hz, fun t' k => ?_⟩)⟩
  exact ⟨.str (Txt.slice z (l.map (·.1)) (u.map (·.1))), H, I.tok k, ⟨t', rfl⟩, q⟩
 ·exact h.elim
def ug : R2 := fun x y H Q => match x, y with
 | .int i, .int j => oe i j ∧ Q (.int (i * j)) H
 | .str z, .int n => MulOk z n ∧ Q (.str (Txt.mul z n)) H
 | .ref l, .int k => match H l with
  | some (.lst xs) => -(2 ^ 63) ≤ k ∧ k < 2 ^ 63 ∧ xs.length * k.toNat ≤ sizeLine ∧ ∀ p, H p = none → Q (.ref p) (upd H p (.lst (List.replicate k.toNat xs).flatten))
  | _ => False
 | _, _ => False
theorem Fm : aO X (binaryOp .Mult) (fun x y H Q => ∃ z n, x = .str z ∧ y = .int n ∧ MulOk z n ∧ Q (.str (Txt.mul z n)) H) := by
 intro pins s σ H x y v u Q I rx ry h
 obtain ⟨z, n, rfl, rfl, hm, q⟩ := h
 obtain ⟨t, rfl⟩ := rx
 obtain ⟨t', rfl⟩ := ry
 exact SB.mul hm fun t2 k => ⟨.str _, H, I.tok _, ⟨_, rfl⟩, q⟩
theorem jI : aO X (binaryOp .Mult) ug := (DF.or (Fm.or Ko)).imp fun x y H Q h => by
 unfold ug at h
 split at h
 ·exact .inl ⟨_, _, rfl, rfl, h.1, h.2⟩
 ·exact .inr (.inl ⟨_, _, rfl, rfl, h.1, h.2⟩)
 ·split at h
  ·rename_i xs h1
   obtain ⟨h2, h3, h4, h5⟩ := h
   exact .inr (.inr ⟨_, _, xs, rfl, rfl, h1, h2, h3, h4, h5⟩)
  ·exact h.elim
 ·exact h.elim
theorem BL : ∀ {bs : List Bool} {us : List Value}, Vals (bs.map V.bl) us → us = bs.map Value.bool
 | [], _, .nil => rfl
 | b :: r, _, .cons h h' => by
  have h : _ = Value.bool b := h
  rw [h, BL h']
  rfl
theorem all_range (bs : List Bool) : (List.range bs.length).all (fun j => bs.getD j true) = bs.all id := by
 rw [Bool.eq_iff_iff, List.all_eq_true, List.all_eq_true]
 constructor
 ·intro h b hb
  obtain ⟨i, hi, e⟩ := List.getElem_of_mem hb
  have := h i (List.mem_range.mpr hi)
  rw [List.getD_eq_getElem?_getD, List.getElem?_eq_getElem hi, e] at this
  exact this
 ·intro h j hj
  have hj := List.mem_range.mp hj
  rw [List.getD_eq_getElem?_getD, List.getElem?_eq_getElem hj]
  exact h _ (List.getElem_mem hj)
theorem Ls (hc : X.calm = true) : bX X (.builtin "all") (fun xs H Q => ∃ (p : Addr) (bs : List Bool), xs = [.ref p] ∧ aJ X.K H p (bs.map V.bl) ∧ Q (.bl (bs.all id)) H) := by
 intro pins s σ H xs us Q I r h
 obtain ⟨p, bs, rfl, hq, q⟩ := h
 obtain ⟨u, rfl, e⟩ := vals1 r
 cases e
 obtain ⟨its, rv, pl, hz⟩ := I.list hq
 have eb := BL rv
 subst eb
 have hpl : p < s.heap.objs.size := pl.lt
 refine call_all_walk (wpAny_pyIter_list pl.isList ?_)
 refine ⟨s.heap.objs.size, _, _, _, _, _, fun j => bs.getD j true, rfl, Walks.list (A := X.A.in1) (show X.A.in1.handled = none from I.ok.hd hc) _ p (Nat.ne_of_lt hpl) (bs.map Value.bool).toArray, ⟨⟨_, Heap.get?_push_size _ rfl, rfl, rfl⟩, pl.isList.push _⟩, ?_, ?_⟩
 ·intro i v s' Q' E' hP hQ
  have hi : bs[i]? = some (bs.getD i true) ∧ v = .bool (bs.getD i true) := by
   have hP : (bs.map Value.bool).toArray[i]? = some v := hP
   rw [List.getElem?_toArray, List.getElem?_map] at hP
   cases e : bs[i]? with
   | none => rw [e] at hP; cases hP
   | some b =>
    rw [e] at hP
    have : bs.getD i true = b := by rw [List.getD_eq_getElem?_getD, e]; rfl
    rw [this]
    exact ⟨rfl, (Option.some.inj hP).symm⟩
  rw [hi.2]
  exact wpAny_truthy_bool hQ
 ·intro h' tk hk
  have e : (List.range (bs.map Value.bool).toArray.size).all (fun j => bs.getD j true) = bs.all id := by
   rw [List.size_toArray, List.length_map]
   exact all_range bs
  rw [e]
  refine ⟨.bl (bs.all id), H, I.kept (t' := tk) (fun b o eo => ?_), rfl, q⟩
  refine hk b o ?_ (Heap.get?_push_of_some _ eo)
  intro hm
  have e1 : b = s.heap.objs.size := by simpa using hm
  exact absurd (Heap.lt_size eo) (by rw [e1]; exact Nat.lt_irrefl _)
def lE (x : Str) : It := ⟨fun i _ => i < x.length, fun i H y H' => H' = H ∧ ∃ c, x.cps[i]? = some c ∧ y = .str ⟨#[c]⟩, fun i _ => x.length ≤ i⟩
theorem yx {P : Program} {w : World} {K : PySem.W.Frag} {tg : Expr} {x : Str} {t : Tok} {ty : String} (it : Addr)
  (hty : ["enumerate", "zip", "dict_itemiterator", "dict_reverseitemiterator", "odict_iterator", "itertools.zip_longest", "itertools.pairwise"].contains ty = false)
  (W : ∀ A : Around, A.handled = none → Walks P w A it [it] [it] x.cps.size (SignAt x) (fun i h => h.IsStrIter it ty x t i)) (W0 : ∀ (A : Around) (i : Nat) (s : Shared) (Q : Value → Shared → Prop) (E : Value → Shared → Prop), s.heap.IsStrIter it ty x t i → Q (.ref it) s → wpAny (model P w) A (pyIter (.ref it)) Q E s) :
  Turn P w K tg (lE x) [it] it (fun i h => i ≤ x.length ∧ h.IsStrIter it ty x t i) where
 mem := by simp
 obj := fun i h st b hb => by
  have e : b = it := by simpa using hb
  subst e
  obtain ⟨_, o, e, c, d⟩ := st
  exact ⟨o, e, fun v z => by rw [d] at z; cases z⟩
 keep := fun i h h' st k => ⟨st.1, let ⟨o, ho, r⟩ := st.2; ⟨o, k it (by simp) o ho, r⟩⟩
 item := by
  intro X hP hw hK hc i pins s σ H E I hf st hg
  subst hP hw hK
  obtain ⟨f0, f1, f2, f3, f4, f5⟩ := hf it (by simp)
  refine (W X.A (I.ok.hd hc)).item i s _ E hg st.2 fun v h' tk hv st' hk => ?_
  obtain ⟨c, u, hcx, rfl⟩ := hv
  have I1 : Inv X pins σ H { s with heap := h', toks := tk } := I.turned (t' := tk) (fun b o hb e => hk b o (by simpa using hb) e) f0 f1 f3 f4 f5
  obtain ⟨o, e, cc, d⟩ := id st'
  exact ⟨_, rfl, ui (s := { s with heap := h', toks := tk }) e cc d hty ⟨.str ⟨#[c]⟩, H, I1, ⟨u, rfl⟩, ⟨rfl, c, hcx, rfl⟩, ⟨hg, st'⟩, fun b hb => (hf b hb).1⟩⟩
 done := by
  intro X hP hw hK hc i pins s σ H E I hf st hg
  subst hP hw hK
  obtain ⟨f0, f1, f2, f3, f4, f5⟩ := hf it (by simp)
  have hi : i = x.cps.size := Nat.le_antisymm st.1 hg
  subst hi
  exact (W X.A (I.ok.hd hc)).done s _ E st.2 fun h' tk hk => ⟨rfl, I.turned (t' := tk) (fun b o hb e => hk b o (by simpa using hb) e) f0 f1 f3 f4 f5⟩
 self := fun A i s Q E st h => W0 A i s Q E st.2 h
def rp (tl : TE) : TI := fun σ H R => tl σ H fun x H1 => match x with
 | .str z => R (lE z) H1
 | _ => False
theorem EG {tg l : Expr} {tl : TE} (hl : PE X l tl) : PI X tg l (rp tl) := by
 intro pins s σ H R I h
 refine aA (hl pins s σ H _ I h) fun v s1 ⟨x, H1, I1, r1, q1⟩ => ?_
 have q1' : ∃ z, x = .str z ∧ R (lE z) H1 := by
  dsimp only at q1
  split at q1
  ·exact ⟨_, rfl, q1⟩
  ·exact q1.elim
 obtain ⟨z, rfl, q⟩ := q1'
 obtain ⟨t, rfl⟩ := r1
 have fp : ∀ b ∈ [s1.heap.objs.size], eO X pins H1 b := fun b hb => by
  have e : b = s1.heap.objs.size := by simpa using hb
  subst e
  exact I1.oU (Nat.le_refl _) (I1.ax.fresh (Nat.le_refl _))
 cases ha : z.cps.all (· < 128)
 ·refine wpAny_pyIter_wide ha ⟨s1.heap.objs.size, [s1.heap.objs.size], _, _, H1, rfl, I1.kept (t' := s1.toks) fun b o e => Heap.get?_push_of_some _ e,
   yx (ty := "str_iterator") (t := t) _ (by decide) (fun A hA => Walks.strWide hA _ z t) (fun A i s Q E st h => wpAny_pyIter_striter_wide st h), ⟨Nat.zero_le _, _, Heap.get?_push_size _ rfl, rfl, rfl⟩, fp, q⟩
 ·refine wpAny_pyIter_ascii ha ⟨s1.heap.objs.size, [s1.heap.objs.size], _, _, H1, rfl, I1.kept (t' := s1.toks) fun b o e => Heap.get?_push_of_some _ e,
   yx (ty := "str_ascii_iterator") (t := t) _ (by decide) (fun A hA => Walks.strAscii hA _ z t) (fun A i s Q E st h => wpAny_pyIter_striter_ascii st h), ⟨Nat.zero_le _, _, Heap.get?_push_size _ rfl, rfl, rfl⟩, fp, q⟩
end
end L2
namespace L2
open PySem PySem.Spec PyProof.Rows
section
variable {X : Cx} {a b c : Expr} {ta tb tc : TE} {pos : Pos}
theorem DV (ha : PE X a ta) : PE X (.UnaryOp .Not a pos) (pT ta) := by
 intro pins s σ H Q I h
 refine UnaryOp_ (aA (ha pins s σ H _ I h) fun v s1 ⟨x, H1, I1, r1, q1⟩ => ?_)
 have q1' : ∃ k, x = .bl k ∧ Q (.bl (!k)) H1 := by
  dsimp only at q1
  split at q1
  ·exact ⟨_, rfl, q1⟩
  ·exact q1.elim
 obtain ⟨k, rfl, z1⟩ := q1'
 cases r1
 exact not_of (wpAny_truthy_bool ⟨.bl (!k), H1, I1, rfl, z1⟩)
theorem Gj {op op' : CmpOp} {f g : Int → Int → Bool} (ho : aO X (compareOp op) (fO f)) (ho' : aO X (compareOp op') (fO g)) (ha : PE X a ta) (hb : PE X b tb) (hc : PE X c tc)
  (hm : lastMarks [op, op'] [b, c] = false := by with_unfolding_all rfl) : PT X (.Compare a [op, op'] [b, c] pos) (uI f g ta tb tc) := by
 intro pins s σ H Q I h
 refine isTrue_chain (aA (ha pins s σ H _ I h) fun v s1 ⟨x, H1, I1, r1, q1⟩ => test_link (aA (hb pins s1 σ H1 _ I1 q1) fun u s2 ⟨y, H2, I2, r2, q2⟩ => ?_)) hm
 have q2' : ∃ i j, x = .int i ∧ y = .int j ∧ if f i j = true then tc σ H2 (fun z H3 => (match z with | .int k => Q (g j k) H3 | _ => False)) else Q false H2 := by
  dsimp only at q2
  split at q2
  ·exact ⟨_, _, rfl, rfl, q2⟩
  ·exact q2.elim
 obtain ⟨i, j, rfl, rfl, z2⟩ := q2'
 refine aA (ho pins s2 σ H2 (.int i) (.int j) v u (fun z H3 => z = .bl (f i j) ∧ H3 = H2) I2 r1 r2 ⟨rfl, rfl⟩) fun d s3 ⟨z, H3, I3, r3, e, e'⟩ => ?_
 subst e e'
 cases r3
 refine wpAny_truthy_bool ?_
 cases hf : f i j with
 | false =>
  rw [hf] at z2
  exact ite_ff ⟨H3, I3, z2⟩
 | true =>
  rw [hf, if_pos rfl] at z2
  refine ite_tt (test_last (aA (hc pins s3 σ H3 _ I3 z2) fun w' s4 ⟨z', H4, I4, r4, q4⟩ => ?_))
  have q4' : ∃ k, z' = .int k ∧ Q (g j k) H4 := by
   dsimp only at q4
   split at q4
   ·exact ⟨_, rfl, q4⟩
   ·exact q4.elim
  obtain ⟨k, rfl, z4⟩ := q4'
  refine aA (ho' pins s4 σ H4 (.int j) (.int k) u w' (fun z H5 => z = .bl (g j k) ∧ H5 = H4) I4 r2 r4 ⟨rfl, rfl⟩) fun d' s5 ⟨z2, H5, I5, r5, e, e'⟩ => ?_
  subst e e'
  cases r5
  exact wpAny_truthy_bool ⟨H5, I5, z4⟩
def oR (K : PySem.W.Frag) : List V → Hp → VK → Prop := fun xs H Q => match xs with
 | [.str y] => y.length ≤ sizeLine ∧ Q (.int y.length) H
 | [.ref p] => bt K H p fun ys => Q (.int ys.length) H
 | _ => False
theorem HC : bX X (.builtin "len") (oR X.K) := zP.imp fun xs H Q h => by
 unfold oR at h
 split at h
 ·exact ⟨_, _, rfl, ⟨h.1, rfl⟩, h.2⟩
 ·obtain ⟨ys, h1, h2⟩ := se h
  rcases h1 with h1 | h1
  ·exact ⟨_, _, rfl, .inl ⟨ys, h1, rfl⟩, h2⟩
  ·exact ⟨_, _, rfl, .inr ⟨ys, h1, rfl⟩, h2⟩
 ·exact h.elim
def zt (K : PySem.W.Frag) : List V → Hp → VK → Prop := fun xs H Q => match xs with
 | [x, cV] => ∃ t b, ((∃ n, cV = .ty n) ∨ ∃ a, cV = .ref a) ∧ de K H x t ∧ PySem.W.kitOne K t (nR cV) = some b ∧ Q (.bl b) H
 | _ => False
theorem HP : bX X (.builtin "isinstance") (zt X.K) := LC.imp fun xs H Q h => by
 unfold zt at h
 split at h
 ·obtain ⟨t, b, h1, h2, h3, h4⟩ := h
  exact ⟨_, _, t, b, rfl, h1, h2, h3, h4⟩
 ·exact h.elim
def og (K : PySem.W.Frag) : List V → Hp → VK → Prop := fun xs H Q => match xs with
 | [.ref p] => pk K H p fun xs => ∃ bs : List Bool, xs = bs.map V.bl ∧ Q (.bl (bs.all id)) H
 | _ => False
theorem Fh (hc : X.calm = true) : bX X (.builtin "all") (og X.K) := (Ls hc).imp fun xs H Q h => by
 unfold og at h
 split at h
 ·obtain ⟨xs, h1, bs, rfl, h2⟩ := rL h
  exact ⟨_, bs, rfl, h1, h2⟩
 ·exact h.elim
def GD (K : PySem.W.Frag) : List V → Hp → VK → Prop := fun xs H Q => match xs with
 | [.ref p] => bt K H p fun ys => ∀ l, H l = none → Q (.ref l) (upd H l (.lst ys))
 | _ => False
def oB (K : PySem.W.Frag) : R2 := fun x y H Q => match x, y with
 | .ref p, .int i => bt K H p fun xs => match bu xs i with
  | some v => Q v H
  | none => False
 | .str z, .int i => z.length ≤ sizeLine ∧ match bu z.cps.toList i with
  | some c => Q (.str ⟨#[c]⟩) H
  | none => False
 | _, _ => False
theorem di.imp {r r' : R2} (h : di X r) (i : ∀ x y H Q, r' x y H Q → r x y H Q) : di X r' := fun value slice pins s σ H x y v u Q I rx ry q => h value slice pins s σ H x y v u Q I rx ry (i x y H Q q)
theorem qx : di X (oB X.K) := JS.imp fun x y H Q h => by
 unfold oB at h
 split at h
 ·obtain ⟨xs, h1, h2⟩ := se h
  split at h2
  ·rename_i v e
   rcases h1 with h1 | h1
   ·exact .inl ⟨_, xs, _, v, rfl, rfl, h1, e, h2⟩
   ·exact .inr (.inl ⟨_, xs, _, v, rfl, rfl, h1, e, h2⟩)
  ·exact h2.elim
 ·obtain ⟨h1, h2⟩ := h
  split at h2
  ·rename_i d e
   exact .inr (.inr ⟨_, _, d, rfl, rfl, h1, e, h2⟩)
  ·exact h2.elim
 ·exact h.elim
def nu (K : PySem.W.Frag) : V → Option Int → Option Int → Hp → VK → Prop := fun x lo hi H Q => match x with
 | .str z => z.length ≤ sizeLine ∧ Q (.str (Txt.slice z lo hi)) H
 | .ref a => pk K H a fun xs => ∀ p, H p = none → Q (.ref p) (upd H p (.lst (jE xs lo hi)))
 | _ => False
theorem Jr : fH X (nu X.K) := by
 intro pins s σ H x v vl vu lo hi sl Q I rx hs pl pu h
 refine (LP.or Nl) pins s σ H x v vl vu lo hi sl Q I rx hs pl pu ?_
 unfold nu at h
 split at h
 ·exact .inl h
 ·obtain ⟨xs, h1, h2⟩ := rL h
  exact .inr ⟨_, xs, rfl, h1, h2⟩
 ·exact h.elim
def vj (t : TE) : TO := fun σ H Q => t σ H fun x H1 => match x with
 | .int i => Q (some i) H1
 | _ => False
theorem K7 {e : Expr} {te : TE} (h : PE X e te) : PO X (some e) (vj te) := by
 intro pins s σ H Q I q
 refine evalPart_some_step (aA (h pins s σ H _ I q) fun v s1 ⟨x, H1, I1, r1, q1⟩ => ?_)
 have q1' : ∃ i, x = .int i ∧ Q (some i) H1 := by
  dsimp only at q1
  split at q1
  ·exact ⟨_, rfl, q1⟩
  ·exact q1.elim
 obtain ⟨i, rfl, z1⟩ := q1'
 obtain ⟨t, rfl⟩ := r1
 exact ⟨some i, H1, I1, .int i t, z1⟩
def tq : mh := fun o i v H Q => match o, i with
 | .ref p, .int k => match H p with
  | some (.lst xs) => (match eK xs.length k with
   | some j => Q (upd H p (.lst (xs.set j v)))
   | none => False)
  | _ => False
 | _, _ => False
theorem AY : pG X tq := by
 intro pins s σ H o i v ov iv u Q I ro ri rv h
 refine set_list pins s σ H o i v ov iv u Q I ro ri rv ?_
 unfold tq at h
 split at h
 ·split at h
  ·rename_i xs h1
   split at h
   ·rename_i j h2
    exact ⟨_, xs, _, j, rfl, rfl, h1, h2, h⟩
   ·exact h.elim
  ·exact h.elim
 ·exact h.elim
theorem cI.imp {id : String} {r r' : V → List V → Hp → VK → Prop} (h : cI X id r) (i : ∀ x xs H Q, r' x xs H Q → r x xs H Q) : cI X id r' := fun pins s σ H x xs v us Q I rx rv q => h pins s σ H x xs v us Q I rx rv (i x xs H Q q)
def vt : V → List V → Hp → VK → Prop := fun x vs H Q => match x, vs with
 | .ref l, [y] => match H l with
  | some (.lst xs) => xs.length < sizeLine ∧ Q .au (upd H l (.lst (xs ++ [y])))
  | _ => False
 | _, _ => False
theorem iq : cI X "list.append" vt := cI.imp Kx fun x xs H Q h => by
 unfold vt at h
 split at h
 ·split at h
  ·rename_i zs h1
   exact ⟨_, zs, _, rfl, rfl, h1, h.1, h.2⟩
  ·exact h.elim
 ·exact h.elim
def Fu : V → List V → Hp → VK → Prop := fun x vs H Q => match x, vs with
 | .ref l, [.ref b] => match H l, H b with
  | some (.lst xs), some (.lst zs) => xs.length + zs.length ≤ sizeLine ∧ Q .au (upd H l (.lst (xs ++ zs)))
  | _, _ => False
 | _, _ => False
def clsName (H : Hp) : V → Option String
 | .au => some "NoneType"
 | .bl _ => some "bool"
 | .int _ => some "int"
 | .str _ => some "str"
 | .ref p => match H p with
  | some (.lst _) => some "list"
  | some (.tup _) => some "tuple"
  | some (.dK _) => some "dict"
  | _ => none
 | _ => none
def oW (T n : String) : Bool := T == n || (T == "bool" && n == "int")
theorem EX {K : PySem.W.Frag} {H : Hp} {x : V} {T : String} (h : clsName H x = some T) : de K H x (.type T) ∧ T ∈ ["NoneType", "bool", "int", "str", "list", "tuple", "dict"] := by
 unfold clsName at h
 split at h
 ·cases h; exact ⟨.au, by simp⟩
 ·cases h; exact ⟨.bl _, by simp⟩
 ·cases h; exact ⟨.int _, by simp⟩
 ·cases h; exact ⟨.str _, by simp⟩
 ·split at h
  ·rename_i e; cases h; exact ⟨.lst e, by simp⟩
  ·rename_i e; cases h; exact ⟨.tup e, by simp⟩
  ·rename_i e; cases h; exact ⟨.dK e, by simp⟩
  ·cases h
 ·cases h
theorem GC (K : PySem.W.Frag) : ∀ T, T ∈ ["NoneType", "bool", "int", "str", "list", "tuple", "dict"] → ∀ n, n ∈ ["bool", "int", "str", "list", "tuple", "dict"] → PySem.W.kitOne K (.type T) (.type n) = some (oW T n) := by
 intro T hT n hn
 simp only [List.mem_cons, List.mem_nil_iff, or_false] at hT hn
 rcases hT with rfl | rfl | rfl | rfl | rfl | rfl | rfl <;> rcases hn with rfl | rfl | rfl | rfl | rfl | rfl <;> kernel_rfl
def qJ : List V → Hp → VK → Prop := fun xs H Q => match xs with
 | [x, .ty n] => n ∈ ["bool", "int", "str", "list", "tuple", "dict"] ∧ match clsName H x with
  | some T => Q (.bl (oW T n)) H
  | none => False
 | _ => False
theorem gr : bX X (.builtin "isinstance") qJ := HP.imp fun xs H Q h => by
 unfold qJ at h
 split at h
 ·rename_i x n
  obtain ⟨hn, h⟩ := h
  split at h
  ·rename_i T e
   obtain ⟨h1, h2⟩ := EX (K := X.K) e
   exact ⟨_, _, .inl ⟨_, rfl⟩, h1, GC _ T h2 n hn, h⟩
  ·exact h.elim
 ·exact h.elim
def vn (r : V → List V → Hp → VK → Prop) (to : TE) (t : TA) : TE := fun σ H Q => to σ H fun x H1 => match x with
 | .str z => t σ H1 fun xs H2 => r (.str z) xs H2 Q
 | _ => False
def sd (r : V → List V → Hp → VK → Prop) (to : TE) (t : TA) : TE := fun σ H Q => to σ H fun x H1 => match x with
 | .ref l => (match H1 l with
  | some (.lst _) => t σ H1 fun xs H2 => r (.ref l) xs H2 Q
  | _ => False)
 | _ => False
section
variable {T : String} {name : Str} {id : String} {r : V → List V → Hp → VK → Prop} {o e : Expr} {es : List Expr} {to : TE} {t : TA} {apos aY : Pos}
theorem Ow (slot : Slot "str" name id) (hty : typeOf (.builtin id) = pure (.type "method_descriptor")) (hm : cI X id r) (ho : PE X o to) (ha : PA X (e :: es) t)
  (hs : (e :: es).all noStar = true := by rfl) (hfl : decide ((e :: es).length + ([] : List Keyword).length + (if ([] : List Keyword).isEmpty then 0 else 1) < 30) = true := by rfl)
  (fz : attributeBase o name X.env (eval o X.env) = eval o X.env := by rfl) (fA : (apos.endLine == aY.line) = true := by rfl) :
  PE X (.Call (.Attribute o name apos) (e :: es) [] aY) (vn r to t) := by
 have hs' := hs
 rw [List.all_cons, Bool.and_eq_true] at hs'
 have hst : starEach (e :: es) X.env = (false, eval e X.env) :: starEach es X.env := dG hs'.1
 have xi : (backTo aY (starEach es X.env)).any (·.1) = false := fo hs'.2
 have wx : ((backTo aY (starEach (e :: es) X.env)).all (fun x => !x.1) && (backToKw aY (keywordEach [] X.env)).all (fun x => x.1.isSome)
   && decide ((e :: es).length + ([] : List Keyword).length + (if ([] : List Keyword).isEmpty then 0 else 1) < 30)) = true := by
  rw [pV hs, hfl]
  rfl
 intro pins s σ H Q I h
 refine wpAny_Call_method_late fz wx fA rfl (aA (ho pins s σ H _ I h) fun v s1 ⟨x, H1, I1, r1, q1⟩ => ?_)
 dsimp only at q1
 split at q1
 ·rename_i z
  obtain ⟨h1, h2⟩ := qw (T := "str") I1 r1 rfl
  refine ⟨"str", id, PySem.F.plainAttrs_str, slot, hty, h1, h2, ?_⟩
  have hA := ha aY pins s1 σ H1 _ I1 q1
  rw [hst] at hA ⊢
  refine Calls.callWith_builtin (by show (false || (backTo aY (starEach es X.env)).any (·.1)) = false; rw [xi] <;> rfl) (Calls.evalArgs_plain ?_)
  exact aA hA fun us s2 ⟨vs, H2, I2, r2, q2⟩ => hm pins s2 σ H2 (.str z) vs v us Q I2 r1 r2 q2
 ·exact q1.elim
theorem MS (slot : Slot "list" name id) (hty : typeOf (.builtin id) = pure (.type "method_descriptor")) (hm : cI X id r) (ho : PE X o to) (ha : PA X (e :: es) t)
  (hs : (e :: es).all noStar = true := by rfl) (hfl : decide ((e :: es).length + ([] : List Keyword).length + (if ([] : List Keyword).isEmpty then 0 else 1) < 30) = true := by rfl)
  (fz : attributeBase o name X.env (eval o X.env) = eval o X.env := by rfl) (fA : (apos.endLine == aY.line) = true := by rfl) :
  PE X (.Call (.Attribute o name apos) (e :: es) [] aY) (sd r to t) := by
 have hs' := hs
 rw [List.all_cons, Bool.and_eq_true] at hs'
 have hst : starEach (e :: es) X.env = (false, eval e X.env) :: starEach es X.env := dG hs'.1
 have xi : (backTo aY (starEach es X.env)).any (·.1) = false := fo hs'.2
 have wx : ((backTo aY (starEach (e :: es) X.env)).all (fun x => !x.1) && (backToKw aY (keywordEach [] X.env)).all (fun x => x.1.isSome)
   && decide ((e :: es).length + ([] : List Keyword).length + (if ([] : List Keyword).isEmpty then 0 else 1) < 30)) = true := by
  rw [pV hs, hfl]
  rfl
 intro pins s σ H Q I h
 refine wpAny_Call_method_late fz wx fA rfl (aA (ho pins s σ H _ I h) fun v s1 ⟨x, H1, I1, r1, q1⟩ => ?_)
 dsimp only at q1
 split at q1
 ·rename_i l
  split at q1
  ·rename_i zs el
   obtain ⟨h1, h2⟩ := qw (T := "list") I1 r1 (.inl ⟨rfl, zs, aJ.of el⟩)
   refine ⟨"list", id, PySem.F.plainAttrs_list, slot, hty, h1, h2, ?_⟩
   have hA := ha aY pins s1 σ H1 _ I1 q1
   rw [hst] at hA ⊢
   refine Calls.callWith_builtin (by show (false || (backTo aY (starEach es X.env)).any (·.1)) = false; rw [xi] <;> rfl) (Calls.evalArgs_plain ?_)
   exact aA hA fun us s2 ⟨vs, H2, I2, r2, q2⟩ => hm pins s2 σ H2 (.ref l) vs v us Q I2 r1 r2 q2
  ·exact q1.elim
 ·exact q1.elim
def EK (r : V → List V → Hp → VK → Prop) (to : TE) : TE := fun σ H Q => to σ H fun x H1 => match x with
 | .str z => r (.str z) [] H1 Q
 | _ => False
end
theorem Gm {CX : cu} {P : Program} {w : World} {K : PySem.W.Frag} {mg : Str → Option Value} {base : Heap} {N : List Str} {qual : Str} {scope : Scope} {f : Addr} {cd : Value} {A : Around} {outer : List Env} {s : Shared} {H : Hp} {E : XK} :
  (bM CX P w K mg base N qual scope f cd A outer s H E).K = K := rfl
theorem yn {α : Type} (a : α) (l : List α) : bu (a :: l) 0 = some a := lX (j := 0) rfl
theorem Jd {H : Hp} {p b : Addr} {o u : HO} (h : H b = some u) (hp : H p = Option.none) : upd H p o b = some u := by rw [ah (cj h hp)]; exact h
theorem cA : bootBuiltins "isinstance" = some (.builtin "isinstance") := by decide +kernel
theorem ze : bootBuiltins "all" = some (.builtin "all") := by decide +kernel
theorem ji : bootBuiltins "str" = some (.type "str") := by decide +kernel
theorem zW : bootBuiltins "bool" = some (.type "bool") := by decide +kernel
theorem Ak : bootBuiltins "int" = some (.type "int") := by decide +kernel
theorem GY : bootBuiltins "list" = some (.type "list") := by decide +kernel
theorem FH : bootBuiltins "ValueError" = some (.type "ValueError") := by decide +kernel
end
end L2
namespace L2
open PySem PySem.Spec PyProof.Rows
abbrev Aw (ifs : List Expr) (env : Env) : Sem Bool := forIn ifs true fun c r => if r = true then do let ok ← isTrue c env (eval c env); pure (ForInStep.yield ok) else pure (ForInStep.yield r)
section
variable {prog : Program} {w : World} {A : Around} {R : Result → Shared → Prop} {s : Shared}
theorem z0 {elt tg iter : Expr} {ifs : List Expr} {scope : Scope} {pos : Pos} {it acc : Value} {env : Env} (J : Nat → Shared → Prop) (hN : ∀ e s', notedBy (model prog w) A env (fun e s' => R (.error e) s') e s' → True)
  (turn : ∀ n s, J n s → wpAny (model prog w) A (pyNext it) (fun r s1 => match r with
   | none => R (.ok .next) s1
   | some v => wpAny (model prog w) A (letOwnedTupleGo tg it v) (fun _ s2 => wpAny (model prog w) A (assign tg env v) (fun _ s3 => wpAny (model prog w) A (Aw ifs env)
     (fun ok s4 => if ok = true then wpAny (model prog w) A (eval elt env) (fun x s5 => wpAny (model prog w) A (call (.builtin "list.append") [acc, x]) (fun _ s6 => ∃ m, m < n ∧ J m s6) (fun _ _ => False) s5) (fun _ _ => False) s4
      else ∃ m, m < n ∧ J m s4) (fun _ _ => False) s3) (fun _ _ => False) s2) (fun _ _ => False) s1) (fun _ _ => False) s)
  (n : Nat) (h : J n s) : codeAny (model prog w) A (.compLoop (.ListComp elt [⟨tg, iter, ifs, 0⟩] scope pos) 0 it acc env) R s := by
 have no : ∀ {E : Value → Shared → Prop} (e : Value) (s' : Shared), False → E e s' := fun _ _ z => z.elim
 refine codeAny_loop rfl J (fun n s hI => ?_) n h
 refine (show wpAny _ A (Sem.onRaise (compTurn (.ListComp elt [⟨tg, iter, ifs, 0⟩] scope pos) 0 it acc env) (fun x => do noteFrame x env; theTreesLotGoes x)) _ _ s from ?_)
 refine wpAny_noted ?_
 rw [compTurn_list]
 refine wpAny_bind (wpAny_standAt (wpAny_bind (wpAny_mono (turn n s hI) (fun r s1 q1 => ?_) no)))
 cases r with
 | none => exact wpAny_pure q1
 | some v =>
  refine wpAny_bind (wpAny_mono q1 (fun _ s2 q2 => wpAny_bind (wpAny_mono q2 (fun _ s3 q3 => wpAny_bind (wpAny_mono q3 (fun ok s4 q4 => ?_) no)) no)) no)
  cases ok with
  | false => exact wpAny_pure ⟨rfl, q4⟩
  | true => exact wpAny_bind (wpAny_bind (wpAny_mono q4 (fun x s5 q5 => wpAny_bind (wpAny_mono q5 (fun _ s6 q6 => wpAny_pure (wpAny_pure ⟨rfl, q6⟩)) no)) no))
end
def bV (X : Cx) (scope : Scope) (N : List Str) (s : Shared) (H : Hp) (ex : List Addr) (C : Addr) : Cx :=
 { X with N := N, s₀ := s, H₀ := H, env := compEnvC scope [] C X.env, outer := X.stack, stack := X.stack, ex := ex, fn := fun _ => false, pn := [], xe := fun _ _ => False }
def gK (X : Cx) (ifs : List Expr) (t : TT) : Prop :=
 ∀ (pins : List (Addr × Obj)) (s : Shared) (σ : St) (H : Hp) (Q : Bool → Hp → Prop), Inv X pins σ H s → t σ H Q → wpAny (model X.prog X.w) X.A (Aw ifs X.env) (TP X pins σ Q) X.xe s
def oC : TT := fun _ H Q => Q true H
theorem GN {X : Cx} : gK X [] oC := fun _ _ _ H _ I h => wpAny_tests_nil ⟨H, I, h⟩
theorem Oq {X : Cx} {c : Expr} {t : TT} (h : PT X c t) : gK X [c] t := fun pins s σ H Q I q => wpAny_tests_one (h pins s σ H Q I q)
def ke (wi : TI) (tt : TT) (te : TE) : TE := fun σ H Q => wi σ H fun J H1 => ∃ W : Nat → List V → Nat → Hp → Prop, (∃ m, W 0 [] m H1) ∧ ∀ i ys m H, W i ys m H →
 ys.length ≤ sizeLine ∧ ((J.stop i H ∧ ∀ l, H l = none → Q (.ref l) (upd H l (.lst ys))) ∨
  (J.go i H ∧ ys.length < sizeLine ∧ ∀ y H', J.gN i H y H' → tt [some y] H' fun c H2 => if c = true then te [some y] H2 fun z H3 => ∃ m', m' < m ∧ W (i + 1) (ys ++ [z]) m' H3 else ∃ m', m' < m ∧ W (i + 1) ys m' H2))
section
variable {X : Cx}
theorem Fp {names : List (Str × NameKind)} (h : ∀ y ∈ names, y.2 ≠ .cell ∧ y.2 ≠ .free) {x : Str} : ¬ (names.lookup x = some .cell ∨ names.lookup x = some .free) := by
 rintro (e | e)
 ·exact (h _ (PySem.mem_of_lookup e)).1 rfl
 ·exact (h _ (PySem.mem_of_lookup e)).2 rfl
theorem FR {pins : List (Addr × Obj)} {σ : St} {H : Hp} {s s4 : Shared} {scope : Scope} {x : Str} {fp : List Addr} {C : Addr} {m : Str → Option Value} (I : Inv X pins σ H s) (hf : ∀ b ∈ fp, eO X pins H b) (hlt : ∀ b ∈ fp, b < s.heap.objs.size)
  (hk : scope.kind = .function) (hnf : ∀ y ∈ scope.names, y.2 ≠ .cell ∧ y.2 ≠ .free) (eA : relabel scope X.env = scope) (hC : s.heap.objs.size ≤ C)
  (hos : s4.os = s.os) (wC : s4.gens = s.gens) (old : ∀ b o, s.heap.get? b = some o → s4.heap.get? b = some o) (hns : s4.heap.Ns C m) : Inv (bV X scope [x] s H fp C) [] [none] H s4 := by
 have CM : (bV X scope [x] s H fp C).env.scope = scope := eA
 refine ⟨⟨I.ok.mod, by rw [CM]; exact hk, I.ok.glob, I.ok.blt, hC, fun _ _ _ e => (by cases e), fun y hy => ?_, fun _ _ _ e => (by cases e), I.ok.hd, I.ok.frames, .inl rfl, fun b hb => ⟨Nat.ne_of_lt (Nat.lt_of_lt_of_le (hlt b hb) hC), fun _ _ e => (by cases e)⟩,
  fun b o e => I.bs b o e, Nat.le_trans I.ok.dD I.sz, fun b o e hb => ?_, fun b hb hm => ?_, I.stack, I.ph⟩,
  hos, by rw [wC]; exact I.bare, Un.kept old, ⟨m, hns, fun i y v e1 e2 _ => ?_⟩, fun _ _ e => (by cases e), I.ax.fresh hC, fun _ _ e => (by cases e), fun p hp => absurd (show p ∈ ([] : List (Addr × Obj)) from hp) (by simp), I.ax.kept old, rfl⟩
 ·have hy' : scope.names.lookup y = some .cell ∨ scope.names.lookup y = some .free := by
   have : (bV X scope [x] s H fp C).env.kindOf y = scope.names.lookup y := by unfold Env.kindOf; rw [CM]
   rw [this] at hy; exact hy
  exact absurd hy' (Fp hnf)
 ·rcases (hf b hb).2.2.2.1 with z | z
  ·exact I.ok.gq b o e z
  ·exact absurd (Nat.lt_of_lt_of_le (Nat.lt_of_lt_of_le (Heap.lt_size e) I.ok.dD) z) (Nat.lt_irrefl _)
 ·rcases List.mem_cons.mp (I.iS b hm) with z | z
  ·exact (hf b hb).2.1 z
  ·exact (hf b hb).2.2.1 z
 ·cases i with
  | zero => cases e2
  | succ j => simp at e2
structure nN (X : Cx) (pins : List (Addr × Obj)) (H : Hp) (C : Addr) : Prop where
 fr : H C = none
 nl : C ≠ X.env.locals
 ab : X.s₀.heap.objs.size ≤ C
 nc : ∀ x c, X.env.cells.lookup x = some c → c ≠ C
 np : ∀ p ∈ X.pn ++ pins, p.1 ≠ C
theorem nN.go {pins : List (Addr × Obj)} {σ : St} {H : Hp} {s : Shared} {C : Addr} {h' : Heap} (o : nN X pins H C) (I : Inv X pins σ H s) (hs : Heap.SameBut C s.heap h') : Inv X pins σ H { s with heap := h' } :=
 I.turned (t' := s.toks) (fun b ob hb e => (hs.2 b hb).trans e) o.fr o.nl (.inr o.ab) o.nc o.np
theorem zf {elt iter : Expr} {ifs : List Expr} {x : Str} {px pos : Pos} {scope : Scope} {wi : TI} {tt : TT} {te : TE} (hc : X.calm = true) (hi : PI X (.Name x px) iter wi)
  (ht : ∀ s H ex C, gK (bV X scope [x] s H ex C) ifs tt) (he : ∀ s H ex C, PE (bV X scope [x] s H ex C) elt te)
  (hk : scope.kind = .function) (hnf : ∀ y ∈ scope.names, y.2 ≠ .cell ∧ y.2 ≠ .free) (hx : scope.names.lookup x = some .local) (eA : relabel scope X.env = scope)
  {pins : List (Addr × Obj)} {s : Shared} {σ : St} {H : Hp} {Q : VK} {RR : Value → Addr → Result → Shared → Prop} (I : Inv X pins σ H s) (h : ke wi tt te σ H Q)
  (hRR : ∀ (a C : Addr) (s6 : Shared) (H6 : Hp), Inv X pins σ H6 s6 → (∃ m, s6.heap.Ns C m) → nN X pins H6 C → Q (.ref a) H6 → RR (.ref a) C (.ok .next) s6) :
  wpAny (model X.prog X.w) X.A (eval iter X.env) (fun v s1 => wpAny (model X.prog X.w) X.A (pyIter v) (fun it s2 => wpAny (model X.prog X.w) X.A (newList []) (fun acc s3 =>
   wpAny (model X.prog X.w) X.A (newFunctionEnv scope X.env.globals [] [] X.env.qual none .none (some X.env)) (fun m5 s4 =>
    codeAny (model X.prog X.w) X.A (.compStart (.ListComp elt [⟨.Name x px, iter, ifs, 0⟩] scope pos) 0 it acc { m5 with scope := relabel scope X.env }) (RR acc m5.locals) s4) X.xe s3) X.xe s2) X.xe s1) X.xe s := by
 refine aA (hi pins s σ H _ I h) fun v s1 h1 => aA h1 fun itv s2 h2 => ?_
 obtain ⟨it, fp, tn, J, H2, rfl, I2, T, st2, f2, W, ⟨m0, w0⟩, turn⟩ := h2
 have hlt : ∀ b ∈ fp, b < s2.heap.objs.size := fun b hb => let ⟨o, e, _⟩ := T.obj _ _ st2 b hb; Heap.lt_size e
 refine wpAny_newObj_type (wpAny_newFunctionEnv (fun y hy => (hnf y hy).1) (by intro y hy; simp at hy) (fun h1 hns1 hsb1 => ?_) hk)
 dsimp only at hns1 hsb1 ⊢
 generalize hH2 : s2.heap.push { cls := .type "list", dict := none, data := .seq ([] : List Value).toArray } = G at hns1 hsb1 ⊢
 have hG : G.objs.size = s2.heap.objs.size + 1 := by rw [← hH2, Heap.size_push]
 have hAC : s2.heap.objs.size ≠ G.objs.size := by rw [hG]; exact Nat.ne_of_lt (Nat.lt_succ_self _)
 have dN : s2.heap.objs.size ≤ G.objs.size := by rw [hG]; exact Nat.le_succ _
 have old : ∀ b o, s2.heap.get? b = some o → h1.get? b = some o := fun b o e => by
  exact hsb1.extBut b o (Nat.ne_of_lt (Nat.lt_of_lt_of_le (Heap.lt_size e) dN)) (Heap.get?_push_of_some _ (hH2 ▸ Heap.get?_push_of_some _ e))
 have wQ : h1.get? s2.heap.objs.size = some { cls := .type "list", dict := none, data := .seq ([] : List Value).toArray } :=
  hsb1.extBut _ _ hAC (Heap.get?_push_of_some _ (hH2 ▸ Heap.get?_push_size _ rfl))
 -- the state at the block's entry
 have main : ∀ s4 : Shared, s4 = { s2 with heap := h1, toks := s2.toks + ([] : List (Str × Value)).length } →
   codeAny (model X.prog X.w) X.A (.compLoop (.ListComp elt [⟨.Name x px, iter, ifs, 0⟩] scope pos) 0 (.ref it) (.ref s2.heap.objs.size) (compEnvC scope [] G.objs.size X.env))
    (RR (.ref s2.heap.objs.size) G.objs.size) s4 := by
  rintro s4 rfl
  have I4 : Inv (bV X scope [x] s2 H2 fp G.objs.size) [] [none] H2 { s2 with heap := h1, toks := s2.toks + ([] : List (Str × Value)).length } :=
   FR I2 f2 hlt hk hnf eA dN rfl rfl old hns1
  have exq : ∀ {H' : Hp} {pl : List (Addr × Obj)}, (∀ b ∈ fp, H' b = none) → (∀ p ∈ pl, p.1 ∉ fp) → ∀ b ∈ fp, eO (bV X scope [x] s2 H2 fp G.objs.size) pl H' b := fun hn hp b hb =>
   ⟨hn b hb, Nat.ne_of_lt (Nat.lt_of_lt_of_le (hlt b hb) dN), I4.ok.f6 b hb, .inl hb, fun _ _ e => (by cases e), fun p hp' e => hp p (by simpa [bV] using hp') (e ▸ hb)⟩
  have nfp : s2.heap.objs.size ∉ fp := fun z => Nat.lt_irrefl _ (hlt _ z)
  refine z0 (fun n s' => ∃ (i : Nat) (ys : List V) (its : List Value) (k : Nat) (σ' : St) (H' : Hp), Inv (bV X scope [x] s2 H2 fp G.objs.size) [] σ' H' s' ∧ tn i s'.heap ∧ (∀ b ∈ fp, H' b = none) ∧ H' s2.heap.objs.size = none ∧ Vals ys its ∧
   s'.heap.get? s2.heap.objs.size = some { cls := .type "list", dict := none, data := .seq its.toArray k } ∧ W i ys n H') (fun _ _ _ => trivial) ?_ m0
   ⟨0, [], [], 0, [none], H2, I4, T.keep _ _ _ st2 (fun b _ o e => old b o e), fun b hb => (f2 b hb).1, I2.ax.fresh (Nat.le_refl _), .nil, wQ, w0⟩
  rintro n s5 ⟨i, ys, its, k, σ5, H5, I5, st5, fr5, fa5, rv, ea, w5⟩
  have hσ : σ5.length = 1 := I5.len
  have Ip : Inv (bV X scope [x] s2 H2 fp G.objs.size) [(s2.heap.objs.size, { cls := .type "list", dict := none, data := .seq its.toArray k })] σ5 H5 s5 := I5.gP fun p hp => by
   have e : p = (s2.heap.objs.size, { cls := .type "list", dict := none, data := .seq its.toArray k }) := by simpa using hp
   subst e
   refine ⟨ea, fa5, hAC, fun z => ?_, fun v z => by cases z⟩
   exact I2.uZ (Nat.le_refl _) (by
    have hz : s2.heap.objs.size ∈ bG X.stack := z
    rcases List.mem_cons.mp (I2.iS _ hz) with q | q
    ·exact absurd I2.lt (by rw [← q]; exact Nat.lt_irrefl _)
    ·exact q)
  have pnf : ∀ p ∈ [((s2.heap.objs.size, { cls := .type "list", dict := none, data := .seq its.toArray k }) : Addr × Obj)], p.1 ∉ fp := fun p hp => by
   have e : p = (s2.heap.objs.size, { cls := .type "list", dict := none, data := .seq its.toArray k }) := by simpa using hp
   subst e; exact nfp
  obtain ⟨hyl, alt⟩ := turn i ys n H5 w5
  rcases alt with ⟨stop, qn⟩ | ⟨go, hys, step⟩
  ·refine aA (T.done (bV X scope [x] s2 H2 fp G.objs.size) rfl rfl rfl hc i _ s5 σ5 H5 (fun _ _ => False) Ip (exq fr5 pnf) st5 stop) fun r s6 ⟨hr, I6⟩ => ?_
   subst hr
   have ea6 := (I6.pin (s2.heap.objs.size, { cls := .type "list", dict := none, data := .seq its.toArray k }) (List.mem_append_right _ (List.mem_singleton.mpr rfl))).1
   obtain ⟨m, hn6, _⟩ := I6.loc
   have hC6 : H5 G.objs.size = none := I6.free
   have lt2 : ∀ b o, s2.heap.get? b = some o → b ≠ s2.heap.objs.size := fun b o e => Nat.ne_of_lt (Heap.lt_size e)
   have wy : Inv X pins σ (upd H5 s2.heap.objs.size (.lst ys)) s6 := by
    refine I2.kM (s' := s6) (ch := fp) I6.os ⟨fun b o e n hb hx => ?_, fun b o e n hb hx => ?_, fun b o e n hx => ?_, fun b o e hx => ?_, fun b xs e => ?_, fun b o u e => ?_, fun b ps e => ?_⟩ ?_ I6.bare fun b hb => ?_
    ·exact I6.base.keep b o e n hb hx
    ·exact I6.base.slot b o e n hb hx
    ·rw [ah (lt2 b o e)]; exact I6.base.free b o e n hx
    ·exact I6.base.there b o e hx
    ·rw [ah (cj e (I2.ax.fresh (Nat.le_refl _)))]; exact I6.base.dB b xs e
    ·rw [ah (cj e (I2.ax.fresh (Nat.le_refl _)))]; exact I6.base.df b o u e
    ·obtain ⟨more, e1⟩ := I6.base.dw b ps e
     exact ⟨more, by rw [ah (cj e (I2.ax.fresh (Nat.le_refl _)))]; exact e1⟩
    ·intro b u e
     by_cases hb : b = s2.heap.objs.size
     ·subst hb
      rw [aw] at e
      cases e
      exact ⟨hyl, its, k, rv, ea6⟩
     ·rw [ah hb] at e
      exact (I6.ax b u e).eM (fun c v _ q => q) (fun c q => by rw [ah (cj q fa5)]; exact q) fun c xs q => by rw [ah (cj q fa5)]; exact q
    ·obtain ⟨g1, g2, g3, g4, g5, g6⟩ := f2 b hb
     exact ⟨g4, g2, g5, g6⟩
   refine hRR _ _ s6 _ wy ⟨m, hn6⟩ ⟨by rw [ah (Ne.symm hAC)]; exact hC6, ?_, ?_, fun y c e z => ?_, fun p hp z => ?_⟩ (qn _ fa5)
   ·exact Nat.ne_of_gt (Nat.lt_of_lt_of_le I2.lt dN)
   ·exact Nat.le_trans I2.sz dN
   ·obtain ⟨v', q⟩ := I2.cell y c e
    exact absurd (Nat.lt_of_lt_of_le q.lt dN) (by rw [z]; exact Nat.lt_irrefl _)
   ·exact absurd (Nat.lt_of_lt_of_le (Heap.lt_size (I2.pin p hp).1) dN) (by rw [z]; exact Nat.lt_irrefl _)
  ·refine aA (T.item (bV X scope [x] s2 H2 fp G.objs.size) rfl rfl rfl hc i _ s5 σ5 H5 (fun _ _ => False) Ip (exq fr5 pnf) st5 go) fun r s6 ⟨u, hr, h6⟩ => ?_
   subst hr
   refine aA h6 fun _ s7 ⟨y, H7, I7, ry, y7, st7, fr7⟩ => ?_
   have I7' := I7.pinned (exq fr7 pnf) (T.obj _ _ st7)
   have hloc : Loc (bV X scope [x] s2 H2 fp G.objs.size).env.scope x := .inl (by rw [show (bV X scope [x] s2 H2 fp G.objs.size).env.scope = scope from eA]; exact hx)
   have hpg : PG (bV X scope [x] s2 H2 fp G.objs.size) (.Name x px) (eE 0) := yY (show [x].Nodup by simp) rfl hloc (.inr (by rw [show (bV X scope [x] s2 H2 fp G.objs.size).env.scope = scope from eA]; exact hx))
   have hset : σ5.set 0 (some y) = [some y] := by
    match σ5, hσ with
    | [_], _ => rfl
   refine aA (hpg _ s7 σ5 H7 y u (fun σ' H' => σ' = [some y] ∧ H' = H7) I7' ry ⟨hset, rfl⟩) fun _ s8 ⟨σ8, H8, I8, e8, e8'⟩ => ?_
   subst e8 e8'
   refine aA (ht _ _ _ _ _ s8 [some y] H8 _ I8 (step y H8 y7)) fun ok s9 ⟨H9, I9, q9⟩ => ?_
   -- what is pinned stays
   have mV : ∀ {s' : Shared} {H' : Hp}, Inv (bV X scope [x] s2 H2 fp G.objs.size) ([(s2.heap.objs.size, { cls := .type "list", dict := none, data := .seq its.toArray k })] ++ js fp s7.heap) [some y] H' s' →
     tn (i + 1) s'.heap ∧ (∀ b ∈ fp, H' b = none) ∧ H' s2.heap.objs.size = none ∧ s'.heap.get? s2.heap.objs.size = some { cls := .type "list", dict := none, data := .seq its.toArray k } := fun {s' H'} J' => by
    refine ⟨T.keep _ _ _ st7 fun b hb o e => (J'.pin (b, o) (List.mem_append_right _ (List.mem_append_right _ (jM hb e)))).1, fun b hb => ?_, (J'.pin (s2.heap.objs.size, { cls := .type "list", dict := none, data := .seq its.toArray k }) (List.mem_append_right _ (List.mem_append_left _ (List.mem_singleton.mpr rfl)))).2.1, (J'.pin (s2.heap.objs.size, { cls := .type "list", dict := none, data := .seq its.toArray k }) (List.mem_append_right _ (List.mem_append_left _ (List.mem_singleton.mpr rfl)))).1⟩
    obtain ⟨o, e, _⟩ := T.obj _ _ st7 b hb
    exact (J'.pin (b, o) (List.mem_append_right _ (List.mem_append_right _ (jM hb e)))).2.1
   cases ok with
   | false =>
    obtain ⟨m', hm, w'⟩ := q9
    obtain ⟨k1, k2, k3, k4⟩ := mV I9
    exact ⟨m', hm, i + 1, ys, its, k, [some y], H9, I9.gP (pins' := []) (fun _ hp => nomatch hp), k1, k2, k3, rv, k4, w'⟩
   | true =>
    refine aA (he _ _ _ _ _ s9 [some y] H9 _ I9 q9) fun zv s10 ⟨z, H10, I10, rz, hJ⟩ => ?_
    obtain ⟨m', hm, w'⟩ := hJ
    obtain ⟨k1, k2, k3, k4⟩ := mV I10
    have hl := rv.length
    refine call_meets F.slot_list_append ⟨_, k4, rfl⟩ F.entry_list_append (F.args_list_append_2 _ _) (PySem.list_append s2.heap.objs.size its.toArray k zv (by rw [List.size_toArray]; omega)) ⟨k4, ?_⟩
    have q := PySem.IsL.update k4 (·.push zv)
    have ip : its.toArray.push zv = (its ++ [zv]).toArray := by simp
    rw [ip] at q
    have I11 : Inv (bV X scope [x] s2 H2 fp G.objs.size) [] [some y] H10 s10 := I10.gP (pins' := []) (fun _ hp => nomatch hp)
    refine ⟨m', hm, i + 1, ys ++ [z], its ++ [zv], _, [some y], H10, I11.turned (t' := s10.toks) (it := s2.heap.objs.size) (fun b o hb e => (Heap.get?_update_other s10.heap _ (Ne.symm hb)).trans e) k3 hAC (.inr (Nat.le_refl _)) (fun _ _ e => (by cases e)) (fun p hp => absurd (show p ∈ ([] : List (Addr × Obj)) from hp) (by simp)),
     T.keep _ _ _ k1 fun b hb o e => (Heap.get?_update_other s10.heap _ (fun z => nfp (by rw [z]; exact hb))).trans e, k2, k3, rv.append (.cons rz .nil), q, w'⟩
 exact codeAny_compStart_list (main _ rfl) (T.self _ 0 _ _ _ (T.keep _ _ _ st2 fun b _ o e => old b o e) (main _ rfl))
theorem MK {elt iter : Expr} {ifs : List Expr} {x : Str} {px pos : Pos} {scope : Scope} {wi : TI} {tt : TT} {te : TE} (hc : X.calm = true) (hi : PI X (.Name x px) iter wi)
  (ht : ∀ s H ex C, gK (bV X scope [x] s H ex C) ifs tt) (he : ∀ s H ex C, PE (bV X scope [x] s H ex C) elt te)
  (hk : scope.kind = .function := by rfl) (hnm : ∀ y ∈ scope.names, y.2 = .local → scope.names.lookup y.1 = some .local := by decide +kernel) (hnf : ∀ y ∈ scope.names, y.2 ≠ .cell ∧ y.2 ≠ .free := by decide +kernel) (hx : scope.names.lookup x = some .local := by rfl) (eA : relabel scope X.env = scope := by rfl)
  (hs : ∀ x, foldedSetIterable iter X.env x = pure x := by intro _; rfl) : PE X (.ListComp elt [⟨.Name x px, iter, ifs, 0⟩] scope pos) (ke wi tt te) := by
 intro pins s σ H Q I h
 rw [eval_ListComp]
 refine wpAny_comprehension_free (use := none) (cl := []) rfl hs (closureFor_none fun y hy => (hnf y hy).2) hk hnm ?_
 refine zf (RR := fun acc C => compPost (model X.prog X.w) X.A X.xe none (EP X pins σ Q) acc C) hc hi ht he hk hnf hx eA I h ?_
 intro a C s6 H6 I6 hm o q
 obtain ⟨m, hn⟩ := hm
 exact ⟨m, hn, fun h' hsb => ⟨.ref a, H6, o.go I6 hsb, rfl, q⟩⟩
theorem Hr {elt iter : Expr} {ifs : List Expr} {x y : Str} {i : Nat} {px py pos spos : Pos} {scope : Scope} {wi : TI} {tt : TT} {te : TE} (hc : X.calm = true) (hN : X.N.Nodup) (hiy : X.N[i]? = some y) (hly : X.env.scope.names.lookup y = some .local) (hi : PI X (.Name x px) iter wi)
  (ht : ∀ s H ex C, gK (bV X scope [x] s H ex C) ifs tt) (he : ∀ s H ex C, PE (bV X scope [x] s H ex C) elt te)
  (hsw : swapsWith (.ListComp elt [⟨.Name x px, iter, ifs, 0⟩] scope pos) (some (.Name y py)) spos.line X.env = pure true := by rfl)
  (hk : scope.kind = .function := by rfl) (hnm : ∀ y ∈ scope.names, y.2 = .local → scope.names.lookup y.1 = some .local := by decide +kernel) (hnf : ∀ y ∈ scope.names, y.2 ≠ .cell ∧ y.2 ≠ .free := by decide +kernel) (hx : scope.names.lookup x = some .local := by rfl) (eA : relabel scope X.env = scope := by rfl)
  (hs : ∀ x, foldedSetIterable iter X.env x = pure x := by intro _; rfl) : PS X (.Assign [.Name y py] (.ListComp elt [⟨.Name x px, iter, ifs, 0⟩] scope pos) spos) (fX (ke wi tt te) (eE i)) := by
 intro pins s σ H D I h
 rw [exec_Assign_Name_used _ _ _ _ hsw]
 refine wpAny_bind (wpAny_standAt (wpAny_bind ?_))
 refine wpAny_bind (wpAny_mono (wpAny_comprehension_free (e := .ListComp elt [⟨.Name x px, iter, ifs, 0⟩] scope pos) (use := some (assign (.Name y py) X.env)) (cl := []) (Q := fun _ s' => SP X pins D .next s') rfl hs (closureFor_none fun y hy => (hnf y hy).2) hk hnm
  (zf (RR := fun acc C => compPost (model X.prog X.w) X.A X.xe (some (assign (.Name y py) X.env)) (fun _ s' => SP X pins D .next s') acc C) hc hi ht he hk hnf hx eA I h ?_)) (fun _ s' hq => wpAny_pure (wpAny_pure hq)) fun _ _ e => e)
 intro a C s6 H6 I6 hm o q
 obtain ⟨m, hn⟩ := hm
 refine (show wpAny (model X.prog X.w) X.A (assign (.Name y py) X.env (.ref a)) _ X.xe s6 from ?_)
 refine wpAny_assign_Name (rS I6 hN hiy (.inl hly) (v := .ref a) rfl (fun s' I' hsb => ?_) (.inr hly))
 obtain ⟨b, hsb, hb⟩ := hsb
 have nb : C ≠ b := by
  rcases hb with z | z
  ·rw [z]; exact o.nl
  ·exact fun e => o.nc y b z e.symm
 exact ⟨m, hn.sameBut hsb nb, fun h' hs' => ⟨_, H6, o.go I' hs', q⟩⟩
end
end L2
namespace L2
open PySem PySem.Spec PyProof.Rows
def jw (st : Addr) (H H' : Hp) : Prop := ∀ c o, c ≠ st → H c = some o → H' c = some o
theorem ao.upd {H : Hp} {p : Addr} {o : HO} (h : H p = Option.none) : ao H (upd H p o) := fun b u e => by rw [ah (cj e h)]; exact e
theorem jw.upd {H : Hp} {p : Addr} {o : HO} : jw p H (upd H p o) := fun c u n e => by rw [ah n]; exact e
theorem jw.same {H H1 H' : Hp} {st : Addr} (a : ao H H1) (h : H st = Option.none) (k : jw st H1 H') : ao H H' := fun c o e => k c o (cj e h) (a c o e)
def oF : V → Bool
 | .str _ => true
 | _ => false
def mE (t : TE) : TE := fun σ H Q => ∃ M : VK, t σ H M ∧ ∀ v H1, M v H1 → Q v H1
def mA (t : TA) : TA := fun σ H Q => ∃ M : List V → Hp → Prop, t σ H M ∧ ∀ v H1, M v H1 → Q v H1
theorem PE.m {X : Cx} {e : Expr} {t : TE} (h : PE X e t) : PE X e (mE t) := fun pins s σ H Q I ⟨M, h1, h2⟩ => aA (h pins s σ H M I h1) fun _ _ ⟨v, H1, I1, r, q⟩ => ⟨v, H1, I1, r, h2 v H1 q⟩
theorem PA.m {X : Cx} {e : List Expr} {t : TA} (h : PA X e t) : PA X e (mA t) := fun pos pins s σ H Q I ⟨M, h1, h2⟩ => aA (h pos pins s σ H M I h1) fun _ _ ⟨v, H1, I1, r, q⟩ => ⟨v, H1, I1, r, h2 v H1 q⟩
theorem PI.imp {X : Cx} {tg it : Expr} {t t' : TI} (h : PI X tg it t) (i : ∀ σ H R, t' σ H R → t σ H R) : PI X tg it t' := fun pins s σ H R I hw => h pins s σ H R I (i σ H R hw)
def sx (ta : TA) : TI := fun σ H R => ta σ H fun vs H1 => match vs with
 | [.int j] => (-(2 ^ 62) ≤ j ∧ j < 2 ^ 62) ∧ R (gS 0 j.toNat) H1
 | _ => False
theorem Mh {X : Cx} {tg a : Expr} {ta : TA} {p pos : Pos} (hg : Gl X "range") (hm : X.mg "range" = none) (ha : PA X [a] ta) (hs : starEach [a] X.env = [(false, eval a X.env)] := by rfl) : PI X tg (.Call (.Name "range" p) [a] [] pos) (sx ta) :=
 (GP hg hm ha.m hs).imp fun σ H R h => ⟨_, h, fun vs H1 z => by
  split at z
  ·exact ⟨_, rfl, z.1.1, z.1.2, z.2⟩
  ·exact z.elim⟩
def rg (K : PySem.W.Frag) (tl : TE) : TI := fun σ H R => tl σ H fun x H1 => match x with
 | .ref a => (∃ xs, aJ K H1 a xs) ∧ R (hZ K a) H1
 | _ => False
theorem IB {X : Cx} {tg l : Expr} {tl : TE} (hl : PE X l tl) : PI X tg l (rg X.K tl) := (Hv hl.m).imp fun σ H R h => ⟨_, h, fun x H1 z => by
  split at z
  ·exact ⟨_, rfl, z.1, z.2⟩
  ·exact z.elim⟩
def nr (J : It) (g : TG) (tb : TS) (D : Ends) (σ : St) (H1 : Hp) : Prop := ∃ W : Nat → Nat → St → Hp → Prop, (∃ m, W 0 m σ H1) ∧ ∀ i m σ H, W i m σ H →
 (J.stop i H ∧ D.nx σ H) ∨ (J.go i H ∧ ∃ N : St → Hp → Prop, (∀ σ' H', N σ' H' → ∃ m', m' < m ∧ W (i + 1) m' σ' H') ∧ ∀ x H', J.gN i H x H' → g x σ H' fun σ2 H2 => tb { D with nx := N, ct := N, bk := D.nx } σ2 H2)
theorem Hx {wi : TI} {g : TG} {tb : TS} {D : Ends} {σ : St} {H : Hp} : qc wi g tb D σ H = wi σ H fun J H1 => nr J g tb D σ H1 := rfl
theorem qf {lo : Int} {n : Nat} {g : TG} {tb : TS} {D : Ends} {σ : St} {H : Hp} (Pv : Nat → St → Hp → Prop) (h0 : Pv 0 σ H)
  (hs : ∀ i σ H, i < n → Pv i σ H → g (.int (lo + i)) σ H fun σ2 H2 => tb { D with nx := Pv (i + 1), ct := Pv (i + 1), bk := D.nx } σ2 H2) (hd : ∀ σ H, Pv n σ H → D.nx σ H) : nr (gS lo n) g tb D σ H := NC Pv h0 hs hd
theorem Av {K : PySem.W.Frag} {a : Addr} {xs : List V} {g : TG} {tb : TS} {D : Ends} {σ : St} {H : Hp} (Pv : Nat → St → Hp → Prop) (h0 : Pv 0 σ H) (hl : ∀ i σ H, i ≤ xs.length → Pv i σ H → aJ K H a xs)
  (hs : ∀ i x σ H, xs[i]? = some x → Pv i σ H → g x σ H fun σ2 H2 => tb { D with nx := Pv (i + 1), ct := Pv (i + 1), bk := D.nx } σ2 H2) (hd : ∀ σ H, Pv xs.length σ H → D.nx σ H) : nr (hZ K a) g tb D σ H := IH Pv h0 hl hs hd
theorem fits {n : Nat} (h : n ≤ 1000) : n ≤ sizeLine := Nat.le_of_lt (yh h)
theorem iB {n : Nat} (h : n ≤ 1000) : n < sizeLine := yh h
def nM (t u : TS) : TS := fun D σ H => ∃ P : St → Hp → Prop, t { D with nx := P } σ H ∧ ∀ σ' H', P σ' H' → u D σ' H'
theorem IX {X : Cx} {st : Stmt} {rest : List Stmt} {t u : TS} (h1 : PS X st t) (h2 : bT X rest u) : bT X (st :: rest) (nM t u) := by
 intro pins s σ H D I h
 obtain ⟨P, ht, hu⟩ := h
 have h1' : PS X st (fun D' σ' H' => D' = { D with nx := P } ∧ t D' σ' H') := h1.imp fun _ _ _ z => z.2
 have h2' : bT X rest (fun D' σ' H' => P σ' H' ∧ D' = D) := fun pins s σ H D' I z => by
  obtain ⟨z1, rfl⟩ := z
  exact h2 pins s σ H D' I (hu σ H z1)
 refine Hm (t := fun D' σ' H' => t { D with nx := P } σ' H' ∧ D'.rt = D.rt ∧ D'.bk = D.bk ∧ D'.ct = D.ct ∧ ∀ σ'' H'', P σ'' H'' → D'.nx σ'' H'') (u := fun D' σ' H' => P σ' H' ∧ D' = D) ?_ h2' pins s σ H D I ⟨ht, rfl, rfl, rfl, fun σ'' H'' z => ⟨z, rfl⟩⟩
 intro pins s σ H D' I z
 obtain ⟨z1, z2, z3, z4, z5⟩ := z
 refine aA (h1 pins s σ H { D with nx := P } I z1) fun f s' hq => ?_
 cases f with
 | next => obtain ⟨σ', H', I', q⟩ := hq; exact ⟨σ', H', I', z5 _ _ q⟩
 | brk => obtain ⟨σ', H', I', q⟩ := hq; exact ⟨σ', H', I', by rw [z3]; exact q⟩
 | cont => obtain ⟨σ', H', I', q⟩ := hq; exact ⟨σ', H', I', by rw [z4]; exact q⟩
 | ret u => obtain ⟨v, σ', H', I', r, q⟩ := hq; exact ⟨v, σ', H', I', r, by rw [z2]; exact q⟩
theorem ai {t u : TS} {D : Ends} {σ : St} {H : Hp} (h : t { D with nx := u D } σ H) : nM t u D σ H := ⟨u D, h, fun _ _ z => z⟩
theorem fM {t u : TS} {D : Ends} {σ : St} {H : Hp} (P : St → Hp → Prop) (h1 : t { D with nx := P } σ H) (h2 : ∀ σ' H', P σ' H' → u D σ' H') : nM t u D σ H := ⟨P, h1, h2⟩
theorem uH {H : Hp} {x : V} {T : String} (h : clsName H x = some T) : oW T "str" = oF x := by
 unfold clsName at h
 split at h
 ·cases h; rfl
 ·cases h; rfl
 ·cases h; rfl
 ·cases h; rfl
 ·split at h
  ·cases h; rfl
  ·cases h; rfl
  ·cases h; rfl
  ·cases h
 ·cases h
theorem Gz (H : Hp) (z : Str) : clsName H (.str z) = some "str" := rfl
theorem Ib (H : Hp) (z : Bool) : clsName H (.bl z) = some "bool" := rfl
theorem IM (H : Hp) (z : Int) : clsName H (.int z) = some "int" := rfl
theorem Jq (H : Hp) : clsName H .au = some "NoneType" := rfl
theorem uO {H : Hp} {p : Addr} {xs : List V} (h : H p = some (.lst xs)) : clsName H (.ref p) = some "list" := by simp only [clsName, h]
theorem gF {H H' : Hp} {x : V} {T : String} (e : ao H H') (h : clsName H x = some T) : clsName H' x = some T := by
 unfold clsName at h ⊢
 split at h
 ·exact h
 ·exact h
 ·exact h
 ·exact h
 ·split at h
  ·rename_i q; simp only [e _ _ q]; exact h
  ·rename_i q; simp only [e _ _ q]; exact h
  ·rename_i q; simp only [e _ _ q]; exact h
  ·cases h
 ·cases h
theorem nF (n : String) (h : ["bool", "int", "str", "list", "tuple", "dict"].contains n = true) : n ∈ ["bool", "int", "str", "list", "tuple", "dict"] := by simpa using h
def nA (K : PySem.W.Frag) : R2 := fun x y H Q => match y with
 | .ref p => ∃ xs, (aJ K H p xs ∨ cn K H p xs) ∧ dm x = true ∧ xs.all dm = true ∧ Q (.bl (dQ x xs)) H
 | _ => False
theorem LR {X : Cx} : aO X (compareOp .In) (nA X.K) := BG.imp fun x y H Q h => by
 unfold nA at h
 split at h
 ·obtain ⟨xs, h1, h2, h3, h4⟩ := h
  exact ⟨_, xs, rfl, h1, h2, h3, h4⟩
 ·exact h.elim
section
variable {X : Cx} {K : PySem.W.Frag}
theorem oZ (h : X.K = K) : aO X (compareOp .In) (ni K) := h ▸ HA
theorem Aa (h : X.K = K) : aO X (compareOp .In) (nA K) := h ▸ LR
theorem g9 (h : X.K = K) : bX X (.builtin "len") (oR K) := h ▸ HC
theorem xW (h : X.K = K) (hc : X.calm = true) : bX X (.builtin "all") (og K) := h ▸ Fh hc
theorem ba (h : X.K = K) : di X (oB K) := h ▸ qx
theorem vA (h : X.K = K) : fH X (nu K) := h ▸ Jr
theorem GB (h : X.K = K) : cI X "str.join" (rJoin K) := h ▸ EJ
end
def uq (J : It) (tt : TT) (te : TE) (Q : VK) (H0 : Hp) : Prop := ∃ W : Nat → List V → Nat → Hp → Prop, (∃ m, W 0 [] m H0) ∧ ∀ i ys m H, W i ys m H →
 ys.length ≤ sizeLine ∧ ((J.stop i H ∧ ∀ l, H l = none → Q (.ref l) (upd H l (.lst ys))) ∨
  (J.go i H ∧ ys.length < sizeLine ∧ ∀ y H', J.gN i H y H' → tt [some y] H' fun c H2 => if c = true then te [some y] H2 fun z H3 => ∃ m', m' < m ∧ W (i + 1) (ys ++ [z]) m' H3 else ∃ m', m' < m ∧ W (i + 1) ys m' H2))
theorem JA {wi : TI} {tt : TT} {te : TE} {σ : St} {H : Hp} {Q : VK} : ke wi tt te σ H Q = wi σ H fun J H1 => uq J tt te Q H1 := rfl
theorem Mf {z : Str} {te : TE} {H : Hp} {Q : VK} (f : Nat → V) (hz : z.length ≤ sizeLine)
  (he : ∀ c, c ∈ z.cps.toList → ∀ H1, ao H H1 → ∀ R : VK, (∀ H2, ao H1 H2 → R (f c) H2) → te [some (.str ⟨#[c]⟩)] H1 R)
  (q : ∀ H1, ao H H1 → ∀ l, H1 l = none → Q (.ref l) (upd H1 l (.lst (z.cps.toList.map f)))) : uq (lE z) oC te Q H := by
 have hl : z.cps.toList.length = z.length := by simp [Str.length]
 refine ⟨fun i ys m H1 => ao H H1 ∧ ys = (z.cps.toList.take i).map f ∧ i ≤ z.length ∧ m = z.length - i, ⟨_, ao.refl H, rfl, Nat.zero_le _, rfl⟩, ?_⟩
 rintro i ys m H1 ⟨s1, rfl, hi, rfl⟩
 have hlen : ((z.cps.toList.take i).map f).length = i := by rw [List.length_map, List.length_take, hl]; omega
 refine ⟨by rw [hlen]; omega, ?_⟩
 by_cases h : i < z.length
 ·refine .inr ⟨h, by rw [hlen]; omega, ?_⟩
  rintro y H' ⟨rfl, c, hc, rfl⟩
  have hc2 : z.cps.toList[i]? = some c := by simpa using hc
  simp only [oC, if_true]
  refine he c (List.mem_of_getElem? hc2) H' s1 _ fun H2 s2 => ⟨_, ?_, s1.trans s2, ?_, h, rfl⟩
  ·omega
  ·rw [List.take_add_one, hc2, List.map_append]; rfl
 ·have hi2 : i = z.length := by omega
  refine .inl ⟨Nat.le_of_eq hi2.symm, fun l hl' => ?_⟩
  have := q H1 s1 l hl'
  rw [List.take_of_length_le (by rw [hl]; omega)]
  exact this
theorem Bc {K : PySem.W.Frag} {a : Addr} {xs : List V} {tt : TT} {te : TE} {H : Hp} {Q : VK} (p : V → Bool) (f : V → V) (hsq : aJ K H a xs) (hz : xs.length ≤ sizeLine)
  (ht : ∀ x, x ∈ xs → ∀ H1, ao H H1 → ∀ R : Bool → Hp → Prop, (∀ H2, ao H1 H2 → R (p x) H2) → tt [some x] H1 R)
  (he : ∀ x, x ∈ xs → p x = true → ∀ H1, ao H H1 → ∀ R : VK, (∀ H2, ao H1 H2 → R (f x) H2) → te [some x] H1 R)
  (q : ∀ H1, ao H H1 → ∀ l, H1 l = none → Q (.ref l) (upd H1 l (.lst ((xs.filter p).map f)))) : uq (hZ K a) tt te Q H := by
 refine ⟨fun i ys m H1 => ao H H1 ∧ ys = ((xs.take i).filter p).map f ∧ i ≤ xs.length ∧ m = xs.length - i, ⟨_, ao.refl H, rfl, Nat.zero_le _, rfl⟩, ?_⟩
 rintro i ys m H1 ⟨s1, rfl, hi, rfl⟩
 have hlen : (((xs.take i).filter p).map f).length ≤ i := by
  rw [List.length_map]
  refine Nat.le_trans (List.length_filter_le _ _) ?_
  rw [List.length_take]; omega
 refine ⟨by omega, ?_⟩
 by_cases h : i < xs.length
 ·have hx : xs[i]? = some xs[i] := List.getElem?_eq_getElem h
  refine .inr ⟨⟨xs, xs[i], s1.seq hsq, hx⟩, by omega, ?_⟩
  rintro y H' ⟨rfl, hy⟩
  have hyx : xs[i]? = some y := hy xs (s1.seq hsq)
  have hm : y ∈ xs := List.mem_of_getElem? hyx
  have e1 : (xs.take (i + 1)).filter p = (xs.take i).filter p ++ (if p y = true then [y] else []) := by
   rw [List.take_add_one, hyx, List.filter_append]
   by_cases hp : p y = true
   ·simp [hp]
   ·simp [hp]
  refine ht y hm H' s1 _ fun H2 s2 => ?_
  by_cases hp : p y = true
  ·rw [if_pos hp]
   refine he y hm hp H2 (s1.trans s2) _ fun H3 s3 => ⟨_, ?_, (s1.trans s2).trans s3, ?_, h, rfl⟩
   ·omega
   ·rw [e1, if_pos hp, List.map_append]; rfl
  ·rw [if_neg hp]
   refine ⟨_, ?_, s1.trans s2, ?_, h, rfl⟩
   ·omega
   ·rw [e1, if_neg hp, List.append_nil]
 ·have hi2 : i = xs.length := by omega
  refine .inl ⟨⟨xs, s1.seq hsq, by omega⟩, fun l hl' => ?_⟩
  have := q H1 s1 l hl'
  rw [List.take_of_length_le (by omega)]
  exact this
end L2
namespace L2
open PySem PySem.Spec PyProof.Rows
structure QE (X : Cx) (e : Expr) (t : TE) : Prop where
 h : PE X e t
structure QA (X : Cx) (e : List Expr) (t : TA) : Prop where
 h : PA X e t
structure QT (X : Cx) (e : Expr) (t : TT) : Prop where
 h : PT X e t
structure QW (X : Cx) (e : Expr) (t : TT) : Prop where
 h : PW X e t
structure QS (X : Cx) (e : Stmt) (t : TS) : Prop where
 h : PS X e t
structure QB (X : Cx) (e : List Stmt) (t : TS) : Prop where
 h : bT X e t
structure QI (X : Cx) (tg it : Expr) (t : TI) : Prop where
 h : PI X tg it t
structure QG (X : Cx) (e : Expr) (t : TG) : Prop where
 h : PG X e t
structure mK (X : Cx) (e : List Expr) (t : er) : Prop where
 h : kj X e t
structure mj (X : Cx) (e : List Expr) (t : TT) : Prop where
 h : gK X e t
structure QO (X : Cx) (e : Option Expr) (t : TO) : Prop where
 h : PO X e t
structure QP (X : Cx) (pos : Pos) (ks : List (Option Expr)) (vs : List Expr) (t : List (TE × TE)) : Prop where
 h : Nj X pos ks vs t
namespace Dv
section
variable {X : Cx} {a b c : Expr} {ta tb tc : TE} {pos : Pos} {rest : List Expr} {tA tB' : TT}
theorem v (i : Nat) {x : Str} {pos : Pos} (hN : X.N[i]? = some x := by rfl) (hv : hX X.env.scope x := by first | exact Or.inl rfl | exact Or.inr (Or.inl rfl) | exact Or.inr (Or.inr rfl)) (hd : (x == ("__debug__" : Str)) = false := by decide)
  (hcd : (x == ("__classdict__" : Str)) = false := by decide) : QE X (.Name x pos) (nB i) := ⟨qv i hN hv hd hcd⟩
theorem int {i j pos} : QE X (.Constant (.int i) j pos) (tC (.int i)) := ⟨NH⟩
theorem bl {b j pos} : QE X (.Constant (.bool b) j pos) (tC (.bl b)) := ⟨JH⟩
theorem au {j pos} : QE X (.Constant .none j pos) (tC .au) := ⟨DE⟩
theorem str {x j pos} : QE X (.Constant (.str x) j pos) (tC (.str x)) := ⟨Gv⟩
theorem glob {x : Str} (v : V) {u : Value} {pos : Pos} (hm : X.mg x = some u) (r : RelV v u) (hg : Gl X x := by rfl) (hd : (x == ("__debug__" : Str)) = false := by decide) : QE X (.Name x pos) (tC v) := ⟨KQ hg hm r hd⟩
theorem fD {x : Str} (v : V) {u : Value} {pos : Pos} (hm : X.mg x = none) (hv : bootBuiltins x = some u) (r : RelV v u) (hg : Gl X x := by rfl) (hn : x ≠ "__name__" := by decide) (hd : (x == ("__debug__" : Str)) = false := by decide) : QE X (.Name x pos) (tC v) := ⟨ME hg hm hv r hn hd⟩
theorem op {o : Operator} {r : R2} (ho : aO X (binaryOp o) r) (ha : QE X a ta) (hb : QE X b tb) : QE X (.BinOp a o b pos) (gj r ta tb) := ⟨MG ho ha.h hb.h⟩
theorem un {o : UnaryOp} {r : V → Hp → VK → Prop} (ho : kR X (unaryOp o) r) (ha : QE X a ta) : QE X (.UnaryOp o a pos) (qP r ta) := ⟨Et ho ha.h⟩
theorem cmp {o : CmpOp} {r : R2} (ho : aO X (compareOp o) r) (ha : QE X a ta) (hb : QE X b tb) (hm : behindInMarks o b = false := by first | exact oT _ (by decide) (by decide) | rfl) : QE X (.Compare a [o] [b] pos) (gj r ta tb) := ⟨LY ho ha.h hb.h hm⟩
theorem tQ (ha : QE X a ta) (hb : QE X (.BoolOp .And (b :: rest) pos) tb) : QE X (.BoolOp .And (a :: b :: rest) pos) (sL ta tb) := ⟨FE ha.h hb.h⟩
theorem Mr (ha : QE X a ta) (hb : QE X (.BoolOp .Or (b :: rest) pos) tb) : QE X (.BoolOp .Or (a :: b :: rest) pos) (vE ta tb) := ⟨M4 ha.h hb.h⟩
theorem one {o} {t : TE} (h : QE X a t) : QE X (.BoolOp o [a] pos) t := ⟨E2 h.h⟩
theorem HU (ha : QE X a ta) : QE X (.UnaryOp .Not a pos) (pT ta) := ⟨DV ha.h⟩
theorem ag : QA X [] ik := ⟨N4⟩
theorem aa {e : Expr} {es : List Expr} {te : TE} {t : TA} (ha : QE X e te) (hr : QA X es t) (hs : noStar e = true := by rfl) : QA X (e :: es) (oz te t) := ⟨DW ha.h hr.h hs⟩
theorem call {CX : cu} {k : Nat} {f : Addr} {fd : FuncData} {ps : List Str} {sp : Sp} {dvs : List V} {ds : List Value} {E : XK} {x : Str} {p pos : Pos} {e : Expr} {es : List Expr} {t : TA}
  (F : aD X.prog X.w X.K X.mg X.base CX k f fd ps sp) (hr : aN k X.A) (hm : X.mg x = some (.ref f)) (hk : PySem.W.keepIn X.K (.ref f) = true) (hb : Binds X.K fd ps ds) (hd : Vals dvs ds) (hx : Passes CX X E)
  (ha : QA X (e :: es) t) (hg : Gl X x := by rfl) (hs : (e :: es).all noStar = true := by rfl) (hdb : (x == ("__debug__" : Str)) = false := by decide) : QE X (.Call (.Name x p) (e :: es) [] pos) (oP sp dvs E t) := ⟨Ei F hr hg hm hk hb hd hx ha.h hs hdb⟩
theorem bB {x : Str} {p pos : Pos} {e : Expr} {es : List Expr} {t : TA} {id : String} {r : List V → Hp → VK → Prop} (hc : bX X (.builtin id) r) (hm : X.mg x = none) (hv : bootBuiltins x = some (.builtin id)) (ha : QA X (e :: es) t)
  (hg : Gl X x := by rfl) (hs : (e :: es).all noStar = true := by rfl) (hn : x ≠ "__name__" := by decide) (hdb : (x == ("__debug__" : Str)) = false := by decide) : QE X (.Call (.Name x p) (e :: es) [] pos) (iQ r t) := ⟨G0 hc hg hm hv ha.h hs hn hdb⟩
theorem By {x : Str} {p pos : Pos} {e : Expr} {es : List Expr} {t : TA} {T : String} {r : List V → Hp → VK → Prop} (hc : bX X (.type T) r) (hm : X.mg x = none) (hv : bootBuiltins x = some (.type T)) (ha : QA X (e :: es) t)
  (hg : Gl X x := by rfl) (hs : (e :: es).all noStar = true := by rfl) (hn : x ≠ "__name__" := by decide) (hdb : (x == ("__debug__" : Str)) = false := by decide) : QE X (.Call (.Name x p) (e :: es) [] pos) (iQ r t) := ⟨K4 hc hg hm hv ha.h hs hn hdb⟩
section
variable {name : Str} {id : String} {r : V → List V → Hp → VK → Prop} {o e : Expr} {es : List Expr} {to : TE} {t : TA} {apos aY : Pos}
theorem pC (slot : Slot "str" name id) (hty : typeOf (.builtin id) = pure (.type "method_descriptor")) (hm : cI X id r) (ho : QE X o to) (ha : QA X (e :: es) t)
  (hs : (e :: es).all noStar = true := by rfl) (hfl : decide ((e :: es).length + ([] : List Keyword).length + (if ([] : List Keyword).isEmpty then 0 else 1) < 30) = true := by rfl)
  (fz : attributeBase o name X.env (eval o X.env) = eval o X.env := by rfl) (fA : (apos.endLine == aY.line) = true := by rfl) : QE X (.Call (.Attribute o name apos) (e :: es) [] aY) (vn r to t) := ⟨Ow slot hty hm ho.h ha.h hs hfl fz fA⟩
theorem iw (slot : Slot "list" name id) (hty : typeOf (.builtin id) = pure (.type "method_descriptor")) (hm : cI X id r) (ho : QE X o to) (ha : QA X (e :: es) t)
  (hs : (e :: es).all noStar = true := by rfl) (hfl : decide ((e :: es).length + ([] : List Keyword).length + (if ([] : List Keyword).isEmpty then 0 else 1) < 30) = true := by rfl)
  (fz : attributeBase o name X.env (eval o X.env) = eval o X.env := by rfl) (fA : (apos.endLine == aY.line) = true := by rfl) : QE X (.Call (.Attribute o name apos) (e :: es) [] aY) (sd r to t) := ⟨MS slot hty hm ho.h ha.h hs hfl fz fA⟩
end
theorem qB : QO X none rT := ⟨FD⟩
theorem sN (h : QE X a ta) : QO X (some a) (vj ta) := ⟨K7 h.h⟩
theorem slice {r : V → Option Int → Option Int → Hp → VK → Prop} {lo hi : Option Expr} {tl th : TO} {p2 : Pos} (hr : fH X r) (he : QE X a ta) (hl : QO X lo tl) (hu : QO X hi th) : QE X (.Subscript a (.Slice lo hi none p2) pos) (vG r ta tl th) := ⟨Hj hr he.h hl.h hu.h⟩
theorem ix {r : R2} (hr : di X r) (ha : QE X a ta) (hb : QE X b tb) (hs : yE b := by intro _ _; rfl) : QE X (.Subscript a b pos) (gj r ta tb) := ⟨NV hr ha.h hb.h hs⟩
theorem lst {es : List Expr} {t : TA} (h : QA X es t) : QE X (.List es pos) (rM t) := ⟨Ij h.h⟩
theorem tup {es : List Expr} {x1} {t : TA} (h : QA X es t) : QE X (.Tuple es x1 pos) (qO t) := ⟨Kk h.h⟩
theorem iR : QE X (.Dict [] [] pos) ua := ⟨HB⟩
theorem bc {o : CmpOp} {r : R2} (ho : aO X (compareOp o) r) (ha : QE X a ta) (hb : QE X b tb) (hm : behindInMarks o b = false := by first | exact oT _ (by decide) (by decide) | rfl) : QT X (.Compare a [o] [b] pos) (gG (gj r ta tb)) := ⟨Ie ho ha.h hb.h hm⟩
theorem rY {o o' : CmpOp} {f g : Int → Int → Bool} (ho : aO X (compareOp o) (fO f)) (ho' : aO X (compareOp o') (fO g)) (ha : QE X a ta) (hb : QE X b tb) (hc : QE X c tc)
  (hm : lastMarks [o, o'] [b, c] = false := by with_unfolding_all rfl) : QT X (.Compare a [o, o'] [b, c] pos) (uI f g ta tb tc) := ⟨Gj ho ho' ha.h hb.h hc.h hm⟩
theorem cE {t : TE} (h : QE X a t) (he : ∀ whole, isTrue a X.env whole = (do let v ← whole; standAt a.pos; holding [v] (truthy v)) := by intro _; rfl) : QT X a (gG t) := ⟨F6 h.h he⟩
theorem cH (ha : QT X a tA) : QT X (.UnaryOp .Not a pos) (qm tA) := ⟨ES ha.h⟩
theorem dS (h : QW X a tA) : QT X a tA := ⟨h.h.pt⟩
theorem nW (ha : QT X a tA) : QW X (.BoolOp .And [a] pos) tA := ⟨Dt ha.h⟩
theorem fN (ha : QT X a tA) : QW X (.BoolOp .Or [a] pos) tA := ⟨KS ha.h⟩
theorem w_and (ha : QT X a tA) (hb : QW X (.BoolOp .And (b :: rest) pos) tB') : QW X (.BoolOp .And (a :: b :: rest) pos) (vR tA tB') := ⟨MR ha.h hb.h⟩
theorem w_or (ha : QT X a tA) (hb : QW X (.BoolOp .Or (b :: rest) pos) tB') : QW X (.BoolOp .Or (a :: b :: rest) pos) (uv tA tB') := ⟨DM ha.h hb.h⟩
variable {st : Stmt} {sts : List Stmt} {t u : TS} {tg : Expr} {g : TG}
theorem dM (i : Nat) {x : Str} (hN : X.N.Nodup) (hi : X.N[i]? = some x := by rfl) (hx : Loc X.env.scope x := by first | exact Or.inl rfl | exact Or.inr rfl) (hf : X.fn x = true ∨ X.env.scope.names.lookup x = some .local := by first | exact .inl rfl | exact .inr rfl) : QG X (.Name x pos) (eE i) := ⟨yY hN hi hx hf⟩
theorem A3 {o i : Expr} {to ti : TE} {s : mh} (ho : QE X o to) (hi : QE X i ti) (hs : pG X s) (ha : ∀ v, assign (.Subscript o i pos) X.env v = (do
   let ov ← holding [v] (eval o X.env)
   let iv ← holding [v, ov] (eval i X.env)
   standAt pos
   holding [v, ov, iv] (setItem ov iv v)
   release [v, ov, iv] []) := by intro _; rfl) : QG X (.Subscript o i pos) (rm to ti s) := ⟨JM ho.h hi.h hs ha⟩
theorem uG : mK X [] nq := ⟨NB⟩
theorem fI {e : Expr} {es : List Expr} {t : TG} {u : er} (h1 : QG X e t) (h2 : mK X es u) (hs : (assignEach (e :: es) X.env).map (·.2) = assign e X.env :: (assignEach es X.env).map (·.2) := by rfl) : mK X (e :: es) (mG t u) := ⟨Ds h1.h h2.h hs⟩
theorem yQ {K : PySem.W.Frag} {es : List Expr} {k : Nat} {t : er} {n : Nat} (hK : X.K = K) (hc : X.calm = true) (h : mK X es t) (hn : (assignEach es X.env).length = n := by rfl) (hst : (assignEach es X.env).findIdx? (·.1) = none := by rfl) : QG X (.Tuple es k pos) (oJ K n t) := hK ▸ ⟨G6 hc h.h hn hst⟩
theorem aP (i : Nat) {x : Str} {e : Expr} {te : TE} {pos' : Pos} (hN : X.N.Nodup) (he : QE X e te) (hi : X.N[i]? = some x := by rfl) (hx : Loc X.env.scope x := by first | exact Or.inl rfl | exact Or.inr rfl) (hs : swapsWith e (some (.Name x pos')) pos.line X.env = pure false := by rfl)
  (hf : X.fn x = true ∨ X.env.scope.names.lookup x = some .local := by first | exact .inl rfl | exact .inr rfl) : QS X (.Assign [.Name x pos'] e pos) (fX te (eE i)) := ⟨Dw hN hi hx he.h hs hf⟩
theorem sP {e : Expr} {te : TE} (he : QE X e te) (hg : QG X tg g) (hs : swapsWithSole [tg] e pos.line X.env = pure false := by rfl) (hw : swappedStores [tg] e X.env = pure none := by rfl) (h1 : (assignEach [tg] X.env).map (·.2) = [assign tg X.env] := by rfl) :
  QS X (.Assign [tg] e pos) (fX te g) := ⟨E6 he.h hg.h hs hw h1⟩
theorem aK (he : QE X a ta) : QS X (.Return (some a) pos) (vh ta) := ⟨DA he.h⟩
theorem aQ (he : QE X a ta) (hs : swapsWith a none pos.line X.env = pure false := by rfl) : QS X (.Expr a pos) (sR ta) := ⟨HH he.h hs⟩
theorem aW {A B : List Stmt} (hc : QT X a tA) (ha : QB X A t) (hb : QB X B u) : QS X (.If a A B pos) (u9 tA t u) := ⟨Gg hc.h ha.h hb.h⟩
theorem jk {iter : Expr} {body : List Stmt} {wi : TI} {tb : TS} (hp : PassesOwn (model X.prog X.w) X.A X.env X.xe) (hc : X.calm = true) (hi : QI X tg iter wi) (hg : QG X tg g) (hb : QB X body tb) (hs : ∀ x, foldedSetIterable iter X.env x = pure x := by intro _; rfl) :
  QS X (.For tg iter body [] pos) (qc wi g tb) := ⟨IQ hp hc hi.h hg.h hb.h hs⟩
theorem nil : QB X [] vf := ⟨Na⟩
theorem aq (h1 : QS X st t) : QB X [st] t := ⟨EV h1.h⟩
theorem cut (h1 : QS X st t) (h2 : QB X sts u) : QB X (st :: sts) (nM t u) := ⟨IX h1.h h2.h⟩
theorem oY {K : PySem.W.Frag} {l : Expr} {tl : TE} (h : X.K = K) (hl : QE X l tl) : QI X tg l (rg K tl) := h ▸ ⟨IB hl.h⟩
theorem xQ {l : Expr} {tl : TE} (hl : QE X l tl) : QI X tg l (rp tl) := ⟨EG hl.h⟩
theorem vo {ta : TA} {p : Pos} (hm : X.mg "range" = none) (ha : QA X [a] ta) (hg : Gl X "range" := by rfl) (hs : noStar a = true := by rfl) : QI X tg (.Call (.Name "range" p) [a] [] pos) (sx ta) := ⟨Mh hg hm ha.h (dG hs)⟩
theorem yK : mj X [] oC := ⟨GN⟩
theorem BI (h : QT X c tA) : mj X [c] tA := ⟨Oq h.h⟩
theorem comp {elt iter : Expr} {ifs : List Expr} {x : Str} {px pos : Pos} {scope : Scope} {wi : TI} {tt : TT} {te : TE} (hc : X.calm = true) (hi : QI X (.Name x px) iter wi)
  (ht : ∀ s H ex C, mj (bV X scope [x] s H ex C) ifs tt) (he : ∀ s H ex C, QE (bV X scope [x] s H ex C) elt te)
  (hk : scope.kind = .function := by rfl) (hnm : ∀ y ∈ scope.names, y.2 = .local → scope.names.lookup y.1 = some .local := by decide +kernel) (hnf : ∀ y ∈ scope.names, y.2 ≠ .cell ∧ y.2 ≠ .free := by decide +kernel) (hx : scope.names.lookup x = some .local := by rfl) (eA : relabel scope X.env = scope := by rfl)
  (hs : ∀ x, foldedSetIterable iter X.env x = pure x := by intro _; rfl) : QE X (.ListComp elt [⟨.Name x px, iter, ifs, 0⟩] scope pos) (ke wi tt te) := ⟨MK hc hi.h (fun s H ex C => (ht s H ex C).h) (fun s H ex C => (he s H ex C).h) hk hnm hnf hx eA hs⟩
theorem N5 (i : Nat) {elt iter : Expr} {ifs : List Expr} {x y : Str} {px py pos spos : Pos} {scope : Scope} {wi : TI} {tt : TT} {te : TE} (hc : X.calm = true) (hN : X.N.Nodup) (hi : QI X (.Name x px) iter wi)
  (ht : ∀ s H ex C, mj (bV X scope [x] s H ex C) ifs tt) (he : ∀ s H ex C, QE (bV X scope [x] s H ex C) elt te) (hiy : X.N[i]? = some y := by rfl) (hly : X.env.scope.names.lookup y = some .local := by rfl)
  (hsw : swapsWith (.ListComp elt [⟨.Name x px, iter, ifs, 0⟩] scope pos) (some (.Name y py)) spos.line X.env = pure true := by rfl)
  (hk : scope.kind = .function := by rfl) (hnm : ∀ y ∈ scope.names, y.2 = .local → scope.names.lookup y.1 = some .local := by decide +kernel) (hnf : ∀ y ∈ scope.names, y.2 ≠ .cell ∧ y.2 ≠ .free := by decide +kernel) (hx : scope.names.lookup x = some .local := by rfl) (eA : relabel scope X.env = scope := by rfl)
  (hs : ∀ x, foldedSetIterable iter X.env x = pure x := by intro _; rfl) : QS X (.Assign [.Name y py] (.ListComp elt [⟨.Name x px, iter, ifs, 0⟩] scope pos) spos) (fX (ke wi tt te) (eE i)) := ⟨Hr hc hN hiy hly hi.h (fun s H ex C => (ht s H ex C).h) (fun s H ex C => (he s H ex C).h) hsw hk hnm hnf hx eA hs⟩
end
end Dv
end L2
namespace Tx
open PySem PySem.Builtin PySem.StrLaws
theorem IV (n : Nat) (k : Nat) (hk : k ≤ n) : Builtin.Str.strSliceIndices (some (k : Int)) none 1 n = (List.range (n - k)).map (fun j => k + j) := by
 have h := strSliceIndices_plain (a := k) (b := n) (len := n) hk (Nat.le_refl _)
 rw [← h]
 unfold Builtin.Str.strSliceIndices
 simp only [show (1 : Int) > 0 from by decide, if_true]
 have h1 : ¬ ((k : Int) < 0) := by omega
 have h2 : ¬ ((n : Int) < 0) := by omega
 simp only [h1, h2, if_false]
 congr 1 <;> omega
theorem Ov (l : List Nat) (is : List Nat) : (is.filterMap ((S l).cps[·]?)) = is.filterMap (l[·]?) := by
 congr 1
 funext i
 simp [S]
theorem LS (l : List Nat) (k : Nat) (hk : k ≤ l.length) : Txt.slice (S l) (some (k : Int)) none = S (l.drop k) := by
 unfold Txt.slice
 rw [cw, IV _ _ hk, List.length_map, List.length_range]
 have hp := picks l (l.length - k) k (by omega)
 by_cases h : l.length - k = l.length
 ·rw [h]
  simp only [beq_self_eq_true, Bool.and_self, if_true]
  have : k = 0 ∨ l = [] := by
   rcases Nat.eq_zero_or_pos l.length with z | z
   ·exact .inr (List.length_eq_zero_iff.mp z)
   ·exact .inl (by omega)
  rcases this with rfl | rfl
  ·rw [List.drop_zero]
  ·simp
 ·have h' : (l.length - k == l.length) = false := by simpa using h
  rw [h', Bool.and_false]
  simp only [Bool.false_eq_true, if_false]
  rw [Ov, hp]
  show S _ = S _
  congr 1
  rw [List.take_of_length_le (by simp)]
end Tx
namespace Tx
open PySem PySem.Builtin PySem.StrLaws
theorem sV {c a : Nat} (h : a = c) (r : List Nat) : cut c (a :: r) = [] :: cut c r := if_pos h
theorem AE {c a : Nat} {r : List Nat} {x : List Nat} {y : List (List Nat)} (h : ¬ a = c) (e : cut c r = x :: y) : cut c (a :: r) = (a :: x) :: y := by
 show (if a = c then _ else _) = _
 rw [if_neg h, e]
theorem yB (c : Nat) : ∀ (t r : List Nat), cut c (t ++ c :: r) = cut c t ++ cut c r
 | [], r => sV rfl r
 | a :: t, r => by
  have ih := yB c t r
  show cut c (a :: (t ++ c :: r)) = _
  by_cases h : a = c
  ·rw [sV h, sV h, ih]; rfl
  ·cases e : cut c t with
   | nil => exact absurd e (GG c t)
   | cons x y =>
    rw [e] at ih
    rw [AE h ih, AE h e]; rfl
def words (c : Nat) (t : List Nat) : List (List Nat) := (cut c t).filter fun w => decide (w ≠ [])
theorem Au (c : Nat) (t r : List Nat) : words c (t ++ c :: r) = words c t ++ words c r := by
 unfold words
 rw [yB, List.filter_append]
theorem FK (c : Nat) (r : List Nat) : words c (c :: r) = words c r := Au c [] r
theorem Bb (c : Nat) : ∀ w : List Nat, c ∉ w → cut c w = [w]
 | [], _ => rfl
 | a :: r, h => by
  unfold cut
  rw [if_neg (fun e => h (by rw [e]; exact List.mem_cons_self)), Bb c r (fun m => h (List.mem_cons_of_mem _ m))]
theorem vw (c : Nat) (w : List Nat) (h : c ∉ w) (hn : w ≠ []) : words c w = [w] := by
 unfold words
 rw [Bb c w h]
 simp [hn]
theorem yP (c : Nat) : ∀ t : List Nat, (cut c t).length ≤ t.length + 1
 | [] => Nat.le_refl _
 | a :: r => by
  have ih := yP c r
  unfold cut
  split
  ·simp only [List.length_cons]; omega
  ·split
   ·simp
   ·rename_i h t' e
    rw [e] at ih
    simp only [List.length_cons] at ih ⊢
    omega
theorem Dm (t : List Nat) (c : Nat) : ((cut c t).map S).filter (fun z => decide (z ≠ S [])) = (words c t).map S := by
 unfold words
 rw [List.filter_map]
 congr 1
 refine List.filter_congr fun w _ => ?_
 show decide (S w ≠ S []) = decide (w ≠ [])
 by_cases h : w = []
 ·simp [h]
 ·have : S w ≠ S [] := fun e => h (ki e)
  simp [h, this]
theorem IZ (x : List Nat) (c : Nat) : Txt.startswith (S x) (S [c]) = decide (x.head? = some c) := by
 unfold Txt.startswith
 rw [cw, cw]
 cases x with
 | nil => simp
 | cons a r =>
  rw [subAt_one (a :: r) c 0 (by simp)]
  simp
theorem DP (x : List Nat) (c : Nat) : Txt.endswith (S x) (S [c]) = decide (x.getLast? = some c) := by
 unfold Txt.endswith
 rw [cw, cw]
 cases hx : x with
 | nil => simp
 | cons a r =>
  have hl : (a :: r).length - [c].length < (a :: r).length := by simp
  rw [subAt_one (a :: r) c _ hl]
  have e : (a :: r)[(a :: r).length - [c].length]? = (a :: r).getLast? := by
   rw [List.getLast?_eq_getElem?]; rfl
  rw [e]
  have : decide (0 + [c].length ≤ (a :: r).length) = true := decide_eq_true (by simp)
  rw [this, Bool.true_and]
end Tx
namespace L2
open PySem PySem.Spec PyProof.Rows
theorem rq {A : Around} {s : Shared} {l1 l2 : List (Str × Tok)} (j : Nat) (h1 : j < (strValues l1).toArray.size) (h2 : j < (strValues l2).toArray.size) :
  SeqAt.EqAt A s (strValues l1).toArray[j] (strValues l2).toArray[j] (decide ((l1.map (·.1))[j]? = (l2.map (·.1))[j]?)) := by
 have g1 : j < l1.length := by simpa [strValues] using h1
 have g2 : j < l2.length := by simpa [strValues] using h2
 have e1 : (strValues l1).toArray[j] = Value.str l1[j].1 l1[j].2 := by simp [strValues]
 have e2 : (strValues l2).toArray[j] = Value.str l2[j].1 l2[j].2 := by simp [strValues]
 rw [e1, e2]
 have e : decide ((l1.map (·.1))[j]? = (l2.map (·.1))[j]?) = (l1[j].1 == l2[j].1) := by
  rw [List.getElem?_map, List.getElem?_map, List.getElem?_eq_getElem g1, List.getElem?_eq_getElem g2]
  by_cases q : l1[j].1 = l2[j].1
  ·simp [q]
  ·simp [q]
 rw [e]
 exact SeqAt.EqAt.str_str _ _ _ _
theorem all_eq {α : Type} [DecidableEq α] {xs ys : List α} (h : xs.length = ys.length) : (List.range xs.length).all (fun j => decide (xs[j]? = ys[j]?)) = decide (xs = ys) := by
 rw [Bool.eq_iff_iff, List.all_eq_true, decide_eq_true_eq]
 constructor
 ·intro q
  apply List.ext_getElem?
  intro i
  by_cases hi : i < xs.length
  ·exact of_decide_eq_true (q i (List.mem_range.mpr hi))
  ·rw [List.getElem?_eq_none (by omega), List.getElem?_eq_none (by omega)]
 ·rintro rfl j _
  simp
section
variable {X : Cx}
theorem An {pins : List (Addr × Obj)} {σ : St} {H : Hp} {s : Shared} {A : Around} {a b : Addr} {ts us : List Str} (I : Inv X pins σ H s) (ha : H a = some (.lst (ts.map V.str))) (hb : H b = some (.lst (us.map V.str))) (hu : A.units < cLine) :
  SeqAt.RcAt A s (.ref a) (.ref b) (decide (ts = us)) ∧ SeqAt.RcNeAt A s (.ref a) (.ref b) (!decide (ts = us)) := by
 obtain ⟨i1, r1, p1, _⟩ := I.list (aJ.of ha)
 obtain ⟨i2, r2, p2, _⟩ := I.list (aJ.of hb)
 obtain ⟨l1, rfl, e1⟩ := j6 r1
 obtain ⟨l2, rfl, e2⟩ := j6 r2
 have n1 : (strValues l1).toArray.size = ts.length := by rw [← e1]; simp [strValues]
 have n2 : (strValues l2).toArray.size = us.length := by rw [← e2]; simp [strValues]
 by_cases h : ts.length = us.length
 ·have hsz : (strValues l1).toArray.size = (strValues l2).toArray.size := by rw [n1, n2, h]
  have k1 := SeqAt.RcAt.lists (A := A) p1.isList p2.isList hsz hu (fun j g1 g2 => rq j g1 g2)
  have k2 := SeqAt.RcNeAt.lists (A := A) p1.isList p2.isList hsz hu (fun j g1 g2 => rq j g1 g2)
  rw [n1, e1, e2, all_eq h] at k1 k2
  exact ⟨k1, k2⟩
 ·have hsz : ((strValues l1).toArray.size != (strValues l2).toArray.size) = true := by rw [n1, n2]; simpa using h
  have e : decide (ts = us) = false := decide_eq_false fun z => h (by rw [z])
  rw [e]
  exact ⟨SeqAt.RcAt.lists_lengths p1.isList p2.isList hsz hu, SeqAt.RcNeAt.lists_lengths p1.isList p2.isList hsz hu⟩
def lU (neg : Bool) : R2 := fun x y H Q => match x, y with
 | .ref a, .ref b => ∃ ts us : List Str, H a = some (.lst (ts.map V.str)) ∧ H b = some (.lst (us.map V.str)) ∧ Q (.bl (neg ^^ decide (ts = us))) H
 | _, _ => False
theorem Nq (hu : X.A.units < cLine) : aO X (compareOp .Eq) (lU false) := by
 intro pins s σ H x y v u Q I rx ry h
 unfold lU at h
 split at h
 ·obtain ⟨ts, us, ha, hb, q⟩ := h
  cases rx; cases ry
  simp only [Bool.false_bne] at q
  exact (An I ha hb hu).1 _ _ _ _ ⟨.bl _, H, I, rfl, q⟩
 ·exact h.elim
theorem pf (hu : X.A.units < cLine) : aO X (compareOp .NotEq) (lU true) := by
 intro pins s σ H x y v u Q I rx ry h
 unfold lU at h
 split at h
 ·obtain ⟨ts, us, ha, hb, q⟩ := h
  cases rx; cases ry
  simp only [Bool.true_bne] at q
  exact (An I ha hb hu).2 _ _ _ _ ⟨.bl _, H, I, rfl, q⟩
 ·exact h.elim
theorem Dv.bw {st : Stmt} : QS X st tj := ⟨L7⟩
end
end L2
namespace Tx
open PySem PySem.Builtin PySem.StrLaws
theorem Bk (c : Nat) : ∀ (n : Nat) (acc : Array Nat), (List.replicate n #[c]).foldl (fun a b => a ++ b) acc = acc ++ (List.replicate n c).toArray
 | 0, acc => by simp
 | n + 1, acc => by
  rw [List.replicate_succ, List.foldl_cons, Bk c n]
  apply Array.ext'
  simp [List.replicate_succ]
theorem mul_one (c n : Nat) (hn : 1 ≤ n) : Txt.mul (S [c]) (n : Int) = S (List.replicate n c) := by
 unfold Txt.mul
 rw [if_neg (by omega)]
 by_cases h : n = 1
 ·subst h
  rfl
 ·have e : (((n : Int) == 1) || ((S [c]).length == 0)) = false := by
   rw [fQ]
   have : ((n : Int) == 1) = false := by simp; omega
   rw [this]
   rfl
  rw [e]
  simp only [Bool.false_eq_true, if_false]
  apply Str.ext'
  show (List.replicate (n : Int).toNat #[c]).foldl (fun a b => a ++ b) #[] = (List.replicate n c).toArray
  rw [Bk, Int.toNat_natCast]
  simp
theorem Dz (c n : Nat) (hn : n ≤ 2000) : MulOk (S [c]) (n : Int) := by
 refine ⟨?_, fun h1 h2 => ?_, fun h1 h2 => ?_⟩
 ·rw [decide_eq_false (by omega), decide_eq_false (by omega)]; rfl
 ·rw [fQ]
  have h0 : (0 : Int) < n := by omega
  have : (1 : Int) ≤ (2 ^ 63 - 1) / (n : Int) := by
   rw [Int.le_ediv_iff_mul_le h0]
   omega
  omega
 ·unfold PySem.Builtin.Str.tooLong
  rw [fQ, Int.toNat_natCast]
  refine decide_eq_false ?_
  have : (sizeLine : Nat) = 16777216 := sizeLine_eq
  omega
end Tx
namespace L2
open PySem PySem.Spec PyProof.Rows
end L2
namespace Tx
open PySem PySem.Builtin PySem.StrLaws
theorem u0 {α : Type} (a b : List α) (h : b ≠ []) : (a ++ b).getLast? = b.getLast? := by
 rw [List.getLast?_append]
 rw [List.getLast?_eq_some_getLast h]
 rfl
def eS (c : Nat) : List (List Nat) → List Nat
 | [] => []
 | [x] => x
 | x :: y :: r => x ++ c :: eS c (y :: r)
theorem yv (c : Nat) : ∀ ps : List (List Nat), (∀ w ∈ ps, c ∉ w ∧ w ≠ []) → words c (eS c ps) = ps
 | [], _ => rfl
 | [x], h => vw c x (h x (by simp)).1 (h x (by simp)).2
 | x :: y :: r, h => by
  have ih := yv c (y :: r) (fun w hw => h w (List.mem_cons_of_mem _ hw))
  show words c (x ++ c :: eS c (y :: r)) = _
  rw [Au, ih, vw c x (h x (by simp)).1 (h x (by simp)).2]
  rfl
theorem yp (c : Nat) (ps : List (List Nat)) (h : ∀ w ∈ ps, c ∉ w ∧ w ≠ []) (hn : ps ≠ []) : eS c ps ≠ [] := fun e => by
 have := yv c ps h
 rw [e] at this
 exact hn this.symm
theorem Az (c : Nat) : ∀ ps : List (List Nat), (∀ w ∈ ps, c ∉ w ∧ w ≠ []) → (eS c ps).getLast? ≠ some c
 | [], _ => by simp [eS]
 | [x], h => fun e => (h x (by simp)).1 (List.mem_of_getLast? e)
 | x :: y :: r, h => by
  have hr : ∀ w ∈ (y :: r), c ∉ w ∧ w ≠ [] := fun w hw => h w (List.mem_cons_of_mem _ hw)
  have ih := Az c (y :: r) hr
  show (x ++ c :: eS c (y :: r)).getLast? ≠ some c
  rw [u0 _ _ (by simp)]
  have : (c :: eS c (y :: r)) = [c] ++ eS c (y :: r) := rfl
  rw [this, u0 _ _ (yp c (y :: r) hr (by simp))]
  exact ih
end Tx
namespace L2
open PySem PySem.Spec PyProof.Rows
def pU : V → Hp → VK → Prop := fun x H Q => match x with
 | .int i => Q (.int (-i)) H
 | _ => False
theorem dR {X : Cx} : kR X (unaryOp .USub) pU := fun pins s σ H x v Q I rx h => Kw pins s σ H x v Q I rx (by
 unfold pU at h
 split at h
 ·exact ⟨_, rfl, h⟩
 ·exact h.elim)
end L2
namespace L2
open PySem PySem.Spec PyProof.Rows
section
variable {X : Cx} {K : PySem.W.Frag}
def vO (K : PySem.W.Frag) : List V → Hp → VK → Prop := fun xs H Q => match xs with
 | [.ref p] => ∃ ys, aJ K H p ys ∧ Q (.int ys.length) H
 | _ => False
theorem Ll (h : X.K = K) : bX X (.builtin "len") (vO K) := h ▸ zP.imp fun xs H Q h => by
 unfold vO at h
 split at h
 ·obtain ⟨ys, h1, h2⟩ := h
  exact ⟨_, _, rfl, .inl ⟨ys, h1, rfl⟩, h2⟩
 ·exact h.elim
def vx (K : PySem.W.Frag) : R2 := fun x y H Q => match x, y with
 | .ref p, .int i => ∃ xs v, aJ K H p xs ∧ bu xs i = some v ∧ Q v H
 | _, _ => False
theorem NP (h : X.K = K) : di X (vx K) := h ▸ Bd.imp fun x y H Q h => by
 unfold vx at h
 split at h
 ·obtain ⟨xs, v, h1, h2, h3⟩ := h
  exact ⟨_, xs, _, v, rfl, rfl, h1, h2, h3⟩
 ·exact h.elim
end
end L2
namespace Tx
end Tx
namespace L2
open PySem
open Sem (wp)
def cz (e : Addr) (c : Value) (od : Option Addr) (h : Heap) : Prop := ∃ o, h.get? e = some o ∧ o.cls = c ∧ o.dict = od ∧ ∃ vs, o.data = .fields vs
structure Kp (e : Addr) (c : Value) (od : Option Addr) {α : Type} (t : Sem α) : Prop where
 out : ∀ (M : Model) (Γ : Ctx) (P : α → Pos → Shared → Prop) (Ee : Value → Pos → Shared → Prop) (p : Pos) (s : Shared), cz e c od s.heap → wp M Γ t P Ee p s → wp M Γ t (fun a p' s' => P a p' s' ∧ cz e c od s'.heap) Ee p s
section
variable {e : Addr} {c : Value} {od : Option Addr} {α β : Type}
theorem Kp.pure (a : α) : Kp e c od (Pure.pure a : Sem α) := ⟨fun _ _ _ _ _ _ hd h => ⟨h, hd⟩⟩
theorem Kp.unsupported (w : String) : Kp e c od (PySem.unsupported w : Sem α) := ⟨fun _ _ _ _ _ _ _ h => h⟩
theorem Kp.bind {m : Sem α} {f : α → Sem β} (hm : Kp e c od m) (hf : ∀ a, Kp e c od (f a)) : Kp e c od (m >>= f) := ⟨fun M Γ P Ee p s hd h => by
 rw [Sem.wp_bind'] at h ⊢
 exact Sem.wp_mono M Γ m (fun a p' s' h' => (hf a).out M Γ P Ee p' s' h'.2 h'.1) (fun _ _ _ x => x) p s (hm.out M Γ _ Ee p s hd h)⟩
theorem Kp.ite {q : Prop} [Decidable q] {t u : Sem α} (ht : Kp e c od t) (hu : Kp e c od u) : Kp e c od (if q then t else u) := by split <;> assumption
theorem Kp.load (a : Addr) : Kp e c od (PySem.load a) := ⟨fun _ _ _ _ _ _ hd h => let ⟨o, ho, z⟩ := h; ⟨o, ho, z, hd⟩⟩
theorem Kp.stack : Kp e c od PySem.stack := ⟨fun M Γ P Ee p s hd h => by
 unfold PySem.stack at h ⊢
 rw [Sem.wp_stack] at h ⊢
 exact ⟨h, hd⟩⟩
theorem cz.push {h : Heap} (x : cz e c od h) (o : Obj) : cz e c od (h.push o) := let ⟨u, hu, r⟩ := x; ⟨u, Heap.get?_push_of_some _ hu, r⟩
theorem cz.update {h : Heap} (x : cz e c od h) (a : Addr) (f : Obj → Obj) (hf : ∀ o, (f o).cls = o.cls ∧ (f o).dict = o.dict ∧ ∀ vs, o.data = .fields vs → ∃ ws, (f o).data = .fields ws) : cz e c od (h.update a f) := by
 obtain ⟨u, hu, h1, h2, vs, h3⟩ := x
 by_cases q : a = e
 ·subst q
  obtain ⟨ws, h4⟩ := (hf u).2.2 vs h3
  exact ⟨f u, Heap.get?_update_self f hu (Obj.isFreed_of_fields h4), (hf u).1.trans h1, (hf u).2.1.trans h2, ws, h4⟩
 ·exact ⟨u, (Heap.get?_update_other _ _ q).trans hu, h1, h2, vs, h3⟩
theorem Kp.update (a : Addr) (f : Obj → Obj) (hf : ∀ o, (f o).cls = o.cls ∧ (f o).dict = o.dict ∧ ∀ vs, o.data = .fields vs → ∃ ws, (f o).data = .fields ws) : Kp e c od (PySem.update a f) :=
 ⟨fun _ _ _ _ _ _ hd h => ⟨h.1, h.2, hd.update a f hf⟩⟩
theorem LK (g : Array Value → Array Value) (o : Obj) : (Obj.mapFields g o).cls = o.cls ∧ (Obj.mapFields g o).dict = o.dict ∧ ∀ vs, o.data = .fields vs → ∃ ws, (Obj.mapFields g o).data = .fields ws := by
 obtain ⟨c1, d1, dt, sl⟩ := o
 refine ⟨Obj.cls_mapFields _ _, ?_, fun vs h => ⟨_, Obj.data_mapFields h g⟩⟩
 cases dt <;> rfl
theorem Kp.alloc (o : Obj) : Kp e c od (PySem.alloc o) := ⟨fun _ _ _ _ _ _ hd h => ⟨h, hd.push o⟩⟩
theorem Kp.field (v : Value) (i : Nat) : Kp e c od (PySem.field v i) := ⟨fun _ Γ _ _ _ _ hd h => by
 rw [wp_field_iff] at h ⊢
 obtain ⟨a, o, vs, x, h1, h2, h3, h4, h5⟩ := h
 exact ⟨a, o, vs, x, h1, h2, h3, h4, h5, hd⟩⟩
theorem Kp.setField (v : Value) (i : Nat) (x : Value) : Kp e c od (PySem.setField v i x) := ⟨fun _ Γ _ _ _ _ hd h => by
 rw [wp_setField_iff] at h ⊢
 obtain ⟨a, o, vs, h1, h2, h3, h4, h5⟩ := h
 exact ⟨a, o, vs, h1, h2, h3, h4, h5, hd.update a _ (LK _)⟩⟩
local macro_rules | `(tactic| walk_at "kps") => `(tactic| repeat' with_reducible first | assumption | exact Kp.pure _ | exact Kp.unsupported _ | exact Kp.field _ _ | exact Kp.setField _ _ _ | exact Kp.load _ | exact Kp.stack | exact Kp.alloc _ | apply Kp.ite | apply Kp.bind | intro _ | split)
theorem Kp.newFields (ty : String) (vs : List Value) : Kp e c od (PySem.newFields ty vs) := by
 unfold PySem.newFields newObj newObjAsIs
 walk_at "kps"
theorem Kp.frameEnvs : Kp e c od PySem.frameEnvs := by
 unfold PySem.frameEnvs
 walk_at "kps"
theorem Kp.isImport (env : Env) (outer : List Env) : Kp e c od (behindIsImport env outer) := by
 unfold behindIsImport
 walk_at "kps"
theorem Kp.caller : Kp e c od underTheClaimsCaller := by
 unfold underTheClaimsCaller
 walk_at "kps"
theorem Kp.keptBack (env : Env) (i : Bool) (l : List Env) : Kp e c od (PySem.keptBack env i l) := by
 have := Kp.caller (e := e) (c := c) (od := od)
 cases l <;> unfold PySem.keptBack <;> walk_at "kps"
theorem Kp.ready : ∀ l : List Env, Kp e c od (readyFrames l)
 | [] => Kp.pure _
 | env :: outer => by
  have ih := Kp.ready outer
  have h1 := Kp.isImport (e := e) (c := c) (od := od) env outer
  have h2 := fun i => Kp.keptBack (e := e) (c := c) (od := od) env i outer
  unfold readyFrames
  walk_at "kps"
  all_goals first | exact h2 _ | exact Kp.update _ _ (fun o => ⟨rfl, rfl, fun vs h => ⟨vs, h⟩⟩) | skip
theorem Kp.frameObject (l : List Env) : Kp e c od (PySem.frameObject l) := by
 cases l with
 | nil => exact Kp.pure _
 | cons env outer =>
  have := Kp.ready (e := e) (c := c) (od := od) (env :: outer)
  unfold PySem.frameObject
  walk_at "kps"
theorem Kp.frameOf (env : Env) : Kp e c od (PySem.frameOf env) := by
 have h1 := Kp.frameEnvs (e := e) (c := c) (od := od)
 have h2 := Kp.frameObject (e := e) (c := c) (od := od)
 unfold PySem.frameOf
 walk_at "kps"
 all_goals first | exact h2 _ | skip
theorem Kp.place (f : Addr) (b : Bool) : Kp e c od (entryPlaceOf f b) := by
 unfold entryPlaceOf
 walk_at "kps"
theorem Kp.setFlight (v : Value) (fr : Option Addr) : Kp e c od (PySem.setFlight v fr) := by
 unfold PySem.setFlight
 walk_at "kps"
theorem Kp.noteFrame (v : Value) (env : Env) : Kp e c od (PySem.noteFrame v env) := by
 have h1 := Kp.frameOf (e := e) (c := c) (od := od) env
 have h2 := fun f b => Kp.place (e := e) (c := c) (od := od) f b
 unfold PySem.noteFrame EntryCells.newEntry
 walk_at "kps"
 all_goals first | exact h2 _ _ | exact Kp.newFields _ _ | skip
theorem Kp.leaving (env : Env) (v : Value) : Kp e c od (PySem.leaving env v) := by
 have h1 := Kp.noteFrame (e := e) (c := c) (od := od) v env
 have h2 := Kp.setFlight (e := e) (c := c) (od := od) v none
 unfold PySem.leaving
 walk_at "kps"
theorem Kp.any {t : Sem α} (k : Kp e c od t) {M : Model} {A : Around} {Q : α → Shared → Prop} {E : Value → Shared → Prop} {s : Shared} (hd : cz e c od s.heap) (h : wpAny M A t Q E s) : wpAny M A t (fun a s' => Q a s' ∧ cz e c od s'.heap) E s :=
 fun Γ p hΓ => k.out M Γ _ _ p s hd (h Γ p hΓ)
end
end L2
namespace Tx
open PySem PySem.Builtin PySem.StrLaws
end Tx
namespace Tx
end Tx
namespace L2
end L2
namespace L2
open PySem PySem.Spec PyProof.Rows
theorem bp.there {P : Program} {w : World} {H : Hp} {h : Heap} {a : Addr} {o : HO} (x : bp P w H h a o) : ∃ u, h.get? a = some u := by
 cases o with
 | lst xs => obtain ⟨_, _, _, _, e⟩ := x; exact ⟨_, e⟩
 | tup xs => obtain ⟨_, _, _, u, e, _⟩ := x; exact ⟨_, e⟩
 | dK kvs => obtain ⟨_, _, _, _, o, _, _, e, _⟩ := x; exact ⟨_, e⟩
 | dT kvs => obtain ⟨_, _, _, _, o, _, _, e, _⟩ := x; exact ⟨_, e⟩
 | set S n => obtain ⟨o, _, _, _, e, _⟩ := x; exact ⟨_, e⟩
 | ins C dx fs => obtain ⟨_, _, _, e, _⟩ := x; exact ⟨_, e⟩
 | own y => exact x
 | xd fs => obtain ⟨_, ⟨_, _, _, e, _⟩, _⟩ := x; exact ⟨_, e⟩
 | oS lo hi => obtain ⟨_, _, _, e⟩ := x; exact ⟨_, e⟩
 | c7 ob u => obtain ⟨e, _⟩ := x; exact ⟨_, e⟩
 | gO ps => exact ⟨_, (show h.get? a = some _ from x)⟩
 | met f y => exact ⟨_, (show h.get? a = some _ from x)⟩
 | ext φ => obtain ⟨_, e, _⟩ := x; exact e
def pb (B : Heap) (fs : List Addr) (h : Heap) (H' : Hp) (h' : Heap) : Prop :=
 ∀ b o, h'.get? b = some o → b ∉ fs → ((∃ u, h.get? b = some u) ∨ ∃ u, H' b = some u) → B.get? b = some o
theorem Bv {P : Program} {w : World} {fs : List Addr} {H H' : Hp} {h h1 h2 B : Heap} (u : Un fs [] H H' h h1) (ax : bz P w H' h1) (hf : ∀ b ∈ fs, H b = none ∧ ∃ o, h.get? b = some o ∧ ∀ vs, o.data ≠ .fields vs) (cov : pb B fs h H' h1)
  (st : B.StaysIn h2) (up : h1.UpToSlots h2) : Un fs [] H H' h h2 ∧ bz P w H' h2 := by
 have kB : ∀ b o, h1.get? b = some o → b ∉ fs → ((∃ u, h.get? b = some u) ∨ ∃ u, H' b = some u) → h2.get? b = some o := fun b o e hb z => st b o (cov b o e hb z)
 have fr : ∀ b ∈ fs, ∀ o, h.get? b = some o → ∃ sl, h2.get? b = some { o with slots := sl } := fun b hb o e => by
  obtain ⟨n, o', e', nf⟩ := hf b hb
  rw [e] at e'; cases e'
  obtain ⟨sl, e1⟩ := u.slot b o e n hb (by simp)
  obtain ⟨sl', e2⟩ := up b _ e1 nf
  exact ⟨sl', e2⟩
 refine ⟨⟨fun b o q n hb hx => kB b o (u.keep b o q n hb hx) hb (.inl ⟨o, q⟩), fun b o q n hb hx => fr b hb o q, u.free, fun b o q hx => ?_, u.dB, u.df, u.dw⟩, fun a v e => ?_⟩
 ·by_cases hb : b ∈ fs
  ·obtain ⟨sl, e⟩ := fr b hb o q
   exact ⟨_, e⟩
  ·obtain ⟨o', e1⟩ := u.there b o q hx
   exact ⟨o', kB b o' e1 hb (.inl ⟨o, q⟩)⟩
 ·have tr : ∀ b, (∃ u, H' b = some u) → b ∉ fs := fun b ⟨v', e'⟩ hb => by
   obtain ⟨n, o, ho, _⟩ := hf b hb
   have := u.free b o ho n (by simp)
   rw [e'] at this; cases this
  refine (ax a v e).eM (fun b x hb q => ?_) (fun _ q => q) fun _ _ q => q
  have hs : ∃ u, H' b = some u := by
   rcases hb with rfl | hb
   ·exact ⟨v, e⟩
   ·exact ⟨_, hb⟩
  exact kB b x q (tr b hs) (.inr hs)
structure jY (P : Program) (w : World) (outer : List Env) (H : Hp) (s : Shared) (ea C : Addr) (od : Option Addr) (H' : Hp) (s' : Shared) : Prop where
 os : s'.os = s.os
 bare : AllBare s'.gens
 un : Un (bG outer) [] H H' s.heap s'.heap
 ax : bz P w H' s'.heap
 free : H' ea = none
 new : s.heap.get? ea = none
 hd : cz ea (.ref C) od s'.heap
 yT : ∃ B a0, Heap.FlyingW B outer ea (.ref C) a0 s'.heap ∧ pb B (bG outer) s.heap H' s'.heap
def bJ (P : Program) (w : World) : cu := fun outer H s E e s' => ∃ ea C od H', e = .ref ea ∧ jY P w outer H s ea C od H' s' ∧ E (.ref C) od H'
section
variable {X : Cx} {pins : List (Addr × Obj)} {σ : St} {H H' : Hp} {s s' : Shared} {ea C : Addr} {od : Option Addr}
theorem Inv.Bj (I : Inv X pins σ H s) : ∀ b ∈ bG X.stack, H b = none ∧ ∃ o, s.heap.get? b = some o ∧ ∀ vs, o.data ≠ .fields vs := fun b hb => ⟨I.ph b hb, (I.stack.mem hb).2⟩
structure Own (X : Cx) : Prop where
 eh : X.stack = X.env :: X.outer
 frame : X.env.frame = some X.env.locals
 ex : X.ex = []
theorem Inv.Al {h1 B : Heap} {a0 : Value} (I : Inv X pins σ H s) (O : Own X) (os : s'.os = s.os) (bare : AllBare s'.gens) (un : Un (bG X.stack) [] H H' s.heap h1) (ax : bz X.prog X.w H' h1) (free : H' ea = none) (new : s.heap.get? ea = none)
  (cov : pb B (bG X.stack) s.heap H' h1) (fl : Heap.FlyingW B X.outer ea (.ref C) a0 s'.heap) (up : h1.UpToSlots s'.heap) (hd : cz ea (.ref C) od s'.heap) : jY X.prog X.w X.outer X.H₀ X.s₀ ea C od H' s' := by
 obtain ⟨u2, hok2⟩ := Bv un ax I.Bj cov fl.1 up
 have efs : bG X.stack = X.env.locals :: X.fs := by
  rw [O.eh]
  unfold bG
  rw [List.filterMap_cons, O.frame]
  rfl
 have neL : ∀ b o, X.s₀.heap.get? b = some o → b ≠ X.env.locals := fun b o e => Nat.ne_of_lt (Nat.lt_of_lt_of_le (Heap.lt_size e) I.ok.above)
 have nx : ∀ b : Addr, b ∉ X.ex := fun b => by rw [O.ex]; simp
 have nin : ∀ b o, X.s₀.heap.get? b = some o → b ∉ X.fs → b ∉ bG X.stack := fun b o e hb z => by
  rw [efs] at z
  rcases List.mem_cons.mp z with q | q
  ·exact neL b o e q
  ·exact hb q
 have Lfree : H' X.env.locals = none := by
  obtain ⟨m, ⟨o, _, _, ho, _⟩, _⟩ := I.loc
  exact un.free _ o ho I.free (by simp)
 refine ⟨os.trans I.os, bare, ⟨fun b o q n hb _ => ?_, fun b o q n hb _ => ?_, fun b o q n _ => ?_, fun b o q _ => ?_, fun b xs q => ?_, fun b o v q => ?_, fun b ps q => ?_⟩, hok2, free, ?_, hd, B, a0, fl, fun b o e hb z => ?_⟩
 ·exact u2.keep b o (I.base.keep b o q n hb (nx b)) (I.base.free b o q n (nx b)) (nin b o q hb) (by simp)
 ·obtain ⟨sl, e1⟩ := I.base.slot b o q n hb (nx b)
  obtain ⟨sl', e2⟩ := u2.slot b _ e1 (I.base.free b o q n (nx b)) (by rw [efs]; exact List.mem_cons_of_mem _ hb) (by simp)
  exact ⟨sl', e2⟩
 ·obtain ⟨o', e1⟩ := I.base.there b o q (nx b)
  exact u2.free b o' e1 (I.base.free b o q n (nx b)) (by simp)
 ·obtain ⟨o', e1⟩ := I.base.there b o q (nx b)
  exact u2.there b o' e1 (by simp)
 ·exact u2.dB b xs (I.base.dB b xs q)
 ·exact u2.df b o v (I.base.df b o v q)
 ·obtain ⟨m1, e1⟩ := I.base.dw b ps q
  obtain ⟨m2, e2⟩ := u2.dw b _ e1
  exact ⟨m1 ++ m2, by rw [e2, Array.append_assoc]⟩
 ·cases q : X.s₀.heap.get? ea with
  | none => rfl
  | some u =>
   obtain ⟨u', e'⟩ := I.base.there ea u q (nx ea)
   rw [new] at e'; cases e'
 ·have hn : b ∉ bG X.stack := fun z' => by
   rw [efs] at z'
   rcases List.mem_cons.mp z' with q | q
   ·rcases z with ⟨o', e'⟩ | ⟨v, e'⟩
    ·exact neL b o' e' q
    ·rw [q, Lfree] at e'; cases e'
   ·exact hb q
  have hs : ∃ o', h1.get? b = some o' ∧ ((∃ u, s.heap.get? b = some u) ∨ ∃ u, H' b = some u) := by
   rcases z with ⟨o', e'⟩ | ⟨v, e'⟩
   ·obtain ⟨o2, e2⟩ := I.base.there b o' e' (nx b)
    obtain ⟨o3, e3⟩ := un.there b o2 e2 (by simp)
    exact ⟨o3, e3, .inl ⟨o2, e2⟩⟩
   ·obtain ⟨o3, e3⟩ := (ax b v e').there
    exact ⟨o3, e3, .inr ⟨v, e'⟩⟩
  obtain ⟨o3, e3, z3⟩ := hs
  have e4 := cov b o3 e3 hn z3
  have e5 := fl.1 b o3 e4
  rw [e] at e5; cases e5
  exact e4
theorem Inv.AB {M : Model} {A : Around} {E : Value → Shared → Prop} (I : Inv X pins σ H s) (O : Own X) (hA : A.frames = some X.stack) (F : jY X.prog X.w X.stack H s ea C od H' s') :
  wpAny M A (leaving X.env (.ref ea)) (fun _ s'' => jY X.prog X.w X.outer X.H₀ X.s₀ ea C od H' s'') E s' := by
 obtain ⟨B, a0, fl, cov⟩ := F.yT
 have fl' := fl
 rw [O.eh] at fl' hA
 refine aA ((Kp.leaving X.env (.ref ea)).any F.hd (wpAny_leaves_onW (Q := fun _ s'' => ∃ h', s'' = { s' with heap := h' } ∧ Heap.FlyingW B X.outer ea (.ref C) a0 h' ∧ s'.heap.UpToSlots h') hA O.frame fl' fun h' x1 x2 => ⟨h', rfl, x1, x2⟩)) fun _ s'' ⟨⟨h', e, x1, x2⟩, hd⟩ => ?_
 subst e
 exact I.Al (s' := { s' with heap := h' }) O F.os F.bare F.un F.ax F.free F.new cov x1 x2 hd
theorem DC {h h' : Heap} {e : Addr} {cls : Value} {args : List Value} (hx : Heap.MadeExcOf h h' e cls args) : cz e cls none h' := by
 obtain ⟨t, he, _⟩ := hx.there
 exact ⟨_, he, rfl, rfl, _, rfl⟩
theorem Inv.IC {M : Model} {A : Around} {E : Value → Shared → Prop} {h' : Heap} {vs : List Value} (I : Inv X pins σ H s) (O : Own X) (hA : A.frames = some X.stack) (hx : Heap.MadeExcOf s.heap h' ea (.ref C) vs) :
  wpAny M A (leaving X.env (.ref ea)) (fun _ s'' => jY X.prog X.w X.outer X.H₀ X.s₀ ea C none H s'') E { s with heap := h' } := by
 have hst : (PySem.W.hideAll s.heap (bG X.stack)).StaysIn s.heap := fun b o q => PySem.W.of_hideAll _ q
 have hfr : s.heap.FunFrames (PySem.W.hideAll s.heap (bG X.stack)) X.stack := PySem.W.funFrames_hide I.stack fun env he a ha => List.mem_filterMap.mpr ⟨env, he, ha⟩
 have pS : H ea = none := by
  cases q : H ea with
  | none => rfl
  | some u =>
   obtain ⟨o, e⟩ := (I.ax ea u q).there
   have := hx.new
   rw [e] at this; cases this
 have cov : pb (PySem.W.hideAll s.heap (bG X.stack)) (bG X.stack) s.heap H h' := fun b o e hb z => by
  have hs : ∃ u, s.heap.get? b = some u := by
   rcases z with z | ⟨v, z⟩
   ·exact z
   ·exact (I.ax b v z).there
  obtain ⟨u, eu⟩ := hs
  have := hx.keeps b u eu
  rw [e] at this; cases this
  exact PySem.W.hideAll_get _ eu hb
 generalize PySem.W.hideAll s.heap (bG X.stack) = B at hst hfr cov
 have hfr' := hfr
 rw [O.eh] at hfr' hA
 refine aA ((Kp.leaving X.env (.ref ea)).any (s := { s with heap := h' }) (DC hx) (wpAny_leaves_madeW (s := { s with heap := h' }) (Q := fun _ s'' => ∃ h2 t, s'' = { s with heap := h2 } ∧ Heap.FlyingW B X.outer ea (.ref C) (.ref t) h2 ∧ h'.UpToSlots h2) hA O.frame hst hfr' hx
  fun h2 t x1 _ _ x4 => ⟨h2, t, rfl, x1, x4⟩)) fun _ s'' ⟨⟨h2, t, e, x1, x4⟩, hd⟩ => ?_
 subst e
 exact I.Al (s' := { s with heap := h2 }) O rfl I.bare (Un.kept hx.keeps) (I.ax.kept hx.keeps) pS hx.new cov x1 x4 hd
structure ed (X : Cx) (R : St → XK) : Prop where
 pass : ∀ (pins : List (Addr × Obj)) (σ : St) (H : Hp) (s : Shared) (e : Value) (s' : Shared), Inv X pins σ H s → bJ X.prog X.w X.stack H s (R σ) e s' → X.xe e s'
structure Raises (X : Cx) (R : St → XK) : Prop where
 made : ∀ (pins : List (Addr × Obj)) (σ : St) (H : Hp) (s : Shared) (h' : Heap) (ea C : Addr) (vs : List Value), Inv X pins σ H s → Heap.MadeExcOf s.heap h' ea (.ref C) vs → R σ (.ref C) none H → X.xe (.ref ea) { s with heap := h' }
theorem oE {P : Program} {w : World} {K : PySem.W.Frag} {mg : Str → Option Value} {base : Heap} {N : List Str} {qual : Str} {scope : Scope} {f : Addr} {cd : Value} {A : Around} {outer : List Env} {s₀ : Shared} {H₀ : Hp} {E : XK} :
  ed (bM (bJ P w) P w K mg base N qual scope f cd A outer s₀ H₀ E) (fun _ => E) where
 pass := fun pins σ H s e s' I hc => by
  obtain ⟨ea, C, od, H', rfl, F, hE⟩ := hc
  exact aA (I.AB ⟨rfl, rfl, rfl⟩ I.ok.frames F) fun _ s'' z => ⟨ea, C, od, H', rfl, z, hE⟩
theorem vT {P : Program} {w : World} {K : PySem.W.Frag} {mg : Str → Option Value} {base : Heap} {N : List Str} {qual : Str} {scope : Scope} {f : Addr} {cd : Value} {A : Around} {outer : List Env} {s₀ : Shared} {H₀ : Hp} {E : XK} :
  Raises (bM (bJ P w) P w K mg base N qual scope f cd A outer s₀ H₀ E) (fun _ => E) where
 made := fun pins σ H s h' ea C vs I hx hE => aA (I.IC ⟨rfl, rfl, rfl⟩ I.ok.frames hx) fun _ s'' z => ⟨ea, C, none, H, rfl, z, hE⟩
def vU (sp : Sp) (dvs : List V) (R : St → XK) (t : TA) : TE := fun σ H Q => t σ H fun vs H1 => sp (vs ++ dvs) H1 Q (R σ)
section
variable {k : Nat} {f : Addr} {fd : FuncData} {ps : List Str} {sp : Sp} {dvs : List V} {ds : List Value} {R : St → XK} {x : Str} {p pos : Pos} {e : Expr} {es : List Expr} {t : TA}
theorem AX {Q : VK} {us : List Value} {vs : List V} (F : aD X.prog X.w X.K X.mg X.base (bJ X.prog X.w) k f fd ps sp) (hr : aN k X.A) (hb : Binds X.K fd ps ds) (hd : Vals dvs ds) (hx : ed X R)
  (I : Inv X pins σ H s) (r : Vals vs us) (h : sp (vs ++ dvs) H Q (R σ)) : wpAny (model X.prog X.w) X.A (call (.ref f) us) (EP X pins σ Q) X.xe s := by
 have r2 : Vals (vs ++ dvs) (us ++ ds) := r.append hd
 have hl : (us ++ ds).length = ps.length := by rw [← r2.length]; exact F.len _ _ _ _ h
 refine wpAny_call (codeAny_mono (F.run X.A X.stack s H ⟨us, []⟩ (us ++ ds) (vs ++ dvs) Q (R σ) hr I.md (hb s us I.bx hl) r2 h) fun r s' hq => ?_)
 cases r with
 | error e => exact hx.pass pins σ H s e s' I hq
 | ok fl =>
  cases fl with
  | ret u => exact I.after hq
  | next => exact False.elim hq
  | brk => exact False.elim hq
  | cont => exact False.elim hq
theorem NY (F : aD X.prog X.w X.K X.mg X.base (bJ X.prog X.w) k f fd ps sp) (hr : aN k X.A) (hg : Gl X x) (hm : X.mg x = some (.ref f)) (hk : PySem.W.keepIn X.K (.ref f) = true) (hb : Binds X.K fd ps ds) (hd : Vals dvs ds) (hx : ed X R)
  (ha : PA X (e :: es) t) (hs : (e :: es).all noStar = true := by rfl) (hdb : (x == ("__debug__" : Str)) = false := by decide) : PE X (.Call (.Name x p) (e :: es) [] pos) (vU sp dvs R t) := by
 have hs' := hs
 rw [List.all_cons, Bool.and_eq_true] at hs'
 intro pins s σ H Q I h
 refine wpAny_Call_Name_kw (gW I hg hm ?_ hdb)
 refine PySem.W.callWith_K (h₀ := X.base) I.ok.mod.fC hk (aA (ha pos pins s σ H _ I h) fun us s1 ⟨vs, H1, I1, r, q⟩ => ⟨I1.bx, ?_⟩) (dG hs'.1) (fo hs'.2)
 exact AX F hr hb hd hx I1 r q
end
end
abbrev pz : List Value := [.type "ValueError", .type "Exception", .type "BaseException", .type "object"]
theorem LV {K : PySem.W.Frag} {h : Heap} {C : Addr} {bmB : List Value} {newId : String} (X : K.In h) (q : PySem.W.excIn K C bmB newId = true) :
  ∃ bm N nm q bs hdct sn sub ab col dd k0 k1 k2 k3 k5 mN, h.get? C = some (excClassObj nm q C N bs bm hdct sn sub ab col dd k0 k1 k2 k3 k5 newId) ∧ h.Ns N mN ∧ mN "__init__" = none ∧ OwnTail h bmB bm := by
 unfold PySem.W.excIn at q
 split at q
 ·rename_i dd cd sl ho
  split at q
  ·rename_i C' bm k0 k1 k2 k3 n k5 hm hs
   simp only [Bool.and_eq_true, beq_iff_eq, Bool.not_eq_true'] at q
   obtain ⟨⟨⟨⟨⟨q1, q2⟩, q3⟩, q4⟩, q5⟩, q6⟩ := q
   subst q1 q2
   obtain ⟨nm, bs, mro, ns, qn, hd, sn, sub, ab, col, del⟩ := cd
   dsimp only at hm q3 q5 q6
   subst hm q3
   have e1 : sl = #[k0, k1, k2, k3, some (.builtin n), k5] := by
    obtain ⟨l⟩ := sl
    simp only at hs
    rw [hs]
   subst e1
   exact ⟨bm, ns, nm, qn, bs, hd, sn, sub, ab, col, dd, k0, k1, k2, k3, k5, _, X _ _ ho, .of_isNs (PySem.W.isNs_of_in X q5), PySem.W.nsMap_none_of_in X q5 q6, PySem.W.tail_of_in X q4⟩
  ·cases q
 ·cases q
def vS (C : Addr) (R : St → XK) (t : TA) : TS := fun _ σ H => t σ H fun vs H1 => vs.length ≤ sizeLine ∧ R σ (.ref C) none H1
theorem OJ {X : Cx} {R : St → XK} {x : Str} {C : Addr} {e : Expr} {es : List Expr} {t : TA} {np aY pos : Pos} (hx : Raises X R) (hc : X.calm = true) (hm : X.mg x = some (.ref C)) (q : PySem.W.excIn X.K C pz "ValueError.__new__" = true) (ha : PA X (e :: es) t)
  (hg : Gl X x := by rfl) (hs : (e :: es).all noStar = true := by rfl) (hdb : (x == ("__debug__" : Str)) = false := by decide) : PS X (.Raise (some (.Call (.Name x np) (e :: es) [] aY)) none pos) (vS C R t) := by
 have hs' := hs
 rw [List.all_cons, Bool.and_eq_true] at hs'
 intro pins s σ H D I h
 obtain ⟨bm, N, nm, qn, bs, hdct, sn, sub, ab, col, dd, k0, k1, k2, k3, k5, mN, hC, hN, hni, T⟩ := LV I.ok.mod.fC q
 refine wpAny_Raise_call_subT (C := C) (nm := nm) (q := qn) (N := N) (bs := bs) (bm := bm) (hdct := hdct) (sn := sn) (sub := sub) (ab := ab) (col := col) (dd := dd) (k0 := k0) (k1 := k1) (k2 := k2) (k3 := k3) (k5 := k5)
  PySem.F.excBase_ValueError (mN := mN) (T.hasType PySem.F.excBase_ValueError.hasBase) (I.ok.hd hc) (by rw [dG hs'.1]; exact fo hs'.2) hni (gW I hg hm ⟨rfl, ?_⟩ hdb)
 have ha' := ha aY pins s σ H _ I h
 rw [dG hs'.1] at ha' ⊢
 refine Calls.evalArgs_plain (aA ha' fun us s2 ⟨vs, H2, I2, r, z, hR⟩ => ?_)
 exact ⟨rfl, by rw [← r.length]; exact z, I2.bk _ _ hC, hN.keeps I2.bk, T.keeps I2.bk, fun h' ea hm' => hx.made pins σ H2 s2 h' ea C us I2 hm' hR⟩
end L2
namespace L2
open PySem PySem.Spec PyProof.Rows
def gZ (ea C : Addr) (od : Option Addr) : HO := .ext (cz ea (.ref C) od)
theorem Jz {P : Program} {w : World} {H : Hp} {h : Heap} {ea C : Addr} {od : Option Addr} (x : cz ea (.ref C) od h) : bp P w H h ea (gZ ea C od) :=
 ⟨x, let ⟨o, e, _⟩ := x; ⟨o, e⟩, fun _ _ ⟨o, e, r⟩ k => ⟨o, k o e, r⟩⟩
abbrev Cx.gg (X : Cx) (v : Value) : Cx := { X with A := X.A.mark (some v), calm := false, xe := fun _ _ => False }
abbrev Cx.iD (X : Cx) (pins : List (Addr × Obj)) (R : St → XK) : Cx := { X with pn := X.pn ++ pins, xe := fun e s' => ∃ (σ' : St) (H H' : Hp) (s : Shared) (ea C : Addr) (od : Option Addr), Inv X pins σ' H s ∧ e = .ref ea ∧ jY X.prog X.w X.stack H s ea C od H' s' ∧ R σ' (.ref C) od H' }
section
variable {X : Cx} {pins pins' : List (Addr × Obj)} {σ : St} {H H' : Hp} {s s' : Shared} {R : St → XK} {v : Value}
theorem Inv.gg (I : Inv X pins σ H s) (v : Value) : Inv (X.gg v) pins σ H s :=
 ⟨⟨I.ok.mod, I.ok.kind, I.ok.glob, I.ok.blt, I.ok.above, I.ok.inj, I.ok.has, I.ok.gk, (fun z => Bool.noConfusion z), I.ok.frames, I.ok.eh, I.ok.lG, I.ok.bs, I.ok.dD, I.ok.gq, I.ok.f6, I.ok.cU, I.ok.e7⟩,
  I.os, I.bare, I.base, I.loc, I.cell, I.free, I.cY, I.pin, I.ax, I.len⟩
theorem Inv.Ez (I : Inv (X.gg v) pins σ H s) (ok : X.Ok) : Inv X pins σ H s := ⟨ok, I.os, I.bare, I.base, I.loc, I.cell, I.free, I.cY, I.pin, I.ax, I.len⟩
theorem Inv.iD (I : Inv X pins σ H s) (R : St → XK) : Inv (X.iD pins R) [] σ H s :=
 ⟨⟨I.ok.mod, I.ok.kind, I.ok.glob, I.ok.blt, I.ok.above, I.ok.inj, I.ok.has, I.ok.gk, I.ok.hd, I.ok.frames, I.ok.eh, I.ok.lG, I.ok.bs, I.ok.dD, I.ok.gq, I.ok.f6, I.ok.cU, I.ok.e7⟩,
  I.os, I.bare, I.base, I.loc, I.cell, I.free, I.cY, fun p hp => I.pin p (by simpa using hp), I.ax, I.len⟩
theorem Inv.lT (I : Inv (X.iD pins R) pins' σ H s) : Inv X pins σ H s :=
 ⟨⟨I.ok.mod, I.ok.kind, I.ok.glob, I.ok.blt, I.ok.above, I.ok.inj, I.ok.has, I.ok.gk, I.ok.hd, I.ok.frames, I.ok.eh, I.ok.lG, I.ok.bs, I.ok.dD, I.ok.gq, I.ok.f6, I.ok.cU, I.ok.e7⟩,
  I.os, I.bare, I.base, I.loc, I.cell, I.free, I.cY, fun p hp => I.pin p (List.mem_append_left _ hp), I.ax, I.len⟩
theorem KU : ed (X.iD pins R) R := ⟨fun pins' σ H s e s' I hc => by
 obtain ⟨ea, C, od, H', rfl, F, hE⟩ := hc
 exact ⟨σ, H, H', s, ea, C, od, I.lT, rfl, F, hE⟩⟩
theorem Inv.Bf {a : Addr} {o : HO} (I : Inv X pins σ H s) (hn : H a = none) (n0 : X.s₀.heap.get? a = none) (nL : a ≠ X.env.locals) (nC : ∀ x c, X.env.cells.lookup x = some c → c ≠ a) (nP : ∀ p ∈ X.pn ++ pins, p.1 ≠ a)
  (new : bp X.prog X.w (upd H a o) s.heap a o) : Inv X pins σ (upd H a o) s := by
 have ne : ∀ b u, H b = some u → b ≠ a := fun b u e => cj e hn
 have n0' : ∀ b u, X.s₀.heap.get? b = some u → b ≠ a := fun b u e z => by rw [z, n0] at e; cases e
 refine ⟨I.ok, I.os, I.bare, ⟨I.base.keep, I.base.slot, fun b u e n hx => by rw [ah (n0' b u e)]; exact I.base.free b u e n hx, I.base.there, fun b xs e => by have := I.base.dB b xs e; rw [ah (ne b _ this)]; exact this,
  fun b u v e => by have := I.base.df b u v e; rw [ah (ne b _ this)]; exact this, fun b ps e => ?_⟩, I.loc, I.cell, by rw [ah (Ne.symm nL)]; exact I.free, fun x c e => by rw [ah (nC x c e)]; exact I.cY x c e, fun p hp => ?_, fun b u e => ?_, I.len⟩
 ·obtain ⟨m, e1⟩ := I.base.dw b ps e
  exact ⟨m, by rw [ah (ne b _ e1)]; exact e1⟩
 ·obtain ⟨e1, e2, r⟩ := I.pin p hp
  exact ⟨e1, by rw [ah (nP p hp)]; exact e2, r⟩
 ·by_cases hb : b = a
  ·subst hb
   rw [aw] at e; cases e
   exact new
  ·rw [ah hb] at e
   exact (I.ax b u e).eM (fun _ _ _ q => q) (fun c q => by rw [ah (ne c _ q)]; exact q) fun c xs q => by rw [ah (ne c _ q)]; exact q
theorem Inv.D7 {i : Nat} {n : Str} {m : Str → Option Value} {h8 : Heap} {v : Option Value} {t8 : Nat} (I : Inv X pins σ H s) (hN : X.N.Nodup) (hi : X.N[i]? = some n)
  (hl : ∀ (i : Nat) (x : Str) (v : V), X.N[i]? = some x → σ[i]? = some (some v) → hX X.env.scope x → ∃ u, RelV v u ∧ Look X.env s.heap m x u)
  (ns8 : h8.Ns X.env.locals (fun x => if x = n then v else m x)) (sb : Heap.SameBut X.env.locals s.heap h8) : Inv X pins (σ.set i none) H { s with heap := h8, toks := t8 } := by
 have old : ∀ b o, X.s₀.heap.get? b = some o → h8.get? b = s.heap.get? b := fun b o e => sb.2 b (Nat.ne_of_lt (Nat.lt_of_lt_of_le (Heap.lt_size e) I.ok.above))
 refine ⟨I.ok, I.os, I.bare, ⟨fun b o e n' hb hx => (old b o e).trans (I.base.keep b o e n' hb hx), fun b o e n' hb hx => ?_, I.base.free, fun b o e hx => ?_, I.base.dB, I.base.df, I.base.dw⟩, ⟨_, ns8, fun j y v' e1 e2 e3 => ?_⟩, fun y c e => ?_, I.free, I.cY, fun p hp => ?_, fun b u e => ?_, by simpa using I.len⟩
 ·obtain ⟨sl, e1⟩ := I.base.slot b o e n' hb hx
  exact ⟨sl, (old b o e).trans e1⟩
 ·obtain ⟨o', e1⟩ := I.base.there b o e hx
  exact ⟨o', (old b o e).trans e1⟩
 ·by_cases hj : j = i
  ·subst hj
   have hlt : j < σ.length := by rw [I.len]; exact (List.getElem?_eq_some_iff.mp hi).1
   rw [List.getElem?_set_self hlt] at e2
   cases e2
  ·rw [List.getElem?_set_ne (Ne.symm hj)] at e2
   obtain ⟨u', r', q⟩ := hl j y v' e1 e2 e3
   refine ⟨u', r', ?_⟩
   rcases q with ⟨k, e⟩ | ⟨k, c, e, z⟩
   ·refine .inl ⟨k, ?_⟩
    have : y ≠ n := fun e => hj (sM hN e1 (e ▸ hi))
    simp [this, e]
   ·exact .inr ⟨k, c, e, z.sameBut sb (I.fL y c e)⟩
 ·obtain ⟨w', z⟩ := I.cell y c e
  exact ⟨w', z.sameBut sb (I.fL y c e)⟩
 ·obtain ⟨e, n', ne, nf, d⟩ := I.pin p hp
  exact ⟨(sb.2 p.1 ne).trans e, n', ne, nf, d⟩
 ·refine (I.ax b u e).eM (fun c w' hc q => (sb.2 c ?_).trans q) (fun _ q => q) fun _ _ q => q
  rintro rfl
  have hf := I.free
  rcases hc with z | z
  ·rw [z] at hf; rw [hf] at e; cases e
  ·rw [hf] at z; cases z
end
theorem JT {K : PySem.W.Frag} {M : Model} {A : Around} {E : Value → Shared → Prop} {s : Shared} {e C Cc : Addr} {od : Option Addr} {Q : Bool → Shared → Prop} (X : K.In s.heap) (hd : cz e (.ref C) od s.heap) (h1 : PySem.W.instIn K (.ref Cc) (.type "tuple") = some false)
  (h2 : PySem.W.mroIn K Cc (.type "BaseException") = some true) (h3 : PySem.W.subIn K (.ref C) (.ref Cc) = some true) (hq : Q true s) : wpAny M A (excMatches (.ref e) (.ref Cc)) Q E s := by
 obtain ⟨o, he, hc, _⟩ := hd
 have L1 := PySem.W.looks_instIn (M := M) X h1
 have L2 := PySem.W.looks_mroIn (M := M) X h2
 have L3 := PySem.W.looks_subIn (M := M) X h3
 have L4 : PySem.W.Looks M s.heap (isType (.ref Cc)) true := by
  obtain ⟨cd, hcd, _⟩ := Option.bind_eq_some_iff.mp h2
  unfold PySem.W.clsIn at hcd
  split at hcd
  ·rename_i c' d' cd' sl' ho
   intro A' Q' E' s' k q
   unfold isType loadHead
   exact wpAny_bind (wpAny_loadPart (k _ _ (X _ _ ho)) (wpAny_pure q))
  ·cases hcd
 have L5 : PySem.W.Looks M s.heap (typeOf (.ref e)) (.ref C) := hc ▸ (PySem.W.Looks.ld he).andThen .now
 have L6 : PySem.W.Looks M s.heap (isExcClass (.ref Cc)) true := L4.andThen L2
 obtain ⟨hh, g, d, t, os⟩ := s
 unfold excMatches
 refine wpAny_bind (L1.at ?_)
 simp only [Bool.false_eq_true, if_false, pure_bind]
 simp only [List.forIn_cons, List.forIn_nil, bind_assoc, pure_bind]
 refine wpAny_bind (L6.at ?_)
 simp only [Bool.not_true, Bool.false_eq_true, if_false, bind_assoc, pure_bind]
 refine wpAny_bind (L5.at (wpAny_bind (L3.at ?_)))
 simp only [if_true, pure_bind]
 exact wpAny_pure hq
def Ends.uL (D : Ends) (i : Nat) : Ends := ⟨fun σ H => D.nx (σ.set i none) H, D.rt, fun σ H => D.bk (σ.set i none) H, fun σ H => D.ct (σ.set i none) H⟩
def rR (K : PySem.W.Frag) (Cc : Addr) (i : Nat) (tb : (St → XK) → TS) (th : TS) : TS := fun D σ H => ∃ R : St → XK, tb R D σ H ∧ ∀ σ' C od H', R σ' (.ref C) od H' → PySem.W.subIn K (.ref C) (.ref Cc) = some true ∧
 ∀ ea, H' ea = none → th (D.uL i) (σ'.set i (some (.ref ea))) (upd H' ea (gZ ea C od))
theorem Ek {X : Cx} {K : PySem.W.Frag} {Cc : Addr} (i : Nat) {n x : Str} {body iW : List Stmt} {b₀ : Stmt} {np hpos pos : Pos} {tb : (St → XK) → TS} {th : TS} (hK : X.K = K) (O : Own X) (hN : X.N.Nodup) (hm : X.mg x = some (.ref Cc))
  (c1 : PySem.W.instIn X.K (.ref Cc) (.type "tuple") = some false) (c2 : PySem.W.mroIn X.K Cc (.type "BaseException") = some true)
  (hb : ∀ pins R, bT (X.iD pins R) body (tb R)) (hs : ∀ v, bT (X.gg v) (b₀ :: iW) th) (hg : Gl X x := by rfl) (hi : X.N[i]? = some n := by rfl) (hn : X.env.scope.names.lookup n = some .local := by rfl) (hdb : (x == ("__debug__" : Str)) = false := by decide) :
  PS X (.Try body [.ExceptHandler (some (.Name x np)) (some n) (b₀ :: iW) hpos] [] [] pos) (rR K Cc i tb th) := by
 subst hK
 intro pins s σ H D I h
 obtain ⟨R, hb', hh⟩ := h
 refine wpAny_Try_except (wpAny_mono (hb pins R [] s σ H D (I.iD R) hb') (fun f s1 z => ?_) fun e s1 z => ?_)
 ·cases f with
  | next => obtain ⟨σ', H', I', q⟩ := z; exact wpAny_execs_nil ⟨σ', H', I'.lT, q⟩
  | ret u => obtain ⟨v, σ', H', I', r, q⟩ := z; exact ⟨v, σ', H', I'.lT, r, q⟩
  | brk => obtain ⟨σ', H', I', q⟩ := z; exact ⟨σ', H', I'.lT, q⟩
  | cont => obtain ⟨σ', H', I', q⟩ := z; exact ⟨σ', H', I'.lT, q⟩
 ·obtain ⟨σ', H0, H', s0, ea, C, od, I0, rfl, F, hR⟩ := z
  obtain ⟨hsub, hth⟩ := hh σ' C od H' hR
  obtain ⟨B, a0, fl, cov⟩ := F.yT
  have hA : X.A.frames = some (X.env :: X.outer) := by rw [← O.eh]; exact I.ok.frames
  rw [O.eh] at fl
  refine aA ((Kp.noteFrame (.ref ea) X.env).any F.hd (wpAny_looks_onW (Q := fun _ s2 => ∃ h2, s2 = { s1 with heap := h2 } ∧ Heap.HeldW B (X.env :: X.outer) ea (.ref C) a0 X.env.locals h2 ∧ s1.heap.UpToSlots h2) hA O.frame fl fun h2 x1 x2 => ⟨h2, rfl, x1, x2⟩))
   fun _ s2 ⟨⟨h2, e2, held, up2⟩, hd2⟩ => ?_
  subst e2
  refine aA ((Kp.setFlight (.ref ea) none).any (s := { s1 with heap := h2 }) hd2 (wpAny_landsW (s := { s1 with heap := h2 }) (Q := fun _ s3 => ∃ h3, s3 = { s1 with heap := h3 } ∧ Heap.FlyingW B (X.env :: X.outer) ea (.ref C) a0 h3 ∧ h2.UpToSlots h3) held fun h3 x1 x2 => ⟨h3, rfl, x1, x2⟩))
   fun _ s3 ⟨⟨h3, e3, fl3, up3⟩, hd3⟩ => ?_
  subst e3
  have step : ∀ h4 : Heap, B.StaysIn h4 → s1.heap.UpToSlots h4 → Inv X pins σ' H' { s1 with heap := h4 } := fun h4 st up => by
   obtain ⟨u, ax⟩ := Bv F.un F.ax I0.Bj cov st up
   exact I0.kM (s' := { s1 with heap := h4 }) (ch := []) F.os u ax F.bare (fun b z => absurd z (by simp))
  have I3 := step h3 fl3.1 (up2.trans up3)
  refine wpAny_handleBy_cons (codeAny_handlers_test (gW (I3.gg (.ref ea)) hg hm ?_ hdb)) (by intro q; cases q)
  refine JT I3.bx hd3 c1 c2 hsub ?_
  refine codeAny_handlers_suite_as ?_
  refine aA ((Kp.setFlight (.ref ea) none).any (s := { s1 with heap := h3 }) hd3 (lands_againW (s := { s1 with heap := h3 }) (Q := fun _ s4 => ∃ h4, s4 = { s1 with heap := h4 } ∧ Heap.FlyingW B (X.env :: X.outer) ea (.ref C) a0 h4 ∧ h3.UpToSlots h4) fl3 fun h4 x1 x2 => ⟨h4, rfl, x1, x2⟩))
   fun _ s4 ⟨⟨h4, e4, fl4, up4⟩, hd4⟩ => ?_
  subst e4
  have I4 := step h4 fl4.1 ((up2.trans up3).trans up4)
  have nin : ∀ b, (∃ o, s0.heap.get? b = some o) → b ≠ ea := fun b ⟨o, e⟩ z => by rw [z, F.new] at e; cases e
  have I5 : Inv X pins σ' (upd H' ea (gZ ea C od)) { s1 with heap := h4 } := by
   refine I4.Bf F.free ?_ ?_ ?_ ?_ (Jz hd4)
   ·cases q : X.s₀.heap.get? ea with
    | none => rfl
    | some u => exact absurd rfl (nin ea (I0.base.there ea u q (by rw [O.ex]; simp)))
   ·obtain ⟨m, ⟨o, _, _, ho, _⟩, _⟩ := I0.loc
    exact Ne.symm (nin _ ⟨o, ho⟩)
   ·intro y c e
    obtain ⟨w', o, ho, _⟩ := I0.cell y c e
    exact nin _ ⟨o, ho⟩
   ·intro p hp
    exact nin _ ⟨_, (I0.pin p hp).1⟩
  refine si (X := X.gg (.ref ea)) (v := .ref ea) (I5.gg (.ref ea)) hN hi (Or.inl hn) rfl (fun s6 I6 => ?_) (Or.inr hn)
  refine wpAny_mono (hs (.ref ea) pins s6 _ _ (D.uL i) I6 (hth ea F.free)) (fun f s7 z => ?_) fun _ _ z => False.elim z
  have xm : (X.env.scope.kind == .class || (X.env.scope.kind == .module && X.env.locals != X.env.globals)) = false := by rw [I.ok.kind]; rfl
  have fin : ∀ {σ7 : St} {H7 : Hp} (I7 : Inv (X.gg (.ref ea)) pins σ7 H7 s7) (Q : Unit → Shared → Prop), (∀ s8, Inv X pins (σ7.set i none) H7 s8 → Q () s8) → ∀ E : Value → Shared → Prop, wpAny (model X.prog X.w) X.A (do bindName X.env n .none; unbindBehindTheSuite X.env n hpos) Q E s7 := fun {σ7 H7} I7 Q k E => by
   have J := I7.Ez I.ok
   obtain ⟨m, hn7, hl7⟩ := id J.loc
   exact wpAny_nameGoes_keeps hn hn7 xm fun h8 v ns8 sb8 => k _ (J.D7 hN hi hl7 ns8 sb8)
  cases f with
  | next => obtain ⟨σ7, H7, I7, q⟩ := z; exact fin I7 _ (fun s8 I8 => ⟨_, H7, I8, q⟩) _
  | ret u => obtain ⟨v, σ7, H7, I7, r, q⟩ := z; exact fin I7 _ (fun s8 I8 => ⟨v, _, H7, I8, r, q⟩) _
  | brk => obtain ⟨σ7, H7, I7, q⟩ := z; exact fin I7 _ (fun s8 I8 => ⟨_, H7, I8, q⟩) _
  | cont => obtain ⟨σ7, H7, I7, q⟩ := z; exact fin I7 _ (fun s8 I8 => ⟨_, H7, I8, q⟩) _
end L2
namespace L2
open PySem PySem.Spec PyProof.Rows
structure jC (K : PySem.W.Frag) (C : Addr) : Prop where
 ha : PySem.W.findIn K (.ref C) "__class__" = some (some (.builtin "object.__class__"))
 hn : PySem.W.specialIn K (.builtin "object.__class__") "__get__" = some (some (.builtin "getset_descriptor.__get__"))
 dv : PySem.W.takesIn K (.builtin "object.__class__") = some true
 hm : PySem.W.mroIn K C (.type "object") = some true
 F2 : PySem.W.findIn K (.ref C) "__getattribute__" = some (some (.builtin "BaseException.__getattribute__"))
 KD : PySem.W.findIn K (.ref C) "__getattr__" = some none
 hb : PySem.W.mroIn K C (.type "BaseException") = some true
theorem oq {M : Model} {h : Heap} {x C : Addr} {od : Option Addr} (I : cz x (.ref C) od h) : PySem.W.Looks M h (typeOf (.ref x)) (.ref C) := by
 obtain ⟨o, e, c, _⟩ := I
 exact c ▸ (PySem.W.Looks.ld e).andThen .now
theorem A6 {K : PySem.W.Frag} {C : Addr} {b : Value} {r : Bool} (h : PySem.W.mroIn K C b = some r) : ∃ c d cd sl, K.lookup C = some ⟨c, d, .cls cd, sl⟩ := by
 obtain ⟨cd, hcd, _⟩ := Option.bind_eq_some_iff.mp h
 unfold PySem.W.clsIn at hcd
 split at hcd
 ·rename_i c' d' cd' sl' ho
  exact ⟨_, _, _, _, ho⟩
 ·cases hcd
section
variable {prog : Program} {w : World} {A : Around} {E : Value → Shared → Prop} {s : Shared} {K : PySem.W.Frag} {x C : Addr} {od : Option Addr}
theorem K9 {M : Model} {h : Heap} {name : Str} {a g : Value} (X : K.In h) (ha : PySem.W.findIn K (.ref C) name = some (some a)) (hn : PySem.W.specialIn K a "__get__" = some (some g)) (dv : PySem.W.takesIn K a = some true) :
  PySem.W.Looks M h (Builtin.ObjectAttr.find (.ref x) (.ref C) name) (.bind g a) := by
 have L1 := PySem.W.looks_findIn (M := M) X ha
 have L2 : PySem.W.Looks M h (Builtin.ObjectAttr.getOf (some a)) (some g) := PySem.W.looks_specialIn X hn
 have L3 := PySem.W.looks_takesIn (M := M) X dv
 unfold Builtin.ObjectAttr.find
 refine L1.andThen (L2.andThen ?_)
 have L4 : PySem.W.Looks M h (Builtin.ObjectAttr.dataDescriptor? (some a) (some g)) (some (g, a)) := by
  unfold Builtin.ObjectAttr.dataDescriptor?
  exact L3.andThen .now
 exact L4.andThen (PySem.W.Looks.tag .now)
open PySem.W in
open Builtin Builtin.ObjectAttr Builtin.Getset_descriptor in
theorem Oe {R : Result → Shared → Prop} {tp : Value} (Z : jC K C) (X : K.In s.heap) (I : cz x (.ref C) od s.heap) (h : R (.ok (.ret (.ref C))) s) :
  codeAny (model prog w) A (.call (.builtin "getset_descriptor.__get__") ⟨[.builtin "object.__class__", .ref x, tp], []⟩) R s := by
 obtain ⟨hh, g, dr, t, os⟩ := s
 have L0 := oq (M := model prog w) I
 have L1 := looks_mroIn (M := model prog w) X Z.hm
 refine codeAny_call_builtin KF.slot_gs.plain KF.entry_gs (KF.slot_gs.check _ _ _ _ _ _ _ _ KF.type_class (KF.args_gs _ _ _) ?_)
 unfold Builtin.«getset_descriptor.__get__» descrGet
 rw [dga_obj]
 refine wpAny_bind (wpAny_pure ?_)
 unfold descrGetter descrCheckInstance descrNameAndClass isInstance
 simp only [KF.owner_class]
 repeat lk
 refine ⟨Code.quiet_builtin _ (by decide +kernel), codeAny_builtin KF.entry_class ?_⟩
 unfold Builtin.«object.__class__» shownTypeOf
 repeat lk
 exact h
theorem DX {M : Model} {CZ : Value} {Q : Unit → Shared → Prop} (Z : jC K C) (X : K.In s.heap) (I : cz x (.ref C) od s.heap) (h : Q () s) : wpAny M A (checkBuiltinCall "BaseException.__getattribute__" ⟨[.ref x, CZ], []⟩) Q E s := by
 have k1 : builtinKind "BaseException.__getattribute__" = some .slot := by decide +kernel
 have k2 : splitId "BaseException.__getattribute__" = some ("BaseException", "__getattribute__") := by decide +kernel
 have k3 := PySem.F.args_bexc_ga (.ref x) CZ
 have L0 := oq (M := M) I
 have L1 := PySem.W.looks_mroIn (M := M) X Z.hb
 obtain ⟨hh, g, d, t, os⟩ := s
 have L2 : PySem.W.Looks M hh (isInstance (.ref x) (.type "BaseException")) true := L0.andThen L1
 simp only [checkBuiltinCall, k1, k2]
 refine wpAny_bind (L2.at ?_)
 repeat (any_goals (first | assumption | wp_step))
theorem MD {Q : Option Value → Shared → Prop} (Z : jC K C) (X : K.In s.heap) (I : cz x (.ref C) od s.heap) (h : Q (some (.ref C)) { s with toks := s.toks + 1 }) : wpAny (model prog w) A (getAttr? (.ref x) "__class__") Q E s := by
 obtain ⟨hh, g, d, t, os⟩ := s
 have L0 := oq (M := model prog w) I
 have L1 := PySem.W.looks_findIn (M := model prog w) X Z.F2
 have L2 := PySem.W.looks_findIn (M := model prog w) X Z.KD
 have L3 := K9 (M := model prog w) (x := x) X Z.ha Z.hn Z.dv
 unfold getAttr? getAttrBy? getAttrBy
 refine wpAny_bind (wpAny_mkText (wpAny_bind (wpAny_attempt (wpAny_holding (wpAny_bind (L0.at (wpAny_bind (L1.at ?_))))))))
 show wpAny _ _ (getAttrByItsOwn (.ref x) (.str "__class__" t) (.ref C) (.builtin "BaseException.__getattribute__") false false) _ _ _
 unfold getAttrByItsOwn
 refine wpAny_bind (L2.at ?_)
 refine wpAny_bind (wpAny_attempt (wpAny_holding ?_))
 show wpAny _ _ (boundAndCalled (.builtin "BaseException.__getattribute__") (.ref x) (.str "__class__" t)) _ _ _
 unfold boundAndCalled
 refine wpAny_bind (wpAny_of_eq (PySem.F.attr_ValueError.ga.bind (.ref x)) ?_)
 refine wpAny_call (codeAny_call_builtin PySem.F.attr_ValueError.ga.plain PySem.F.entry_bexc_ga (DX Z X I ?_))
 show wpAny _ _ (Builtin.«object.__getattribute__» ⟨[.ref x, .str "__class__" t], []⟩) _ _ _
 unfold Builtin.«object.__getattribute__»
 refine wpAny_bind (wpAny_pure ?_)
 refine wpAny_bind (wpAny_pure ?_)
 refine wpAny_bind (L0.at (wpAny_bind (L3.at ?_)))
 show wpAny _ _ (Builtin.ObjectAttr.bindTo (.builtin "getset_descriptor.__get__") (.builtin "object.__class__") (.ref x) (.ref C)) _ _ _
 show wpAny _ _ (holding [.builtin "object.__class__"] (call (.builtin "getset_descriptor.__get__") [.builtin "object.__class__", .ref x, .ref C]) >>= fun v => ret v) _ _ _
 refine wpAny_bind (wpAny_holding (wpAny_call (Oe Z X I (wpAny_pure ?_))))
 exact wpAny_pure (wpAny_pure h)
theorem qD (Z : jC K C) : PySem.W.KitX K (.ref x) (.ref C) (cz x (.ref C) od) where
 ty := fun _ _ _ I => oq I
 it := fun _ _ X _ => by
  obtain ⟨c', d', cd', sl', ho⟩ := A6 Z.hm
  intro A' Q' E' s' k q
  unfold isType loadHead
  exact wpAny_bind (wpAny_loadPart (k _ _ (X _ _ ho)) (wpAny_pure q))
 ne := fun h tp dd its n sl X htp => by
  obtain ⟨c', d', cd', sl', ho⟩ := A6 Z.hm
  refine Bool.eq_false_iff.mpr fun q => ?_
  have e : C = tp := Value.ref.inj (beq_iff_eq.mp q)
  subst e
  have z := (X _ _ ho).symm.trans htp
  cases z
 ca := fun X I k => MD Z X I k
end
inductive jf (K : PySem.W.Frag) (H : Hp) : V → Value → Bool → Prop where
 | of {x : V} {t : Value} (h : de K H x t) : jf K H x t false
 | exc {ea C : Addr} {od : Option Addr} (e : H ea = some (gZ ea C od)) (Z : jC K C) : jf K H (.ref ea) (.ref C) true
inductive lW (K : PySem.W.Frag) (H : Hp) (t : Value) : Bool → V → Bool → Prop where
 | ty {f : Bool} {n : String} {b : Bool} (e : PySem.W.kitOne K t (.type n) = some b) : lW K H t f (.ty n) b
 | cls {f : Bool} {a : Addr} {b : Bool} (e : PySem.W.kitOne K t (.ref a) = some b) : lW K H t f (.ref a) b
 | tup {p : Addr} {cs : List V} {us : List Value} {b : Bool} (h : H p = some (.tup cs)) (hu : ∀ ws, Vals cs ws → ws = us) (e : PySem.W.kitAny K t us = some b) : lW K H t true (.ref p) b
section
variable {X : Cx} {K : PySem.W.Frag}
def rn (K : PySem.W.Frag) : List V → Hp → VK → Prop := fun xs H Q => match xs with
 | [x, c] => ∃ (t : Value) (f b : Bool), jf K H x t f ∧ lW K H t f c b ∧ Q (.bl b) H
 | _ => False
theorem E9 {x c : V} {u v t : Value} {pins : List (Addr × Obj)} {σ : St} {H : Hp} {s : Shared} {A : Around} {E : Value → Shared → Prop} {Q : Value → Shared → Prop} {f b : Bool} (I : Inv X pins σ H s) (rx : RelV x u) (rc : RelV c v) (ty : jf X.K H x t f) (a : lW X.K H t f c b)
  (h : ∀ tk, Q (.bool b) { s with toks := tk }) : wpAny (model X.prog X.w) A (call (.builtin "isinstance") [u, v]) Q E s := by
 cases ty with
 | of ty =>
  cases a with
  | ty e => cases (show v = Value.type _ from rc); exact rV I rx ty e h
  | cls e => cases (show v = Value.ref _ from rc); exact rV I rx ty e h
 | @exc ea C od e Z =>
  cases (show u = Value.ref ea from rx)
  obtain ⟨p, _, _⟩ := (show bp X.prog X.w H s.heap ea (gZ ea C od) from I.ax ea _ e)
  cases a with
  | ty e' => cases (show v = Value.type _ from rc); exact PySem.W.kia_one (qD Z) I.bx p e' (fun z => nomatch z) h
  | cls e' => cases (show v = Value.ref _ from rc); exact PySem.W.kia_one (qD Z) I.bx p e' (fun z => nomatch z) h
  | @tup tp cs us b hp hu e' =>
   cases (show v = Value.ref tp from rc)
   obtain ⟨_, its, rv, o, ho, hc, n, hd⟩ := (show bp X.prog X.w H s.heap tp (.tup cs) from I.ax tp _ hp)
   obtain rfl := hu its rv
   obtain ⟨oc, odd, oda, osl⟩ := o
   dsimp only at hc hd
   subst hc hd
   exact PySem.W.kia_tup (qD Z) I.bx p ho e' (fun z => nomatch z) h
theorem ef (h : X.K = K) : bX X (.builtin "isinstance") (rn K) := h ▸ fun pins s σ H xs us Q I r q => by
 unfold rn at q
 split at q
 ·rename_i x c
  obtain ⟨t, f, b, ty, a, q⟩ := q
  obtain ⟨u, v, rfl, ru, rv⟩ := vals2 r
  exact E9 I ru rv ty a fun tk => ⟨.bl b, H, I.tok tk, rfl, q⟩
 ·exact q.elim
end
namespace Dv
section
variable {X : Cx} {st : Stmt} {t : TS}
theorem AZ {k : Nat} {f : Addr} {fd : FuncData} {ps : List Str} {sp : Sp} {dvs : List V} {ds : List Value} {R : St → XK} {x : Str} {p pos : Pos} {e : Expr} {es : List Expr} {t : TA}
  (F : aD X.prog X.w X.K X.mg X.base (bJ X.prog X.w) k f fd ps sp) (hr : aN k X.A) (hm : X.mg x = some (.ref f)) (hk : PySem.W.keepIn X.K (.ref f) = true) (hb : Binds X.K fd ps ds) (hd : Vals dvs ds) (hx : ed X R)
  (ha : QA X (e :: es) t) (hg : Gl X x := by rfl) (hs : (e :: es).all noStar = true := by rfl) (hdb : (x == ("__debug__" : Str)) = false := by decide) : QE X (.Call (.Name x p) (e :: es) [] pos) (vU sp dvs R t) := ⟨NY F hr hg hm hk hb hd hx ha.h hs hdb⟩
theorem tE {R : St → XK} {x : Str} {C : Addr} {e : Expr} {es : List Expr} {t : TA} {np aY pos : Pos} (hx : Raises X R) (hc : X.calm = true) (hm : X.mg x = some (.ref C)) (q : PySem.W.excIn X.K C pz "ValueError.__new__" = true) (ha : QA X (e :: es) t)
  (hg : Gl X x := by rfl) (hs : (e :: es).all noStar = true := by rfl) (hdb : (x == ("__debug__" : Str)) = false := by decide) : QS X (.Raise (some (.Call (.Name x np) (e :: es) [] aY)) none pos) (vS C R t) := ⟨OJ hx hc hm q ha.h hg hs hdb⟩
theorem D9 {K : PySem.W.Frag} {Cc : Addr} (i : Nat) {n x : Str} {body iW : List Stmt} {b₀ : Stmt} {np hpos pos : Pos} {tb : (St → XK) → TS} {th : TS} (hK : X.K = K) (O : Own X) (hN : X.N.Nodup) (hm : X.mg x = some (.ref Cc))
  (c1 : PySem.W.instIn X.K (.ref Cc) (.type "tuple") = some false) (c2 : PySem.W.mroIn X.K Cc (.type "BaseException") = some true)
  (hb : ∀ pins R, QB (X.iD pins R) body (tb R)) (hs : ∀ v, QB (X.gg v) (b₀ :: iW) th) (hg : Gl X x := by rfl) (hi : X.N[i]? = some n := by rfl) (hn : X.env.scope.names.lookup n = some .local := by rfl) (hdb : (x == ("__debug__" : Str)) = false := by decide) :
  QS X (.Try body [.ExceptHandler (some (.Name x np)) (some n) (b₀ :: iW) hpos] [] [] pos) (rR K Cc i tb th) := ⟨Ek i hK O hN hm c1 c2 (fun pins R => (hb pins R).h) (fun v => (hs v).h) hg hi hn hdb⟩
end
end Dv
end L2
namespace L2
end L2
namespace L2
open PySem PySem.Spec PyProof.Rows
theorem dz.jV {P : Program} {w : World} {K : PySem.W.Frag} {mg : Str → Option Value} {base : Heap} {CX : cu} {x qual : Str} {st : Stmt} {f : Addr} {fd : FuncData} {N ps : List Str} {k : Nat} {sp : Sp} (F : dz K x qual st f fd) (S : aF N ps (ay st)) (len : ∀ vs H Q E, sp vs H Q E → vs.length = ps.length)
  (hb : ∀ (cdv : Value) (A : Around) (outer : List Env) (s : Shared) (H : Hp) (vs : List V) (Q : VK) (E : XK), aN k (A.deeper (envOfC qual (ay st) s.heap.objs.size f cdv)) → sp vs H Q E →
   ∃ t, bT (bM CX P w K mg base N qual (ay st) f cdv A outer s H E) (aU st) t ∧ t { nx := fun _ H' => Q .au H', rt := Q } (start N vs) H) : aD P w K mg base CX (k + 1) f fd ps sp := by
 obtain ⟨oc, od, kV, doc, pm, an, cdv, ct, osl, rfl, lk, hcd⟩ := F.ex
 exact pA lk hcd S len fun A outer s H vs Q E hr hsp => hb cdv A outer s H vs Q E hr hsp
end L2
namespace L2
open PySem PySem.Spec PyProof.Rows
def yd : List Value → Bool
 | [] => false
 | v :: r => (v :: r) == pz || match v with
  | .ref _ => yd r
  | _ => false
def Es (K : PySem.W.Frag) (C : Addr) : Bool := match K.lookup C with
 | some ⟨.type "type", _, .cls cd, sl⟩ => (match cd.mro, sl.toList with
  | .ref C' :: bm, [_, _, _, _, some (.builtin n), _] => C' == C && n == "ValueError.__new__" && !cd.hasDel && PySem.W.tailIn K pz bm && yd cd.mro && cd.hasDict
  | _, _ => false)
 | _ => false
structure OV (K : PySem.W.Frag) (C f : Addr) (fld : Str) : Prop where
 q : Es K C = true
 hi : PySem.W.findIn K (.ref C) "__init__" = some (some (.ref f))
 hf : PySem.W.typeIn K (.ref f) = some (.type "function")
 sa : PySem.W.findIn K (.ref C) "__setattr__" = some (some (.builtin "object.__setattr__"))
 na : PySem.W.findIn K (.ref C) fld = some none
 ob : PySem.W.mroIn K C (.type "object") = some true
 be : PySem.W.mroIn K C (.type "BaseException") = some true
 self : PySem.W.mroIn K C (.ref C) = some true
 kp : PySem.W.keepIn K (.ref C) = true
section
variable {prog : Program} {w : World} {A : Around} {E : Value → Shared → Prop} {s : Shared} {K : PySem.W.Frag} {x C f : Addr} {fld : Str} {v : Value}
end
end L2
namespace L2
open PySem PySem.Spec PyProof.Rows
def yj (e : Addr) (c : Value) (od : Option Addr) (h : Heap) : Prop := ∃ o, h.get? e = some o ∧ o.cls = c ∧ o.dict = od ∧ ∃ vs a0, o.data = .fields vs ∧ vs[1]? = some .none ∧ vs[0]? = some a0
def BJ (ea C : Addr) (od : Option Addr) : HO := .ext (yj ea (.ref C) od)
def Ka (C : Addr) (fld : Str) (ta tv : TE) : TS := fun D σ H => tv σ H fun y H1 => ta σ H1 fun x H2 => ∃ ea, x = .ref ea ∧ H2 ea = some (BJ ea C none) ∧ ∀ d, H2 d = none → D.nx σ (upd (upd H2 ea (BJ ea C (some d))) d (.xd [(fld, y)]))
section
variable {X : Cx} {C f : Addr} {fld : Str} {o value : Expr} {ta tv : TE} {pos pos' : Pos}
end
section
variable {prog : Program} {w : World} {A : Around} {E : Value → Shared → Prop} {h : Heap} {g : Array GenState} {d : Drawn} {t : Nat} {os : OsState} {K : PySem.W.Frag} {C f : Addr} {fld : Str}
end
end L2
namespace L2
open PySem PySem.Spec PyProof.Rows
section
variable {X : Cx} {pins : List (Addr × Obj)} {σ : St} {H H' : Hp} {s s1 : Shared} {ea C : Addr} {od : Option Addr}
structure OQ (X : Cx) (R : St → XK) : Prop where
 made : ∀ (pins : List (Addr × Obj)) (σ : St) (H H' : Hp) (s s1 : Shared) (ea C : Addr) (od : Option Addr), Inv X pins σ H s → s1.os = s.os → AllBare s1.gens → Un (bG X.stack) [] H H' s.heap s1.heap → bz X.prog X.w H' s1.heap → H' ea = none → s.heap.get? ea = none →
  yj ea (.ref C) od s1.heap → R σ (.ref C) od H' → X.xe (.ref ea) s1
end
def Mb (C : Addr) (fld : Str) (R : St → XK) (t : TA) : TS := fun _ σ H => t σ H fun vs H1 => ∃ v, vs = [v] ∧ ∀ d, H1 d = none → R σ (.ref C) (some d) (upd H1 d (.xd [(fld, v)]))
end L2
namespace L2
open PySem PySem.Spec PyProof.Rows
section
variable {prog : Program} {w : World} {A : Around} {E : Value → Shared → Prop} {s : Shared} {K : PySem.W.Frag} {x C f d : Addr} {fld : Str}
end
def Iw (C : Addr) (fld : Str) (ta : TE) : TE := fun σ H Q => ta σ H fun x H1 => ∃ ea d fs v, x = .ref ea ∧ H1 ea = some (gZ ea C (some d)) ∧ H1 d = some (.xd fs) ∧ fs.lookup fld = some v ∧ Q v H1
end L2
namespace L2
open PySem PySem.Spec PyProof.Rows
def vH (C : Addr) (f : Str) (ta : TE) : TE := fun σ H Q => ta σ H fun x H1 => ∃ a dx fs v, x = .ref a ∧ H1 a = some (.ins C dx fs) ∧ fs.lookup f = some v ∧ Q v H1
def vg (C : Addr) (f : Str) (ta tv : TE) : TS := fun D σ H => tv σ H fun y H1 => ta σ H1 fun x H2 => ∃ a dx fs, x = .ref a ∧ H2 a = some (.ins C dx fs) ∧ fs.length < 1000 ∧ D.nx σ (upd H2 a (.ins C dx (ae f y fs)))
def uh (C : Addr) (f : Str) (ta tv : TE) (rd : R2) : TS := fun D σ H => ta σ H fun x H1 => ∃ a dx fs v, x = .ref a ∧ H1 a = some (.ins C dx fs) ∧ fs.lookup f = some v ∧ tv σ H1 fun y H2 => rd v y H2 fun z H3 => ∃ dx' fs', H3 a = some (.ins C dx' fs') ∧ fs'.length < 1000 ∧ D.nx σ (upd H3 a (.ins C dx' (ae f z fs')))
def qz (C : Addr) (m : Str) (sp : Sp) (dvs : List V) (R : St → XK) (ta : TE) (t : TA) : TE := fun σ H Q => ta σ H fun x H1 => ∃ a dx fs, x = .ref a ∧ H1 a = some (.ins C dx fs) ∧ fs.lookup m = none ∧ t σ H1 fun vs H2 => sp (x :: (vs ++ dvs)) H2 Q (R σ)
def Mu (C : Addr) (sp : Sp) (dvs : List V) (R : St → XK) (t : TA) : TE := fun σ H Q => t σ H fun vs H1 => ∀ x dx, H1 x = none → H1 dx = none → dx ≠ x →
 sp (.ref x :: (vs ++ dvs)) (upd (upd H1 dx (.own x)) x (.ins C dx [])) (fun v H2 => v = .au ∧ Q (.ref x) H2) (R σ)
section
variable {X : Cx} {k : Nat} {f C : Addr} {fd : FuncData} {ps : List Str} {sp : Sp} {dvs : List V} {ds : List Value} {R : St → XK} {x m : Str} {p pos apos : Pos} {e o : Expr} {es : List Expr} {ta : TE} {t : TA}
theorem Dq {pl : Sem Bool} (he : PE X o ta) (c : cb X.K C) (hm : Meth X.K C m f) (F : aD X.prog X.w X.K X.mg X.base (bJ X.prog X.w) k f fd ps sp) (hr : aN k X.A) (hb : Binds X.K fd ps ds) (hd : Vals dvs ds) (hx : ed X R) (ha : PA X (e :: es) t) (hs : (e :: es).all noStar = true := by rfl)
  (ht : eval (.Call (.Attribute o m apos) (e :: es) [] pos) X.env = (do
   let ov ← eval o X.env
   standAt apos.atName
   let (f, first) ← holding [ov] (getMethod ov m pl)
   callWith pos f first (backTo pos (starEach (e :: es) X.env)) (backToKw pos (keywordEach [] X.env))) := by rfl) : PE X (.Call (.Attribute o m apos) (e :: es) [] pos) (qz C m sp dvs R ta t) := by
 have hs' := hs
 rw [List.all_cons, Bool.and_eq_true] at hs'
 intro pins s σ H Q I h
 refine PySem.W.methodCall_KW (pl := pl) (aA (he pins s σ H _ I h) fun u s1 ⟨x, H1, I1, rx, a, dx, fs, ex, ea, l, q⟩ => ?_) ht
 subst ex
 obtain rfl : u = Value.ref a := rx
 refine sO I1 ea c hm l (PySem.W.callWith_K (first := [.ref a]) (h₀ := X.base) I.ok.mod.fC hm.kp (aA (ha pos pins s1 σ H1 _ I1 q) fun us s2 ⟨vs, H2, I2, r, q2⟩ => ⟨I2.bx, ?_⟩) (dG hs'.1) (fo hs'.2))
 exact AX (us := .ref a :: us) (vs := .ref a :: vs) F hr hb hd hx I2 (.cons rfl r) q2
end
section
variable {X : Cx} {C : Addr} {f : Str} {e o value : Expr} {ta tv : TE} {pos pos' fB : Pos}
theorem Me (c : cb X.K C) (n : aV X.K C f) (he : PE X e ta) (hb : attributeBase e f X.env (eval e X.env) = eval e X.env) : PE X (.Attribute e f pos) (vH C f ta) := by
 intro pins s σ H Q I h
 refine Oc hb (aA (he pins s σ H _ I h) fun u s1 ⟨x, H1, I1, rx, a, dx, fs, v, ex, ea, l, q⟩ => ?_)
 subst ex
 obtain rfl : u = Value.ref a := rx
 exact zJ I1 ea c n l fun u' s2 I2 ru => ⟨v, H1, I2, ru, q⟩
theorem E8 (c : cb X.K C) (n : aV X.K C f) (ha : PE X o ta) (hv : PE X value tv) (hs : swapsWith value (some (.Attribute o f pos')) pos.line X.env = pure false) : PS X (.Assign [.Attribute o f pos'] value pos) (vg C f ta tv) := by
 intro pins s σ H D I h
 refine plainObj_wpAny_Assign_Attribute (aA (hv pins s σ H _ I h) fun u s1 ⟨y, H1, I1, ry, q⟩ => aA (ha pins s1 σ H1 _ I1 q) fun ov s2 ⟨x, H2, I2, rx, a, dx, fs, ex, ea, l, q2⟩ => ?_) hs
 subst ex
 obtain rfl : ov = Value.ref a := rx
 exact zm I2 ea c n l ry fun s3 I3 => ⟨σ, _, I3, q2⟩
theorem Lh {op : Operator} {rd : R2} (c : cb X.K C) (n : aV X.K C f) (ha : PE X o ta) (hv : PE X value tv) (hop : pY X op rd) : PS X (.AugAssign (.Attribute o f fB) op value pos) (uh C f ta tv rd) := by
 intro pins s σ H D I h
 refine wpAny_AugAssign_AttributeAny (aA (ha pins s σ H _ I h) fun ov s1 ⟨x, H1, I1, rx, a, dx, fs, v, ex, ea, l, q⟩ => ?_)
 subst ex
 obtain rfl : ov = Value.ref a := rx
 refine zJ I1 ea c n l fun u s2 I2 ru => aA (hv pins s2 σ H1 _ I2 q) fun w3 s3 ⟨y, H2, I3, ry, q3⟩ => aA (hop pins s3 σ H2 v y u w3 _ I3 ru ry q3) fun w4 s4 ⟨z, H3, I4, rz, dx', fs', ea', l', q4⟩ => ?_
 exact zm I4 ea' c n l' rz fun s5 I5 => ⟨σ, _, I5, q4⟩
end
theorem AN {X : Cx} {op : CmpOp} {a b : Expr} {t : TE} {pos : Pos} (h : PC X op a b t) (hm : behindInMarks op b = false := by first | exact oT _ (by decide) (by decide) | rfl) : PT X (.Compare a [op] [b] pos) (gG t) := by
 intro pins s σ H Q I hw
 refine wpAny_isTrue_Compare1 (aA (h pins s σ H _ I hw) fun v s1 h1 => aA h1 fun u s2 h2 => aA h2 fun c s3 ⟨x, H1, I1, r1, q1⟩ => ?_) hm
 obtain ⟨k, rfl, q⟩ := rE q1
 cases r1
 exact wpAny_truthy_bool ⟨H1, I1, q⟩
namespace Dv
section
variable {X : Cx} {a b o e i value : Expr} {ta tb td ty tv : TE} {es : List Expr} {t : TA} {pos pos' apos aY p fB : Pos} {f C : Addr} {fn m x : Str} {k : Nat} {fd : FuncData} {ps : List Str} {sp : Sp} {dvs : List V} {ds : List Value} {R : St → XK} {CX : cu} {E : XK} {tA : TT} {body : List Stmt} {tB : TS}
theorem fld (c : cb X.K C) (n : aV X.K C fn) (he : QE X e ta) (hb : attributeBase e fn X.env (eval e X.env) = eval e X.env := by rfl) : QE X (.Attribute e fn pos) (vH C fn ta) := ⟨Me c n he.h hb⟩
theorem bb (c : cb X.K C) (n : aV X.K C fn) (ha : QE X o ta) (hv : QE X value tv) (hs : swapsWith value (some (.Attribute o fn pos')) pos.line X.env = pure false := by rfl) : QS X (.Assign [.Attribute o fn pos'] value pos) (vg C fn ta tv) := ⟨E8 c n ha.h hv.h hs⟩
theorem gU {op : Operator} {rd : R2} (c : cb X.K C) (n : aV X.K C fn) (hop : pY X op rd) (ha : QE X o ta) (hv : QE X value tv) : QS X (.AugAssign (.Attribute o fn fB) op value pos) (uh C fn ta tv rd) := ⟨Lh c n ha.h hv.h hop⟩
theorem aZ {pl : Sem Bool} (c : cb X.K C) (hm : Meth X.K C m f) (F : aD X.prog X.w X.K X.mg X.base CX k f fd ps sp) (hr : aN k X.A) (hb : Binds X.K fd ps ds) (hd : Vals dvs ds) (hx : Passes CX X E) (ho : QE X o ta) (ha : QA X (e :: es) t) (hs : (e :: es).all noStar = true := by rfl)
  (ht : eval (.Call (.Attribute o m apos) (e :: es) [] pos) X.env = (do
   let ov ← eval o X.env
   standAt apos.atName
   let (f, first) ← holding [ov] (getMethod ov m pl)
   callWith pos f first (backTo pos (starEach (e :: es) X.env)) (backToKw pos (keywordEach [] X.env))) := by rfl) : QE X (.Call (.Attribute o m apos) (e :: es) [] pos) (kT C m sp dvs E ta t) := by
 have hs' := hs
 rw [List.all_cons, Bool.and_eq_true] at hs'
 exact ⟨NT ho.h c hm F hr hb hd hx ha.h (dG hs'.1) (fo hs'.2) ht⟩
theorem ou {pl : Sem Bool} (c : cb X.K C) (hm : Meth X.K C m f) (F : aD X.prog X.w X.K X.mg X.base CX k f fd ps sp) (hr : aN k X.A) (hb : Binds X.K fd ps ds) (hd : Vals dvs ds) (hx : Passes CX X E) (ho : QE X o ta)
  (ht : eval (.Call (.Attribute o m apos) [] [] pos) X.env = (do
   let ov ← eval o X.env
   standAt apos.atName
   let (f, first) ← holding [ov] (getMethod ov m pl)
   callWith pos f first (backTo pos (starEach [] X.env)) (backToKw pos (keywordEach [] X.env))) := by rfl) : QE X (.Call (.Attribute o m apos) [] [] pos) (kT C m sp dvs E ta ik) := ⟨HF ho.h c hm F hr hb hd hx ht⟩
theorem bU {pl : Sem Bool} (c : cb X.K C) (hm : Meth X.K C m f) (F : aD X.prog X.w X.K X.mg X.base (bJ X.prog X.w) k f fd ps sp) (hr : aN k X.A) (hb : Binds X.K fd ps ds) (hd : Vals dvs ds) (hx : ed X R) (ho : QE X o ta) (ha : QA X (e :: es) t) (hs : (e :: es).all noStar = true := by rfl)
  (ht : eval (.Call (.Attribute o m apos) (e :: es) [] pos) X.env = (do
   let ov ← eval o X.env
   standAt apos.atName
   let (f, first) ← holding [ov] (getMethod ov m pl)
   callWith pos f first (backTo pos (starEach (e :: es) X.env)) (backToKw pos (keywordEach [] X.env))) := by rfl) : QE X (.Call (.Attribute o m apos) (e :: es) [] pos) (qz C m sp dvs R ta t) := ⟨Dq ho.h c hm F hr hb hd hx ha.h hs ht⟩
theorem make (M : Mk X.K C f) (F : aD X.prog X.w X.K X.mg X.base CX k f fd ps sp) (hr : aN (k + 1) X.A) (hm : X.mg x = some (.ref C)) (hb : Binds X.K fd ps ds) (hd : Vals dvs ds) (hx : Passes CX X E) (ha : QA X (e :: es) t) (hg : Gl X x := by rfl) (hs : (e :: es).all noStar = true := by rfl) (hdb : (x == ("__debug__" : Str)) = false := by decide) :
  QE X (.Call (.Name x p) (e :: es) [] pos) (lx C sp dvs E t) := by
 have hs' := hs
 rw [List.all_cons, Bool.and_eq_true] at hs'
 exact ⟨ND M F hr hg hm hb hd hx ha.h hdb (dG hs'.1) (fo hs'.2)⟩
theorem NW (M : Mk X.K C f) (F : aD X.prog X.w X.K X.mg X.base CX k f fd ps sp) (hr : aN (k + 1) X.A) (hm : X.mg x = some (.ref C)) (hb : Binds X.K fd ps ds) (hd : Vals dvs ds) (hx : Passes CX X E) (hg : Gl X x := by rfl) (hdb : (x == ("__debug__" : Str)) = false := by decide) :
  QE X (.Call (.Name x p) [] [] pos) (lx C sp dvs E ik) := ⟨JU M F hr hg hm hb hd hx hdb⟩
theorem Ob (hu : X.A.units + 1 < cLine) (ho : QE X o td) (hi : QE X i ty) (hs : rK i := by intro _ _; rfl) : QE X (.Subscript o i pos) (pW td ty) := ⟨Ma hu ho.h hi.h hs⟩
theorem sY (hu : X.A.units + 1 < cLine) (hi : QE X i ty) (ho : QE X o td) (hm : behindInMarks .In o = false := by rfl) : QT X (.Compare i [.In] [o] pos) (gG (tP ty td)) := ⟨AN (Im hu hi.h ho.h) hm⟩
theorem DK (hu : X.A.units + 1 < cLine) (hi : QE X i ty) (ho : QE X o td) (hm : behindInMarks .NotIn o = false := by rfl) : QT X (.Compare i [.NotIn] [o] pos) (gG (vY ty td)) := ⟨AN (DT hu hi.h ho.h) hm⟩
theorem mx (hu : X.A.units + 1 < cLine) (ho : QE X o td) (hi : QE X i ty) (hv : QE X value tv) (hs : swapsWith value (some (.Subscript o i pos')) pos.line X.env = pure false := by rfl) : QS X (.Assign [.Subscript o i pos'] value pos) (uU td ty tv) := ⟨MX hu ho.h hi.h hv.h hs⟩
theorem KC : QE X (.Dict [] [] pos) sX := ⟨Jy⟩
theorem OC (hu : X.A.units + 1 < cLine) (ho : QE X o td) (he : QE X e ty) (m1 : M1 X o "get" apos e aY := by exact ⟨rfl, rfl, rfl, rfl⟩) : QE X (.Call (.Attribute o "get" apos) [e] [] aY) (qu td ty) := ⟨NN hu ho.h he.h m1⟩
theorem me (hp : PassesOwn (model X.prog X.w) X.A X.env X.xe) (hc : QT X a tA) (hb : QB X body tB) : QS X (.While a body [] pos) (Be tA tB) := ⟨ER hp hc.h hb.h⟩
theorem ye (hc : QT X o tA) (ha : QE X a ta) (hb : QE X b tb) : QE X (.IfExp o a b pos) (uB tA ta tb) := ⟨Em hc.h ha.h hb.h⟩
end
end Dv
theorem Bp {P : Program} {w : World} {K : PySem.W.Frag} {mg : Str → Option Value} {base : Heap} {N : List Str} {qual : Str} {scope : Scope} {f : Addr} {cd : Value} {A : Around} {outer : List Env} {s₀ : Shared} {H₀ : Hp} {E : XK} {CX : cu} :
  PassesOwn (model P w) (bM CX P w K mg base N qual scope f cd A outer s₀ H₀ E).A (bM CX P w K mg base N qual scope f cd A outer s₀ H₀ E).env (bM CX P w K mg base N qual scope f cd A outer s₀ H₀ E).xe := PassesOwn.leaving
end L2
namespace L2
open PySem PySem.Spec PyProof.Rows
structure Ke (X : Cx) (pins : List (Addr × Obj)) (σ : St) (H : Hp) (ea C : Addr) (od : Option Addr) (s : Shared) : Prop where
 fl : ∃ B a0, Heap.FlyingW B (X.env :: X.outer) ea (.ref C) a0 s.heap ∧ ∀ h4 : Heap, B.StaysIn h4 → s.heap.UpToSlots h4 → Inv X pins σ H { s with heap := h4 }
 hd : cz ea (.ref C) od s.heap
 free : H ea = none
 n0 : X.s₀.heap.get? ea = none
 nL : ea ≠ X.env.locals
 nC : ∀ x c, X.env.cells.lookup x = some c → c ≠ ea
 nP : ∀ p ∈ X.pn ++ pins, p.1 ≠ ea
abbrev pd := Ends → St → Addr → Option Addr → Hp → Prop
def PH (X : Cx) (hs : List ExceptHandler) (t : pd) : Prop := ∀ (pins : List (Addr × Obj)) (s : Shared) (σ : St) (H : Hp) (D : Ends) (ea C : Addr) (od : Option Addr), Ke X pins σ H ea C od s → t D σ C od H → wpAny (model X.prog X.w) X.A (handleBy (.ref ea) X.env hs) (SP X pins D) X.xe s
section
variable {X : Cx} {K : PySem.W.Frag} {Cc : Addr} {n x : Str} {iW : List Stmt} {b₀ : Stmt} {np hpos pos : Pos} {th : TS} {tr : pd} {rest : List ExceptHandler}
end
structure QH (X : Cx) (hs : List ExceptHandler) (t : pd) : Prop where
 h : PH X hs t
namespace Dv
section
variable {X : Cx} {K : PySem.W.Frag} {Cc : Addr} {n x : Str} {iW : List Stmt} {b₀ : Stmt} {np hpos pos : Pos} {th : TS} {tr : pd} {rest : List ExceptHandler}
end
end Dv
end L2
namespace L2
open PySem PySem.Spec PyProof.Rows
def cK (a b : Str) : Bool := !ltCps b.cps.toList a.cps.toList
def d9 (ts : List Str) : List Str := ts.mergeSort cK
theorem nQ {a b : Str} : cK a b = true ↔ ¬ b.cps.toList < a.cps.toList := by
 unfold cK; rw [ltCps_eq]; simp
theorem yq (a b c : Str) (h1 : cK a b = true) (h2 : cK b c = true) : cK a c = true := by
 rw [nQ] at *
 exact List.not_lt.mpr (List.le_trans (List.not_lt.mp h1) (List.not_lt.mp h2))
theorem Ga (a b : Str) : (cK a b || cK b a) = true := by
 cases h : cK a b with
 | true => rfl
 | false =>
  have : ¬ cK a b = true := by rw [h]; simp
  rw [nQ, Classical.not_not] at this
  simp only [Bool.false_or, nQ]
  exact List.not_lt.mpr (List.le_of_lt this)
theorem Jf {a b : Str} (h1 : cK a b = true) (h2 : cK b a = true) : a = b := by
 rw [nQ] at *
 have := List.le_antisymm (List.not_lt.mp h1) (List.not_lt.mp h2)
 obtain ⟨x⟩ := a; obtain ⟨y⟩ := b
 exact congrArg Str.mk (Array.ext' this)
theorem zN (ts : List Str) : (d9 ts).Perm ts := List.mergeSort_perm ts cK
theorem Mz (ts : List Str) : (d9 ts).Pairwise (fun a b => cK a b = true) := List.pairwise_mergeSort yq Ga ts
theorem xU (ts : List Str) : (d9 ts).length = ts.length := (zN ts).length_eq
theorem xR : ∀ (p : Str) (l : List Str), risingS p l = true → (p :: l).Pairwise (fun a b => cK a b = true)
 | p, [], _ => List.pairwise_singleton _ _
 | p, x :: r, h => by
  have h' : cK p x = true ∧ risingS x r = true := by simpa [risingS, cK] using h
  have ih := xR x r h'.2
  refine List.pairwise_cons.mpr ⟨fun y hy => ?_, ih⟩
  rcases List.mem_cons.mp hy with e | hy
  ·exact e ▸ h'.1
  ·exact yq p x y h'.1 (List.rel_of_pairwise_cons ih hy)
theorem Ag : ∀ (l : List Str), sortedS l = true → l.Pairwise (fun a b => cK a b = true)
 | [], _ => .nil
 | x :: r, h => xR x r h
theorem zj {us ts : List Str} (hp : us.Perm ts) (hs : us.Pairwise (fun a b => cK a b = true)) : us = d9 ts :=
 List.Perm.eq_of_pairwise (fun a b _ _ h1 h2 => Jf h1 h2) hs (Mz ts) (hp.trans (zN ts).symm)
theorem yl : ∀ {ts : List Str} {us : List Value}, Vals (ts.map V.str) us → StrsAre us ts
 | [], _, .nil => .nil
 | x :: r, _, .cons h t => by obtain ⟨t', rfl⟩ := h; exact .cons x t' (yl t)
theorem rf : ∀ {us : List Value} {ts : List Str}, StrsAre us ts → Vals (ts.map V.str) us
 | _, _, .nil => .nil
 | _, _, .cons y t h => .cons ⟨t, rfl⟩ (rf h)
section
variable {X : Cx}
def Ac (K : PySem.W.Frag) : List V → Hp → VK → Prop := fun xs H Q => ∃ p ts, xs = [.ref p] ∧ aJ K H p (ts.map V.str) ∧ ts.length < 64 ∧ ∀ l, H l = none → Q (.ref l) (upd H l (.lst ((d9 ts).map V.str)))
theorem Gq : bX X (.builtin "sorted") (Ac X.K) := by
 intro pins s σ H xs us Q I r h
 obtain ⟨p, ts, rfl, hq, h64, q⟩ := h
 obtain ⟨u, rfl, rx⟩ := vals1 r
 cases rx
 obtain ⟨its, r', pl, hz⟩ := I.list hq
 have hlen := r'.length
 refine sorted_strs pl.isList (yl r') (by rw [← hlen]; simpa using h64) fun out ss' a1 a2 a3 => ?_
 obtain ⟨e, he⟩ := sortedAll_at s.heap its out
 have e1 : ss' = d9 ts := zj a2 (Ag _ a3)
 subst e1
 refine ⟨.ref (s.heap.objs.size + 1), _, I.laid (t' := s.toks) (fun _ _ => sortedAll_old) (Nat.le_succ _) (show bp X.prog X.w _ _ _ (.lst ((d9 ts).map V.str)) from ⟨?_, out.toList, e, rf a1, ?_⟩), rfl, q _ (I.ax.fresh (Nat.le_succ _))⟩
 ·rw [List.length_map, xU]; simpa using hz
 ·simpa [seqObj] using he
def zF : List V → Hp → VK → Prop := fun xs H Q => ∃ p kvs, ∃ ts : List Str, xs = [.ref p] ∧ H p = some (.dK kvs) ∧ kvs.map (·.1) = ts.map Sum.inr ∧ ts.length < 64 ∧ ∀ l, H l = none → Q (.ref l) (upd H l (.lst ((d9 ts).map V.str)))
theorem KY {x : Str} {v : Value} (h : iG (.inr x) v = true) : ∃ t, v = Value.str x t := Value.isStrOf_shape h
theorem Lj (hc : X.calm = true) : bX X (.builtin "sorted") zF := by
 intro pins s σ H xs us Q I r h
 obtain ⟨p, kvs, ts, rfl, hq, hk, h64, q⟩ := h
 obtain ⟨u, rfl, rx⟩ := vals1 r
 cases rx
 obtain ⟨hz, hS, vs, rv, m⟩ : kvs.length ≤ sizeLine ∧ (p == sysModules) = false ∧ ∃ vs, KV kvs vs ∧ s.heap.DictOf (cJ X.prog X.w) p vs := I.ax p _ hq
 obtain ⟨ep, hat⟩ := m.dictAt
 have hkl : kvs.length = ts.length := by simpa using congrArg List.length hk
 have hvl : vs.length = ts.length := by rw [← hkl]; simpa using (congrArg List.length rv.keys).symm
 refine Calls.call_function_entry kind_sorted plain_sorted entry_sorted (args_sorted1 _) ?_
 unfold Builtin.«sorted»
 refine wpAny_bind (m := checkCount "sorted" 1 1 _) (wpAny_pure ?_)
 refine wpAny_bind (PySem.W.kdu_collect (A := X.A.in1) (PySem.W.kdl_dict (knd := cJ X.prog X.w) (kvs := vs) (ep := ep) hS) (I.ok.hd hc) hat (by rw [hvl, ← hkl]; exact hz) fun h' tk acc hk' dX => ?_)
 have hl : acc.toList.length = ts.length := by rw [Array.length_toList, ← hvl]; exact dX.1
 have hS' : StrsAre acc.toList ts := by
  have key : ∀ (l : List Value) (us : List Str), l.length = us.length → (∀ (j : Nat) (v : Value) (x : Str), l[j]? = some v → us[j]? = some x → ∃ t, v = Value.str x t) → StrsAre l us := by
   intro l
   induction l with
   | nil => intro us e _; cases us with | nil => exact .nil | cons => cases e
   | cons v l ih =>
    intro us e hh
    cases us with
    | nil => cases e
    | cons x us =>
     obtain ⟨t, rfl⟩ := hh 0 v x rfl rfl
     exact .cons x t (ih us (by simpa using e) fun j v x h1 h2 => hh (j + 1) v x h1 h2)
  refine key _ _ hl fun j v x h1 h2 => ?_
  obtain ⟨k, y, hx, hk1⟩ := dX.2 j v (by rw [← Array.getElem?_toList]; exact h1)
  have e1 : (vs.map (·.1))[j]? = some k := by rw [List.getElem?_map, hx]; rfl
  rw [← rv.keys, hk, List.getElem?_map, h2] at e1
  cases e1
  exact KY hk1
 refine wpAny_bind (wpAny_newList ?_ (by rw [hl, ← hkl]; exact hz))
 have hoL : (h'.push (seqObj "list" acc.toList.toArray 0)).get? h'.objs.size = some (seqObj "list" acc.toList.toArray 0) := Heap.get?_push_size _ rfl
 refine wpAny_bind (wpAny_holding (wpAny_call_entry slot_list_sort ⟨_, hoL, rfl⟩ entry_list_sort (list_sort_treeK strKind_oneLt hoL hS'.keysOf (fun v₁ v₂ rest e => keyKind_strs (by rw [← e]; exact hS')) (by rw [hl]; exact h64) fun st' a1 a2 => ⟨_, rfl, ?_⟩) (args_list_sort _)))
 refine wpAny_pure ⟨_, rfl, ?_⟩
 obtain ⟨ss', b1, b2, b3⟩ := sorted_out_str hS' a1 a2
 have e1 : ss' = d9 ts := zj b2 (Ag _ b3)
 subst e1
 obtain ⟨e, he⟩ := sortedHeap_at (out := (arrOf st').map (·.2)) hoL
 have I1 : Inv X pins σ H { s with heap := h', toks := tk } := I.kept (t' := tk) hk'
 refine ⟨.ref h'.objs.size, _, I1.laid (t' := tk) (fun b o z => ?_) (Nat.le_refl _) (show bp X.prog X.w _ _ _ (.lst ((d9 ts).map V.str)) from ⟨?_, _, e, rf b1, ?_⟩), rfl, q _ (I1.ax.fresh (Nat.le_refl _))⟩
 ·have hb : b < h'.objs.size := Heap.lt_size z
  rw [sortedHeap_old (Nat.ne_of_lt hb) (by have := Heap.size_push h' (seqObj "list" acc.toList.toArray 0); rw [this]; exact Nat.lt_succ_of_lt hb)]
  exact Heap.get?_push_of_some _ z
 ·rw [List.length_map, xU, ← hkl]; exact hz
 ·rw [Array.toArray_toList]; exact he
end
end L2
namespace L2
open PySem PySem.Spec PyProof.Rows
def fg (P : Program) (w : World) (K : PySem.W.Frag) (mg : Str → Option Value) (base : Heap) (N : List Str) (qual : Str) (scope : Scope) (f : Addr) (cd : Value) (cl : List (Str × Addr)) (A : Around) (outer : List Env) (s : Shared) (H : Hp) (E : XK) : Cx where
 prog := P
 w := w
 K := K
 mg := mg
 base := base
 A := A.deeper (PySem.W.envX qual scope s.heap.objs.size f cd cl)
 N := N
 s₀ := s
 H₀ := H
 env := PySem.W.envX qual scope s.heap.objs.size f cd cl
 outer := outer
 stack := PySem.W.envX qual scope s.heap.objs.size f cd cl :: outer
 ex := []
 calm := true
 fn := fun _ => false
 pn := []
 xe := fun e s' => wpAny (model P w) (A.deeper (PySem.W.envX qual scope s.heap.objs.size f cd cl)) (leaving (PySem.W.envX qual scope s.heap.objs.size f cd cl) e) (fun _ s'' => bJ P w outer H s E e s'') (fun e' s'' => bJ P w outer H s E e' s'') s'
def jz (c : Addr) (q : Str) : HO := .ext fun h => h.CodeRec (.ref c) q
structure gv (N : List Str) (scope : Scope) (cl : List (Str × Addr)) : Prop where
 kind : scope.kind = .function
 co : scope.isCoroutine = false
 gen : scope.isGenerator = false
 mr : ∀ x ∈ scope.names, x.2 ≠ .cell
 free : ∀ x ∈ N, scope.names.lookup x = some .free
 has : ∀ x, scope.names.lookup x = some .free → ∃ c, cl.lookup x = some c
 inj : ∀ x y c, cl.lookup x = some c → cl.lookup y = some c → x = y
def gR (P : Program) (w : World) (K : PySem.W.Frag) (mg : Str → Option Value) (base : Heap) (k : Nat) (s1 : Shared) (B : Addr → Prop) (f : Addr) (bA : Hp → VK → XK → Prop) : Prop :=
 ∀ (A : Around) (outer : List Env) (s : Shared) (H : Hp) (Q : VK) (E : XK), aN k A → fW P w K mg base A outer s H →
  (∀ b o, B b → s1.heap.get? b = some o → s.heap.get? b = some o ∧ H b = none) → bA H Q E →
  codeAny (model P w) A (.call (.ref f) ⟨[], []⟩) (CR (bJ P w) outer P w H s Q E) s
theorem EY {P : Program} {w : World} {K : PySem.W.Frag} {mg : Str → Option Value} {base : Heap} {k : Nat} {s1 : Shared} {B : Addr → Prop} {f : Addr} {bA : Hp → VK → XK → Prop} {N : List Str} {vs : List V}
  {name qual : Str} {params : Arguments} {body : Expr} {scope : Scope} {cl : List (Str × Addr)} {pm cdv ct : Value} {o : Obj} (S : gv N scope cl)
  (ho : s1.heap.get? f = some o) (hod : o.data = .func (PySem.W.kla_fn name qual params body scope cl pm cdv ct)) (hcd : ∀ H Q E, bA H Q E → ∃ c, cdv = .ref c ∧ H c = some (jz c qual)) (hbf : B f)
  (hB : ∀ x c, cl.lookup x = some c → B c) (hlen : vs.length = N.length)
  (hcl : ∀ x c, cl.lookup x = some c → ∃ v, s1.heap.IsCell c v)
  (hcells : ∀ (i : Nat) (x : Str) (v : V), N[i]? = some x → vs[i]? = some v → ∃ c u, cl.lookup x = some c ∧ RelV v u ∧ s1.heap.IsCell c (some u))
  (i8 : bindArgs (PySem.W.kla_fn name qual params body scope cl pm cdv ct) ⟨[], []⟩ = pure [])
  (fv : ∀ (A : Around) (outer : List Env) (s : Shared) (H : Hp) (Q : VK) (E : XK), aN k (A.deeper (PySem.W.envX qual scope s.heap.objs.size f cdv cl)) → bA H Q E →
   ∃ t, PE (fg P w K mg base N qual scope f cdv cl A outer s H E) body t ∧ t (vs.map some) H Q) :
  gR P w K mg base (k + 1) s1 B f bA := by
 intro A outer s H Q E hr e0 hk hw
 obtain ⟨c, rfl, hcx⟩ := hcd H Q E hw
 have pM : s.heap.CodeRec (.ref c) qual := (e0.ax c _ hcx).1
 have lim : s.heap.NoLimit := e0.mod.nolimit.keeps fun b o e => (e0.bs b o e).1
 refine PySem.W.kla_callFunE (fd := PySem.W.kla_fn name qual params body scope cl pm (.ref c) ct) hr.depth (hk f o hbf ho).1 hod S.co S.gen rfl pM ?_
 rw [i8]
 refine wpAny_pure (wpAny_newFunctionEnv S.mr (fun _ z => nomatch z) (fun h₁ hns hsb => ⟨lim.fresh _ hsb, ?_⟩) S.kind)
 show codeAny _ _ (.expr body (PySem.W.envX qual scope s.heap.objs.size f (.ref c) cl)) _ _
 have hk₁ : ∀ b o, s.heap.get? b = some o → h₁.get? b = some o := fun b o e => hsb.extBut b o (Nat.ne_of_lt (Heap.lt_size e)) (Heap.get?_push_of_some _ e)
 obtain ⟨t, ht, hq2⟩ := fv A outer s H Q E (hr.deeper _) hw
 have noA : ∀ b : Addr, b ∉ (fg P w K mg base N qual scope f (.ref c) cl A outer s H E).ex := fun b z => absurd (show b ∈ ([] : List Addr) from z) (by simp)
 have cellK : ∀ x c', cl.lookup x = some c' → ∀ v, s1.heap.IsCell c' v → h₁.IsCell c' v ∧ H c' = none := fun x c' e v ⟨o', e1, e2⟩ =>
  ⟨⟨o', hk₁ _ _ (hk c' o' (hB x c' e) e1).1, e2⟩, (hk c' o' (hB x c' e) e1).2⟩
 have I : Inv (fg P w K mg base N qual scope f (.ref c) cl A outer s H E) [] (vs.map some) H { s with heap := h₁, toks := s.toks + ([] : List (Str × Value)).length } := by
  refine ⟨⟨e0.mod, S.kind, rfl, rfl, Nat.le_refl _, S.inj, fun y hy => ?_, fun y c' hf => absurd hf (by simp [fg]), fun _ => hr.hd, Around.frames_deeper e0.frames, .inr ⟨rfl, rfl⟩, fun b z => absurd z (noA b), e0.bs, e0.dD, fun b _ _ => noA b, fun b z => absurd z (noA b), e0.cU, e0.e7⟩,
   rfl, e0.bare, Un.kept hk₁, ⟨_, hns, fun i y v h1 h2 h3 => ?_⟩, fun y c' h => ?_, e0.ax.fresh (Nat.le_refl _), fun y c' h => ?_, fun p hp => absurd (show p ∈ ([] : List (Addr × Obj)) from hp) (by simp), e0.ax.kept hk₁, ?_⟩
  ·have hy : scope.names.lookup y = some .cell ∨ scope.names.lookup y = some .free := hy
   rcases hy with hy | hy
   ·exact absurd rfl (S.mr _ (PySem.mem_of_lookup hy))
   ·exact S.has y hy
  ·have h1' : N[i]? = some y := h1
   have ha : vs[i]? = some v := by
    rw [List.getElem?_map] at h2
    cases e : vs[i]? with
    | none => rw [e] at h2; cases h2
    | some a => rw [e] at h2; cases h2; rfl
   obtain ⟨c', u, e1, rv, e2⟩ := hcells i y v h1' ha
   exact ⟨u, rv, .inr ⟨.inr (S.free y (List.mem_of_getElem? h1')), c', e1, (cellK y c' e1 _ e2).1⟩⟩
  ·obtain ⟨v, e⟩ := hcl y c' h
   exact ⟨v, (cellK y c' h v e).1⟩
  ·obtain ⟨v, e⟩ := hcl y c' h
   exact (cellK y c' h v e).2
  ·show (vs.map some).length = N.length
   rw [List.length_map, hlen]
 refine PySem.W.kla_codeExpr (wpAny_mono (ht [] _ (vs.map some) H _ I hq2) (fun u s' hs => ?_) fun e s' hs => hs)
 obtain ⟨v, H', J, rv, q⟩ := hs
 exact ⟨v, H', J.os, J.bare, J.base, J.ax, rv, q⟩
end L2
namespace L2
open PySem PySem.Spec PyProof.Rows
theorem oh {P : Program} {w : World} {K : PySem.W.Frag} {mg : Str → Option Value} {base : Heap} {N : List Str} {qual : Str} {scope : Scope} {f : Addr} {cd : Value} {cl : List (Str × Addr)} {A : Around} {outer : List Env} {s₀ : Shared} {H₀ : Hp} {E : XK} :
  ed (fg P w K mg base N qual scope f cd cl A outer s₀ H₀ E) (fun _ => E) where
 pass := fun pins σ H s e s' I hc => by
  obtain ⟨ea, C, od, H', rfl, F, hE⟩ := hc
  exact aA (I.AB ⟨rfl, rfl, rfl⟩ I.ok.frames F) fun _ s'' z => ⟨ea, C, od, H', rfl, z, hE⟩
def nv (outer : List Env) (H : Hp) (s : Shared) (B : Addr → Prop) : Prop := ∀ b, B b → (∃ o, s.heap.get? b = some o) ∧ H b = none ∧ b ∉ bG outer
def uR (s : Shared) (f : Addr) : Prop := ∃ cls dict fd sl, s.heap.get? f = some ⟨cls, dict, .func fd, sl⟩
def rh (i : Nat) (f : Addr) (bA : Hp → VK → XK → Prop) (R : St → XK) : TE := fun σ H Q => σ[i]? = some (some (.ref f)) ∧ bA H Q (R σ)
theorem Kh {X : Cx} {i k : Nat} {x : Str} {p pos : Pos} {B : Addr → Prop} {f : Addr} {bA : Hp → VK → XK → Prop} {R : St → XK} (hN : X.N[i]? = some x) (hv : hX X.env.scope x)
  (D : gR X.prog X.w X.K X.mg X.base k X.s₀ B f bA) (hB : nv X.outer X.H₀ X.s₀ B) (hf : uR X.s₀ f) (hbf : B f) (hex : X.ex = []) (hr : aN k X.A) (hx : ed X R)
  (hd : (x == ("__debug__" : Str)) = false := by decide) (hcd : (x == ("__classdict__" : Str)) = false := by decide) : PE X (.Call (.Name x p) [] [] pos) (rh i f bA R) := by
 intro pins s σ H Q I h
 obtain ⟨hσ, hw⟩ := h
 refine wpAny_Call_Name_kw (aA (vc hN hv hd hcd pins s σ H (fun v H1 => v = .ref f ∧ bA H1 Q (R σ)) I ⟨_, hσ, rfl, hw⟩) fun u s1 ⟨v, H1, I1, r, e, hw1⟩ => ?_)
 subst e
 cases (show u = Value.ref f from r)
 have kp : ∀ b o, B b → X.s₀.heap.get? b = some o → s1.heap.get? b = some o ∧ H1 b = none := fun b o hb e =>
  ⟨I1.base.keep b o e (hB b hb).2.1 (hB b hb).2.2 (by rw [hex]; simp), I1.base.free b o e (hB b hb).2.1 (by rw [hex]; simp)⟩
 obtain ⟨cls, dict, fd, sl, hfo⟩ := hf
 refine PySem.W.callWith_of (P := fun h => h.get? f = some ⟨cls, dict, .func fd, sl⟩) rfl (fun h e => ⟨.frame, .inl rfl, (PySem.W.Looks.ld (part := none) e).andThen .now⟩) (PyProof.Rows.evalArgs_nil3 ⟨(kp f _ hbf hfo).1, ?_⟩)
 refine wpAny_call (codeAny_mono (D X.A X.stack s1 H1 Q (R σ) hr I1.md kp hw1) fun r s' hq => ?_)
 cases r with
 | error e => exact hx.pass pins σ H1 s1 e s' I1 hq
 | ok fl =>
  cases fl with
  | ret u => exact I1.after hq
  | next => exact False.elim hq
  | brk => exact False.elim hq
  | cont => exact False.elim hq
abbrev ox := List Env → Shared → Sp
structure mw (P : Program) (w : World) (K : PySem.W.Frag) (mg : Str → Option Value) (base : Heap) (CX : cu) (k : Nat) (f : Addr) (fd : FuncData) (ps : List Str) (sp : ox) : Prop where
 len : ∀ outer s vs H Q E, sp outer s vs H Q E → vs.length = ps.length
 run : ∀ (A : Around) (outer : List Env) (s : Shared) (H : Hp) (args : Args) (us : List Value) (vs : List V) (Q : VK) (E : XK), aN k A → fW P w K mg base A outer s H → BindsTo s fd args (ps.zip us) → Vals vs us → sp outer s vs H Q E →
  codeAny (model P w) A (.call (.ref f) args) (CR CX outer P w H s Q E) s
theorem Ol {CX : cu} {P : Program} {w : World} {K : PySem.W.Frag} {mg : Str → Option Value} {base : Heap} {k : Nat} {f : Addr} {name qual : Str} {params : Arguments} {body : List Stmt} {scope : Scope} {dV kV doc pm cdv ct oc : Value} {an od : Option Addr}
  {osl : Array (Option Value)} {N ps : List Str} {sp : ox} (lk : K.lookup f = some ⟨oc, od, .func (PySem.W.fnOf name qual params body scope dV kV doc pm an cdv ct), osl⟩) (hcd : PySem.W.codeIn K cdv qual = true) (S : aF N ps scope)
  (len : ∀ outer s vs H Q E, sp outer s vs H Q E → vs.length = ps.length)
  (fv : ∀ (A : Around) (outer : List Env) (s : Shared) (H : Hp) (vs : List V) (Q : VK) (E : XK), aN k (A.deeper (envOfC qual scope s.heap.objs.size f cdv)) → sp outer s vs H Q E →
   ∃ t, bT (bM CX P w K mg base N qual scope f cdv A outer s H E) body t ∧ t { nx := fun _ H' => Q .au H', rt := Q } (start N vs) H) :
  mw P w K mg base CX (k + 1) f (PySem.W.fnOf name qual params body scope dV kV doc pm an cdv ct) ps sp := by
 refine ⟨len, fun A outer s H args us vs Q E hr e0 hb r hsp => ?_⟩
 have hl := len _ _ _ _ _ _ hsp
 have KX : K.In s.heap := e0.mod.fC.keeps fun b o e => (e0.bs b o e).1
 have lim : s.heap.NoLimit := e0.mod.nolimit.keeps fun b o e => (e0.bs b o e).1
 have wU : ∀ y ∈ ps.zip us, scope.names.lookup y.1 = some .local ∨ (scope.names.lookup y.1 = some .cell ∧ ((cellsFrom (s.heap.objs.size + 1) scope.names []).lookup y.1).isSome = true) := fun ⟨n, v⟩ hy => by
  rcases S.par n (List.of_mem_zip hy).1 with q | q
  ·exact .inl q
  ·exact .inr ⟨q, PySem.W.cellsFrom_some _ _ _ (.inl q)⟩
 refine codeAny_call_function hr.depth (KX _ _ lk) rfl S.co S.gen rfl (PySem.W.codeRec_of KX hcd) (hb _ _ _ _ ?_)
 refine wpAny_newFunctionEnv_cells S.kind wU fun env he s1 x => ?_
 subst he
 refine ⟨lim.keeps x.toInCall.keep, codeAny_func ?_⟩
 obtain ⟨t, ht, hq⟩ := fv A outer s H vs Q E (hr.deeper _) hsp
 have I : Inv (bM CX P w K mg base N qual scope f cdv A outer s H E) [] (start N vs) H s1 := AS S hr.hd e0 hl r x
 refine wpAny_mono (ht [] s1 (start N vs) H _ I hq) (fun fl s' hs => ?_) fun e s' hs => hs
 have fin : ∀ {σ' : St} {H' : Hp} {v : V} {u : Value}, Inv (bM CX P w K mg base N qual scope f cdv A outer s H E) [] σ' H' s' → RelV v u → Q v H' → CE outer P w H s Q u s' :=
  fun {σ' H' v u} J rv q => ⟨v, H', J.os, J.bare, J.base, J.ax, rv, q⟩
 cases fl with
 | ret u =>
  obtain ⟨v, σ', H', J, rv, q⟩ := hs
  exact fin J rv q
 | next =>
  obtain ⟨σ', H', J, q⟩ := hs
  exact fin (v := V.au) (u := Value.none) J rfl q
 | brk =>
  obtain ⟨_, _, _, q⟩ := hs
  exact False.elim q
 | cont =>
  obtain ⟨_, _, _, q⟩ := hs
  exact False.elim q
end L2
namespace L2
open PySem PySem.Spec PyProof.Rows
abbrev Ent := Int × Int × Addr
def cM : List Ent → List Value
 | [] => []
 | e :: r => rawInt e.1 :: rawInt e.2.1 :: .ref e.2.2 :: cM r
theorem zD : ∀ (a b : List Ent), cM (a ++ b) = cM a ++ cM b
 | [], b => rfl
 | e :: r, b => by show _ :: _ :: _ :: cM (r ++ b) = _; rw [zD r b]; rfl
theorem vM : ∀ es : List Ent, TriplesOk (cM es)
 | [] => trivial
 | e :: r => vM r
theorem AH (pos : Pos) : ∀ es : List Ent, codeAmong pos (cM es) = (es.find? fun e => e.1 == (pos.line : Int) && e.2.1 == (pos.col : Int)).map fun e => Value.ref e.2.2
 | [] => rfl
 | e :: r => by
  show (if e.1 == (pos.line : Int) && e.2.1 == (pos.col : Int) then some (Value.ref e.2.2) else codeAmong pos (cM r)) = _
  rw [List.find?_cons]
  cases h : (e.1 == (pos.line : Int) && e.2.1 == (pos.col : Int)) with
  | true => rfl
  | false => exact AH pos r
def eL (P : Addr) (es : List Ent) : HO := .ext fun h => h.get? P = some (PySem.W.tabObj (cM es).toArray)
structure eR (H : Hp) (P : Addr) (q : Str) (es : List Ent) : Prop where
 tab : H P = some (eL P es)
 code : ∀ e ∈ es, H e.2.2 = some (jz e.2.2 q)
structure iu (X : Cx) (P : Addr) (params : Arguments) (scope : Scope) (bL : List (Str × Addr)) (q : Str) : Prop where
 dflt : defaultsOf params X.env = ([], [])
 dC : closureFor scope X.env = pure bL
 code : ∃ c, X.env.code = .ref c ∧ PySem.W.CodeHd X.base c P
 blt : X.base.BuiltinsAt X.mg P
 qual : X.env.qual ++ "<lambda>" = q
structure l9 (P : Addr) (q : Str) (c : Addr) (H H1 : Hp) : Prop where
 rest : ∀ b, b ≠ P → b ≠ c → H1 b = H b
 code : H1 c = some (jz c q)
 old : H c = none ∨ H1 = H
 tab : ∃ es, eR H1 P q es
theorem jP {a b n : Nat} (h : a < n) (h' : n ≤ b) : b ≠ a := by omega
theorem Oa {X : Cx} {pins : List (Addr × Obj)} {σ : St} {H : Hp} {s : Shared} {P : Addr} {params : Arguments} {body : Expr} {scope : Scope} {bL : List (Str × Addr)} {q : Str} {c8 : Pos} {es : List Ent} {Q : Value → Shared → Prop}
  (I : Inv X pins σ H s) (L : iu X P params scope bL q) (T : eR H P q es)
  (h : ∀ f c ct pm s1 H1, Inv X pins σ H1 s1 → l9 P q c H H1 → H1 f = none → X.s₀.heap.objs.size ≤ f → f ≠ X.env.locals → s1.heap.get? f = some (PySem.W.kla_obj "<lambda>" q params body scope bL pm c ct) →
   (∀ b o, H b = none → s.heap.get? b = some o → s1.heap.get? b = some o) → Q (.ref f) s1) :
  wpAny (model X.prog X.w) X.A (eval (.Lambda params body scope c8) X.env) Q X.xe s := by
 obtain ⟨hdef, hcl, ⟨c, Co, C⟩, hb, hq⟩ := L
 subst hq
 refine PySem.W.kla_eval hdef ?_
 have hP : s.heap.get? P = some (PySem.W.tabObj (cM es).toArray) := (I.ax P _ T.tab).1
 have hgP : mainGlobals ≠ P := fun e => by
  obtain ⟨o, _, _, g, _⟩ := I.mod.glob
  have := (I.bs _ _ g).2
  rw [e, T.tab] at this; cases this
 have hbs : s.heap.BuiltinsAt X.mg P := by
  obtain ⟨bm, o, b1, b2, b3, b4, b5, b6⟩ := hb
  exact ⟨bm, o, b1, b2, b3, b4, I.bk _ _ b5, b6⟩
 have wG := I.lt
 have hne : ∀ {b : Addr}, H b = none → b ≠ P := fun {b} n e => by rw [e, T.tab] at n; cases n
 cases hf : codeAmong c8 (cM es).toArray.toList with
 | none =>
  refine PySem.W.kla_makeFunction (mg := X.mg) hcl I.ok.glob (I.mod.glob.keeps I.bk) Co (C.keeps I.bk) hP (vM es) hf hgP hbs fun c' ct h' tk hx hge hlt pM htb => ?_
  have htb' : h'.get? P = some (PySem.W.tabObj (cM (es ++ [((c8.line : Int), (c8.col : Int), c')])).toArray) := by
   rw [htb, zD]; simp [cM]
  have hPs : P < s.heap.objs.size := Heap.lt_size hP
  have hcP : c' ≠ P := jP hPs hge
  have I1 : Inv X pins σ (upd H P (eL P (es ++ [((c8.line : Int), (c8.col : Int), c')]))) { s with heap := h', toks := tk } :=
   I.write (x := P) (e := P) (t' := tk) (by rw [T.tab]; trivial) (.inl rfl) (fun b u hb e => hx b u hb e) ⟨_, htb'⟩ ⟨htb', ⟨_, htb'⟩, fun h1 h2 z k => k _ z⟩
  have hcn : H c' = none := I.ax.fresh hge
  have hcn1 : (upd H P (eL P (es ++ [((c8.line : Int), (c8.col : Int), c')]))) c' = none := by rw [ah hcP]; exact hcn
  have I2 := I1.Bf (a := c') (o := jz c' (X.env.qual ++ "<lambda>")) hcn1 (Heap.get?_none_of_le (Nat.le_trans I.sz hge)) (jP wG hge) (fun x c₁ e z => by
    obtain ⟨v, o, ho, _⟩ := I.cell x c₁ e
    exact jP (Heap.lt_size ho) hge z.symm) (fun p hp z => by
    exact jP (Heap.lt_size (I.pin p hp).1) hge z.symm) ⟨pM, (by obtain ⟨c₂, o, _, _, e, g, _⟩ := pM; cases e; exact ⟨o, g⟩), fun h1 h2 z k => by
     obtain ⟨c₂, o, vs, t, e, g, r⟩ := z
     cases e
     exact ⟨c', o, vs, t, rfl, k o g, r⟩⟩
  have I3 := I2.kept (t' := tk) (h' := h'.push (PySem.W.kla_obj "<lambda>" (X.env.qual ++ "<lambda>") params body scope bL ((X.mg "__name__").getD .none) c' ct)) (fun b u e => Heap.get?_push_of_some _ e)
  have hfn : (upd (upd H P (eL P (es ++ [((c8.line : Int), (c8.col : Int), c')]))) c' (jz c' (X.env.qual ++ "<lambda>"))) h'.objs.size = none := I2.ax.fresh (Nat.le_refl _)
  have hsz : s.heap.objs.size ≤ h'.objs.size := Nat.le_trans hge (Nat.le_of_lt hlt)
  refine h h'.objs.size c' ct _ _ _ I3 ⟨fun b n1 n2 => by rw [ah n2, ah n1], aw, .inl hcn, es ++ [((c8.line : Int), (c8.col : Int), c')], ⟨by rw [ah (Ne.symm hcP), aw], fun e he => ?_⟩⟩ hfn (Nat.le_trans I.sz hsz) (jP wG hsz) (Heap.get?_push_size _ rfl) fun b o n e => Heap.get?_push_of_some _ (hx b o (hne n) e)
  rcases List.mem_append.mp he with he | he
  ·have := T.code e he
   by_cases hc : e.2.2 = c'
   ·rw [hc, aw]
   ·have hp : e.2.2 ≠ P := fun z => by
     have hr : s.heap.CodeRec (.ref P) (X.env.qual ++ "<lambda>") := by
      have hh := (I.ax _ _ this).1
      rw [z] at hh; exact hh
     obtain ⟨c₂, o, vs, t, e1, g, d, r⟩ := hr
     cases e1
     rw [hP] at g; cases g
     have d' : (cM es).toArray = vs := by injection d
     subst d'
     cases es with
     | nil => cases he
     | cons e₁ r₁ => simp [cM, rawInt] at r
    rw [ah hc, ah hp]; exact this
  ·rw [List.mem_singleton.mp he]; exact aw
 | some cv =>
  have hf' := hf
  rw [show (cM es).toArray.toList = cM es from rfl, AH] at hf'
  obtain ⟨e, he, hev⟩ := Option.map_eq_some_iff.mp hf'
  subst hev
  refine PySem.W.kla_makeFunctionHit (mg := X.mg) hcl I.ok.glob (I.mod.glob.keeps I.bk) Co (C.keeps I.bk) hP (vM es) hf hbs fun ct h' tk hk hsz => ?_
  have I1 := I.kept (t' := tk) hk
  have I2 := I1.kept (t' := tk) (h' := h'.push (PySem.W.kla_obj "<lambda>" (X.env.qual ++ "<lambda>") params body scope bL ((X.mg "__name__").getD .none) e.2.2 ct)) (fun b u e => Heap.get?_push_of_some _ e)
  exact h h'.objs.size e.2.2 ct _ _ _ I2 ⟨fun _ _ _ => rfl, T.code e (List.mem_of_find?_eq_some he), .inr rfl, es, T⟩ (I1.ax.fresh (Nat.le_refl _)) (Nat.le_trans I.sz hsz) (jP wG hsz) (Heap.get?_push_size _ rfl) fun b o n e => Heap.get?_push_of_some _ (hk b o e)
end L2
namespace L2
open PySem PySem.Spec PyProof.Rows
abbrev dj := Hp → VK → XK → Prop
def ra (P : Program) (w : World) (K : PySem.W.Frag) (mg : Str → Option Value) (base : Heap) (k : Nat) (spD : dj → dj) : ox := fun outer s vs H Q E =>
 ∃ f B bA, vs = [.ref f] ∧ gR P w K mg base k s B f bA ∧ nv outer H s B ∧ uR s f ∧ B f ∧ spD bA H Q E
def zH (c : Addr) (q : Str) (W : dj) : dj := fun H Q E => H c = some (jz c q) ∧ W H Q E
def vk (ix : List Nat) (σ : St) (vs : List V) : Prop := vs.length = ix.length ∧ ∀ (i j : Nat) (v : V), ix[i]? = some j → vs[i]? = some v → σ[j]? = some (some v)
def sr (P : Addr) (q : Str) (ix : List Nat) (W : List V → dj) (spD : dj → dj) (R : St → XK) : TE := fun σ H Q =>
 ∃ es vs, eR H P q es ∧ vk ix σ vs ∧ ∀ c H1, l9 P q c H H1 → spD (zH c q (W vs)) H1 Q (R σ)
structure gX (X : Cx) (N' : List Str) (ix : List Nat) (bL : List (Str × Addr)) : Prop where
 len : ix.length = N'.length
 at' : ∀ (i j : Nat), ix[i]? = some j → ∃ x, N'[i]? = some x ∧ X.N[j]? = some x ∧ X.env.scope.names.lookup x = some .cell
 dC : ∀ x c, bL.lookup x = some c → X.env.cells.lookup x = some c
 Bi : ∀ x ∈ N', bL.lookup x = X.env.cells.lookup x
 own : ∀ x c, bL.lookup x = some c → X.fn x = true
theorem KA {X : Cx} {P : Addr} {q : Str} {ix : List Nat} {W : List V → dj} {spD : dj → dj} {R : St → XK} {params : Arguments} {body : Expr} {scope : Scope} {bL : List (Str × Addr)} {N' : List Str} {c8 p pos : Pos} {x y : Str} {g : Addr} {fd : FuncData} {k k' : Nat}
  (L : iu X P params scope bL q) (S : gv N' scope bL) (C : gX X N' ix bL)
  (F : mw X.prog X.w X.K X.mg X.base (bJ X.prog X.w) k' g fd [y] (ra X.prog X.w X.K X.mg X.base (k + 1) spD)) (hr : aN k' X.A) (hg : Gl X x) (hm : X.mg x = some (.ref g)) (hk : PySem.W.keepIn X.K (.ref g) = true) (hb : Binds X.K fd [y] []) (hx : ed X R)
  (i8 : ∀ pm cd ct, bindArgs (PySem.W.kla_fn "<lambda>" q params body scope bL pm cd ct) ⟨[], []⟩ = pure [])
  (fv : ∀ (f : Addr) (cdv : Value) (vs : List V) (A : Around) (outer : List Env) (s : Shared) (H : Hp) (Q : VK) (E : XK), aN k (A.deeper (PySem.W.envX q scope s.heap.objs.size f cdv bL)) → W vs H Q E →
   ∃ t, PE (fg X.prog X.w X.K X.mg X.base N' q scope f cdv bL A outer s H E) body t ∧ t (vs.map some) H Q)
  (hdb : (x == ("__debug__" : Str)) = false := by decide) : PE X (.Call (.Name x p) [.Lambda params body scope c8] [] pos) (sr P q ix W spD R) := by
 intro pins s σ H Q I h
 obtain ⟨es, vs, T, hc, hsp⟩ := h
 refine wpAny_Call_Name_kw (gW I hg hm ?_ hdb)
 refine PySem.W.callWith_K (h₀ := X.base) I.ok.mod.fC hk ?_
 show wpAny _ _ (spliced ((false, eval (.Lambda params body scope c8) X.env) :: backTo pos (starEach [] X.env))) _ _ s
 refine Calls.spliced_cons (Oa I L T fun f c ct pm s1 H1 I1 St hfn hfs hfl hfo kp => ?_)
 refine Calls.spliced_nil ⟨I1.bx, ?_⟩
 have nfs : ∀ b, X.s₀.heap.objs.size ≤ b → b ≠ X.env.locals → b ∉ bG X.stack := fun b hb hl z => by
  rcases List.mem_cons.mp (I1.iS b z) with e | z
  ·exact hl e
  ·obtain ⟨_, o, ho, _⟩ := I1.ok.cU.mem z
   exact absurd (Nat.lt_of_lt_of_le (Heap.lt_size ho) hb) (Nat.lt_irrefl _)
 have D : gR X.prog X.w X.K X.mg X.base (k + 1) s1 (fun b => b = f ∨ ∃ z, bL.lookup z = some b) f (zH c q (W vs)) := by
  refine EY (N := N') (vs := vs) S hfo rfl (fun H Q E z => ⟨c, rfl, z.1⟩) (.inl rfl) (fun z c' e => .inr ⟨z, e⟩) (by rw [hc.1, C.len]) (fun z c' e => I1.cell z c' (C.dC z c' e)) (fun i z v h1 h2 => ?_) (i8 _ _ _) (fun A outer s' H' Q' E' r z => fv f (.ref c) vs A outer s' H' Q' E' r z.2)
  have hi : i < ix.length := by
   have := (List.getElem?_eq_some_iff.mp h1).1
   rw [C.len]; exact this
  obtain ⟨z', e1, e2, e3⟩ := C.at' i _ (List.getElem?_eq_getElem hi)
  rw [h1] at e1; cases e1
  have e4 := hc.2 i _ v (List.getElem?_eq_getElem hi) h2
  obtain ⟨m, hn, hl⟩ := I1.loc
  obtain ⟨u, r, l⟩ := hl _ z v e2 e4 (.inr (.inl e3))
  rcases l with ⟨hk', _⟩ | ⟨_, c', e5, e6⟩
  ·have : X.env.scope.names.lookup z = some .local := hk'
   rw [e3] at this; cases this
  ·exact ⟨c', u, by rw [C.Bi z (List.mem_of_getElem? h1)]; exact e5, r, e6⟩
 have hH : nv X.stack H1 s1 (fun b => b = f ∨ ∃ z, bL.lookup z = some b) := fun b hb => by
  rcases hb with rfl | ⟨z, e⟩
  ·exact ⟨⟨_, hfo⟩, hfn, nfs _ hfs hfl⟩
  ·have e' := C.dC z b e
   obtain ⟨v, o, ho, _⟩ := I1.cell z b e'
   exact ⟨⟨o, ho⟩, I1.cY z b e', nfs b (I1.ok.gk z b (C.own z b e) e') (I1.fL z b e')⟩
 have hl : ([.ref f] : List Value).length = [y].length := rfl
 refine wpAny_call (codeAny_mono (F.run X.A X.stack s1 H1 ⟨[.ref f], []⟩ [.ref f] [.ref f] Q (R σ) hr I1.md (hb s1 [.ref f] I1.bx hl) (.cons rfl .nil) ⟨f, _, _, rfl, D, hH, ⟨_, _, _, _, hfo⟩, .inl rfl, hsp c H1 St⟩) fun r s' hq => ?_)
 cases r with
 | error e => exact hx.pass pins σ H1 s1 e s' I1 hq
 | ok fl =>
  cases fl with
  | ret u => exact I1.after hq
  | next => exact False.elim hq
  | brk => exact False.elim hq
  | cont => exact False.elim hq
end L2
namespace L2
open PySem PySem.Spec PyProof.Rows
abbrev jX := List (Addr × Addr)
def nj (tabs : jX) (H : Hp) : Prop := ∀ q ∈ tabs, ∃ es, H q.2 = some (eL q.2 es)
structure mB (tabs : jX) (H : Hp) : Prop where
 all : ∀ b, H b = none ∨ (∃ o xs, H b = some (.c7 o (.lst xs))) ∨ ∃ q ∈ tabs, b = q.2
 tab : ∀ q ∈ tabs, H q.2 = some (eL q.2 [])
theorem Kv {P : Program} {w : World} {K : PySem.W.Frag} {mg mb : Str → Option Value} {CX : cu} {k : Nat} {fa a : Addr} {fd : FuncData} {x : Str} {sp : Sp} {s₁ : Shared} {vs : List Value} {ns : List Int} {tabs : jX}
  (KX : K.In s₁.heap) (hns : s₁.heap.Ns mainGlobals mg) (hb : s₁.heap.Ns builtinsNs mb) (hbb : ∀ x : Str, x ≠ "__name__" → mb x = bootBuiltins x) (hlim : s₁.heap.NoLimit) (hg : s₁.gens = #[])
  (hT : PySem.W.TabsAt tabs s₁.heap) (hnt : PySem.W.noTabs K = true) (hbm : ∃ bm ob, mg "__builtins__" = some (.ref bm) ∧ bm ≠ builtinsNs ∧ s₁.heap.get? bm = some ob ∧ ob.cls = .type "module" ∧ ob.dict = some builtinsNs ∧ ob.data = .plain)
  (ha : s₁.heap.get? a = some { cls := .type "list", data := .seq vs.toArray }) (hi : IntsAre vs ns) (hl : ns.length ≤ sizeLine) (hr : aN k callerA)
  (F : ∀ base : Heap, K.In base → base.Ns mainGlobals mg → (∀ q ∈ tabs, PySem.W.CodeHd base q.1 q.2 ∧ base.BuiltinsAt mg q.2) → aD P w K mg base CX k fa fd [x] sp) (i8 : ∀ (s : Shared) (u : Value), BindsTo s fd ⟨[u], []⟩ [(x, u)])
  (hsp : ∀ H : Hp, mB tabs H → aJ K H a (ns.map V.int) → sp [.ref a] H (fun v H' => v = .bl true ∧ nj tabs H') fun _ _ _ => False)
  (hCX : ∀ H e s', CX [] H s₁ (fun _ _ _ => False) e s' → False) :
  codeAny (model P w) callerA (.call (.ref fa) ⟨[.ref a], []⟩) (fun r s' => r = .ok (.ret (.bool true)) ∧ OldK s₁.heap s'.heap ∧ s'.os = s₁.os ∧ AllBare s'.gens) s₁ := by
 have rv := xX hi
 have lenV := hi.length
 have tabAt : ∀ b, (∃ q ∈ tabs, b = q.2) → s₁.heap.get? b = some (PySem.W.tabObj #[]) := fun b ⟨q, hq, e⟩ => e ▸ (hT q hq).2
 have C7 : ¬ ∃ q ∈ tabs, a = q.2 := fun z => by
  have := tabAt a z
  rw [ha] at this; cases this
 have core : ∀ H : Hp, mB tabs H → aJ K H a (ns.map V.int) → bz P w H s₁.heap → (∀ b, H b ≠ none → b = a ∨ ∃ q ∈ tabs, b = q.2) → (H a ≠ none → K.lookup a = none) →
   codeAny (model P w) callerA (.call (.ref fa) ⟨[.ref a], []⟩) (fun r s' => r = .ok (.ret (.bool true)) ∧ OldK s₁.heap s'.heap ∧ s'.os = s₁.os ∧ AllBare s'.gens) s₁ := by
  intro H hO hS ax hA hK
  have pH : ∀ {b : Addr} {o : Obj}, s₁.heap.get? b = some o → H b = none → (fi s₁.heap H).get? b = some o := fun e n => DQ e n
  have noG : ∀ {b : Addr} {o : Obj}, s₁.heap.get? b = some o → b ≠ a → (∀ ps, o.data ≠ .fields ps ∨ o.cls ≠ .none) → H b = none := fun {b o} e na d => by
   cases q : H b with
   | none => rfl
   | some u =>
    rcases hA b (by rw [q]; simp) with e' | e'
    ·exact absurd e' na
    ·have e2 := tabAt b e'
     rw [e] at e2; cases e2
     rcases d #[] with d | d
     ·exact absurd rfl d
     ·exact absurd rfl d
  have noA : ∀ {b : Addr} {o : Obj} {es : Array DictEntry} {ep : Nat}, s₁.heap.get? b = some o → o.data = .dict es ep → H b = none := fun {b o es ep} e d => by
   refine noG e (fun z => ?_) fun ps => .inl (by rw [d]; simp)
   subst z
   rw [ha] at e; cases e
   have d' : Data.seq vs.toArray _ = Data.dict es ep := d
   cases d'
  have nsK : ∀ {b : Addr} {m : Str → Option Value}, s₁.heap.Ns b m → (fi s₁.heap H).Ns b m := fun {b m} ⟨o, es, ep, e, d, r⟩ => ⟨o, es, ep, pH e (noA e d), d, r⟩
  have hKb : K.In (fi s₁.heap H) := fun b o e => pH (KX b o e) (by
   cases q : H b with
   | none => rfl
   | some u =>
    rcases hA b (by rw [q]; simp) with e' | e'
    ·subst e'
     rw [hK (by rw [q]; simp)] at e; cases e
    ·have e2 := tabAt b e'
     rw [KX b o e] at e2; cases e2
     have h2 := List.all_eq_true.mp hnt (b, _) (PySem.W.mem_of_lookupK e)
     exact absurd (show false = true from h2) Bool.false_ne_true)
  have hM : Mod K mg (fi s₁.heap H) := ⟨hKb, nsK hns, ⟨mb, nsK hb, hbb⟩, let ⟨mc, h1, h2⟩ := hlim; ⟨mc, nsK h1, h2⟩⟩
  have e0 : fW P w K mg (fi s₁.heap H) callerA [] s₁ H := ⟨rfl, hM, fun b o e => Ht e, Nat.le_of_eq (Ff _ _), trivial, fun b hb => absurd (show b ∈ ([] : List Addr) from hb) (by simp), ax, .of_eq hg⟩
  have hcodes : ∀ q ∈ tabs, PySem.W.CodeHd (fi s₁.heap H) q.1 q.2 ∧ (fi s₁.heap H).BuiltinsAt mg q.2 := fun q hq => by
   obtain ⟨o, vs', file, tf, flags, tg, inF, text, tt, e1, r1, r⟩ := (hT q hq).1
   obtain ⟨bm, ob, b1, b2, b3, b4, b5, b6⟩ := hbm
   refine ⟨⟨o, vs', file, tf, flags, tg, inF, text, tt, pH e1 (noG e1 (fun z => ?_) fun ps => .inr (by rw [r1]; simp)), r1, r⟩, bm, ob, b1, b2, fun z => ?_, fun z => ?_, pH b3 (noG b3 (fun z => ?_) fun ps => .inr (by rw [b4]; simp)), b4, b5, b6⟩
   ·subst z; rw [ha] at e1; cases e1; simp at r1
   ·obtain ⟨o', es, ep, e, d, _⟩ := hns
    rw [z, e] at b3; cases b3; rw [d] at b6; cases b6
   ·rw [z, (hT q hq).2] at b3; cases b3; cases b6
   ·subst z; rw [ha] at b3; cases b3; cases b6
  refine codeAny_mono ((F _ hKb (nsK hns) hcodes).run callerA [] s₁ H ⟨[.ref a], []⟩ [.ref a] [.ref a] _ _ hr e0 (i8 s₁ (.ref a)) (.cons rfl .nil) (hsp H hO hS)) fun r s' h => ?_
  cases r with
  | error e => exact (hCX H e s' h).elim
  | ok fl =>
   cases fl with
   | next => exact False.elim h
   | brk => exact False.elim h
   | cont => exact False.elim h
   | ret u =>
    obtain ⟨v, H', os, bare, un, hok', r', q', qt⟩ := h
    subst q'
    obtain rfl : u = Value.bool true := r'
    refine ⟨rfl, ⟨fun b o e => ?_, fun b o e => un.there b o e (by simp)⟩, os, bare⟩
    cases q : H b with
    | none => exact .inl (un.keep b o e q (by intro z; exact absurd (show b ∈ ([] : List Addr) from z) (by simp)) (by simp))
    | some u =>
     rcases hO.all b with z | ⟨ob, xs, z⟩ | ⟨qq, hqq, z⟩
     ·rw [q] at z; cases z
     ·have z2 := un.df b ob _ z
      obtain ⟨e1, _⟩ := ax b _ z
      obtain ⟨e2, _⟩ := hok' b _ z2
      rw [e] at e1; cases e1
      exact .inl e2
     ·subst z
      obtain ⟨es, he⟩ := qt qq hqq
      have e3 : s'.heap.get? qq.2 = some (PySem.W.tabObj (cM es).toArray) := (hok' _ _ he).1
      have e4 := (hT qq hqq).2
      rw [e] at e4; cases e4
      exact .inr (.inl ⟨((hT qq hqq).1.tab (hT qq hqq).2).isCodeTable, rfl, #[], (cM es).toArray, rfl, by rw [e3]; simp⟩)
 have CL : ∀ b, (∃ q ∈ tabs, b = q.2) → ∀ H : Hp, bp P w H s₁.heap b (eL b []) := fun b z H => ⟨tabAt b z, ⟨_, tabAt b z⟩, fun h1 h2 y k => k _ y⟩
 classical
 cases hk : K.lookup a with
 | some o =>
  have e := KX a o hk
  rw [ha] at e
  cases e
  refine core (fun b => if (∃ q ∈ tabs, b = q.2) then some (eL b []) else none) ⟨fun b => ?_, fun q hq => if_pos ⟨q, hq, rfl⟩⟩ (.inr ⟨_, vs.toArray, _, hk, rfl, rfl, rfl, by rw [List.size_toArray, lenV]; exact hl, by simpa using rv⟩) (fun b u z => ?_) (fun b z => ?_) fun z => absurd (if_neg C7) z
  ·by_cases h : ∃ q ∈ tabs, b = q.2
   ·exact .inr (.inr h)
   ·exact .inl (if_neg h)
  ·by_cases h : ∃ q ∈ tabs, b = q.2
   ·have z' := (if_pos h).symm.trans z
    cases z'
    exact CL b h _
   ·have z' := (if_neg h).symm.trans z
    cases z'
  ·by_cases h : ∃ q ∈ tabs, b = q.2
   ·exact .inr h
   ·exact absurd (if_neg h) z
 | none =>
  refine core (fun b => if b = a then some (.c7 { cls := .type "list", data := .seq vs.toArray } (.lst (ns.map V.int))) else if (∃ q ∈ tabs, b = q.2) then some (eL b []) else none) ⟨fun b => ?_, fun q hq => ?_⟩ (.inl (.inr ⟨{ cls := .type "list", data := .seq vs.toArray }, if_pos rfl⟩)) (fun b u z => ?_) (fun b z => ?_) fun _ => hk
  ·by_cases hb : b = a
   ·exact .inr (.inl ⟨_, _, if_pos hb⟩)
   ·by_cases h : ∃ q ∈ tabs, b = q.2
    ·exact .inr (.inr h)
    ·exact .inl ((if_neg hb).trans (if_neg h))
  ·have hne : q.2 ≠ a := fun z => C7 ⟨q, hq, z.symm⟩
   exact (if_neg hne).trans (if_pos ⟨q, hq, rfl⟩)
  ·by_cases hb : b = a
   ·have z' := (if_pos hb).symm.trans z
    cases z'
    subst hb
    exact ⟨ha, by rw [List.length_map]; exact hl, vs, _, rv, ha⟩
   ·have z' := (if_neg hb).symm.trans z
    by_cases h : ∃ q ∈ tabs, b = q.2
    ·have z2 := (if_pos h).symm.trans z'
     cases z2
     exact CL b h _
    ·have z2 := (if_neg h).symm.trans z'
     cases z2
  ·by_cases hb : b = a
   ·exact .inl hb
   ·by_cases h : ∃ q ∈ tabs, b = q.2
    ·exact .inr h
    ·exact absurd ((if_neg hb).trans (if_neg h)) z
theorem MO {l : PySem.W.OpenLaw} {n k : Nat} {q : Program} {loose : List Str} {XP : (Str → Option Value) → Heap → Prop} {YP : World → Heap → Prop} {d : DefRec} {K : Params → PySem.W.Frag} {CX : World → cu} {sp : World → Sp} {x : Str} {tabs : jX}
  (hn : l.most = some n) (hn2 : n ≤ sizeLine) (hdf : d.params.defaults = []) (hr : aN k callerA)
  (hY : ∀ (w : World) (h : Heap), YP w h → (K w.params).In h)
  (hnt : ∀ w : World, PySem.W.noTabs (K w.params) = true) (htb : ∀ (w : World), ∀ t ∈ tabs, ∃ y e, (recsOf q).find? (fun e => e.name == y) = some e ∧ PySem.W.tabIn (K w.params) y = some t)
  (F : ∀ (w : World) (mg : Str → Option Value) (fa : Addr) (h : Heap), (K w.params).In h → h.Ns mainGlobals mg → mg d.name = some (.ref fa) →
   ∃ fd : FuncData, (∀ (s : Shared) (u : Value), BindsTo s fd ⟨[u], []⟩ [(x, u)]) ∧
    ∀ base : Heap, (K w.params).In base → base.Ns mainGlobals mg → (∀ t ∈ tabs, PySem.W.CodeHd base t.1 t.2 ∧ base.BuiltinsAt mg t.2) → aD l.prog w (K w.params) mg base (CX w) k fa fd [x] (sp w))
  (hsp : ∀ (w : World) (H : Hp) (a : Addr) (ns : List Int), ns.length ≤ n → mB tabs H → aJ (K w.params) H a (ns.map V.int) → sp w [.ref a] H (fun v H' => v = .bl true ∧ nj tabs H') fun _ _ _ => False)
  (hCX : ∀ (w : World) (H : Hp) (s : Shared) (e : Value) (s' : Shared), CX w [] H s (fun _ _ _ => False) e s' → False) :
  PySem.W.WalkO q loose XP YP l.row.toRowW d [] (fun f vs => PySem.call f vs) := by
 refine Att.F5 hn hdf fun w s₀ s₁ mg mb fa o pm cd doc a vs ns G Y ho hd hcd hmg wR hints hlen hg => ?_
 have KX := hY w _ Y
 obtain ⟨fd, hb, hF⟩ := F w mg fa _ KX G.T.g hmg
 exact Kv KX G.T.g G.T.b G.T.builtins G.T.nolimit hg (fun t ht => by
  obtain ⟨y, e, h1, h2⟩ := htb w t ht
  exact PySem.W.tab_of G.T KX h1 h2) (hnt w) G.T.bmain wR hints (Nat.le_trans hlen hn2) hr hF hb (fun H hO hS => hsp w H a ns hlen hO hS) fun H e s' => hCX w H s₁ e s'
end L2
namespace L2
open PySem PySem.Spec PyProof.Rows
section
variable {prog : Program} {w : World} {A : Around} {R : Result → Shared → Prop} {I : Addr} {fp wr : List Addr} {P : Nat → Value → Prop} {St : Nat → Heap → Prop}
theorem KR (a d : Value) : argsOk "min" ⟨[a], [("default", d)]⟩ := by unfold argsOk; kernel_rfl
theorem Nt (W : Walks prog w A.in1 I fp wr 0 P St) {S : Addr} {s : Shared} {c : Nat} {d : Value} (hst : St 0 s.heap)
  (hS : s.heap.get? S = some { cls := .type "list", dict := none, data := .seq #[] c, slots := #[] })
  (hR : ∀ h' tk, (∀ b o, b ∉ wr → s.heap.get? b = some o → h'.get? b = some o) → R (.ok (.ret d)) { s with heap := h', toks := tk }) :
  codeAny (model prog w) A (.builtin "min.loop" ⟨[.ref I, .none, .ref S], [("default", d)]⟩) R s := by
 refine codeAny_builtin F.entry_min_loop ?_
 rw [Around.under_plainId F.plain_min_loop _]
 show wpAny _ A.in1 (seqItems? (.ref S) >>= _) _ _ s
 refine wpAny_bind (wpAny_seqItems hS rfl ?_)
 show wpAny _ A.in1 (tryCatch (pyNext (.ref I)) _ >>= _) _ _ s
 refine wpAny_bind (wpAny_tryCatch (W.done s _ _ hst fun h' tk hk' => ?_))
 exact wpAny_bind (wpAny_rule (wpAny_pure (hR h' tk hk')))
theorem N0 (W : Walks prog w A.in1 I fp wr 1 P St) {S : Addr} {s : Shared} {c : Nat} {d : Value} (hSf : S ∉ fp) (hst : St 0 s.heap)
  (hS : s.heap.get? S = some { cls := .type "list", dict := none, data := .seq #[] c, slots := #[] })
  (hR : ∀ v h' tk, P 0 v → (∀ b o, b ∉ wr → b ≠ S → s.heap.get? b = some o → h'.get? b = some o) → R (.ok (.ret v)) { s with heap := h', toks := tk }) :
  codeAny (model prog w) A (.builtin "min.loop" ⟨[.ref I, .none, .ref S], [("default", d)]⟩) R s := by
 have hSw : S ∉ wr := fun h => hSf (W.sub _ h)
 have xw : (toString "min" ++ toString ".loop" : String) = "min.loop" := by decide
 refine codeAny_builtin F.entry_min_loop ?_
 rw [Around.under_plainId F.plain_min_loop _]
 show wpAny _ A.in1 (seqItems? (.ref S) >>= _) _ _ s
 refine wpAny_bind (wpAny_seqItems hS rfl ?_)
 show wpAny _ A.in1 (tryCatch (pyNext (.ref I)) _ >>= _) _ _ s
 refine wpAny_bind (wpAny_tryCatch (W.item 0 s _ _ (by decide) hst fun v h' tk hP hst' hk' => ?_))
 have hS' := hk' S _ hSw hS
 show wpAny _ A.in1 (updateSeq S (fun _ => #[v, v]) >>= _) _ _ _
 refine wpAny_bind ?_
 refine wpAny_updateSeq hS' rfl ?_
 rw [xw]
 refine wpAny_pure ⟨plainId_quiet F.plain_min_loop _, ?_⟩
 have key : ∀ (s2 : Shared) (c2 : Nat), St 1 s2.heap → s2.heap.get? S = some { cls := .type "list", dict := none, data := .seq #[v, v] c2, slots := #[] } → (∀ h'' tk'', (∀ b o, b ∉ wr → b ≠ S → s2.heap.get? b = some o → h''.get? b = some o) → R (.ok (.ret v)) { s2 with heap := h'', toks := tk'' }) →
   codeAny (model prog w) A (.builtin "min.loop" ⟨[.ref I, .none, .ref S], [("default", d)]⟩) R s2 := fun s2 c2 st2 hS2 hR2 => by
  refine codeAny_builtin F.entry_min_loop ?_
  rw [Around.under_plainId F.plain_min_loop _]
  show wpAny _ A.in1 (seqItems? (.ref S) >>= _) _ _ s2
  refine wpAny_bind (wpAny_seqItems hS2 rfl ?_)
  show wpAny _ A.in1 (tryCatch (pyNext (.ref I)) _ >>= _) _ _ s2
  refine wpAny_bind (wpAny_tryCatch (W.done s2 _ _ st2 fun h3 tk3 hk3 => ?_))
  have hS3 := hk3 S _ hSw hS2
  show wpAny _ A.in1 (updateSeq S (fun _ => #[]) >>= _) _ _ _
  refine wpAny_bind ?_
  refine wpAny_updateSeq hS3 rfl (wpAny_bind (wpAny_letGo (wpAny_pure ?_)))
  exact hR2 _ tk3 fun b o hbw hbS e => (Heap.get?_update_other _ _ (Ne.symm hbS)).trans (hk3 b o hbw e)
 refine key _ _ (W.frame _ _ _ hst' fun b hbf o e => (Heap.get?_update_other _ _ (fun h : S = b => hSf (by rw [h]; exact hbf))).trans e) (Heap.get?_update_self _ hS' rfl) fun h'' tk'' hk'' => ?_
 exact hR v h'' tk'' hP fun b o hbw hbS e => hk'' b o hbw hbS ((Heap.get?_update_other _ _ (Ne.symm hbS)).trans (hk' b o hbw e))
theorem E7 {E : Value → Shared → Prop} {s : Shared} {x d : Value} {Q : Value → Shared → Prop}
  (h : wpAny (model prog w) A.in1 (pyIter x) (fun it s₂ => ∃ I fp wr n P St, it = .ref I ∧ Walks prog w A.in1 I fp wr n P St ∧ St 0 s₂.heap ∧ (∀ b ∈ fp, b < s₂.heap.objs.size) ∧ n ≤ 1 ∧
   ∀ v h' tk, (n = 0 ∧ v = d ∨ n = 1 ∧ P 0 v) → (∀ b o, b ∉ wr → s₂.heap.get? b = some o → h'.get? b = some o) → Q v { s₂ with heap := h', toks := tk }) E s) :
  wpAny (model prog w) A (call (.builtin "min") [x] [("default", d)]) Q E s := by
 have xw : (toString "min" ++ toString ".loop" : String) = "min.loop" := by decide
 refine wpAny_call (codeAny_call_builtin F.plain_min F.entry_min ?_)
 have C0 : wpAny (model prog w) A.in1 (Builtin.«min» ⟨[x], [("default", d)]⟩) (fun fin s' => match fin with
   | .done f => (match (Except.ok f : Result) with | .ok (.ret v) => Q v s' | .ok _ => False | .error e => E e s')
   | .again c' => c'.quiet = true ∧ codeAny (model prog w) A c' (fun r s' => match r with | .ok (.ret v) => Q v s' | .ok _ => False | .error e => E e s') s') E s := by
  show wpAny _ A.in1 (Builtin.Builtins.bindParams "min" ["key", "default"] 0 ⟨[], [("default", d)]⟩ >>= _) _ _ s
  refine wpAny_bind (wpAny_of_eq (show Builtin.Builtins.bindParams "min" ["key", "default"] 0 ⟨[], [("default", d)]⟩ = pure [none, some d] from rfl) ?_)
  refine wpAny_bind (wpAny_pure ?_)
  refine wpAny_bind (wpAny_mono h (fun it s₂ h₂ => ?_) fun _ _ e => e)
  obtain ⟨I, fp, wr, n, P, St, rfl, W, hst, hfp, hn, hQ⟩ := h₂
  refine wpAny_bind (wpAny_newObj_type ?_)
  have hSf : s₂.heap.objs.size ∉ fp := fun hm => Nat.lt_irrefl _ (hfp _ hm)
  rw [xw]
  refine wpAny_pure ⟨plainId_quiet F.plain_min_loop _, ?_⟩
  have st2 := W.frame _ _ _ hst (fun b _ o e => Heap.get?_push_of_some { cls := .type "list", data := .seq ([] : List Value).toArray } e)
  match n, hn, W, hQ with
  | 0, _, W, hQ =>
   refine Nt W st2 (Heap.get?_push_size _ rfl) fun h' tk hk => ?_
   exact hQ d h' tk (.inl ⟨rfl, rfl⟩) fun b o hbw e => hk b o hbw (Heap.get?_push_of_some _ e)
  | 1, _, W, hQ =>
   refine N0 W hSf st2 (Heap.get?_push_size _ rfl) fun v h' tk hP hk => ?_
   exact hQ v h' tk (.inr ⟨rfl, hP⟩) fun b o hbw e => hk b o hbw (Nat.ne_of_lt (Heap.lt_size e)) (Heap.get?_push_of_some _ e)
 have ha := KR x d
 simp only [checkBuiltinCall, F.kind_min]
 cases hsig : Manifest.signature? "min" with
 | none => exact wpAny_pure C0
 | some sig =>
  have ha' : Bind.checkArgs "min" sig ⟨[x], [("default", d)]⟩ = pure () := by simpa only [argsOk, hsig] using ha
  simp only [ha']
  exact wpAny_pure C0
end
end L2
namespace L2
open PySem PySem.Spec PyProof.Rows
def fR (h : Heap) (d : Addr) (es : Array DictEntry) (ep : Nat) : Prop := ∃ o, h.get? d = some o ∧ o.ExactDict ∧ o.data = .dict es ep
theorem fR.at' {h h' : Heap} {d : Addr} {es : Array DictEntry} {ep : Nat} (x : fR h d es ep) (k : ∀ o, h.get? d = some o → h'.get? d = some o) : fR h' d es ep := let ⟨o, e, r⟩ := x; ⟨o, k o e, r⟩
section
variable {prog : Program} {w : World} {A : Around} {E : Value → Shared → Prop} {s : Shared} {es : Array DictEntry}
theorem fR.typeIs {d : Addr} {ep : Nat} (x : fR s.heap d es ep) : s.TypeIs (.ref d) "dict" := let ⟨o, e, c, _⟩ := x; ⟨o, e, c.1⟩
theorem AQ {d : Addr} {ep : Nat} {Q : Value → Shared → Prop} (hd : (d == sysModules) = false) (hm : fR s.heap d es ep)
  (hQ : Q (.ref s.heap.objs.size) { s with heap := s.heap.push { cls := .type "dict_keyiterator", data := .fields #[.ref d, .int 0 0, .int es.size 0, .int ep 0] } }) :
  wpAny (model prog w) A (pyIter (.ref d)) Q E s := by
 obtain ⟨o, ho, hc, gD⟩ := id hm
 have hT := hm.typeIs
 refine wpAny_pyIter_slot hT F.slot_dict_iter (wpAny_call_entry F.slot_dict_iter hT F.entry_dict_iter ?_ (F.args_dict_iter_1 _))
 unfold Builtin.«dict.__iter__» Builtin.Dict.dictSlotNone
 refine wpAny_bind (wpAny_bind (wpAny_notOrdered_dict hT ?_))
 show wpAny _ _ (pure (Value.ref d)) _ _ s
 refine wpAny_pure ?_
 show wpAny _ _ (Builtin.Dict.showsAll d >>= _) _ _ s
 unfold Builtin.Dict.showsAll
 rw [if_neg (by rw [hd]; exact Bool.false_ne_true)]
 refine wpAny_bind (wpAny_pure (wpAny_bind (wpAny_dictEntries ho gD (wpAny_bind (wpAny_dictEpoch ho gD ?_)))))
 refine wpAny_bind (wpAny_newObj_type (wpAny_pure ⟨_, rfl, "dict_keyiterator", _, ⟨_, Heap.get?_push_size _ rfl, rfl⟩, F.slot_dict_keyiterator_next.lookup, ?_⟩))
 simpa [rawInt] using hQ
theorem xx {it d : Addr} {i ep : Nat} {Q : Option Value → Shared → Prop} (hit : s.heap.IsKeyIter it d i es.size ep) (hm : fR s.heap d es ep)
  (h1 : ∀ hlt : i < es.size, ∀ h', h'.IsKeyIter it d (i + 1) es.size ep → Heap.SameBut it s.heap h' → Q (some es[i].key) { s with heap := h' })
  (h2 : es.size ≤ i → A.handled = none ∧ ∀ h', Heap.ExtBut it s.heap h' → Q none { s with heap := h' }) :
  wpAny (model prog w) A (pyNext (.ref it)) Q E s := by
 obtain ⟨o, ho, hc, hd⟩ := id hit
 obtain ⟨od, hod, hcd, hdd⟩ := id hm
 unfold pyNext
 refine wpAny_bind (wpAny_attempt (wpAny_callSpecial?_slot (name := Str.ofString "__next__") hit.typeIs F.slot_dict_keyiterator_next
  (wpAny_call_entry F.slot_dict_keyiterator_next hit.typeIs F.entry_dict_keyiterator_next ?_ (F.args_dict_keyiterator_next_1 _))))
 refine wpAny_bind (wpAny_pure (wpAny_bind (wpAny_bind ?_)))
 refine wpAny_bind (wpAny_typeNameOfWhole_keyiter hit.typeIs (wpAny_pure ?_))
 refine wpAny_bind (wpAny_fieldsOf ho hd ?_)
 simp only [show Builtin.Dict_items.ownsTuple "dict_keyiterator" = false by decide, Bool.false_eq_true, if_false]
 show wpAny _ _ (if (Value.ref d == Value.none) = true then _ else _) _ _ s
 rw [if_neg (show ¬ ((Value.ref d == Value.none) = true) from Bool.false_ne_true)]
 refine wpAny_bind (wpAny_pure (wpAny_bind (wpAny_dictEntries hod hdd ?_)))
 rw [if_neg (by simp)]
 refine wpAny_bind (wpAny_pure (wpAny_bind (wpAny_dictEpoch hod hdd ?_)))
 rw [if_neg (by simp)]
 refine wpAny_pure ?_
 rcases Nat.lt_or_ge i es.size with hlt | hge
 ·simp only [show ¬ ((i : Int) < 0) from by omega, if_false, Int.toNat_natCast, Array.getElem?_eq_getElem hlt]
  refine wpAny_bind (wpAny_bind (wpAny_typeNameOfWhole_keyiter hit.typeIs (wpAny_pure ?_)))
  refine wpAny_bind (wpAny_isOneOf_keyiter hit.typeIs ?_)
  show wpAny _ _ (setField (.ref it) 1 (rawInt ((i : Int) + 1)) >>= _) _ _ s
  refine wpAny_bind (wpAny_setField ho hd (by simp) ?_)
  have hit' : (s.heap.update it (Obj.mapFields (·.setIfInBounds 1 (rawInt ((i : Int) + 1))))).IsKeyIter it d (i + 1) es.size ep :=
   ⟨_, Heap.get?_update_self _ ho (Obj.isFreed_of_fields (Obj.data_mapFields hd _)), (Obj.cls_mapFields ..).trans hc, by rw [Obj.data_mapFields hd]; simp [rawInt]⟩
  refine wpAny_bind (wpAny_holding (wpAny_bind (wpAny_isOneOf_keyiter (s := { s with heap := s.heap.update it (Obj.mapFields (·.setIfInBounds 1 (rawInt ((i : Int) + 1)))) }) hit'.typeIs ?_)))
  show wpAny _ _ (pure es[i].key) _ _ _
  exact wpAny_pure (wpAny_pure ⟨_, rfl, wpAny_pure (h1 hlt _ hit' (Heap.SameBut.update ..))⟩)
 ·obtain ⟨hh, hQ⟩ := h2 hge
  simp only [show ¬ ((i : Int) < 0) from by omega, if_false, Int.toNat_natCast, Array.getElem?_eq_none hge]
  refine wpAny_bind (wpAny_bind (wpAny_typeNameOfWhole_keyiter hit.typeIs (wpAny_pure ?_)))
  show wpAny _ _ (setField (.ref it) 0 .none >>= _) _ _ s
  refine wpAny_bind (wpAny_setField ho hd (by simp) ?_)
  show wpAny _ _ (newExc (.type "StopIteration") [] >>= _) _ _ _
  refine wpAny_bind ?_
  simp only [newExc, newTuple]
  refine wpAny_bind (wpAny_newObj_type ?_ (by size_fits))
  refine wpAny_bind (m := firstArgMember _ _) (wpAny_of_eq (a := Value.none) (by first | rfl | (simp only [firstArgMember]; rfl)) ?_)
  refine wpAny_newObj_type ?_ (by size_fits)
  simp only [raiseNew]
  refine wpAny_bind (wpAny_handled ?_)
  rw [show A.in1.handled = none from hh]
  refine wpAny_bind (wpAny_pure (wpAny_throw ?_))
  refine wpAny_bind (wpAny_isInstance (T := "StopIteration") (b := true) ⟨_, Heap.get?_push_size _ rfl, rfl⟩ isSubtype_stop ?_)
  exact wpAny_pure (hQ _ (((Heap.SameBut.update ..).extBut.push _).push _))
theorem yO (hh : A.handled = none) (I d : Addr) (hne : d ≠ I) (es : Array DictEntry) (ep : Nat) :
  Walks prog w A I [I, d] [I] es.size (fun i v => ∃ e, es[i]? = some e ∧ v = e.key) (fun i h => h.IsKeyIter I d i es.size ep ∧ fR h d es ep) where
 sub := fun b hb => by simp at hb; simp [hb]
 frame := fun _ _ _ st hk => ⟨st.1.at fun o e => hk I (by simp) o e, st.2.at' fun o e => hk d (by simp) o e⟩
 item := fun i s Q E hi st hQ => xx st.1 st.2 (fun hlt h' hit' hs' => hQ _ h' s.toks ⟨es[i], by simp [hlt], rfl⟩ ⟨hit', st.2.at' fun o e => hs'.extBut d o hne e⟩ fun b o hb e => hs'.extBut b o (fun h => hb (by simp [h])) e) fun hge => absurd hi (Nat.not_lt.mpr hge)
 done := fun s Q E st hQ => xx st.1 st.2 (fun hlt => absurd hlt (Nat.lt_irrefl _)) fun _ => ⟨hh, fun h' he' => hQ h' s.toks fun b o hb e => he' b o (fun h => hb (by simp [h])) e⟩
 self := fun _ _ _ _ st hQ => wpAny_pyIter_keyiter st.1 hQ
end
end L2
namespace L2
open PySem PySem.Spec PyProof.Rows
section
variable {X : Cx}
def uW (te : TE) : TE := fun σ H Q => te σ H fun x H1 => ∃ a kvs, x = .ref a ∧ H1 a = some (.dT kvs) ∧ ((kvs = [] ∧ Q .au H1) ∨ ∃ k v, kvs = [(k, v)] ∧ ∀ p, H1 p = some (.tup (k.map kV)) → Q (.ref p) H1)
theorem Kn {e : Expr} {te : TE} {p p2 p3 pos : Pos} {j : Nat} (hc : X.calm = true) (hg : Gl X "min") (hm : X.mg "min" = none) (he : PE X e te) (hs : starEach [e] X.env = [(false, eval e X.env)] := by rfl) :
  PE X (.Call (.Name "min" p) [e] [⟨some "default", .Constant .none j p2, p3⟩] pos) (uW te) := by
 intro pins s σ H Q I h
 refine wpAny_Call_Name_kw (hV (u := .builtin "min") I hg hm (by kernel_rfl) ?_)
 refine callWith_kw ?_ (by rw [hs]; rfl) (by rw [hs]; rfl)
 rw [hs]
 show wpAny _ _ (spliced ((false, eval e X.env) :: backTo pos [])) _ _ s
 refine Calls.spliced_cons (aA (he pins s σ H _ I h) fun u s1 ⟨x, H1, I1, rx, a, kvs, ex, hd, q⟩ => Calls.spliced_nil ?_)
 subst ex
 cases (show u = Value.ref a from rx)
 refine kws_cons (Constant_none (kws_nil ?_))
 show wpAny _ _ (call (.builtin "min") [.ref a] [("default", .none)]) _ _ s1
 obtain ⟨hz, hS, xs, hp, o, es, ep, ho, hex, gD, hes, hnd⟩ := id (I1.ax a _ hd)
 refine E7 (AQ hS ⟨o, ho, hex, gD⟩ ?_)
 have hlt : a < s1.heap.objs.size := Heap.lt_size ho
 have hW := yO (prog := X.prog) (w := X.w) (A := X.A.in1) (I1.ok.hd hc) s1.heap.objs.size a (Nat.ne_of_lt hlt) es ep
 have st0 : (s1.heap.push { cls := .type "dict_keyiterator", data := .fields #[.ref a, .int 0 0, .int es.size 0, .int ep 0] }).IsKeyIter s1.heap.objs.size a 0 es.size ep ∧ fR (s1.heap.push { cls := .type "dict_keyiterator", data := .fields #[.ref a, .int 0 0, .int es.size 0, .int ep 0] }) a es ep :=
  ⟨⟨_, Heap.get?_push_size _ rfl, rfl, rfl⟩, ⟨o, Heap.get?_push_of_some _ ho, hex, gD⟩⟩
 have hfp : ∀ b ∈ [s1.heap.objs.size, a], b < (s1.heap.push { cls := .type "dict_keyiterator", data := .fields #[.ref a, .int 0 0, .int es.size 0, .int ep 0] }).objs.size := fun b hb => by
  rw [Heap.size_push]
  rcases List.mem_cons.mp hb with e | hb
  ·rw [e]; exact Nat.lt_succ_self _
  ·rw [List.mem_singleton.mp hb]; exact Nat.lt_succ_of_lt hlt
 have kp : ∀ h' : Heap, (∀ b o, b ∉ [s1.heap.objs.size] → (s1.heap.push { cls := .type "dict_keyiterator", data := .fields #[.ref a, .int 0 0, .int es.size 0, .int ep 0] }).get? b = some o → h'.get? b = some o) → ∀ b o, s1.heap.get? b = some o → h'.get? b = some o := fun h' k b o e =>
  k b o (fun z => by have z' := List.mem_singleton.mp z; have := Heap.lt_size e; rw [z'] at this; exact Nat.lt_irrefl _ this) (Heap.get?_push_of_some _ e)
 have hsz : es.size = xs.length := by rw [← Array.length_toList, hes, List.length_map]
 refine ⟨_, _, _, _, _, _, rfl, hW, st0, hfp, ?_, fun v h' tk hv hk => ?_⟩
 ·rcases q with ⟨rfl, _⟩ | ⟨k, v, rfl, _⟩
  ·cases hp; rw [hsz]; exact Nat.zero_le _
  ·cases hp with | cons _ t => cases t; rw [hsz]; exact Nat.le_refl _
 ·have I2 : Inv X pins σ H1 { s1 with heap := h', toks := tk } := I1.kept (t' := tk) (kp h' hk)
  rcases q with ⟨rfl, q⟩ | ⟨k, v', rfl, q⟩
  ·cases hp
   rcases hv with ⟨_, rfl⟩ | ⟨h1, _⟩
   ·exact ⟨.au, H1, I2, rfl, q⟩
   ·rw [hsz] at h1; cases h1
  ·cases hp with
   | @cons _ y _ _ hh t =>
    cases t
    rcases hv with ⟨h1, _⟩ | ⟨_, e, he, rfl⟩
    ·rw [hsz] at h1; cases h1
    ·rw [← Array.getElem?_toList, hes] at he
     cases he
     exact ⟨.ref y.2.1, H1, I2, rfl, q _ hh.2.1⟩
end
end L2
namespace L2
open PySem PySem.Spec PyProof.Rows
theorem bq {f : Str} {v : V} {fs : List (Str × V)} {m : Nat} (h : fs.length ≤ m) : (ae f v fs).length ≤ m + 1 := Nat.le_trans (qa f v fs) (Nat.succ_le_succ h)
def cq (fs gs : List (Str × V)) : Prop := ∀ f, fs.lookup f = gs.lookup f
theorem cq.refl (fs : List (Str × V)) : cq fs fs := fun _ => rfl
theorem cq.put {fs gs : List (Str × V)} (h : cq fs gs) (f : Str) (v : V) : cq (ae f v fs) (ae f v gs) := fun g => by rw [cG, cG, h g]
section
variable {X : Cx}
theorem Nm {pins : List (Addr × Obj)} {σ : St} {H : Hp} {s : Shared} {Q : VK} {p : Addr} (hc : X.calm = true) (I : Inv X pins σ H s) (hd : H p = some (.dT [])) (q : ∀ l, H l = none → Q (.ref l) (upd H l (.lst []))) :
  wpAny (model X.prog X.w) X.A (call (.builtin "sorted") [.ref p]) (EP X pins σ Q) X.xe s := by
 obtain ⟨hz, hS, xs, hp, o, es, ep, ho, hex, gD, hes, hnd⟩ := id (I.ax p _ hd)
 cases hp
 have he : es = #[] := by
  have : es.toList = [] := hes
  exact Array.toList_eq_nil_iff.mp this
 subst he
 have hat : s.heap.DictAt (cJ X.prog X.w) p [] ep := ⟨o, #[], ho, hex, gD, fun e z => absurd z (by simp), .nil, .nil⟩
 refine Calls.call_function_entry kind_sorted plain_sorted entry_sorted (args_sorted1 _) ?_
 unfold Builtin.«sorted»
 refine wpAny_bind (m := checkCount "sorted" 1 1 _) (wpAny_pure ?_)
 refine wpAny_bind (PySem.W.kdu_collect (A := X.A.in1) (PySem.W.kdl_dict (knd := cJ X.prog X.w) (kvs := []) (ep := ep) hS) (I.ok.hd hc) hat (Nat.zero_le _) fun h' tk acc hk' dX => ?_)
 have ha : acc = #[] := Array.eq_empty_of_size_eq_zero dX.1
 subst ha
 refine wpAny_bind (wpAny_newList ?_ (Nat.zero_le _))
 have hoL : (h'.push (seqObj "list" ([] : List Value).toArray 0)).get? h'.objs.size = some (seqObj "list" ([] : List Value).toArray 0) := Heap.get?_push_size _ rfl
 refine wpAny_bind (wpAny_holding (wpAny_call_entry slot_list_sort ⟨_, hoL, rfl⟩ entry_list_sort (list_sort_treeK strKind_oneLt (vs := []) hoL (StrsAre.nil).keysOf (fun v₁ v₂ rest e => nomatch e) (by decide) fun st' a1 a2 => ⟨_, rfl, ?_⟩) (args_list_sort _)))
 refine wpAny_pure ⟨_, rfl, ?_⟩
 obtain ⟨e, he⟩ := sortedHeap_at (out := (arrOf st').map (·.2)) hoL
 have hst : arrOf st' = #[] := Array.eq_empty_of_size_eq_zero (a1.size_eq.trans (pairsOf_size []))
 rw [hst, Array.map_empty] at he
 have I1 : Inv X pins σ H { s with heap := h', toks := tk } := I.kept (t' := tk) hk'
 rw [hst, Array.map_empty]
 refine ⟨.ref h'.objs.size, _, I1.laid (t' := tk) (fun b o z => ?_) (Nat.le_refl _) (show bp X.prog X.w _ _ _ (.lst []) from ⟨Nat.zero_le _, [], e, .nil, he⟩), rfl, q _ (I1.ax.fresh (Nat.le_refl _))⟩
 have hb : b < h'.objs.size := Heap.lt_size z
 rw [sortedHeap_old (Nat.ne_of_lt hb) (by have := Heap.size_push h' (seqObj "list" ([] : List Value).toArray 0); rw [this]; exact Nat.lt_succ_of_lt hb)]
 exact Heap.get?_push_of_some _ z
def JI (K : PySem.W.Frag) : List V → Hp → VK → Prop := fun xs H Q => Ac K xs H Q ∨ zF xs H Q ∨ ∃ p, xs = [.ref p] ∧ H p = some (.dT []) ∧ ∀ l, H l = none → Q (.ref l) (upd H l (.lst []))
theorem EU {K : PySem.W.Frag} (h : X.K = K) (hc : X.calm = true) : bX X (.builtin "sorted") (JI K) := by
 subst h
 intro pins s σ H xs us Q I r h
 rcases h with h | h | ⟨p, rfl, hd, q⟩
 ·exact Gq pins s σ H xs us Q I r h
 ·exact Lj hc pins s σ H xs us Q I r h
 ·obtain ⟨u, rfl, rx⟩ := vals1 r
  cases rx
  exact Nm hc I hd q
theorem ED : bootBuiltins "sorted" = some (.builtin "sorted") := by kernel_rfl
theorem Dv.minD {e : Expr} {te : TE} {p p2 p3 pos : Pos} {j : Nat} (hc : X.calm = true) (hm : X.mg "min" = none) (he : QE X e te) (hg : Gl X "min" := by rfl) (hs : starEach [e] X.env = [(false, eval e X.env)] := by rfl) :
  QE X (.Call (.Name "min" p) [e] [⟨some "default", .Constant .none j p2, p3⟩] pos) (uW te) := ⟨Kn hc hg hm he.h hs⟩
end
end L2
namespace L2
open PySem PySem.Spec PyProof.Rows
structure gT (K : PySem.W.Frag) (x qual : Str) (st : Stmt) (f : Addr) (fd : FuncData) (ds : List Value) : Prop where
 ex : ∃ (oc : Value) (od : Option Addr) (dt : Addr) (kV doc pm : Value) (an : Option Addr) (cdv ct : Value) (osl : Array (Option Value)) (o : Obj) (n : Nat),
  fd = PySem.W.fnOf x qual (cR st) (aU st) (ay st) (.ref dt) kV doc pm an cdv ct ∧ K.lookup f = some ⟨oc, od, .func fd, osl⟩ ∧ PySem.W.codeIn K cdv qual = true ∧ K.lookup dt = some o ∧ o.data = .seq ds.toArray n
 kp : PySem.W.keepIn K (.ref f) = true
section
variable {P : Program} {w : World} {K : PySem.W.Frag} {mg : Str → Option Value} {base : Heap} {CX : cu} {x qual : Str} {st : Stmt} {f : Addr} {fd : FuncData} {N ps : List Str} {k : Nat} {ds : List Value}
theorem gT.jV {sp : Sp} (F : gT K x qual st f fd ds) (S : aF N ps (ay st)) (len : ∀ vs H Q E, sp vs H Q E → vs.length = ps.length)
  (hb : ∀ (cdv : Value) (A : Around) (outer : List Env) (s : Shared) (H : Hp) (vs : List V) (Q : VK) (E : XK), aN k (A.deeper (envOfC qual (ay st) s.heap.objs.size f cdv)) → sp vs H Q E →
   ∃ t, bT (bM CX P w K mg base N qual (ay st) f cdv A outer s H E) (aU st) t ∧ t { nx := fun _ H' => Q .au H', rt := Q } (start N vs) H) : aD P w K mg base CX (k + 1) f fd ps sp := by
 obtain ⟨oc, od, dt, kV, doc, pm, an, cdv, ct, osl, o, n, rfl, lk, hcd, _⟩ := F.ex
 exact pA lk hcd S len fun A outer s H vs Q E hr hsp => hb cdv A outer s H vs Q E hr hsp
theorem gT.ok {sp : Sp} (F : gT K x qual st f fd ds) (S : aF N ps (ay st)) (len : ∀ vs H Q E, sp vs H Q E → vs.length = ps.length)
  (hb : ∀ (cdv : Value) (A : Around) (outer : List Env) (s : Shared) (H : Hp) (vs : List V) (Q : VK) (E : XK), aN k (A.deeper (envOfC qual (ay st) s.heap.objs.size f cdv)) → sp vs H Q E →
   ∃ t, bT (bM aG P w K mg base N qual (ay st) f cdv A outer s H E).j7 (aU st) t ∧ t { nx := fun _ H' => Q .au H', rt := Q } (start N vs) H) : aD P w K mg base aG (k + 1) f fd ps sp :=
 F.jV S len fun cdv A outer s H vs Q E hr hsp => by
  obtain ⟨t, h, q⟩ := hb cdv A outer s H vs Q E hr hsp
  exact ⟨t, h.j7, q⟩
theorem LH {oc : Value} {od an : Option Addr} {osl : Array (Option Value)} {kV doc pm cdv ct : Value} {dt : Addr} {o : Obj} {n : Nat} (l : K.lookup f = some ⟨oc, od, .func (PySem.W.fnOf x qual (cR st) (aU st) (ay st) (.ref dt) kV doc pm an cdv ct), osl⟩)
  (c : PySem.W.codeIn K cdv qual = true) (k : PySem.W.keepIn K (.ref f) = true) (ld : K.lookup dt = some o) (hd : o.data = .seq ds.toArray n) : gT K x qual st f (PySem.W.fnOf x qual (cR st) (aU st) (ay st) (.ref dt) kV doc pm an cdv ct) ds :=
 ⟨⟨oc, od, dt, kV, doc, pm, an, cdv, ct, osl, o, n, rfl, l, c, ld, hd⟩, k⟩
theorem dz.IK {sp : ox} (F : dz K x qual st f fd) (S : aF N ps (ay st)) (len : ∀ outer s vs H Q E, sp outer s vs H Q E → vs.length = ps.length)
  (hb : ∀ (cdv : Value) (A : Around) (outer : List Env) (s : Shared) (H : Hp) (vs : List V) (Q : VK) (E : XK), aN k (A.deeper (envOfC qual (ay st) s.heap.objs.size f cdv)) → sp outer s vs H Q E →
   ∃ t, bT (bM CX P w K mg base N qual (ay st) f cdv A outer s H E) (aU st) t ∧ t { nx := fun _ H' => Q .au H', rt := Q } (start N vs) H) : mw P w K mg base CX (k + 1) f fd ps sp := by
 obtain ⟨oc, od, kV, doc, pm, an, cdv, ct, osl, rfl, lk, hcd⟩ := F.ex
 exact Ol lk hcd S len fun A outer s H vs Q E hr hsp => hb cdv A outer s H vs Q E hr hsp
end
section
variable {X : Cx}
theorem Dv.Mq (i : Nat) {k : Nat} {x : Str} {p pos : Pos} {B : Addr → Prop} {f : Addr} {bA : Hp → VK → XK → Prop} {R : St → XK} (D : gR X.prog X.w X.K X.mg X.base k X.s₀ B f bA) (hB : nv X.outer X.H₀ X.s₀ B) (hf : uR X.s₀ f) (hbf : B f) (hr : aN k X.A) (hx : ed X R)
  (hex : X.ex = [] := by rfl) (hN : X.N[i]? = some x := by rfl) (hv : hX X.env.scope x := by first | exact Or.inl rfl | exact Or.inr (Or.inl rfl) | exact Or.inr (Or.inr rfl))
  (hd : (x == ("__debug__" : Str)) = false := by decide) (hcd : (x == ("__classdict__" : Str)) = false := by decide) : QE X (.Call (.Name x p) [] [] pos) (rh i f bA R) := ⟨Kh hN hv D hB hf hbf hex hr hx hd hcd⟩
end
end L2
namespace L2
open PySem PySem.Spec PyProof.Rows
theorem ck {X : Cx} : ed X (fun _ => E0) where
 pass := fun pins σ H s e s' I hc => by
  obtain ⟨ea, C, od, H', rfl, F, hE⟩ := hc
  exact hE.elim
section
variable {X : Cx}
theorem Dv.nX {P : Addr} {q : Str} {ix : List Nat} {W : List V → dj} {spD : dj → dj} {R : St → XK} {params : Arguments} {body : Expr} {scope : Scope} {bL : List (Str × Addr)} {N' : List Str} {c8 p pos : Pos} {x y : Str} {g : Addr} {fd : FuncData} {k k' : Nat}
  (F : mw X.prog X.w X.K X.mg X.base (bJ X.prog X.w) k' g fd [y] (ra X.prog X.w X.K X.mg X.base (k + 1) spD)) (hr : aN k' X.A) (hm : X.mg x = some (.ref g)) (hk : PySem.W.keepIn X.K (.ref g) = true) (hb : Binds X.K fd [y] []) (hx : ed X R)
  (fv : ∀ (f : Addr) (cdv : Value) (vs : List V) (A : Around) (outer : List Env) (s : Shared) (H : Hp) (Q : VK) (E : XK), aN k (A.deeper (PySem.W.envX q scope s.heap.objs.size f cdv bL)) → W vs H Q E →
   ∃ t, PE (fg X.prog X.w X.K X.mg X.base N' q scope f cdv bL A outer s H E) body t ∧ t (vs.map some) H Q)
  (L : iu X P params scope bL q) (S : gv N' scope bL) (C : gX X N' ix bL)
  (i8 : ∀ pm cd ct, bindArgs (PySem.W.kla_fn "<lambda>" q params body scope bL pm cd ct) ⟨[], []⟩ = pure [] := by exact fun _ _ _ => rfl) (hg : Gl X x := by rfl)
  (hdb : (x == ("__debug__" : Str)) = false := by decide) : QE X (.Call (.Name x p) [.Lambda params body scope c8] [] pos) (sr P q ix W spD R) := ⟨KA L S C F hr hg hm hk hb hx i8 fv hdb⟩
end
end L2
namespace L2
open PySem PySem.Spec PyProof.Rows
def cQ {α : Type} (p : α → Prop) : List α → Prop
 | [] => True
 | a :: r => p a ∧ cQ p r
theorem cQ.mem {α : Type} {p : α → Prop} : ∀ {l : List α}, cQ p l → ∀ a ∈ l, p a
 | _ :: _, h, a, ha => by
  rcases List.mem_cons.mp ha with rfl | ha
  ·exact h.1
  ·exact cQ.mem h.2 a ha
theorem Hl : ∀ {cl : List (Str × Addr)}, (cl.map (·.2)).Nodup → ∀ x y c, cl.lookup x = some c → cl.lookup y = some c → x = y := by
 intro cl nd x y c h1 h2
 have m1 := PySem.mem_of_lookup h1
 have m2 := PySem.mem_of_lookup h2
 induction cl with
 | nil => cases m1
 | cons e r ih =>
  have nd' := List.nodup_cons.mp (show (e.2 :: r.map (·.2)).Nodup from nd)
  rcases List.mem_cons.mp m1 with e1 | e1 <;> rcases List.mem_cons.mp m2 with e2 | e2
  ·rw [← e1] at e2; exact (congrArg Prod.fst e2).symm
  ·exact absurd (List.mem_map.mpr ⟨_, e2, by rw [← e1]⟩) nd'.1
  ·exact absurd (List.mem_map.mpr ⟨_, e1, by rw [← e2]⟩) nd'.1
  ·have go : ∀ {l : List (Str × Addr)}, (l.map (·.2)).Nodup → (x, c) ∈ l → (y, c) ∈ l → x = y := by
    intro l
    induction l with
    | nil => intro _ a; cases a
    | cons e r ih =>
     intro nd a b
     have nd' := List.nodup_cons.mp (show (e.2 :: r.map (·.2)).Nodup from nd)
     rcases List.mem_cons.mp a with e1 | e1 <;> rcases List.mem_cons.mp b with e2 | e2
     ·rw [← e1] at e2; exact (congrArg Prod.fst e2).symm
     ·exact absurd (List.mem_map.mpr ⟨_, e2, by rw [← e1]⟩) nd'.1
     ·exact absurd (List.mem_map.mpr ⟨_, e1, by rw [← e2]⟩) nd'.1
     ·exact ih nd'.2 e1 e2
   exact go nd'.2 e1 e2
theorem gv.of {N : List Str} {scope : Scope} {cl : List (Str × Addr)} (kind : scope.kind = .function) (co : scope.isCoroutine = false) (gen : scope.isGenerator = false) (mr : scope.names.all (fun x => x.2 != .cell) = true)
  (free : N.all (fun x => scope.names.lookup x == some .free) = true) (has : cQ (fun e : Str × NameKind => e.2 = .free → ∃ c, cl.lookup e.1 = some c) scope.names) (nd : (cl.map (·.2)).Nodup) : gv N scope cl where
 kind := kind
 co := co
 gen := gen
 mr := fun x hx => by simpa using List.all_eq_true.mp mr x hx
 free := fun x hx => by simpa using List.all_eq_true.mp free x hx
 has := fun x hx => cQ.mem has _ (PySem.mem_of_lookup hx) rfl
 inj := Hl nd
theorem gX.of {X : Cx} {N' : List Str} {ix : List Nat} {bL : List (Str × Addr)} (len : ix.length = N'.length) (own : X.fn = fun _ => true)
  (at' : cQ (fun e : Nat × Str => X.N[e.1]? = some e.2 ∧ X.env.scope.names.lookup e.2 = some .cell ∧ bL.lookup e.2 = X.env.cells.lookup e.2) (ix.zip N'))
  (dC : cQ (fun e : Str × Addr => X.env.cells.lookup e.1 = some e.2) bL) : gX X N' ix bL where
 len := len
 at' := fun i j h => by
  have hi := (List.getElem?_eq_some_iff.mp h).1
  have hi' : i < N'.length := len ▸ hi
  have hm : (j, N'[i]) ∈ ix.zip N' := by
   refine List.mem_iff_getElem?.mpr ⟨i, ?_⟩
   rw [List.getElem?_zip_eq_some]
   exact ⟨h, List.getElem?_eq_getElem hi'⟩
  have z := cQ.mem at' _ hm
  exact ⟨N'[i], List.getElem?_eq_getElem hi', z.1, z.2.1⟩
 dC := fun x c h => cQ.mem dC _ (PySem.mem_of_lookup h)
 Bi := fun x hx => by
  obtain ⟨i, hi, rfl⟩ := List.getElem_of_mem hx
  have hi' : i < ix.length := len ▸ hi
  have hm : (ix[i], N'[i]) ∈ ix.zip N' := by
   refine List.mem_iff_getElem?.mpr ⟨i, ?_⟩
   rw [List.getElem?_zip_eq_some]
   exact ⟨List.getElem?_eq_getElem hi', List.getElem?_eq_getElem hi⟩
  exact (cQ.mem at' _ hm).2.2
 own := fun _ _ _ => by rw [own]
theorem dz.BB {P : Program} {w : World} {K : PySem.W.Frag} {mg : Str → Option Value} {base : Heap} {CX : cu} {x qual : Str} {st : Stmt} {f : Addr} {fd : FuncData} {N ps : List Str} {k : Nat} {sp : Sp} (F : dz K x qual st f fd) (S : aF N ps (ay st)) (len : ∀ vs H Q E, sp vs H Q E → vs.length = ps.length)
  (hb : ∀ (cdv : Value) (A : Around) (outer : List Env) (s : Shared) (H : Hp) (vs : List V) (Q : VK) (E : XK), fd.code = cdv → aN k (A.deeper (envOfC qual (ay st) s.heap.objs.size f cdv)) → sp vs H Q E →
   ∃ t, bT (bM CX P w K mg base N qual (ay st) f cdv A outer s H E) (aU st) t ∧ t { nx := fun _ H' => Q .au H', rt := Q } (start N vs) H) : aD P w K mg base CX (k + 1) f fd ps sp := by
 obtain ⟨oc, od, kV, doc, pm, an, cdv, ct, osl, rfl, lk, hcd⟩ := F.ex
 exact pA lk hcd S len fun A outer s H vs Q E hr hsp => hb cdv A outer s H vs Q E rfl hr hsp
end L2
namespace L2
open PySem PySem.Spec PyProof.Rows
section
variable {X : Cx}
def G2 (K : PySem.W.Frag) (neg : Bool) : R2 := fun x y H Q => match x, y with
 | .ref a, .ref b => ∃ xs ys : List V, aJ K H a xs ∧ aJ K H b ys ∧ ((ys = [] ∧ Q (.bl (neg ^^ xs.isEmpty)) H) ∨ (xs = [] ∧ Q (.bl (neg ^^ ys.isEmpty)) H))
 | _, _ => False
def rl : V → List V → Hp → VK → Prop := fun x vs H Q => match x, vs with
 | .ref l, [] => ∃ xs y, H l = some (.lst (xs ++ [y])) ∧ Q y (upd H l (.lst xs))
 | _, _ => False
theorem Fo : cI X "list.pop" rl := cI.imp (r := Bz) NZ fun x vs H Q h => by
 unfold rl at h
 split at h
 ·obtain ⟨xs, y, hl, q⟩ := h
  refine ⟨_, xs ++ [y], y, rfl, rfl, hl, ?_, ?_⟩
  ·simp
  ·rw [List.dropLast_concat]; exact q
 ·exact h.elim
def FV : V → List V → Hp → VK → Prop := fun x vs H Q => match x, vs with
 | .ref l, [] => ∃ xs, H l = some (.lst xs) ∧ Q .au (upd H l (.lst []))
 | _, _ => False
def JB : List V → Hp → VK → Prop := fun xs H Q => ∃ p kvs, xs = [.ref p] ∧ H p = some (.dT kvs) ∧ ∀ l (ks : List Addr), ks.length = kvs.length → (∀ (i : Nat) (a : Addr) (k : List Key) (v : V), ks[i]? = some a → kvs[i]? = some (k, v) → H a = some (.tup (k.map kV))) → H l = none →
 Q (.ref l) (upd H l (.lst (ks.map V.ref)))
end
end L2
namespace L2
open PySem PySem.Spec PyProof.Rows
theorem DS {prog : Program} {w : World} {d : Addr} {es : Array DictEntry} {ep : Nat} (lo : (d == sysModules) = false) : PySem.W.KdlSrc prog w "dict" d d es.size (fun i v => ∃ e, es[i]? = some e ∧ v = e.key) (fun h => fR h d es ep) where
 type := fun _ hm => hm.typeIs
 there := fun _ hm => let ⟨_, e, _⟩ := hm; ⟨Heap.lt_size e, Heap.lt_size e⟩
 keep := fun _ _ hm hk => hm.at' fun o e => hk d (.inl rfl) o e
 notList := by decide
 notTuple := by decide
 hint := fun _ _ _ _ hm hq => PySem.W.kdl_hint_dict hm.typeIs hq
 iter := fun _ _ hh hm => ⟨_, _, (fun _ _ hq => AQ lo hm hq), yO hh _ d (let ⟨_, e, _⟩ := hm; Nat.ne_of_lt (Heap.lt_size e)) es ep, ⟨⟨_, Heap.get?_push_size _ rfl, rfl, rfl⟩, hm.at' fun o e => Heap.get?_push_of_some _ e⟩⟩
theorem Ar {α β : Type} {F : α → β → Prop} : ∀ {l₁ : List α} {l₂ : List β}, Paired F l₁ l₂ → ∀ {i : Nat} {a : α} {b : β}, l₁[i]? = some a → l₂[i]? = some b → F a b
 | _, _, .cons h _, 0, _, _, e1, e2 => by cases e1; cases e2; exact h
 | _, _, .cons _ t, i + 1, _, _, e1, e2 => Ar t e1 e2
section
variable {X : Cx}
theorem rO : ∀ {vs : List V} {us : List Value}, vs.length = us.length → (∀ (i : Nat) (v : V) (u : Value), vs[i]? = some v → us[i]? = some u → RelV v u) → Vals vs us
 | [], [], _, _ => .nil
 | v :: vs, u :: us, e, h => .cons (h 0 v u rfl rfl) (rO (by simpa using e) fun i v u h1 h2 => h (i + 1) v u h1 h2)
theorem NA (hc : X.calm = true) : bX X (.type "list") JB := by
 intro pins s σ H xs us Q I r h
 obtain ⟨p, kvs, rfl, hd, q⟩ := h
 obtain ⟨u, rfl, rx⟩ := vals1 r
 cases rx
 obtain ⟨hz, hS, ys, hp, o, es, ep, ho, hex, gD, hes, hnd⟩ := id (I.ax p _ hd)
 have hsz : es.size = ys.length := by rw [← Array.length_toList, hes, List.length_map]
 have hlk : kvs.length = ys.length := hp.length
 refine PySem.W.kdl_call (DS (prog := X.prog) (w := X.w) (ep := ep) (es := es) hS) (I.ok.hd hc) ⟨o, ho, hex, gD⟩ (by rw [hsz, ← hlk]; exact hz) fun h' tk acc c hk hD dX => ?_
 have hal : acc.toList.length = ys.length := by rw [Array.length_toList, dX.1, hsz]
 have hv : Vals ((ys.map (·.2.1)).map V.ref) acc.toList := by
  refine rO (by simp [hal]) fun i v u h1 h2 => ?_
  obtain ⟨e, he, rfl⟩ := dX.2 i u (by rw [← Array.getElem?_toList]; exact h2)
  rw [← Array.getElem?_toList, hes, List.getElem?_map] at he
  rw [List.map_map, List.getElem?_map] at h1
  cases hy : ys[i]? with
  | none => rw [hy] at h1; cases h1
  | some y =>
   rw [hy] at h1 he
   cases h1; cases he
   exact rfl
 refine ⟨.ref s.heap.objs.size, _, I.laid (t' := tk) hk (Nat.le_refl _) (show bp X.prog X.w _ _ _ (.lst ((ys.map (·.2.1)).map V.ref)) from ⟨?_, _, c, hv, ?_⟩), rfl, q _ (ys.map (·.2.1)) ?_ (fun i a k v h1 h2 => ?_) (I.ax.fresh (Nat.le_refl _))⟩
 ·simp only [List.length_map]; rw [← hlk]; exact hz
 ·rw [Array.toArray_toList]; exact hD
 ·rw [List.length_map, hlk]
 ·rw [List.getElem?_map] at h1
  cases hy : ys[i]? with
  | none => rw [hy] at h1; cases h1
  | some y =>
   rw [hy] at h1
   cases h1
   have z := Ar hp h2 hy
   exact z.2.1
end
end L2
namespace L2
open PySem PySem.Spec PyProof.Rows
theorem DB : typeLookup (.type "list_reverseiterator") "__len__" = pure none := by rw [typeLookup_type, builtinLookup_eq_fast]; kernel_rfl
theorem HD : typeLookup (.type "list_reverseiterator") "__length_hint__" = pure (some (.builtin "list_reverseiterator.__length_hint__")) := by rw [typeLookup_type, builtinLookup_eq_fast]; kernel_rfl
section
variable {prog : Program} {w : World} {A : Around} {E : Value → Shared → Prop} {s : Shared} {I : Addr}
theorem Je {Q : Bool → Shared → Prop} (hT : s.TypeIs (.ref I) "list_reverseiterator") (h : Q false s) : wpAny (model prog w) A (Builtin.List.listLengthHint (.ref I)) Q E s := by
 unfold Builtin.List.listLengthHint
 refine wpAny_bind (wpAny_specialOf hT DB ?_)
 show wpAny _ A (specialOf (Value.ref I) (Str.ofString "__length_hint__") >>= _) _ _ _
 refine wpAny_bind (wpAny_specialOf hT HD ?_)
 generalize hid : ("list_reverseiterator.__length_hint__" : String) = id0
 wp_delta
 rw [show splitId id0 = some ("list_reverseiterator", "__length_hint__") from by subst hid; decide +kernel]
 subst hid
 refine wpAny_bind (wpAny_isInstance (T := "list_reverseiterator") (b := true) hT (by rw [isSubtype_type]; kernel_rfl) ?_)
 refine wpAny_ite_split (fun hab => absurd hab (by decide)) (fun _ => ?_)
 refine wpAny_ite_split (fun _ => ?_) (fun hab => absurd (by decide +kernel) hab)
 refine wpAny_ite_split (fun hab => absurd hab (by decide +kernel)) (fun _ => ?_)
 exact wpAny_pure h
theorem GU {R : Result → Shared → Prop} {l S : Addr} {items : Array Value} {res : Value} {c₀ : Nat} (hh : A.handled = none) (hit : s.heap.IsRevIter I l ((items.size : Int) - 1)) (hl : s.heap.IsList l items) (hne : l ≠ I) (hSI : S ≠ I) (hSl : S ≠ l) (hn : items.size ≤ sizeLine)
  (hS : s.heap.get? S = some { cls := .type "list", data := .seq #[] c₀ })
  (hR : ∀ h' tk acc' c', (∀ b o, b ≠ S → b ≠ I → s.heap.get? b = some o → h'.get? b = some o) → h'.get? S = some { cls := .type "list", dict := none, data := .seq acc' c', slots := #[] } → ItemsOf (fun i v => items[items.size - 1 - i]? = some v) acc' items.size → R (.ok (.ret res)) { s with heap := h', toks := tk }) :
  wpAny (model prog w) A.in1 (Builtin.List.listExtendWith (.ref S) (.ref I) res)
   (fun fin s' => match fin with | .done f => R (.ok f) s' | .again c' => c'.quiet = true ∧ codeAny (model prog w) A c' R s') (fun e s' => R (.error e) s') s := by
 have W := Walks.listRev (prog := prog) (w := w) (A := A.in1) hh I l hne items
 have hSf : S ∉ [I, l] := by simp only [List.mem_cons, List.not_mem_nil, or_false, not_or]; exact ⟨hSI, hSl⟩
 have st0 : 0 ≤ items.size ∧ s.heap.IsRevIter I l ((items.size : Int) - 1 - ((0 : Nat) : Int)) ∧ s.heap.IsList l items := ⟨Nat.zero_le _, by simpa using hit, hl⟩
 unfold Builtin.List.listExtendWith
 refine wpAny_bind (wpAny_typeOf hit.typeIs ?_)
 have h1 : Builtin.List.listSameRef (.ref S) (.ref I) = false := by simp [Builtin.List.listSameRef, hSI]
 simp only [h1, show (Value.type "list_reverseiterator" == Value.type "list") = false by decide, show (Value.type "list_reverseiterator" == Value.type "tuple") = false by decide, Bool.or_false, Bool.false_eq_true, if_false]
 refine wpAny_bind (W.self 0 _ _ _ st0 ?_)
 refine wpAny_bind (wpAny_holding (Je hit.typeIs ?_))
 refine wpAny_ite_split (fun h => absurd h (by decide)) (fun _ => wpAny_pure ⟨plainId_quiet PySem.F.plain_extend_loop _, ?_⟩)
 refine codeAny_extend_loopS W.toS hn S hSf res items.size 0 _ #[] c₀ rfl (Nat.zero_le _) st0 hS (ItemsOf.nil _) fun s' acc' c' hm hS' dX => ?_
 rw [Moved.eq_with hm]
 refine hR s'.heap s'.toks acc' c' (fun b o hb hb' e => hm.heap b o (fun xp => ?_) e) hS' dX
 rcases List.mem_cons.mp xp with e' | xp
 ·exact hb e'
 ·exact hb' (List.mem_singleton.mp xp)
theorem Nc {Q : Value → Shared → Prop} {l : Addr} {items : Array Value} (hh : A.handled = none) (hit : s.heap.IsRevIter I l ((items.size : Int) - 1)) (hl : s.heap.IsList l items) (hne : l ≠ I) (hn : items.size ≤ sizeLine)
  (hQ : ∀ h' tk acc' c', (∀ b o, b ≠ I → s.heap.get? b = some o → h'.get? b = some o) → h'.get? s.heap.objs.size = some { cls := .type "list", dict := none, data := .seq acc' c', slots := #[] } → ItemsOf (fun i v => items[items.size - 1 - i]? = some v) acc' items.size →
   Q (.ref s.heap.objs.size) { s with heap := h', toks := tk }) : wpAny (model prog w) A (call (.type "list") [.ref I]) Q E s := by
 have hIlt : I < s.heap.objs.size := let ⟨_, e, _⟩ := hit; Heap.lt_size e
 have hllt : l < s.heap.objs.size := let ⟨_, e, _⟩ := hl; Heap.lt_size e
 refine callType_codes (Q₁ := fun obj s₁ => obj = .ref s.heap.objs.size ∧ s₁ = { s with heap := s.heap.push { cls := .type "list", data := .seq #[] } }) PySem.F.called_list (PySem.F.typeCall_list_1 _) PySem.F.entry_list_init
  (code_list_new _ ⟨rfl, rfl⟩) fun obj s₁ h₁ => ?_
 obtain ⟨rfl, rfl⟩ := h₁
 have hS : (s.heap.push { cls := .type "list", data := .seq #[] }).get? s.heap.objs.size = some { cls := .type "list", data := .seq #[] } := Heap.get?_push_size _ rfl
 refine ⟨⟨_, hS, rfl⟩, PySem.F.args_list_init_2 _ _, ?_⟩
 show wpAny _ _ (do let old ← Builtin.List.listItems (.ref s.heap.objs.size); Builtin.List.listUpdate (.ref s.heap.objs.size) (fun _ => #[]); letGo old.toList.reverse; Builtin.List.listExtendWith (.ref s.heap.objs.size) (.ref I) .none) _ _ _
 refine wpAny_bind ?_
 unfold Builtin.List.listItems
 refine wpAny_bind (wpAny_seqItems hS rfl (wpAny_pure ?_))
 show wpAny _ _ (updateSeq s.heap.objs.size (fun _ => #[]) >>= fun _ => letGo (#[] : Array Value).toList.reverse >>= fun _ => Builtin.List.listExtendWith (.ref s.heap.objs.size) (.ref I) .none) _ _ _
 refine wpAny_bind (wpAny_updateSeq hS rfl ?_)
 have hS₂ := Heap.get?_update_self (Obj.mapSeq (fun _ => (#[] : Array Value))) hS rfl
 have oth : ∀ b o, s.heap.get? b = some o → ((s.heap.push { cls := .type "list", data := .seq #[] }).update s.heap.objs.size (Obj.mapSeq (fun _ => (#[] : Array Value)))).get? b = some o :=
  fun b o e => (Heap.get?_update_other _ _ (Nat.ne_of_gt (Heap.lt_size e))).trans (Heap.get?_push_of_some _ e)
 refine wpAny_bind (wpAny_letGo ?_)
 refine GU (A := A.in1) hh (hit.at fun o e => oth _ o e) (hl.at fun o e => oth _ o e) hne (Nat.ne_of_gt hIlt) (Nat.ne_of_gt hllt) hn hS₂ fun h' tk acc' c' hk hS' dX => ?_
 exact ⟨rfl, hQ h' tk acc' c' (fun b o hb e => hk b o (Nat.ne_of_lt (Heap.lt_size e)) hb (oth b o e)) hS' dX⟩
end
end L2
namespace L2
open PySem PySem.Spec PyProof.Rows
section
variable {X : Cx}
def zk (K : PySem.W.Frag) (te : TE) : TE := fun σ H Q => te σ H fun x H1 => ∃ p ys, x = .ref p ∧ aJ K H1 p ys ∧ ∀ l, H1 l = none → Q (.ref l) (upd H1 l (.lst ys.reverse))
theorem DO {e : Expr} {te : TE} {p q pos qos : Pos} (hc : X.calm = true) (hg : Gl X "list") (hm : X.mg "list" = none) (hg2 : Gl X "reversed") (hm2 : X.mg "reversed" = none) (he : PE X e te) (hs : starEach [e] X.env = [(false, eval e X.env)] := by rfl) :
  PE X (.Call (.Name "list" p) [.Call (.Name "reversed" q) [e] [] qos] [] pos) (zk X.K te) := by
 intro pins s σ H Q I h
 refine wpAny_Call_Name_kw (hV (u := .type "list") I hg hm (by kernel_rfl) ?_)
 refine PyProof.Rows.callWith_type1 ?_
 show wpAny _ _ (spliced ((false, eval (.Call (.Name "reversed" q) [e] [] qos) X.env) :: backTo pos (starEach [] X.env))) _ _ s
 refine Calls.spliced_cons ?_
 refine wpAny_Call_Name_kw (hV (u := .type "reversed") I hg2 hm2 (by kernel_rfl) ?_)
 refine PyProof.Rows.callWith_type1 ?_ (by rw [hs]; rfl) (by rfl)
 rw [hs]
 show wpAny _ _ (spliced ((false, eval e X.env) :: backTo qos [])) _ _ s
 refine Calls.spliced_cons (aA (he pins s σ H _ I h) fun u s1 ⟨x, H1, I1, rx, a, ys, ex, hl, q⟩ => Calls.spliced_nil ?_)
 subst ex
 cases (show u = Value.ref a from rx)
 obtain ⟨its, r', pl, hz⟩ := I1.list hl
 have hlen := r'.length
 obtain ⟨oa, hoa, _⟩ := pl.isList
 have halt : a < s1.heap.objs.size := Heap.lt_size hoa
 refine call_reversed_list pl.isList ?_
 refine Calls.spliced_nil ?_
 refine Nc (I1.ok.hd hc) (l := a) (items := its.toArray) ⟨_, Heap.get?_push_size _ rfl, rfl, rfl⟩ (pl.isList.at fun o e => Heap.get?_push_of_some _ e) (Nat.ne_of_lt halt) (by rw [List.size_toArray, ← hlen]; exact hz) fun h' tk acc c hk hD dX => ?_
 have kp : ∀ b o, s1.heap.get? b = some o → h'.get? b = some o := fun b o e => hk b o (Nat.ne_of_lt (Heap.lt_size e)) (Heap.get?_push_of_some _ e)
 have hsz : s1.heap.objs.size ≤ (s1.heap.push (revObj a ((its.toArray.size : Int) - 1))).objs.size := by rw [Heap.size_push]; exact Nat.le_succ _
 have hv : Vals ys.reverse acc.toList := by
  have ha : acc.size = its.length := by rw [dX.1, List.size_toArray]
  refine rO (by rw [List.length_reverse, hlen, ← ha]; exact Array.length_toList.symm) fun i v u h1 h2 => ?_
  have hu := dX.2 i u (by rw [← Array.getElem?_toList]; exact h2)
  have hi : i < ys.length := by have := (List.getElem?_eq_some_iff.mp h1).1; rwa [List.length_reverse] at this
  rw [List.getElem?_reverse hi] at h1
  obtain ⟨w, hw, rw'⟩ := r'.get h1
  rw [List.getElem?_toArray, List.size_toArray, ← hlen, hw] at hu
  cases hu
  exact rw'
 refine ⟨.ref _, _, I1.laid (t' := tk) kp hsz (show bp X.prog X.w _ _ _ (.lst ys.reverse) from ⟨by rw [List.length_reverse]; exact hz, _, c, hv, by rw [Array.toArray_toList]; exact hD⟩), rfl, q _ (I1.ax.fresh hsz)⟩
theorem Dv.listRev {e : Expr} {te : TE} {p q pos qos : Pos} {K : PySem.W.Frag} (hK : X.K = K) (hc : X.calm = true) (hm : X.mg "list" = none) (hm2 : X.mg "reversed" = none) (he : QE X e te) (hg : Gl X "list" := by rfl) (hg2 : Gl X "reversed" := by rfl) (hs : starEach [e] X.env = [(false, eval e X.env)] := by rfl) :
  QE X (.Call (.Name "list" p) [.Call (.Name "reversed" q) [e] [] qos] [] pos) (zk K te) := hK ▸ ⟨DO hc hg hm hg2 hm2 he.h hs⟩
end
end L2
namespace L2
open PySem PySem.Spec PyProof.Rows
theorem Oi {K : PySem.W.Frag} {x : Str} {f c P : Addr} {oc occ : Value} {od odc : Option Addr} {fd : FuncData} {sl slc : Array (Option Value)} {vs : Array Value} (n : PySem.W.nsIn K mainGlobals x = some (some (.ref f))) (l : K.lookup f = some ⟨oc, od, .func fd, sl⟩) (hc : fd.code = .ref c)
  (lc : K.lookup c = some ⟨occ, odc, .fields vs, slc⟩) (hv : vs[11]? = some (.ref P)) : PySem.W.tabIn K x = some (c, P) := by
 unfold PySem.W.tabIn
 simp only [n, l, hc, lc, hv]
end L2
namespace L2
open PySem PySem.Spec PyProof.Rows
def zR (K : PySem.W.Frag) (l1 l2 : Addr) : It :=
 ⟨fun i H => ∃ xs ys x y, aJ K H l1 xs ∧ aJ K H l2 ys ∧ xs[i]? = some x ∧ ys[i]? = some y,
   fun i H v H' => ∃ t x y, v = .ref t ∧ H t = none ∧ H' = upd H t (.tup [x, y]) ∧ (∀ xs, aJ K H l1 xs → xs[i]? = some x) ∧ ∀ ys, aJ K H l2 ys → ys[i]? = some y,
   fun i H => ∃ xs ys, aJ K H l1 xs ∧ aJ K H l2 ys ∧ (xs.length ≤ i ∨ ys.length ≤ i)⟩
theorem Inv.Hb {X : Cx} {pins : List (Addr × Obj)} {σ : St} {H : Hp} {s : Shared} {h' : Heap} {t' : Nat} {fp : List Addr} (I : Inv X pins σ H s) (hf : ∀ b ∈ fp, eO X pins H b)
  (k : ∀ b o, b ∉ fp → s.heap.get? b = some o → h'.get? b = some o) : Inv X pins σ H { s with heap := h', toks := t' } := by
 have nit : ∀ b u, H b = some u → b ∉ fp := fun b u e z => by rw [(hf b z).1] at e; cases e
 refine I.kM (s' := { s with heap := h', toks := t' }) (ch := fp) rfl ⟨fun b o e n _ hx => k b o hx e, fun b o e n _ hx => ⟨o.slots, k b o hx e⟩, fun b o e n _ => n, fun b o e hx => ⟨o, k b o hx e⟩, fun _ _ e => e, fun _ _ _ e => e, fun b ps e => ⟨#[], by rw [e]; simp⟩⟩ (fun b u e => ?_) I.bare fun b hb => ?_
 ·refine (I.ax b u e).eM (fun c v hc q => k c v (fun z => ?_) q) (fun _ q => q) fun _ _ q => q
  rcases hc with rfl | hc
  ·exact nit _ _ e z
  ·exact nit _ _ hc z
 ·obtain ⟨g1, g2, g3, g4, g5, g6⟩ := hf b hb
  exact ⟨g4, g2, g5, g6⟩
def Nv (z TI TO i1 i2 l1 l2 : Addr) (i : Nat) (h : Heap) : Prop := IsZip h z TI TO .none ∧ IsPair h TI (.ref i1) (.ref i2) ∧ (∃ a b, IsPair h TO a b) ∧ h.IsListIter i1 l1 i ∧ h.IsListIter i2 l2 i
theorem G9 {P : Program} {w : World} {K : PySem.W.Frag} {es : List Expr} {kk : Nat} {fB : Pos} {z TI TO i1 i2 l1 l2 : Addr} (D : ZipApart z TI TO i1 i2 l1 l2) :
  Turn P w K (.Tuple es kk fB) (zR K l1 l2) [z, TI, TO, i1, i2] z (Nv z TI TO i1 i2 l1 l2) where
 mem := by simp
 obj := fun i h ⟨hz, hTI, ⟨a, b, hTO⟩, h1, h2⟩ c hc => by
  simp only [List.mem_cons, List.not_mem_nil, or_false] at hc
  rcases hc with rfl | rfl | rfl | rfl | rfl
  ·exact ⟨_, hz, fun v e => by simp at e⟩
  ·exact ⟨_, hTI, fun v e => by simp at e⟩
  ·exact ⟨_, hTO, fun v e => by simp at e⟩
  ·obtain ⟨o, e, _, d⟩ := h1; exact ⟨o, e, fun v z => by rw [d] at z; cases z⟩
  ·obtain ⟨o, e, _, d⟩ := h2; exact ⟨o, e, fun v z => by rw [d] at z; cases z⟩
 keep := fun i h h' ⟨hz, hTI, ⟨a, b, hTO⟩, h1, h2⟩ k => ⟨k z (by simp) _ hz, k TI (by simp) _ hTI, ⟨a, b, k TO (by simp) _ hTO⟩, h1.at fun o e => k i1 (by simp) o e, h2.at fun o e => k i2 (by simp) o e⟩
 item := by
  intro X hP hw hK hc i pins s σ H E I hf st hg
  subst hP hw hK
  obtain ⟨hz, hTI, ⟨a, b, hTO⟩, h1, h2⟩ := st
  obtain ⟨xs, ys, x, y, hq1, hq2, hx, hy⟩ := hg
  obtain ⟨wq, rv1, p1, _⟩ := I.list hq1
  obtain ⟨ky, rv2, p2, _⟩ := I.list hq2
  obtain ⟨u, hu, ru⟩ := rv1.get hx
  obtain ⟨u', hu', ru'⟩ := rv2.get hy
  refine wpAny_pyNext_zip_item D hz hTI hTO h1 h2 p1.isList p2.isList (x := u) (y := u') (by simpa using hu) (by simpa using hu') fun h' a1 a2 a3 a4 a5 a6 hk => ⟨_, rfl, ?_⟩
  refine wpAny_letOwnedTupleGo_zip (s := { s with heap := h' }) a1 fun h2' hz2 hs2 => ?_
  have lt : ∀ {c o}, s.heap.get? c = some o → s.heap.objs.size ≠ c := fun e => Nat.ne_of_gt (Heap.lt_size e)
  have hTz : s.heap.objs.size ≠ z := lt hz
  have t5 : IsPair h2' s.heap.objs.size u u' := hs2.extBut _ _ hTz a5
  -- the heap without the new pair
  have kp : ∀ c o, c ∉ [z, TI, TO, i1, i2] → s.heap.get? c = some o → h2'.get? c = some o := fun c o hc e => by
   simp only [List.mem_cons, List.not_mem_nil, or_false, not_or] at hc
   exact hs2.extBut _ _ hc.1 (hk c o hc.1 hc.2.2.1 hc.2.2.2.1 hc.2.2.2.2 e)
  have nT : H s.heap.objs.size = none := I.ax.fresh (Nat.le_refl _)
  have hsz : s.heap.objs.size ∉ [z, TI, TO, i1, i2] := by
   simp only [List.mem_cons, List.not_mem_nil, or_false, not_or]
   refine ⟨hTz, lt hTI, lt hTO, ?_, ?_⟩
   ·obtain ⟨_, e, _⟩ := h1; exact lt e
   ·obtain ⟨_, e, _⟩ := h2; exact lt e
  have I1 : Inv X pins σ (upd H s.heap.objs.size (.tup [x, y])) { s with heap := h2' } := by
   have nit : ∀ b u, H b = some u → b ∉ [z, TI, TO, i1, i2] := fun b u e z => by rw [(hf b z).1] at e; cases e
   refine I.kM (s' := { s with heap := h2' }) (ch := [z, TI, TO, i1, i2]) rfl ⟨fun b o e n _ hx => kp b o hx e, fun b o e n _ hx => ⟨o.slots, kp b o hx e⟩, fun b o e n _ => ?_, fun b o e hx => ⟨o, kp b o hx e⟩, fun b xs e => ?_, fun b o u e => ?_, fun b ps e => ⟨#[], ?_⟩⟩ (fun b v e => ?_) I.bare fun b hb => ?_
   ·rw [ah (Nat.ne_of_lt (Heap.lt_size e))]; exact n
   ·rw [ah (cj e nT)]; exact e
   ·rw [ah (cj e nT)]; exact e
   ·rw [ah (cj e nT), e]; simp
   ·by_cases hb : b = s.heap.objs.size
    ·subst hb
     rw [aw] at e; cases e
     exact ⟨fits (by simp), [u, u'], .cons ru (.cons ru' .nil), ⟨_, t5, rfl, _, rfl⟩⟩
    ·rw [ah hb] at e
     refine (I.ax b v e).eM (fun c v' hc q => kp c v' (fun z => ?_) q) (fun c q => by rw [ah (cj q nT)]; exact q) fun c xs q => by rw [ah (cj q nT)]; exact q
     rcases hc with rfl | hc
     ·exact nit _ _ e z
     ·exact nit _ _ hc z
   ·obtain ⟨g1, g2, g3, g4, g5, g6⟩ := hf b hb
    exact ⟨g4, g2, g5, g6⟩
  refine ⟨.ref s.heap.objs.size, _, I1, rfl, ⟨_, x, y, rfl, nT, rfl, fun zs hzs => ?_, fun zs hzs => ?_⟩, ⟨hz2, ?_, ⟨_, _, hs2.extBut _ _ D.TOz a2⟩, a3.extBut hs2.extBut D.i1z, a4.extBut hs2.extBut D.i2z⟩, fun b hb => ?_⟩
  ·rw [I.vm hzs hq1]; exact hx
  ·rw [I.vm hzs hq2]; exact hy
  ·exact hs2.extBut _ _ D.TIz (hk _ _ D.TIz D.TITO D.TIi1 D.TIi2 hTI)
  ·rw [ah (fun (e : b = s.heap.objs.size) => hsz (by rw [← e]; exact hb))]; exact (hf b hb).1
 done := by
  intro X hP hw hK hc i pins s σ H E I hf st hg
  subst hP hw hK
  obtain ⟨hz, hTI, ⟨a, b, hTO⟩, h1, h2⟩ := st
  obtain ⟨xs, ys, hq1, hq2, hend⟩ := hg
  obtain ⟨wq, rv1, p1, _⟩ := I.list hq1
  obtain ⟨ky, rv2, p2, _⟩ := I.list hq2
  have e1 := rv1.length
  have e2 := rv2.length
  have hend' : wq.toArray[i]? = none ∨ ky.toArray[i]? = none := by
   rcases hend with h | h
   ·exact .inl (by simp; omega)
   ·exact .inr (by simp; omega)
  refine wpAny_pyNext_zip_end (I.ok.hd hc) D hz hTI hTO h1 h2 p1.isList p2.isList hend' fun h' hk => ⟨rfl, ?_⟩
  exact I.Hb (t' := s.toks) hf fun c o hc e => by
   simp only [List.mem_cons, List.not_mem_nil, or_false, not_or] at hc
   exact hk c o hc.1 hc.2.2.1 hc.2.2.2.1 hc.2.2.2.2 e
 self := fun _ _ _ _ _ st h => wpAny_pyIter_zip st.1 h
theorem Fl {n z TI TO i1 i2 l1 l2 : Nat} (h1 : i1 = n) (h2 : i2 = n + 1) (h3 : TI = n + 2) (h4 : TO = n + 3) (h5 : z = n + 4) (a : l1 < n) (b : l2 < n) : ZipApart z TI TO i1 i2 l1 l2 := by
 constructor <;> (intro e; have e' : (_ : Nat) = _ := e; omega)
theorem boot_zip : bootBuiltins "zip" = some (.type "zip") := by kernel_rfl
def nK (K : PySem.W.Frag) (ta : TA) : TI := fun σ H R => ta σ H fun vs H1 => ∃ l1 l2, vs = [.ref l1, .ref l2] ∧ (∃ xs, aJ K H1 l1 xs) ∧ (∃ ys, aJ K H1 l2 ys) ∧ R (zR K l1 l2) H1
theorem KZ {X : Cx} {es : List Expr} {kk : Nat} {fB : Pos} {a b : Expr} {ta : TA} {p pos : Pos} (hg : Gl X "zip") (hm : X.mg "zip" = none) (ha : PA X [a, b] ta) (hs : starEach [a, b] X.env = [(false, eval a X.env), (false, eval b X.env)] := by rfl) (hs2 : starEach [b] X.env = [(false, eval b X.env)] := by rfl) :
  PI X (.Tuple es kk fB) (.Call (.Name "zip" p) [a, b] [] pos) (nK X.K ta) := by
 intro pins s σ H R I h
 refine Call_ (hV I hg hm boot_zip (PyProof.Rows.callWith_type1 (aA (ha pos pins s σ H _ I h) fun us s1 ⟨vs, H1, I1, r1, q1⟩ => ?_) (by rw [hs, hs2]) (by rw [hs2]; rfl)))
 obtain ⟨l1, l2, e, ⟨xs, hq1⟩, ⟨ys, hq2⟩, q⟩ := q1
 subst e
 obtain ⟨u, u', rfl, ru, ru'⟩ := vals2 r1
 cases ru
 cases ru'
 obtain ⟨wq, rv1, p1, _⟩ := I1.list hq1
 obtain ⟨ky, rv2, p2, _⟩ := I1.list hq2
 refine call_zip_2 p1.isList p2.isList fun h' z1 z2 z3 z4 z5 z6 hk => ?_
 refine wpAny_pyIter_zip (s := { s1 with heap := h' }) z1 ?_
 have I2 : Inv X pins σ H1 { s1 with heap := h' } := I1.kept (t' := s1.toks) hk
 have lt1 : l1 < s1.heap.objs.size := by obtain ⟨o, n, e, _⟩ := p1; exact Heap.lt_size e
 have lt2 : l2 < s1.heap.objs.size := by obtain ⟨o, n, e, _⟩ := p2; exact Heap.lt_size e
 have D : ZipApart (s1.heap.objs.size + 4) (s1.heap.objs.size + 2) (s1.heap.objs.size + 3) s1.heap.objs.size (s1.heap.objs.size + 1) l1 l2 :=
  Fl rfl rfl rfl rfl rfl lt1 lt2
 refine ⟨_, _, _, _, H1, rfl, I2, G9 D, ⟨z1, z2, ⟨_, _, z3⟩, z4, z5⟩, fun b hb => ?_, q⟩
 have hb' : s1.heap.objs.size ≤ b := by
  simp only [List.mem_cons, List.not_mem_nil, or_false] at hb
  rcases hb with rfl | rfl | rfl | rfl | rfl <;> first | exact Nat.le_refl _ | exact Nat.le_add_right _ _
 exact I1.oU hb' (I1.ax.fresh hb')
end L2
namespace L2
open PySem PySem.Spec PyProof.Rows
def cL (X : Cx) (scope : Scope) (cl : List (Str × Addr)) (N : List Str) (s : Shared) (H : Hp) (ex : List Addr) (C : Addr) : Cx :=
 { X with N := N, s₀ := s, H₀ := H, env := compEnvC scope cl C X.env, outer := X.stack, stack := X.stack, ex := ex, fn := fun _ => false, pn := [], xe := fun _ _ => False }
structure jD (X : Cx) (scope : Scope) (cl : List (Str × Addr)) (caps : List Str) (ix : List Nat) : Prop where
 dC : closureFor scope X.env = pure cl
 sub : ∀ x c, cl.lookup x = some c → X.env.cells.lookup x = some c
 has : ∀ y, ((relabel scope X.env).names.lookup y = some .cell ∨ (relabel scope X.env).names.lookup y = some .free) → ∃ c, cl.lookup y = some c
 len : ix.length = caps.length
 at' : ∀ (i j : Nat), ix[i]? = some j → ∃ x, caps[i]? = some x ∧ X.N[j]? = some x ∧ X.env.scope.names.lookup x = some .cell ∧ (relabel scope X.env).names.lookup x = some .cell ∧ cl.lookup x = X.env.cells.lookup x
theorem jD.of {X : Cx} {scope : Scope} {cl : List (Str × Addr)} {caps : List Str} {ix : List Nat} (dC : closureFor scope X.env = pure cl) (sub : cQ (fun e : Str × Addr => X.env.cells.lookup e.1 = some e.2) cl)
  (has : cQ (fun e : Str × NameKind => (e.2 = .cell ∨ e.2 = .free) → ∃ c, cl.lookup e.1 = some c) (relabel scope X.env).names) (len : ix.length = caps.length)
  (at' : cQ (fun e : Nat × Str => X.N[e.1]? = some e.2 ∧ X.env.scope.names.lookup e.2 = some .cell ∧ (relabel scope X.env).names.lookup e.2 = some .cell ∧ cl.lookup e.2 = X.env.cells.lookup e.2) (ix.zip caps)) : jD X scope cl caps ix where
 dC := dC
 sub := fun x c h => cQ.mem sub _ (PySem.mem_of_lookup h)
 has := fun y hy => by
  rcases hy with h | h
  ·exact cQ.mem has _ (PySem.mem_of_lookup h) (.inl rfl)
  ·exact cQ.mem has _ (PySem.mem_of_lookup h) (.inr rfl)
 len := len
 at' := fun i j h => by
  have hi := (List.getElem?_eq_some_iff.mp h).1
  have hi' : i < caps.length := len ▸ hi
  have hm : (j, caps[i]) ∈ ix.zip caps := by
   refine List.mem_iff_getElem?.mpr ⟨i, ?_⟩
   rw [List.getElem?_zip_eq_some]
   exact ⟨h, List.getElem?_eq_getElem hi'⟩
  have z := cQ.mem at' _ hm
  exact ⟨caps[i], List.getElem?_eq_getElem hi', z⟩
def oX (n : Nat) (ix : List Nat) (wi : TI) (g : TG) (tt : TT) (te : TE) : TE := fun σ H Q => ∃ vs, vk ix σ vs ∧ wi σ H fun J H1 => ∃ W : Nat → List V → Nat → Hp → Prop, (∃ m, W 0 [] m H1) ∧ ∀ i ys m H, W i ys m H →
 ys.length ≤ sizeLine ∧ ((J.stop i H ∧ ∀ l, H l = none → Q (.ref l) (upd H l (.lst ys))) ∨
  (J.go i H ∧ ys.length < sizeLine ∧ ∀ y H', J.gN i H y H' → ∀ σ0 : St, σ0.length = n → g y (σ0 ++ vs.map some) H' fun σ1 H1 => (∃ σ2 : St, σ1 = σ2 ++ vs.map some ∧ σ2.length = n) ∧
   tt σ1 H1 fun c H2 => if c = true then te σ1 H2 fun z H3 => ∃ m', m' < m ∧ W (i + 1) (ys ++ [z]) m' H3 else ∃ m', m' < m ∧ W (i + 1) ys m' H2))
section
variable {X : Cx}
theorem Lu {pins : List (Addr × Obj)} {σ : St} {H : Hp} {s s4 : Shared} {scope : Scope} {cl : List (Str × Addr)} {TN caps : List Str} {ix : List Nat} {vs : List V} {fp : List Addr} {C : Addr} {m : Str → Option Value} (I : Inv X pins σ H s) (CC : jD X scope cl caps ix) (hv : vk ix σ vs) (hf : ∀ b ∈ fp, eO X pins H b) (hlt : ∀ b ∈ fp, b < s.heap.objs.size)
  (hk : scope.kind = .function) (hC : s.heap.objs.size ≤ C)
  (hos : s4.os = s.os) (wC : s4.gens = s.gens) (old : ∀ b o, s.heap.get? b = some o → s4.heap.get? b = some o) (hns : s4.heap.Ns C m) : Inv (cL X scope cl (TN ++ caps) s H fp C) [] ((TN.map fun _ => none) ++ vs.map some) H s4 := by
 refine ⟨⟨I.ok.mod, hk, I.ok.glob, I.ok.blt, hC, fun x y c e1 e2 => I.ok.inj x y c (CC.sub x c e1) (CC.sub y c e2), fun y hy => CC.has y hy, fun _ _ e => (by cases e), I.ok.hd, I.ok.frames, .inl rfl, fun b hb => ⟨Nat.ne_of_lt (Nat.lt_of_lt_of_le (hlt b hb) hC), fun x c e => (hf b hb).2.2.2.2.1 x c (CC.sub x c e)⟩,
  fun b o e => I.bs b o e, Nat.le_trans I.ok.dD I.sz, fun b o e hb => ?_, fun b hb hm => ?_, I.stack, I.ph⟩,
  hos, by rw [wC]; exact I.bare, Un.kept old, ⟨m, hns, fun i y v e1 e2 _ => ?_⟩, fun x c e => ?_, I.ax.fresh hC, fun x c e => I.cY x c (CC.sub x c e), fun p hp => absurd (show p ∈ ([] : List (Addr × Obj)) from hp) (by simp), I.ax.kept old, ?_⟩
 ·rcases (hf b hb).2.2.2.1 with z | z
  ·exact I.ok.gq b o e z
  ·exact absurd (Nat.lt_of_lt_of_le (Nat.lt_of_lt_of_le (Heap.lt_size e) I.ok.dD) z) (Nat.lt_irrefl _)
 ·rcases List.mem_cons.mp (I.iS b hm) with z | z
  ·exact (hf b hb).2.1 z
  ·exact (hf b hb).2.2.1 z
 ·have e1' : (TN ++ caps)[i]? = some y := e1
  have e2' : ((TN.map fun _ => (none : Option V)) ++ vs.map some)[i]? = some (some v) := e2
  by_cases hi : i < TN.length
  ·rw [List.getElem?_append_left (by simpa using hi), List.getElem?_map] at e2'
   cases h : TN[i]? <;> rw [h] at e2' <;> simp at e2'
  ·rw [List.getElem?_append_right (by omega)] at e1'
   rw [List.getElem?_append_right (by simpa using Nat.not_lt.mp hi), List.length_map, List.getElem?_map] at e2'
   have ev : vs[i - TN.length]? = some v := by
    cases h : vs[i - TN.length]? with
    | none => rw [h] at e2'; cases e2'
    | some a => rw [h] at e2'; cases e2'; rfl
   have hlt' : i - TN.length < ix.length := by
    rw [← hv.1]; exact (List.getElem?_eq_some_iff.mp ev).1
   obtain ⟨x, c1, c2, c3, c4, c5⟩ := CC.at' _ _ (List.getElem?_eq_getElem hlt')
   rw [e1'] at c1; cases c1
   have hσ := hv.2 _ _ v (List.getElem?_eq_getElem hlt') ev
   obtain ⟨m0, _, hl⟩ := I.loc
   obtain ⟨u, ru, lk⟩ := hl _ y v c2 hσ (.inr (.inl c3))
   rcases lk with ⟨k1, _⟩ | ⟨_, c, k2, o, k3, k4⟩
   ·have : X.env.scope.names.lookup y = some .local := k1
    rw [c3] at this; cases this
   ·exact ⟨u, ru, .inr ⟨.inl c4, c, by show cl.lookup y = some c; rw [c5]; exact k2, o, old _ _ k3, k4⟩⟩
 ·obtain ⟨v, o, e1, e2⟩ := I.cell x c (CC.sub x c e)
  exact ⟨v, o, old _ _ e1, e2⟩
 ·show ((TN.map fun _ => (none : Option V)) ++ vs.map some).length = (TN ++ caps).length
  rw [List.length_append, List.length_append, List.length_map, List.length_map, hv.1, CC.len]
theorem Gu {elt iter : Expr} {ifs : List Expr} {tg : Expr} {g : TG} {TN caps : List Str} {ix : List Nat} {cl : List (Str × Addr)} {pos : Pos} {scope : Scope} {wi : TI} {tt : TT} {te : TE} (hc : X.calm = true) (hi : PI X tg iter wi)
  (ht : ∀ s H ex C, gK (cL X scope cl (TN ++ caps) s H ex C) ifs tt) (hgt : ∀ s H ex C, PG (cL X scope cl (TN ++ caps) s H ex C) tg g) (he : ∀ s H ex C, PE (cL X scope cl (TN ++ caps) s H ex C) elt te) (CC : jD X scope cl caps ix)
  (hk : scope.kind = .function) (hnf : ∀ y ∈ scope.names, y.2 ≠ .cell)
  {pins : List (Addr × Obj)} {s : Shared} {σ : St} {H : Hp} {Q : VK} {RR : Value → Addr → Result → Shared → Prop} (I : Inv X pins σ H s) (h : oX TN.length ix wi g tt te σ H Q)
  (hRR : ∀ (a C : Addr) (s6 : Shared) (H6 : Hp), Inv X pins σ H6 s6 → (∃ m, s6.heap.Ns C m) → nN X pins H6 C → Q (.ref a) H6 → RR (.ref a) C (.ok .next) s6) :
  wpAny (model X.prog X.w) X.A (eval iter X.env) (fun v s1 => wpAny (model X.prog X.w) X.A (pyIter v) (fun it s2 => wpAny (model X.prog X.w) X.A (newList []) (fun acc s3 =>
   wpAny (model X.prog X.w) X.A (newFunctionEnv scope X.env.globals cl [] X.env.qual none .none (some X.env)) (fun m5 s4 =>
    codeAny (model X.prog X.w) X.A (.compStart (.ListComp elt [⟨tg, iter, ifs, 0⟩] scope pos) 0 it acc { m5 with scope := relabel scope X.env }) (RR acc m5.locals) s4) X.xe s3) X.xe s2) X.xe s1) X.xe s := by
 obtain ⟨vs, hvs, h⟩ := h
 refine aA (hi pins s σ H _ I h) fun v s1 h1 => aA h1 fun itv s2 h2 => ?_
 obtain ⟨it, fp, tn, J, H2, rfl, I2, T, st2, f2, W, ⟨m0, w0⟩, turn⟩ := h2
 have hlt : ∀ b ∈ fp, b < s2.heap.objs.size := fun b hb => let ⟨o, e, _⟩ := T.obj _ _ st2 b hb; Heap.lt_size e
 refine wpAny_newObj_type (wpAny_newFunctionEnv hnf (by intro y hy; simp at hy) (fun h1 hns1 hsb1 => ?_) hk)
 dsimp only at hns1 hsb1 ⊢
 generalize hH2 : s2.heap.push { cls := .type "list", dict := none, data := .seq ([] : List Value).toArray } = G at hns1 hsb1 ⊢
 have hG : G.objs.size = s2.heap.objs.size + 1 := by rw [← hH2, Heap.size_push]
 have hAC : s2.heap.objs.size ≠ G.objs.size := by rw [hG]; exact Nat.ne_of_lt (Nat.lt_succ_self _)
 have dN : s2.heap.objs.size ≤ G.objs.size := by rw [hG]; exact Nat.le_succ _
 have old : ∀ b o, s2.heap.get? b = some o → h1.get? b = some o := fun b o e => by
  exact hsb1.extBut b o (Nat.ne_of_lt (Nat.lt_of_lt_of_le (Heap.lt_size e) dN)) (Heap.get?_push_of_some _ (hH2 ▸ Heap.get?_push_of_some _ e))
 have wQ : h1.get? s2.heap.objs.size = some { cls := .type "list", dict := none, data := .seq ([] : List Value).toArray } :=
  hsb1.extBut _ _ hAC (Heap.get?_push_of_some _ (hH2 ▸ Heap.get?_push_size _ rfl))
 -- the state at the block's entry
 have main : ∀ s4 : Shared, s4 = { s2 with heap := h1, toks := s2.toks + ([] : List (Str × Value)).length } →
   codeAny (model X.prog X.w) X.A (.compLoop (.ListComp elt [⟨tg, iter, ifs, 0⟩] scope pos) 0 (.ref it) (.ref s2.heap.objs.size) (compEnvC scope cl G.objs.size X.env))
    (RR (.ref s2.heap.objs.size) G.objs.size) s4 := by
  rintro s4 rfl
  have I4 : Inv (cL X scope cl (TN ++ caps) s2 H2 fp G.objs.size) [] ((TN.map fun _ => none) ++ vs.map some) H2 { s2 with heap := h1, toks := s2.toks + ([] : List (Str × Value)).length } :=
   Lu I2 CC hvs f2 hlt hk dN rfl rfl old hns1
  have exq : ∀ {H' : Hp} {pl : List (Addr × Obj)}, (∀ b ∈ fp, H' b = none) → (∀ p ∈ pl, p.1 ∉ fp) → ∀ b ∈ fp, eO (cL X scope cl (TN ++ caps) s2 H2 fp G.objs.size) pl H' b := fun hn hp b hb =>
   ⟨hn b hb, Nat.ne_of_lt (Nat.lt_of_lt_of_le (hlt b hb) dN), I4.ok.f6 b hb, .inl hb, fun x c e => (f2 b hb).2.2.2.2.1 x c (CC.sub x c e), fun p hp' e => hp p (by simpa [cL] using hp') (e ▸ hb)⟩
  have nfp : s2.heap.objs.size ∉ fp := fun z => Nat.lt_irrefl _ (hlt _ z)
  refine z0 (fun n s' => ∃ (i : Nat) (ys : List V) (its : List Value) (k : Nat) (σ' : St) (H' : Hp), (∃ σ0 : St, σ' = σ0 ++ vs.map some ∧ σ0.length = TN.length) ∧ Inv (cL X scope cl (TN ++ caps) s2 H2 fp G.objs.size) [] σ' H' s' ∧ tn i s'.heap ∧ (∀ b ∈ fp, H' b = none) ∧ H' s2.heap.objs.size = none ∧ Vals ys its ∧
   s'.heap.get? s2.heap.objs.size = some { cls := .type "list", dict := none, data := .seq its.toArray k } ∧ W i ys n H') (fun _ _ _ => trivial) ?_ m0
   ⟨0, [], [], 0, _, H2, ⟨_, rfl, by simp⟩, I4, T.keep _ _ _ st2 (fun b _ o e => old b o e), fun b hb => (f2 b hb).1, I2.ax.fresh (Nat.le_refl _), .nil, wQ, w0⟩
  rintro n s5 ⟨i, ys, its, k, σ5, H5, ⟨σ0, hq5, hσ⟩, I5, st5, fr5, fa5, rv, ea, w5⟩
  subst hq5
  have Ip : Inv (cL X scope cl (TN ++ caps) s2 H2 fp G.objs.size) [(s2.heap.objs.size, { cls := .type "list", dict := none, data := .seq its.toArray k })] (σ0 ++ vs.map some) H5 s5 := I5.gP fun p hp => by
   have e : p = (s2.heap.objs.size, { cls := .type "list", dict := none, data := .seq its.toArray k }) := by simpa using hp
   subst e
   refine ⟨ea, fa5, hAC, fun z => ?_, fun v z => by cases z⟩
   exact I2.uZ (Nat.le_refl _) (by
    have hz : s2.heap.objs.size ∈ bG X.stack := z
    rcases List.mem_cons.mp (I2.iS _ hz) with q | q
    ·exact absurd I2.lt (by rw [← q]; exact Nat.lt_irrefl _)
    ·exact q)
  have pnf : ∀ p ∈ [((s2.heap.objs.size, { cls := .type "list", dict := none, data := .seq its.toArray k }) : Addr × Obj)], p.1 ∉ fp := fun p hp => by
   have e : p = (s2.heap.objs.size, { cls := .type "list", dict := none, data := .seq its.toArray k }) := by simpa using hp
   subst e; exact nfp
  obtain ⟨hyl, alt⟩ := turn i ys n H5 w5
  rcases alt with ⟨stop, qn⟩ | ⟨go, hys, step⟩
  ·refine aA (T.done (cL X scope cl (TN ++ caps) s2 H2 fp G.objs.size) rfl rfl rfl hc i _ s5 (σ0 ++ vs.map some) H5 (fun _ _ => False) Ip (exq fr5 pnf) st5 stop) fun r s6 ⟨hr, I6⟩ => ?_
   subst hr
   have ea6 := (I6.pin (s2.heap.objs.size, { cls := .type "list", dict := none, data := .seq its.toArray k }) (List.mem_append_right _ (List.mem_singleton.mpr rfl))).1
   obtain ⟨m, hn6, _⟩ := I6.loc
   have hC6 : H5 G.objs.size = none := I6.free
   have lt2 : ∀ b o, s2.heap.get? b = some o → b ≠ s2.heap.objs.size := fun b o e => Nat.ne_of_lt (Heap.lt_size e)
   have wy : Inv X pins σ (upd H5 s2.heap.objs.size (.lst ys)) s6 := by
    refine I2.kM (s' := s6) (ch := fp) I6.os ⟨fun b o e n hb hx => ?_, fun b o e n hb hx => ?_, fun b o e n hx => ?_, fun b o e hx => ?_, fun b xs e => ?_, fun b o u e => ?_, fun b ps e => ?_⟩ ?_ I6.bare fun b hb => ?_
    ·exact I6.base.keep b o e n hb hx
    ·exact I6.base.slot b o e n hb hx
    ·rw [ah (lt2 b o e)]; exact I6.base.free b o e n hx
    ·exact I6.base.there b o e hx
    ·rw [ah (cj e (I2.ax.fresh (Nat.le_refl _)))]; exact I6.base.dB b xs e
    ·rw [ah (cj e (I2.ax.fresh (Nat.le_refl _)))]; exact I6.base.df b o u e
    ·obtain ⟨more, e1⟩ := I6.base.dw b ps e
     exact ⟨more, by rw [ah (cj e (I2.ax.fresh (Nat.le_refl _)))]; exact e1⟩
    ·intro b u e
     by_cases hb : b = s2.heap.objs.size
     ·subst hb
      rw [aw] at e
      cases e
      exact ⟨hyl, its, k, rv, ea6⟩
     ·rw [ah hb] at e
      exact (I6.ax b u e).eM (fun c v _ q => q) (fun c q => by rw [ah (cj q fa5)]; exact q) fun c xs q => by rw [ah (cj q fa5)]; exact q
    ·obtain ⟨g1, g2, g3, g4, g5, g6⟩ := f2 b hb
     exact ⟨g4, g2, g5, g6⟩
   refine hRR _ _ s6 _ wy ⟨m, hn6⟩ ⟨by rw [ah (Ne.symm hAC)]; exact hC6, ?_, ?_, fun y c e z => ?_, fun p hp z => ?_⟩ (qn _ fa5)
   ·exact Nat.ne_of_gt (Nat.lt_of_lt_of_le I2.lt dN)
   ·exact Nat.le_trans I2.sz dN
   ·obtain ⟨v', q⟩ := I2.cell y c e
    exact absurd (Nat.lt_of_lt_of_le q.lt dN) (by rw [z]; exact Nat.lt_irrefl _)
   ·exact absurd (Nat.lt_of_lt_of_le (Heap.lt_size (I2.pin p hp).1) dN) (by rw [z]; exact Nat.lt_irrefl _)
  ·refine aA (T.item (cL X scope cl (TN ++ caps) s2 H2 fp G.objs.size) rfl rfl rfl hc i _ s5 (σ0 ++ vs.map some) H5 (fun _ _ => False) Ip (exq fr5 pnf) st5 go) fun r s6 ⟨u, hr, h6⟩ => ?_
   subst hr
   refine aA h6 fun _ s7 ⟨y, H7, I7, ry, y7, st7, fr7⟩ => ?_
   have I7' := I7.pinned (exq fr7 pnf) (T.obj _ _ st7)
   refine aA (hgt _ _ _ _ _ s7 (σ0 ++ vs.map some) H7 y u _ I7' ry (step y H7 y7 σ0 hσ)) fun _ s8 ⟨σ8, H8, I8, hσ8, q8⟩ => ?_
   refine aA (ht _ _ _ _ _ s8 σ8 H8 _ I8 q8) fun ok s9 ⟨H9, I9, q9⟩ => ?_
   -- what is pinned stays
   have mV : ∀ {s' : Shared} {H' : Hp}, Inv (cL X scope cl (TN ++ caps) s2 H2 fp G.objs.size) ([(s2.heap.objs.size, { cls := .type "list", dict := none, data := .seq its.toArray k })] ++ js fp s7.heap) σ8 H' s' →
     tn (i + 1) s'.heap ∧ (∀ b ∈ fp, H' b = none) ∧ H' s2.heap.objs.size = none ∧ s'.heap.get? s2.heap.objs.size = some { cls := .type "list", dict := none, data := .seq its.toArray k } := fun {s' H'} J' => by
    refine ⟨T.keep _ _ _ st7 fun b hb o e => (J'.pin (b, o) (List.mem_append_right _ (List.mem_append_right _ (jM hb e)))).1, fun b hb => ?_, (J'.pin (s2.heap.objs.size, { cls := .type "list", dict := none, data := .seq its.toArray k }) (List.mem_append_right _ (List.mem_append_left _ (List.mem_singleton.mpr rfl)))).2.1, (J'.pin (s2.heap.objs.size, { cls := .type "list", dict := none, data := .seq its.toArray k }) (List.mem_append_right _ (List.mem_append_left _ (List.mem_singleton.mpr rfl)))).1⟩
    obtain ⟨o, e, _⟩ := T.obj _ _ st7 b hb
    exact (J'.pin (b, o) (List.mem_append_right _ (List.mem_append_right _ (jM hb e)))).2.1
   cases ok with
   | false =>
    obtain ⟨m', hm, w'⟩ := q9
    obtain ⟨k1, k2, k3, k4⟩ := mV I9
    exact ⟨m', hm, i + 1, ys, its, k, σ8, H9, hσ8, I9.gP (pins' := []) (fun _ hp => nomatch hp), k1, k2, k3, rv, k4, w'⟩
   | true =>
    refine aA (he _ _ _ _ _ s9 σ8 H9 _ I9 q9) fun zv s10 ⟨z, H10, I10, rz, hJ⟩ => ?_
    obtain ⟨m', hm, w'⟩ := hJ
    obtain ⟨k1, k2, k3, k4⟩ := mV I10
    have hl := rv.length
    refine call_meets F.slot_list_append ⟨_, k4, rfl⟩ F.entry_list_append (F.args_list_append_2 _ _) (PySem.list_append s2.heap.objs.size its.toArray k zv (by rw [List.size_toArray]; omega)) ⟨k4, ?_⟩
    have q := PySem.IsL.update k4 (·.push zv)
    have ip : its.toArray.push zv = (its ++ [zv]).toArray := by simp
    rw [ip] at q
    have I11 : Inv (cL X scope cl (TN ++ caps) s2 H2 fp G.objs.size) [] σ8 H10 s10 := I10.gP (pins' := []) (fun _ hp => nomatch hp)
    refine ⟨m', hm, i + 1, ys ++ [z], its ++ [zv], _, σ8, H10, hσ8, I11.turned (t' := s10.toks) (it := s2.heap.objs.size) (fun b o hb e => (Heap.get?_update_other s10.heap _ (Ne.symm hb)).trans e) k3 hAC (.inr (Nat.le_refl _)) (fun x c e z => by obtain ⟨v', q⟩ := I2.cell x c (CC.sub x c e); exact absurd q.lt (by rw [z]; exact Nat.lt_irrefl _)) (fun p hp => absurd (show p ∈ ([] : List (Addr × Obj)) from hp) (by simp)),
     T.keep _ _ _ k1 fun b hb o e => (Heap.get?_update_other s10.heap _ (fun z => nfp (by rw [z]; exact hb))).trans e, k2, k3, rv.append (.cons rz .nil), q, w'⟩
 exact codeAny_compStart_list (main _ rfl) (T.self _ 0 _ _ _ (T.keep _ _ _ st2 fun b _ o e => old b o e) (main _ rfl))
theorem Kc {elt iter : Expr} {ifs : List Expr} {tg : Expr} {g : TG} {TN caps : List Str} {ix : List Nat} {cl : List (Str × Addr)} {y : Str} {i : Nat} {py pos spos : Pos} {scope : Scope} {wi : TI} {tt : TT} {te : TE} (hc : X.calm = true) (hN : X.N.Nodup) (hiy : X.N[i]? = some y) (hly : X.env.scope.names.lookup y = some .local) (hi : PI X tg iter wi)
  (ht : ∀ s H ex C, gK (cL X scope cl (TN ++ caps) s H ex C) ifs tt) (hgt : ∀ s H ex C, PG (cL X scope cl (TN ++ caps) s H ex C) tg g) (he : ∀ s H ex C, PE (cL X scope cl (TN ++ caps) s H ex C) elt te) (CC : jD X scope cl caps ix)
  (hsw : swapsWith (.ListComp elt [⟨tg, iter, ifs, 0⟩] scope pos) (some (.Name y py)) spos.line X.env = pure true := by rfl)
  (hk : scope.kind = .function := by rfl) (hnm : ∀ y ∈ scope.names, y.2 = .local → scope.names.lookup y.1 = some .local := by decide +kernel) (hnf : ∀ y ∈ scope.names, y.2 ≠ .cell := by decide +kernel)
  (hs : ∀ x, foldedSetIterable iter X.env x = pure x := by intro _; rfl) : PS X (.Assign [.Name y py] (.ListComp elt [⟨tg, iter, ifs, 0⟩] scope pos) spos) (fX (oX TN.length ix wi g tt te) (eE i)) := by
 intro pins s σ H D I h
 rw [exec_Assign_Name_used _ _ _ _ hsw]
 refine wpAny_bind (wpAny_standAt (wpAny_bind ?_))
 refine wpAny_bind (wpAny_mono (wpAny_comprehension_free (e := .ListComp elt [⟨tg, iter, ifs, 0⟩] scope pos) (use := some (assign (.Name y py) X.env)) (cl := cl) (Q := fun _ s' => SP X pins D .next s') rfl hs CC.dC hk hnm
  (Gu (RR := fun acc C => compPost (model X.prog X.w) X.A X.xe (some (assign (.Name y py) X.env)) (fun _ s' => SP X pins D .next s') acc C) hc hi ht hgt he CC hk hnf I h ?_)) (fun _ s' hq => wpAny_pure (wpAny_pure hq)) fun _ _ e => e)
 intro a C s6 H6 I6 hm o q
 obtain ⟨m, hn⟩ := hm
 refine (show wpAny (model X.prog X.w) X.A (assign (.Name y py) X.env (.ref a)) _ X.xe s6 from ?_)
 refine wpAny_assign_Name (rS I6 hN hiy (.inl hly) (v := .ref a) rfl (fun s' I' hsb => ?_) (.inr hly))
 obtain ⟨b, hsb, hb⟩ := hsb
 have nb : C ≠ b := by
  rcases hb with z | z
  ·rw [z]; exact o.nl
  ·exact fun e => o.nc y b z e.symm
 exact ⟨m, hn.sameBut hsb nb, fun h' hs' => ⟨_, H6, o.go I' hs', q⟩⟩
end
namespace Dv
section
variable {X : Cx}
theorem Jx {K : PySem.W.Frag} {es : List Expr} {kk : Nat} {fB : Pos} {a b : Expr} {ta : TA} {p pos : Pos} (h : X.K = K) (hm : X.mg "zip" = none) (ha : QA X [a, b] ta) (hg : Gl X "zip" := by rfl) (hs : starEach [a, b] X.env = [(false, eval a X.env), (false, eval b X.env)] := by rfl) (hs2 : starEach [b] X.env = [(false, eval b X.env)] := by rfl) :
  QI X (.Tuple es kk fB) (.Call (.Name "zip" p) [a, b] [] pos) (nK K ta) := h ▸ ⟨KZ hg hm ha.h hs hs2⟩
theorem Dp (i : Nat) {elt iter tg : Expr} {g : TG} {ifs : List Expr} {TN caps : List Str} {ix : List Nat} {cl : List (Str × Addr)} {y : Str} {py pos spos : Pos} {scope : Scope} {wi : TI} {tt : TT} {te : TE} (hc : X.calm = true) (hN : X.N.Nodup) (hi : QI X tg iter wi)
  (ht : ∀ s H ex C, mj (cL X scope cl (TN ++ caps) s H ex C) ifs tt) (hgt : ∀ s H ex C, QG (cL X scope cl (TN ++ caps) s H ex C) tg g) (he : ∀ s H ex C, QE (cL X scope cl (TN ++ caps) s H ex C) elt te) (CC : jD X scope cl caps ix) (hiy : X.N[i]? = some y := by rfl) (hly : X.env.scope.names.lookup y = some .local := by rfl)
  (hsw : swapsWith (.ListComp elt [⟨tg, iter, ifs, 0⟩] scope pos) (some (.Name y py)) spos.line X.env = pure true := by rfl)
  (hk : scope.kind = .function := by rfl) (hnm : ∀ y ∈ scope.names, y.2 = .local → scope.names.lookup y.1 = some .local := by decide +kernel) (hnf : ∀ y ∈ scope.names, y.2 ≠ .cell := by decide +kernel)
  (hs : ∀ x, foldedSetIterable iter X.env x = pure x := by intro _; rfl) : QS X (.Assign [.Name y py] (.ListComp elt [⟨tg, iter, ifs, 0⟩] scope pos) spos) (fX (oX TN.length ix wi g tt te) (eE i)) := ⟨Kc hc hN hiy hly hi.h (fun s H ex C => (ht s H ex C).h) (fun s H ex C => (hgt s H ex C).h) (fun s H ex C => (he s H ex C).h) CC hsw hk hnm hnf hs⟩
end
end Dv
section
variable {X : Cx}
def tD : R2 := fun x y H Q => match x, y with
 | .ref a, .ref b => ∃ ts us : List Str, H a = some (.tup (ts.map V.str)) ∧ H b = some (.tup (us.map V.str)) ∧ ts.length = us.length ∧ Q (.bl (!decide (ts = us))) H
 | _, _ => False
theorem FC (hu : X.A.units < cLine) : aO X (compareOp .NotEq) tD := by
 intro pins s σ H x y v u Q I rx ry h
 unfold tD at h
 split at h
 ·obtain ⟨ts, us, ha, hb, hl, q⟩ := h
  cases rx; cases ry
  obtain ⟨i1, r1, t1, _⟩ := I.tuple (cn.of ha)
  obtain ⟨i2, r2, t2, _⟩ := I.tuple (cn.of hb)
  obtain ⟨l1, rfl, e1⟩ := j6 r1
  obtain ⟨l2, rfl, e2⟩ := j6 r2
  have n1 : (strValues l1).toArray.size = ts.length := by rw [← e1]; simp [strValues]
  have n2 : (strValues l2).toArray.size = us.length := by rw [← e2]; simp [strValues]
  have key := SeqAt.RcNeAt.tuples (A := X.A) (s := s) t1 t2 hu (fun j g1 g2 => rq j g1 g2)
  rw [n1, n2, hl, Nat.min_self, beq_self_eq_true, Bool.and_true, ← hl, e1, e2, all_eq hl] at key
  exact key _ _ _ _ ⟨.bl _, H, I, rfl, q⟩
 ·exact h.elim
end
end L2
namespace L2
open PySem PySem.Spec PyProof.Rows
theorem Od {σ : St} (h : σ.length = 2) : ∃ a b, σ = [a, b] := by
 match σ, h with
 | [a, b], _ => exact ⟨a, b, rfl⟩
theorem M3 {K : PySem.W.Frag} {l1 l2 : Addr} {xs ys : List V} {ta : TA} {tt : TT} {te : TE} {σ : St} {H : Hp} {Q : VK} (p : V → V → Bool) (f : V → V → V) (hta : ∀ R : List V → Hp → Prop, R [.ref l1, .ref l2] H → ta σ H R)
  (hs1 : aJ K H l1 xs) (hs2 : aJ K H l2 ys) (hl : xs.length = ys.length) (hz : xs.length ≤ sizeLine)
  (ht : ∀ x y, (x, y) ∈ xs.zip ys → ∀ H1 (R : Bool → Hp → Prop), R (p x y) H1 → tt [some x, some y] H1 R)
  (he : ∀ x y, (x, y) ∈ xs.zip ys → ∀ H1 (R : VK), R (f x y) H1 → te [some x, some y] H1 R)
  (q : ∀ H1, ao H H1 → ∀ l, H1 l = none → Q (.ref l) (upd H1 l (.lst (((xs.zip ys).filter fun e => p e.1 e.2).map fun e => f e.1 e.2)))) :
  oX 2 [] (nK K ta) (oJ K 2 (mG (eE 0) (mG (eE 1) nq))) tt te σ H Q := by
 refine ⟨[], ⟨rfl, fun i j v h => by simp at h⟩, hta _ ⟨l1, l2, rfl, ⟨_, hs1⟩, ⟨_, hs2⟩, ?_⟩⟩
 have hzl : (xs.zip ys).length = xs.length := by rw [List.length_zip, ← hl, Nat.min_self]
 refine ⟨fun i zs m H1 => ao H H1 ∧ zs = (((xs.zip ys).take i).filter fun e => p e.1 e.2).map (fun e => f e.1 e.2) ∧ i ≤ xs.length ∧ m = xs.length - i, ⟨_, ao.refl H, rfl, Nat.zero_le _, rfl⟩, ?_⟩
 rintro i zs m H1 ⟨s1, rfl, hi, rfl⟩
 have hlen : ((((xs.zip ys).take i).filter fun e => p e.1 e.2).map (fun e => f e.1 e.2)).length ≤ i := by
  rw [List.length_map]
  refine Nat.le_trans (List.length_filter_le _ _) ?_
  rw [List.length_take]; omega
 refine ⟨by omega, ?_⟩
 by_cases h : i < xs.length
 ·have h2 : i < ys.length := hl ▸ h
  have hx : xs[i]? = some xs[i] := List.getElem?_eq_getElem h
  have hy : ys[i]? = some ys[i] := List.getElem?_eq_getElem h2
  refine .inr ⟨⟨xs, ys, xs[i], ys[i], s1.seq hs1, s1.seq hs2, hx, hy⟩, by omega, ?_⟩
  rintro v H' ⟨t, x, y, rfl, nt, rfl, hx', hy'⟩ σ0 hσ0
  have ex := hx' xs (s1.seq hs1)
  have ey := hy' ys (s1.seq hs2)
  have hzi : (xs.zip ys)[i]? = some (x, y) := by rw [List.getElem?_zip_eq_some]; exact ⟨ex, ey⟩
  have hm := List.mem_of_getElem? hzi
  obtain ⟨a, b, rfl⟩ := Od hσ0
  have s2 : ao H (upd H1 t (.tup [x, y])) := s1.trans (ao.upd nt)
  refine ⟨t, [x, y], rfl, cn.of aw, rfl, x, [y], rfl, y, [], rfl, rfl, ⟨[some x, some y], rfl, rfl⟩, ?_⟩
  have e1 : ((xs.zip ys).take (i + 1)).filter (fun e => p e.1 e.2) = ((xs.zip ys).take i).filter (fun e => p e.1 e.2) ++ (if p x y = true then [(x, y)] else []) := by
   rw [List.take_add_one, hzi, List.filter_append]
   by_cases hp : p x y = true
   ·simp [hp]
   ·simp [hp]
  refine ht x y hm _ _ ?_
  by_cases hp : p x y = true
  ·rw [if_pos hp]
   refine he x y hm _ _ ⟨_, ?_, s2, ?_, h, rfl⟩
   ·omega
   ·rw [e1, if_pos hp, List.map_append]; rfl
  ·rw [if_neg hp]
   refine ⟨_, ?_, s2, ?_, h, rfl⟩
   ·omega
   ·rw [e1, if_neg hp, List.append_nil]
 ·refine .inl ⟨⟨xs, ys, s1.seq hs1, s1.seq hs2, .inl (by omega)⟩, fun l hl' => ?_⟩
  have := q H1 s1 l hl'
  rw [List.take_of_length_le (by omega)]
  exact this
theorem cW {f : Str} {v u : V} : ∀ {fs : List (Str × V)}, fs.lookup f = some u → (ae f v fs).length = fs.length
 | (g, x) :: r, h => by
  rw [show ae f v ((g, x) :: r) = (if g = f then (g, v) :: r else (g, x) :: ae f v r) from rfl]
  by_cases e : g = f
  ·rw [if_pos e]; rfl
  ·rw [if_neg e]
   have hb : (f == g) = false := beq_eq_false_iff_ne.mpr (Ne.symm e)
   have h' : r.lookup f = some u := by simpa [List.lookup, hb] using h
   rw [List.length_cons, cW h']; rfl
def vC (r : V → List V → Hp → VK → Prop) (to : TE) : TE := fun σ H Q => to σ H fun x H1 => match x with
 | .ref l => (match H1 l with
  | some (.lst _) => r (.ref l) [] H1 Q
  | _ => False)
 | _ => False
section
variable {X : Cx} {name : Str} {id : String} {r : V → List V → Hp → VK → Prop} {o : Expr} {to : TE} {apos aY : Pos}
theorem Hi (slot : Slot "list" name id) (hty : typeOf (.builtin id) = pure (.type "method_descriptor")) (hm : cI X id r) (ho : PE X o to)
  (fz : attributeBase o name X.env (eval o X.env) = eval o X.env := by rfl) (fA : (apos.endLine == aY.line) = true := by rfl) : PE X (.Call (.Attribute o name apos) [] [] aY) (vC r to) := by
 intro pins s σ H Q I h
 refine wpAny_Call_method0_late fz fA (aA (ho pins s σ H _ I h) fun v s1 ⟨x, H1, I1, r1, q1⟩ => ?_)
 dsimp only at q1
 split at q1
 ·rename_i l
  split at q1
  ·rename_i zs el
   obtain ⟨h1, h2⟩ := qw (T := "list") I1 r1 (.inl ⟨rfl, zs, aJ.of el⟩)
   exact ⟨"list", id, PySem.F.plainAttrs_list, slot, hty, h1, h2, Calls.callWith_builtin rfl (PySem.evalArgs_none (hm pins s1 σ H1 (.ref l) [] v [] Q I1 r1 .nil q1))⟩
  ·exact q1.elim
 ·exact q1.elim
theorem Dv.Li (slot : Slot "list" name id) (hty : typeOf (.builtin id) = pure (.type "method_descriptor")) (hm : cI X id r) (ho : QE X o to)
  (fz : attributeBase o name X.env (eval o X.env) = eval o X.env := by rfl) (fA : (apos.endLine == aY.line) = true := by rfl) : QE X (.Call (.Attribute o name apos) [] [] aY) (vC r to) := ⟨Hi slot hty hm ho.h fz fA⟩
end
theorem ao.eU {H H1 : Hp} {l : Addr} {o : HO} (s : ao H H1) (hl : H l = none) : ao H (L2.upd H1 l o) := fun b u e => by
 rw [ah (fun z => by rw [z, hl] at e; cases e)]; exact s b u e
theorem gR.m {P : Program} {w : World} {K : PySem.W.Frag} {mg : Str → Option Value} {base : Heap} {k : Nat} {s1 : Shared} {B : Addr → Prop} {f : Addr} {bA : dj} (D : gR P w K mg base k s1 B f bA) :
  gR P w K mg base k s1 B f (fun H Q E => ∃ (Q0 : VK) (E0 : XK), bA H Q0 E0 ∧ (∀ v H', Q0 v H' → Q v H') ∧ ∀ C od H', E0 C od H' → E C od H') :=
 fun A outer s H Q E hr e0 hk ⟨Q0, E0, hw, hq, he⟩ => codeAny_mono (D A outer s H Q0 E0 hr e0 hk hw) fun r s' z => by
  cases r with
  | error e =>
   obtain ⟨ea, C, od, H', e1, F, z⟩ := z
   exact ⟨ea, C, od, H', e1, F, he _ _ _ z⟩
  | ok fl =>
   cases fl with
   | ret u =>
    obtain ⟨v, H', z1, z2, z3, z4, z5, z6⟩ := z
    exact ⟨v, H', z1, z2, z3, z4, z5, hq _ _ z6⟩
   | next => exact z
   | brk => exact z
   | cont => exact z
theorem l9.Hf {P : Addr} {q : Str} {c : Addr} {H H1 : Hp} (L : l9 P q c H H1) : ∀ b o, b ≠ P → H b = some o → H1 b = some o := fun b o hb e => by
 by_cases hc : b = c
 ·rcases L.old with h | h
  ·rw [hc, h] at e; cases e
  ·rw [h]; exact e
 ·rw [L.rest b hb hc]; exact e
def JK : R2 := fun x y H Q => match x, y with
 | .str i, .str j => Q (.bl (!(!(Builtin.Str.occurrences j i 0 j.length 1).isEmpty))) H
 | _, _ => False
end L2
namespace L2
open PySem PySem.Spec PyProof.Rows
section
variable {X : Cx}
def vJ (K : PySem.W.Frag) (n : Nat) (t : er) : TG := fun v σ H Q => ∃ a xs, v = .ref a ∧ aJ K H a xs ∧ xs.length = n ∧ t xs σ H Q
theorem GA {pos : Pos} {es : List Expr} {k : Nat} {t : er} {n : Nat} (hc : X.calm = true) (h : kj X es t)
  (hn : (assignEach es X.env).length = n := by rfl) (hst : (assignEach es X.env).findIdx? (·.1) = none := by rfl) : PG X (.Tuple es k pos) (vJ X.K n t) := by
 intro pins s σ H v u Q I r hw
 obtain ⟨a, xs, e1, hq, hl, hw⟩ := hw
 subst e1
 cases r
 obtain ⟨its, rv, ht, hz⟩ := I.list hq
 rw [assign_Tuple]
 refine wpAny_bind (wpAny_standAt ?_)
 unfold unpack
 have hsz : (assignEach es X.env).length = its.toArray.size := by rw [hn, List.size_toArray, ← hl, rv.length]
 rw [hsz, hst]
 refine wpAny_bind (wpAny_holding (PySem.W.kun_itemsOf (I.ok.hd hc) ht.isList fun h' hx => ?_))
 have I1 : Inv X pins σ H { s with heap := h' } := I.kept (t' := s.toks) fun b o e => hx b o (Nat.ne_of_lt (Heap.lt_size e)) e
 exact h pins _ σ H xs _ Q I1 (by simpa using rv) hw
theorem Dv.LW {pos : Pos} {K : PySem.W.Frag} {es : List Expr} {k : Nat} {t : er} {n : Nat} (hK : X.K = K) (hc : X.calm = true) (h : mK X es t) (hn : (assignEach es X.env).length = n := by rfl) (hst : (assignEach es X.env).findIdx? (·.1) = none := by rfl) : QG X (.Tuple es k pos) (vJ K n t) := hK ▸ ⟨GA hc h.h hn hst⟩
def rH : List V → Hp → VK → Prop := fun xs H Q => match xs with
 | [.bl b] => Q (.int (if b then 1 else 0)) H
 | _ => False
theorem GJ : bX X (.type "int") rH := by
 intro pins s σ H xs us Q I r h
 unfold rH at h
 split at h
 ·rename_i b
  obtain ⟨u, rfl, rx⟩ := vals1 r
  cases rx
  exact call_int_bool ⟨.int (if b then 1 else 0), H, I.tok _, ⟨_, rfl⟩, h⟩
 ·exact h.elim
theorem Lk : aO X (binaryOp .Pow) (jn zB fun i j => i ^ j.toNat) := NL.imp fun _ _ _ _ h => sS h
def u5 : R2 := fun x y H Q => match x, y with
 | .ref a, .ref b => ∃ xs ys : List V, H a = some (.tup xs) ∧ H b = some (.tup ys) ∧ xs.length = ys.length ∧ xs.all dm = true ∧ ys.all dm = true ∧ (∀ i (h1 : i < xs.length) (h2 : i < ys.length), eD xs[i] ys[i] = true) ∧ Q (.bl false) H
 | _, _ => False
theorem Fx (hu : X.A.units < cLine) : aO X (compareOp .NotEq) u5 := by
 intro pins s σ H x y v u Q I rx ry h
 unfold u5 at h
 split at h
 ·obtain ⟨xs, ys, ha, hb, hl, f1, f2, he, q⟩ := h
  cases rx; cases ry
  obtain ⟨i1, r1, t1, _⟩ := I.tuple (cn.of ha)
  obtain ⟨i2, r2, t2, _⟩ := I.tuple (cn.of hb)
  have n1 := r1.length
  have n2 := r2.length
  have key := SeqAt.RcNeAt.tuples (A := X.A) (s := s) (e := fun _ => true) t1 t2 hu (fun j g1 g2 => by
   have j1 : j < xs.length := by rw [n1]; simpa using g1
   have j2 : j < ys.length := by rw [n2]; simpa using g2
   obtain ⟨u1, e1, ru1⟩ := r1.get (List.getElem?_eq_getElem j1)
   obtain ⟨u2, e2, ru2⟩ := r2.get (List.getElem?_eq_getElem j2)
   have w1 : i1.toArray[j] = u1 := by
    have := (List.getElem?_eq_some_iff.mp e1).2
    simpa using this
   have w2 : i2.toArray[j] = u2 := by
    have := (List.getElem?_eq_some_iff.mp e2).2
    simpa using this
   rw [w1, w2]
   have := xN (A := X.A.in1) (s := s) ru1 ru2 (List.all_eq_true.mp f1 _ (List.getElem_mem j1)) (List.all_eq_true.mp f2 _ (List.getElem_mem j2))
   rw [he j j1 j2] at this
   exact this)
  refine key _ _ _ _ ⟨.bl _, H, I, rfl, ?_⟩
  have e : (!((List.range (min i1.toArray.size i2.toArray.size)).all (fun _ => true) && i1.toArray.size == i2.toArray.size)) = false := by
   have : i1.toArray.size = i2.toArray.size := by simp only [List.size_toArray]; omega
   rw [this, beq_self_eq_true]
   simp
  rw [e]
  exact q
 ·exact h.elim
end
def vP (K : PySem.W.Frag) : R2 := fun x y H Q => match y with
 | .ref p => ∃ xs, (aJ K H p xs ∨ cn K H p xs) ∧ dm x = true ∧ xs.all dm = true ∧ Q (.bl (!dQ x xs)) H
 | _ => False
theorem xD {X : Cx} {K : PySem.W.Frag} (h : X.K = K) : aO X (compareOp .NotIn) (vP K) := h ▸ Ii.imp fun x y H Q z => by
 unfold vP at z
 split at z
 ·obtain ⟨xs, z1, z2, z3, z4⟩ := z
  exact ⟨_, xs, rfl, z1, z2, z3, z4⟩
 ·exact z.elim
end L2
namespace L2
open PySem PySem.Spec PyProof.Rows
structure FT (K : PySem.W.Frag) (mg : Str → Option Value) (x y : Str) (st : Stmt) (ps : List Str) where
 f : Addr
 d : FuncData
 F : dz K x y st f d
 m : mg x = some (.ref f)
 b : Binds K d ps []
structure MT (K : PySem.W.Frag) (C : Addr) (x y : Str) (st : Stmt) (ps : List Str) where
 f : Addr
 d : FuncData
 F : dz K x y st f d
 h : Meth K C x f
 b : Binds K d ps []
def FA (K : PySem.W.Frag) (x y : Str) (st : Stmt) : Prop := ∃ (f : Addr) (oc : Value) (od : Option Addr) (kV dc pm : Value) (an : Option Addr) (cd ct : Value) (sl : Array (Option Value)),
 PySem.W.nsIn K mainGlobals x = some (some (.ref f)) ∧ K.lookup f = some ⟨oc, od, .func (PySem.W.fnOf x y (cR st) (aU st) (ay st) .none kV dc pm an cd ct), sl⟩ ∧ PySem.W.codeIn K cd y = true ∧ PySem.W.keepIn K (.ref f) = true
def MA (K : PySem.W.Frag) (C : Addr) (x y : Str) (st : Stmt) : Prop := ∃ (f : Addr) (oc : Value) (od : Option Addr) (kV dc pm : Value) (an : Option Addr) (cd ct : Value) (sl : Array (Option Value)),
 PySem.W.findIn K (.ref C) x = some (some (.ref f)) ∧ K.lookup f = some ⟨oc, od, .func (PySem.W.fnOf x y (cR st) (aU st) (ay st) .none kV dc pm an cd ct), sl⟩ ∧ PySem.W.codeIn K cd y = true ∧ PySem.W.keepIn K (.ref f) = true ∧ PySem.W.isFn K (.ref f) = true
section
variable {K : PySem.W.Frag} {mg : Str → Option Value} {h : Heap} {C : Addr} {x y : Str} {st : Stmt} {ps : List Str}
theorem FA.ft (X : K.In h) (G : h.Ns mainGlobals mg) (ps : List Str) (hb : ∀ (kV dc pm : Value) (an : Option Addr) (cd ct : Value) (us : List Value), us.length = ps.length → bindArgs (PySem.W.fnOf x y (cR st) (aU st) (ay st) .none kV dc pm an cd ct) ⟨us, []⟩ = pure (ps.zip us)) (a : FA K x y st) : Nonempty (FT K mg x y st ps) := by
 obtain ⟨f, oc, od, kV, dc, pm, an, cd, ct, sl, n, l, c, k⟩ := a
 have F := tI (st := st) l c k
 exact ⟨⟨f, _, F, PySem.W.mg_of X G n, F.binds hb⟩⟩
theorem MA.ft (ps : List Str) (hb : ∀ (kV dc pm : Value) (an : Option Addr) (cd ct : Value) (us : List Value), us.length = ps.length → bindArgs (PySem.W.fnOf x y (cR st) (aU st) (ay st) .none kV dc pm an cd ct) ⟨us, []⟩ = pure (ps.zip us)) (a : MA K C x y st) : Nonempty (MT K C x y st ps) := by
 obtain ⟨f, oc, od, kV, dc, pm, an, cd, ct, sl, n, l, c, k, t⟩ := a
 have F := tI (st := st) l c k
 exact ⟨⟨f, _, F, ⟨n, t, k⟩, F.binds hb⟩⟩
end
end L2
namespace L2
open PySem PySem.Spec PyProof.Rows
section
variable {K : PySem.W.Frag} {mg : Str → Option Value} {h : Heap} {C : Addr} {x y : Str} {st : Stmt} {ps : List Str}
theorem FA.mk {f : Addr} {oc : Value} {od : Option Addr} {kV dc pm : Value} {an : Option Addr} {cd ct : Value} {sl : Array (Option Value)} (n : PySem.W.nsIn K mainGlobals x = some (some (.ref f))) (l : K.lookup f = some ⟨oc, od, .func (PySem.W.fnOf x y (cR st) (aU st) (ay st) .none kV dc pm an cd ct), sl⟩) (c : PySem.W.codeIn K cd y = true) (k : PySem.W.keepIn K (.ref f) = true) : FA K x y st := ⟨_, _, _, _, _, _, _, _, _, _, n, l, c, k⟩
theorem MA.mk {f : Addr} {oc : Value} {od : Option Addr} {kV dc pm : Value} {an : Option Addr} {cd ct : Value} {sl : Array (Option Value)} (n : PySem.W.findIn K (.ref C) x = some (some (.ref f))) (l : K.lookup f = some ⟨oc, od, .func (PySem.W.fnOf x y (cR st) (aU st) (ay st) .none kV dc pm an cd ct), sl⟩) (c : PySem.W.codeIn K cd y = true) (k : PySem.W.keepIn K (.ref f) = true) (t : PySem.W.isFn K (.ref f) = true) : MA K C x y st := ⟨_, _, _, _, _, _, _, _, _, _, n, l, c, k, t⟩
theorem FA.gt (X : K.In h) (G : h.Ns mainGlobals mg) (hb : ∀ (kV dc pm : Value) (an : Option Addr) (cd ct : Value) (us : List Value), us.length = ps.length → bindArgs (PySem.W.fnOf x y (cR st) (aU st) (ay st) .none kV dc pm an cd ct) ⟨us, []⟩ = pure (ps.zip us)) (a : FA K x y st) : Nonempty (FT K mg x y st ps) := FA.ft X G ps hb a
theorem MA.gt (hb : ∀ (kV dc pm : Value) (an : Option Addr) (cd ct : Value) (us : List Value), us.length = ps.length → bindArgs (PySem.W.fnOf x y (cR st) (aU st) (ay st) .none kV dc pm an cd ct) ⟨us, []⟩ = pure (ps.zip us)) (a : MA K C x y st) : Nonempty (MT K C x y st ps) := MA.ft ps hb a
theorem MI {M : MT K C "__init__" y st ps} (a : PySem.W.makesIn K C = true) (b : PySem.W.keepIn K (.ref C) = true) : Mk K C M.f := ⟨a, M.h.at_, M.h.fn, b⟩
theorem gI {dt : Addr} {kV doc pm cdv ct : Value} {an : Option Addr} {o : Obj} {n : Nat} {ds : List Value} (j : Nat) (ld : K.lookup dt = some o) (hd : o.data = .seq ds.toArray n)
  (h : ∀ (dt : Addr) (kV doc pm : Value) (an : Option Addr) (cdv ct : Value) (us : List Value), (us ++ ds.drop j).length = ps.length →
   ∃ k, bindArgs (PySem.W.fnOf x y (cR st) (aU st) (ay st) (.ref dt) kV doc pm an cdv ct) ⟨us, []⟩ = seqItems? (.ref dt) >>= k ∧ k (some ds.toArray) = pure (ps.zip (us ++ ds.drop j))) :
  Binds K (PySem.W.fnOf x y (cR st) (aU st) (ay st) (.ref dt) kV doc pm an cdv ct) ps (ds.drop j) := by
 intro s us X hl
 obtain ⟨k, h1, h2⟩ := h dt kV doc pm an cdv ct us hl
 exact BindsTo.of_defaults rfl (X _ _ ld) hd h1 h2
end
end L2
set_option maxHeartbeats 1000000
namespace L2.bf
open PySem PySem.Spec PyProof.Rows
local macro_rules | `(tactic| walk_at "s") => `(tactic| exact ⟨rfl, rfl, rfl, by decide +kernel, rfl, by decide +kernel, by decide +kernel⟩)
def top (i : Nat) : Stmt := PySem.Challenge.pw_leadnames_k12_who_may.main.body.getD i (.Pass ⟨0, 0, 0, 0⟩)
abbrev Ah : Stmt := top 23
abbrev xY : Stmt := top 24
abbrev AO : Stmt := top 25
abbrev x9 : Stmt := top 26
abbrev ym : Stmt := top 27
abbrev xT : Stmt := top 28
abbrev zM : Stmt := top 29
abbrev zu : Stmt := top 30
abbrev Ba : Stmt := top 31
abbrev zh : Stmt := top 32
abbrev x8 : Stmt := top 33
abbrev zO : Stmt := top 44
abbrev yo : Stmt := top 45
abbrev BR : Stmt := top 46
abbrev qX : Stmt := top 47
abbrev rF : Stmt := top 55
abbrev qI : Stmt := top 57
abbrev uf : Stmt := top 58
abbrev lY : Stmt := top 59
abbrev qR : Stmt := top 62
abbrev qE : Stmt := top 63
abbrev vQ : Stmt := top 64
abbrev rb : Stmt := top 65
abbrev vv : Stmt := top 66
abbrev uA : Stmt := top 67
abbrev tF : Stmt := top 68
abbrev rP : Stmt := top 69
abbrev vp : Stmt := top 70
abbrev tN : Stmt := top 71
abbrev jZ : Stmt := top 72
abbrev je : Stmt := top 73
abbrev vI : Stmt := top 74
abbrev sG : Stmt := top 75
abbrev Bs : Stmt := top 77
abbrev zx : Stmt := top 78
abbrev zU : Stmt := top 79
abbrev AW : Stmt := top 80
abbrev rB : Stmt := top 81
abbrev qj : Stmt := top 82
abbrev rJ : Stmt := top 83
abbrev dW : Stmt := top 84
abbrev qT : Stmt := top 85
theorem Dy : aF ["number"] ["number"] (ay Ah) := by walk_at "s"
theorem IP : aF ["text"] ["text"] (ay xY) := by walk_at "s"
theorem My : aF ["text"] ["text"] (ay AO) := by walk_at "s"
theorem DD : aF ["text"] ["text"] (ay x9) := by walk_at "s"
theorem Oz : aF ["text"] ["text"] (ay ym) := by walk_at "s"
theorem Bw : aF ["path", "parts"] ["path"] (ay xT) := by walk_at "s"
theorem JW : aF ["text"] ["text"] (ay zM) := by walk_at "s"
theorem HS : aF ["text"] ["text"] (ay zu) := by walk_at "s"
theorem Hz : aF ["text"] ["text"] (ay Ba) := by walk_at "s"
theorem Ih : aF ["text"] ["text"] (ay zh) := by walk_at "s"
theorem LQ : aF ["path"] ["path"] (ay x8) := by walk_at "s"
theorem Hd : aF ["house", "folder"] ["house", "folder"] (ay zO) := by walk_at "s"
theorem y6 : aF ["house", "folder", "base"] ["house", "folder"] (ay yo) := by walk_at "s"
theorem zl : aF ["house", "folder", "stack"] ["house", "folder"] (ay BR) := by walk_at "s"
theorem oI : aF ["house", "asker", "folder", "root", "here", "stack", "place"] ["house", "asker", "folder"] (ay qX) := by walk_at "s"
theorem jb : aF ["house", "asker", "folder", "root", "names", "stack", "place"] ["house", "asker", "folder"] (ay rF) := by walk_at "s"
theorem xG : aF ["house", "asker", "from_root", "parts", "last", "ended"] ["house", "asker", "from_root", "parts", "last"] (ay qI) := by walk_at "s"
theorem BS : aF ["house", "asker", "path", "last", "read"] ["house", "asker", "path", "last"] (ay uf) := by walk_at "s"
theorem Ej : aF ["house", "asker", "path", "last"] ["house", "asker", "path", "last"] (ay lY) := by walk_at "s"
theorem yF : aF ["path", "parts"] ["path"] (ay qR) := by walk_at "s"
theorem uK : aF ["house", "asker", "path", "asked", "ended"] ["house", "asker", "path"] (ay qE) := by walk_at "s"
theorem Ks : aF ["house", "seat"] ["house", "seat"] (ay vQ) := by walk_at "s"
theorem Eg : aF ["told"] ["told"] (ay rb) := by walk_at "s"
theorem Gh : aF ["house", "asker", "path"] ["house", "asker", "path"] (ay vv) := by walk_at "s"
theorem LG : aF ["house", "asker", "number", "right", "reason"] ["house", "asker", "number", "right", "reason"] (ay uA) := by walk_at "s"
theorem Ia : aF ["house", "asker", "folder"] ["house", "asker", "folder"] (ay tF) := by walk_at "s"
theorem EZ : aF ["house", "seat"] ["house", "seat"] (ay rP) := by walk_at "s"
theorem zq : aF ["house", "asker", "path", "seat"] ["house", "asker", "path"] (ay vp) := by walk_at "s"
theorem EC : aF ["house", "seat", "number"] ["house", "seat", "number"] (ay tN) := by walk_at "s"
theorem xH : aF ["house", "asker", "path", "mine", "rest", "seat"] ["house", "asker", "path", "mine", "rest"] (ay jZ) := by walk_at "s"
theorem z8 : aF ["house", "asker", "path", "text", "mine", "rest", "seat"] ["house", "asker", "path", "text", "mine", "rest"] (ay je) := by walk_at "s"
theorem y3 : aF ["house", "asker", "path", "lead", "seat"] ["house", "asker", "path", "lead"] (ay vI) := by walk_at "s"
theorem zp : aF ["house", "asker", "path", "mine", "rest", "number"] ["house", "asker", "path", "mine", "rest"] (ay sG) := by walk_at "s"
theorem Ng : aF ["_law_script", "_law_k"] ["_law_script", "_law_k"] (ay Bs) := by walk_at "s"
theorem tL : aF ["_law_cell", "_law_k", "_law_number"] ["_law_cell", "_law_k"] (ay zx) := by walk_at "s"
theorem lr : aF ["_law_cell", "_law_many", "_law_found", "_law_left", "_law_k"] ["_law_cell", "_law_many"] (ay zU) := by walk_at "s"
theorem fG : aF ["_law_deed", "_law_error", "e", "_law_kinds", "_law_words", "_law_found"] ["_law_deed"] (ay AW) := by walk_at "s"
theorem IG : aF ["_law_digit"] ["_law_digit"] (ay rB) := by walk_at "s"
theorem kb : aF ["_law_house", "_law_digits_here", "_law_k", "_law_asker", "_law_mine", "_law_rest", "_law_name", "_law_way"] ["_law_house", "_law_digits_here", "_law_k"] (ay qj) := by walk_at "s"
theorem fm : aF ["_law_house", "_law_number", "_law_thing", "_law_kind", "_law_owner", "_law_mine", "_law_rest", "_law_text", "_law_name", "_law_asker", "_law_sign", "_law_due", "_law_found"] ["_law_house", "_law_number", "_law_thing"] (ay rJ) := by walk_at "s"
theorem om : aF ["_law_house", "_law_cell", "_law_bad", "_law_odd", "_law_who"] ["_law_house", "_law_cell"] (ay dW) := by walk_at "s"
theorem jW : aF ["_law_script", "_law_house", "_law_things", "_law_k", "_law_digits_here"] ["_law_script"] (ay qT) := by walk_at "s"
abbrev yu : Stmt := inClass (top 38) 0
theorem JZ : aF ["self", "number", "kind", "owner", "mine", "rest", "text"] ["self", "number", "kind", "owner", "mine", "rest", "text"] (ay yu) := by walk_at "s"
abbrev BV : Stmt := inClass (top 38) 1
theorem Ku : aF ["self", "asker"] ["self", "asker"] (ay BV) := by walk_at "s"
abbrev yg : Stmt := inClass (top 39) 0
theorem FU : aF ["self"] ["self"] (ay yg) := by walk_at "s"
abbrev yN : Stmt := inClass (top 39) 1
theorem xZ : aF ["self", "kind", "owner", "mine", "rest", "text", "number"] ["self", "kind", "owner", "mine", "rest", "text"] (ay yN) := by walk_at "s"
abbrev xV : Stmt := inClass (top 39) 2
theorem Ed : aF ["self", "owner", "mine", "rest"] ["self", "owner", "mine", "rest"] (ay xV) := by walk_at "s"
abbrev ya : Stmt := inClass (top 39) 3
theorem D3 : aF ["self", "owner", "text", "mine", "rest"] ["self", "owner", "text", "mine", "rest"] (ay ya) := by walk_at "s"
abbrev yz : Stmt := inClass (top 39) 4
theorem HL : aF ["self", "owner", "path"] ["self", "owner", "path"] (ay yz) := by walk_at "s"
abbrev Bn : Stmt := inClass (top 39) 5
theorem Hn : aF ["self"] ["self"] (ay Bn) := by walk_at "s"
abbrev zS : Stmt := inClass (top 39) 6
theorem F8 : aF ["self", "number"] ["self", "number"] (ay zS) := by walk_at "s"
abbrev Bx : Stmt := inClass (top 39) 7
theorem Ge : aF ["self", "folder", "name"] ["self", "folder", "name"] (ay Bx) := by walk_at "s"
abbrev y4 : Stmt := inClass (top 39) 8
theorem LU : aF ["self", "number"] ["self", "number"] (ay y4) := by walk_at "s"
abbrev Bt : Stmt := inClass (top 39) 10
theorem EH : aF ["self", "number"] ["self", "number"] (ay Bt) := by walk_at "s"
abbrev Bl : Stmt := inClass (top 39) 11
theorem Bq : aF ["self", "number", "mine", "rest", "thing"] ["self", "number", "mine", "rest"] (ay Bl) := by walk_at "s"
abbrev AM : Stmt := inClass (top 39) 13
theorem pF : aF ["self", "folder", "name", "number", "thing", "former", "known"] ["self", "folder", "name", "number"] (ay AM) := by walk_at "s"
abbrev yW : Stmt := inClass (top 39) 14
theorem zY : aF ["self", "folder", "name", "number"] ["self", "folder", "name"] (ay yW) := by walk_at "s"
abbrev yS : Stmt := inClass (top 42) 0
theorem Kr : aF ["self", "owner"] ["self", "owner"] (ay yS) := by walk_at "s"
abbrev yU : Stmt := inClass (top 42) 1
theorem MH : aF ["self", "name"] ["self", "name"] (ay yU) := by walk_at "s"
abbrev AV : Stmt := inClass (top 42) 4
theorem GF : aF ["self", "asker"] ["self", "asker"] (ay AV) := by walk_at "s"
abbrev Fc : Stmt := inClass (top 42) 5
abbrev A9 : Stmt := inClass (top 42) 6
theorem Lv : aF ["self", "number"] ["self", "number"] (ay A9) := by walk_at "s"
abbrev xS : Stmt := inClass (top 42) 7
theorem M7 : aF ["self", "number"] ["self", "number"] (ay xS) := by walk_at "s"
abbrev zT : Stmt := inClass (top 42) 8
theorem Bu : aF ["self", "number", "thing"] ["self", "number"] (ay zT) := by walk_at "s"
abbrev AU : Stmt := inClass (top 42) 9
theorem Fe : aF ["self"] ["self"] (ay AU) := by walk_at "s"
abbrev yI : Stmt := inClass (top 42) 10
theorem Fw : aF ["self", "number", "name"] ["self", "number", "name"] (ay yI) := by walk_at "s"
abbrev BO : Stmt := inClass (top 42) 11
theorem Hq : aF ["self", "number"] ["self", "number"] (ay BO) := by walk_at "s"
abbrev BM : Stmt := inClass (top 42) 12
theorem Mv : aF ["self", "number"] ["self", "number"] (ay BM) := by walk_at "s"
abbrev A4 : Stmt := inClass (top 42) 13
theorem Iy : aF ["self", "number"] ["self", "number"] (ay A4) := by walk_at "s"
abbrev xE : Stmt := inClass (top 42) 17
theorem MJ : aF ["self", "asker", "number", "right"] ["self", "asker", "number", "right"] (ay xE) := by walk_at "s"
abbrev zG : Stmt := inClass (top 42) 23
theorem JL : aF ["self", "asker"] ["self", "asker"] (ay zG) := by walk_at "s"
abbrev y8 : Stmt := inClass (top 42) 25
theorem Fz : aF ["self", "number"] ["self", "number"] (ay y8) := by walk_at "s"
abbrev Ao : Stmt := inClass (top 42) 26
theorem GR : aF ["self", "name"] ["self", "name"] (ay Ao) := by walk_at "s"
abbrev A7 : Stmt := inClass (top 42) 27
theorem Df : aF ["self", "asker", "folder"] ["self", "asker", "folder"] (ay A7) := by walk_at "s"
abbrev zL : Stmt := inClass (top 42) 28
theorem IL : aF ["self", "asker", "folder"] ["self", "asker", "folder"] (ay zL) := by walk_at "s"
abbrev zX : Stmt := inClass (top 42) 29
theorem zI : aF ["self", "tree", "owner", "root"] ["self", "tree", "owner"] (ay zX) := by walk_at "s"
abbrev xO : Stmt := inClass (top 51) 0
theorem NQ : aF ["self", "number", "way"] ["self", "number", "way"] (ay xO) := by walk_at "s"
abbrev vF : Stmt := inClass (top 54) 0
theorem Gk : aF ["self", "house", "asker", "last"] ["self", "house", "asker", "last"] (ay vF) := by walk_at "s"
abbrev tH : Stmt := inClass (top 54) 1
theorem xI : aF ["self", "from_root", "parts", "start"] ["self", "from_root", "parts"] (ay tH) := by walk_at "s"
abbrev u6 : Stmt := inClass (top 54) 2
theorem y2 : aF ["self", "part"] ["self"] (ay u6) := by walk_at "s"
abbrev qN : Stmt := inClass (top 54) 4
theorem Ik : aF ["self", "part"] ["self", "part"] (ay qN) := by walk_at "s"
abbrev tZ : Stmt := inClass (top 54) 6
theorem sC : aF ["self", "name", "number", "kind"] ["self", "name"] (ay tZ) := by walk_at "s"
abbrev sH : Stmt := inClass (top 54) 9
theorem uc : aF ["self", "names", "folder"] ["self"] (ay sH) := by walk_at "s"
abbrev yL : Stmt := inClass (top 61) 0
theorem N6 : aF ["self", "folder", "name"] ["self", "folder", "name"] (ay yL) := by walk_at "s"
set_option genInjectivity false in
set_option genSizeOfSpec false in
structure Tx (K : PySem.W.Frag) (mg : Str → Option Value) where
 fU : FT K mg "is_whole" "is_whole" Ah ["number"]
 eI : FT K mg "is_name" "is_name" xY ["text"]
 jO : FT K mg "is_rights" "is_rights" AO ["text"]
 jd : FT K mg "is_text" "is_text" x9 ["text"]
 jA : FT K mg "is_part" "is_part" ym ["text"]
 bS : FT K mg "parts_of" "parts_of" xT ["path"]
 eV : FT K mg "check_name" "check_name" zM ["text"]
 cF : FT K mg "check_rights" "check_rights" zu ["text"]
 kg : FT K mg "check_one_right" "check_one_right" Ba ["text"]
 jR : FT K mg "check_text" "check_text" zh ["text"]
 jy : FT K mg "check_lead" "check_lead" x8 ["path"]
 gf : FT K mg "top_of" "top_of" zO ["house", "folder"]
 jK : FT K mg "base_of" "base_of" yo ["house", "folder"]
 dA : FT K mg "stack_of" "stack_of" BR ["house", "folder"]
 jU : FT K mg "is_seen" "is_seen" qX ["house", "asker", "folder"]
 j3 : FT K mg "names_to" "names_to" rF ["house", "asker", "folder"]
 gb : FT K mg "walk_parts" "walk_parts" qI ["house", "asker", "from_root", "parts", "last"]
 jN : FT K mg "walk_path" "walk_path" uf ["house", "asker", "path", "last"]
 {xv : Addr}
 {pJ : FuncData}
 o9 : gT K "walk" "walk" lY xv pJ [.bool true]
 FJ : mg "walk" = some (.ref xv)
 AI : Binds K pJ ["house", "asker", "path", "last"] []
 vD : Binds K pJ ["house", "asker", "path", "last"] [.bool true]
 jr : FT K mg "check_seat" "check_seat" qR ["path"]
 jL : FT K mg "seat_of" "seat_of" qE ["house", "asker", "path"]
 j8 : FT K mg "thing_at" "thing_at" vQ ["house", "seat"]
 f9 : FT K mg "number_found" "number_found" rb ["told"]
 jB : FT K mg "find_any" "find_any" vv ["house", "asker", "path"]
 jo : FT K mg "check_may" "check_may" uA ["house", "asker", "number", "right", "reason"]
 jS : FT K mg "check_kept" "check_kept" tF ["house", "asker", "folder"]
 jt : FT K mg "check_free" "check_free" rP ["house", "seat"]
 eP : FT K mg "free_seat_of" "free_seat_of" vp ["house", "asker", "path"]
 eN : FT K mg "seat_thing" "seat_thing" tN ["house", "seat", "number"]
 {wz : Addr}
 {mY : FuncData}
 {BX : Tok}
 {wB : Tok}
 o1 : gT K "make_folder" "make_folder" jZ wz mY [.str "lgw" BX, .str "" wB]
 Dk : mg "make_folder" = some (.ref wz)
 qH : Binds K mY ["house", "asker", "path", "mine", "rest"] []
 Ae : Binds K mY ["house", "asker", "path", "mine", "rest"] [.str "" wB]
 x3 : Binds K mY ["house", "asker", "path", "mine", "rest"] [.str "lgw" BX, .str "" wB]
 {wb : Addr}
 {mT : FuncData}
 {B4 : Tok}
 {wt : Tok}
 oQ : gT K "make_file" "make_file" je wb mT [.str "lgw" B4, .str "" wt]
 L9 : mg "make_file" = some (.ref wb)
 ve : Binds K mT ["house", "asker", "path", "text", "mine", "rest"] []
 yC : Binds K mT ["house", "asker", "path", "text", "mine", "rest"] [.str "" wt]
 A5 : Binds K mT ["house", "asker", "path", "text", "mine", "rest"] [.str "lgw" B4, .str "" wt]
 jH : FT K mg "make_lead" "make_lead" vI ["house", "asker", "path", "lead"]
 fV : FT K mg "set_rights" "set_rights" sG ["house", "asker", "path", "mine", "rest"]
 gu : FT K mg "_law_cell_at" "_law_cell_at" Bs ["_law_script", "_law_k"]
 jF : FT K mg "_law_mixed" "_law_mixed" zx ["_law_cell", "_law_k"]
 j0 : FT K mg "_law_digits" "_law_digits" zU ["_law_cell", "_law_many"]
 du : FT K mg "_law_sort" "_law_sort" AW ["_law_deed"]
 dq : FT K mg "_law_rights" "_law_rights" rB ["_law_digit"]
 jc : FT K mg "_law_made" "_law_made" qj ["_law_house", "_law_digits_here", "_law_k"]
 jJ : FT K mg "_law_right" "_law_right" rJ ["_law_house", "_law_number", "_law_thing"]
 {fw : Addr}
 {pL : FuncData}
 oy : dz K "_law_refused" "_law_refused" dW fw pL
 OH : mg "_law_refused" = some (.ref fw)
 qe : Binds K pL ["_law_house", "_law_cell"] []
 {wL : Addr}
 {pO : FuncData}
 ny : dz K "law" "law" qT wL pO
 Fb : mg "law" = some (.ref wL)
 yb : Binds K pO ["_law_script"] []
 {wW : Addr}
 Gp : mg "DOTS" = some (.ref wW)
 rW : ∀ H : Hp, cn K H wW [.str ".", .str ".."]
 {t_FILE : Tok}
 Ay : mg "FILE" = some (.str "file" t_FILE)
 {t_FIRST_TREE : Tok}
 Nh : mg "FIRST_TREE" = some (.str "main" t_FIRST_TREE)
 {t_FOLDER : Tok}
 oN : mg "FOLDER" = some (.str "folder" t_FOLDER)
 {cg : Addr}
 zz : mg "Found" = some (.ref cg)
 {aj : Addr}
 Ml : mg "House" = some (.ref aj)
 {t_LEAD : Tok}
 Kq : mg "LEAD" = some (.str "lead" t_LEAD)
 {t_LETTERS : Tok}
 EB : mg "LETTERS" = some (.str "abcdefghijklmnopqrstuvwxyz" t_LETTERS)
 {iZ : Addr}
 JV : mg "LeadError" = some (.ref iZ)
 {t_MOST_IN_LEAD : Tok}
 DJ : mg "MOST_IN_LEAD" = some (.int 120 t_MOST_IN_LEAD)
 {t_MOST_IN_NAME : Tok}
 Le : mg "MOST_IN_NAME" = some (.int 8 t_MOST_IN_NAME)
 {t_MOST_IN_PATH : Tok}
 Kb : mg "MOST_IN_PATH" = some (.int 2000 t_MOST_IN_PATH)
 {t_MOST_IN_TEXT : Tok}
 KW : mg "MOST_IN_TEXT" = some (.int 60 t_MOST_IN_TEXT)
 {bC : Addr}
 zo : mg "NoAsker" = some (.ref bC)
 {kq : Addr}
 HY : mg "NoDeed" = some (.ref kq)
 {kG : Addr}
 DN : mg "NoHold" = some (.ref kG)
 {kx : Addr}
 E3 : mg "NoName" = some (.ref kx)
 {km : Addr}
 NM : mg "NoPath" = some (.ref km)
 {bH : Addr}
 Bg : mg "NoRights" = some (.ref bH)
 {kI : Addr}
 Fj : mg "NoRow" = some (.ref kI)
 {kF : Addr}
 Fq : mg "NoText" = some (.ref kF)
 {bD : Addr}
 yZ : mg "NoThing" = some (.ref bD)
 {ko : Addr}
 Ha : mg "NoTree" = some (.ref ko)
 {ku : Addr}
 Gw : mg "NoWay" = some (.ref ku)
 {xt : Addr}
 JX : mg "RIGHTS" = some (.ref xt)
 uw : ∀ H : Hp, cn K H xt [.str "", .str "l", .str "g", .str "w", .str "lg", .str "lw", .str "gw", .str "lgw"]
 {wO : Addr}
 G4 : mg "SINGLE_RIGHTS" = some (.ref wO)
 qF : ∀ H : Hp, cn K H wO [.str "l", .str "g", .str "w"]
 {eW : Addr}
 Dh : mg "Seat" = some (.ref eW)
 {aE : Addr}
 Hy : mg "Thing" = some (.ref aE)
 {aB : Addr}
 KL : mg "Things" = some (.ref aB)
 NF : mg "ValueError" = none
 {aM : Addr}
 Oy : mg "Walk" = some (.ref aM)
 xC : mg "all" = none
 g_bool : mg "bool" = none
 Ab : mg "int" = none
 cy : mg "isinstance" = none
 fZ : mg "len" = none
 tK : mg "list" = none
 OA : mg "min" = none
 rX : mg "range" = none
 zA : mg "reversed" = none
 IF : mg "sorted" = none
 j9 : mg "str" = none
 Jk : mg "zip" = none
 ll : MT K aE "__init__" "Thing.__init__" yu ["self", "number", "kind", "owner", "mine", "rest", "text"]
 lM : MT K aE "rights_for" "Thing.rights_for" BV ["self", "asker"]
 lD : MT K aB "__init__" "Things.__init__" yg ["self"]
 gd : MT K aB "add_thing" "Things.add_thing" yN ["self", "kind", "owner", "mine", "rest", "text"]
 iM : MT K aB "add_folder" "Things.add_folder" xV ["self", "owner", "mine", "rest"]
 mm : MT K aB "add_file" "Things.add_file" ya ["self", "owner", "text", "mine", "rest"]
 lz : MT K aB "add_lead" "Things.add_lead" yz ["self", "owner", "path"]
 lC : MT K aB "many" "Things.many" Bn ["self"]
 bQ : MT K aB "at" "Things.at" zS ["self", "number"]
 iC : MT K aB "child" "Things.child" Bx ["self", "folder", "name"]
 lH : MT K aB "names_in" "Things.names_in" y4 ["self", "number"]
 lA : MT K aB "place_of" "Things.place_of" Bt ["self", "number"]
 mM : MT K aB "put_rights" "Things.put_rights" Bl ["self", "number", "mine", "rest"]
 kP : MT K aB "put_name" "Things.put_name" AM ["self", "folder", "name", "number"]
 kS : MT K aB "drop_name" "Things.drop_name" yW ["self", "folder", "name"]
 kZ : MT K aj "__init__" "House.__init__" yS ["self", "owner"]
 iL : MT K aj "enroll" "House.enroll" yU ["self", "name"]
 gi : MT K aj "root_of" "House.root_of" AV ["self", "asker"]
 nV : MT K aj "standing_of" "House.standing_of" Fc ["self", "asker"]
 e9 : MT K aj "kind_of" "House.kind_of" A9 ["self", "number"]
 il : MT K aj "owner_of" "House.owner_of" xS ["self", "number"]
 lQ : MT K aj "rights_of" "House.rights_of" zT ["self", "number"]
 lZ : MT K aj "many" "House.many" AU ["self"]
 eZ : MT K aj "child" "House.child" yI ["self", "number", "name"]
 kX : MT K aj "names_in" "House.names_in" BO ["self", "number"]
 lN : MT K aj "text_of" "House.text_of" BM ["self", "number"]
 iE : MT K aj "place_of" "House.place_of" A4 ["self", "number"]
 cT : MT K aj "may" "House.may" xE ["self", "asker", "number", "right"]
 cZ : MT K aj "check_asker" "House.check_asker" zG ["self", "asker"]
 kO : MT K aj "check_thing" "House.check_thing" y8 ["self", "number"]
 iO : MT K aj "add_asker" "House.add_asker" Ao ["self", "name"]
 lB : MT K aj "put_root" "House.put_root" A7 ["self", "asker", "folder"]
 mJ : MT K aj "put_standing" "House.put_standing" zL ["self", "asker", "folder"]
 mv : MT K aj "add_tree" "House.add_tree" zX ["self", "tree", "owner"]
 lR : MT K cg "__init__" "Found.__init__" xO ["self", "number", "way"]
 mz : MT K aM "__init__" "Walk.__init__" vF ["self", "house", "asker", "last"]
 lb : MT K aM "begin" "Walk.begin" tH ["self", "from_root", "parts"]
 my : MT K aM "go_on" "Walk.go_on" u6 ["self"]
 lq : MT K aM "take_step" "Walk.take_step" qN ["self", "part"]
 lJ : MT K aM "go_by" "Walk.go_by" tZ ["self", "name"]
 lh : MT K aM "true_path" "Walk.true_path" sH ["self"]
 lK : MT K eW "__init__" "Seat.__init__" yL ["self", "folder", "name"]
 oi : cb K cg
 JO : Mk K cg lR.f
 aI : cb K aj
 MP : Mk K aj kZ.f
 iH : cb K eW
 Nr : Mk K eW lK.f
 bW : cb K aE
 M5 : Mk K aE ll.f
 br : cb K aB
 MW : Mk K aB lD.f
 aR : cb K aM
 Dn : Mk K aM mz.f
 BU : aV K cg "number"
 Fy : aV K cg "way"
 pB : aV K aj "changes"
 uT : aV K aj "first_root"
 xM : aV K aj "folder_under"
 HN : aV K aj "holds"
 Ew : aV K aj "holds_given"
 zb : aV K aj "root_over"
 mH : aV K aj "roots"
 zV : aV K aj "standings"
 cX : aV K aj "things"
 y9 : aV K aj "tree_roots"
 n6 : aV K eW "folder"
 qr : aV K eW "name"
 sZ : aV K aE "kind"
 nk : aV K aE "mine"
 oO : aV K aE "names"
 EW : aV K aE "number"
 u3 : aV K aE "owner"
 nI : aV K aE "places"
 nO : aV K aE "rest"
 zC : aV K aE "text"
 pw : aV K aB "changes"
 j4 : aV K aB "made"
 yy : aV K aM "asked"
 ly : aV K aM "asker"
 eX : aV K aM "here"
 fc : aV K aM "house"
 G1 : aV K aM "last"
 Ja : aV K aM "leads_read"
 nE : aV K aM "left"
 A8 : aV K aM "looked_up"
 LX : aV K aM "place"
 Hh : aV K aM "reading"
 uX : aV K aM "root"
 yH : aV K aM "step"
 jG : aV K aM "told"
 {kD : Addr}
 ot : pL.code = .ref kD
 HI : PySem.W.excIn K bC [.type "ValueError", .type "Exception", .type "BaseException", .type "object"] "ValueError.__new__" = true
 M8 : PySem.W.excIn K bH [.type "ValueError", .type "Exception", .type "BaseException", .type "object"] "ValueError.__new__" = true
 Of : PySem.W.excIn K bD [.type "ValueError", .type "Exception", .type "BaseException", .type "object"] "ValueError.__new__" = true
 Lq : PySem.W.instIn K (.ref iZ) (.type "tuple") = some false
 OG : PySem.W.mroIn K iZ (.type "BaseException") = some true
 NS : PySem.W.findIn K (.ref bC) "__class__" = some (some (.builtin "object.__class__"))
 Fv : PySem.W.specialIn K (.builtin "object.__class__") "__get__" = some (some (.builtin "getset_descriptor.__get__"))
 NO : PySem.W.takesIn K (.builtin "object.__class__") = some true
 Lr : PySem.W.mroIn K bC (.type "object") = some true
 La : PySem.W.findIn K (.ref bC) "__getattribute__" = some (some (.builtin "BaseException.__getattribute__"))
 FO : PySem.W.findIn K (.ref bC) "__getattr__" = some none
 J9 : PySem.W.mroIn K bC (.type "BaseException") = some true
 Oh : PySem.W.findIn K (.ref bH) "__class__" = some (some (.builtin "object.__class__"))
 JN : PySem.W.specialIn K (.builtin "object.__class__") "__get__" = some (some (.builtin "getset_descriptor.__get__"))
 MM : PySem.W.takesIn K (.builtin "object.__class__") = some true
 FN : PySem.W.mroIn K bH (.type "object") = some true
 FG : PySem.W.findIn K (.ref bH) "__getattribute__" = some (some (.builtin "BaseException.__getattribute__"))
 DG : PySem.W.findIn K (.ref bH) "__getattr__" = some none
 Ny : PySem.W.mroIn K bH (.type "BaseException") = some true
 IS : PySem.W.findIn K (.ref bD) "__class__" = some (some (.builtin "object.__class__"))
 E1 : PySem.W.specialIn K (.builtin "object.__class__") "__get__" = some (some (.builtin "getset_descriptor.__get__"))
 MN : PySem.W.takesIn K (.builtin "object.__class__") = some true
 Ki : PySem.W.mroIn K bD (.type "object") = some true
 Lz : PySem.W.findIn K (.ref bD) "__getattribute__" = some (some (.builtin "BaseException.__getattribute__"))
 Ec : PySem.W.findIn K (.ref bD) "__getattr__" = some none
 Jh : PySem.W.mroIn K bD (.type "BaseException") = some true
 Eu : PySem.W.subIn K (.ref bC) (.ref iZ) = some true
 Nz : PySem.W.kitOne K (.ref bC) (.ref bC) = some true
 JY : PySem.W.kitOne K (.ref bC) (.ref kq) = some false
 D5 : PySem.W.kitOne K (.ref bC) (.ref kG) = some false
 NJ : PySem.W.kitOne K (.ref bC) (.ref kx) = some false
 Mg : PySem.W.kitOne K (.ref bC) (.ref km) = some false
 Hu : PySem.W.kitOne K (.ref bC) (.ref bH) = some false
 Ot : PySem.W.kitOne K (.ref bC) (.ref kI) = some false
 LM : PySem.W.kitOne K (.ref bC) (.ref kF) = some false
 HZ : PySem.W.kitOne K (.ref bC) (.ref bD) = some false
 E4 : PySem.W.kitOne K (.ref bC) (.ref ko) = some false
 JG : PySem.W.kitOne K (.ref bC) (.ref ku) = some false
 Di : PySem.W.kitOne K (.ref bC) (.type "ValueError") = some true
 FF : PySem.W.subIn K (.ref bH) (.ref iZ) = some true
 HV : PySem.W.kitOne K (.ref bH) (.ref bC) = some false
 Gx : PySem.W.kitOne K (.ref bH) (.ref kq) = some false
 Lp : PySem.W.kitOne K (.ref bH) (.ref kG) = some false
 K6 : PySem.W.kitOne K (.ref bH) (.ref kx) = some false
 DL : PySem.W.kitOne K (.ref bH) (.ref km) = some false
 Hk : PySem.W.kitOne K (.ref bH) (.ref bH) = some true
 Hw : PySem.W.kitOne K (.ref bH) (.ref kI) = some false
 Md : PySem.W.kitOne K (.ref bH) (.ref kF) = some false
 M9 : PySem.W.kitOne K (.ref bH) (.ref bD) = some false
 Fi : PySem.W.kitOne K (.ref bH) (.ref ko) = some false
 KG : PySem.W.kitOne K (.ref bH) (.ref ku) = some false
 IT : PySem.W.kitOne K (.ref bH) (.type "ValueError") = some true
 OD : PySem.W.subIn K (.ref bD) (.ref iZ) = some true
 GV : PySem.W.kitOne K (.ref bD) (.ref bC) = some false
 Jj : PySem.W.kitOne K (.ref bD) (.ref kq) = some false
 EL : PySem.W.kitOne K (.ref bD) (.ref kG) = some false
 EM : PySem.W.kitOne K (.ref bD) (.ref kx) = some false
 Ms : PySem.W.kitOne K (.ref bD) (.ref km) = some false
 Ig : PySem.W.kitOne K (.ref bD) (.ref bH) = some false
 Dj : PySem.W.kitOne K (.ref bD) (.ref kI) = some false
 LZ : PySem.W.kitOne K (.ref bD) (.ref kF) = some false
 Gb : PySem.W.kitOne K (.ref bD) (.ref bD) = some true
 Fd : PySem.W.kitOne K (.ref bD) (.ref ko) = some false
 LF : PySem.W.kitOne K (.ref bD) (.ref ku) = some false
 JF : PySem.W.kitOne K (.ref bD) (.type "ValueError") = some true
 q1 : PySem.W.findIn K (.ref cg) "__class__" = some (some (.builtin "object.__class__"))
 q2 : PySem.W.specialIn K (.builtin "object.__class__") "__get__" = some (some (.builtin "getset_descriptor.__get__"))
 q3 : PySem.W.takesIn K (.builtin "object.__class__") = some true
 q4 : PySem.W.mroIn K cg (.type "object") = some true
 q5 : PySem.W.kitOne K (.ref cg) (.ref cg) = some true
def g7 : List Nat := List.range' 97 26
def isNm (l : List Nat) : Bool := decide (1 ≤ l.length) && decide (l.length ≤ 8) && l.all (g7.contains ·)
def et : V → Bool
 | .str z => isNm z.cps.toList
 | _ => false
def BN : V → Prop
 | .str z => z.length ≤ 1000
 | _ => True
def qY (K : PySem.W.Frag) : Sp := fun vs H Q _ => match vs with
 | [x] => (∃ T, clsName H x = some T) ∧ BN x ∧ ∀ H', ao H H' → Q (.bl (et x)) H'
 | _ => False
theorem sj {nm : List Nat} (h : isNm nm = true) : 1 ≤ nm.length ∧ nm.length ≤ 8 ∧ nm.all (g7.contains ·) = true := by
 unfold isNm at h
 simp only [Bool.and_eq_true, decide_eq_true_eq] at h
 exact ⟨h.1.1, h.1.2, h.2⟩
theorem Iu : Str.ofString "abcdefghijklmnopqrstuvwxyz" = Tx.S g7 := by decide +kernel
def bY (l : List Nat) : Bool := decide (l = [46]) || decide (l = [46, 46]) || isNm l
theorem oV {l : List Nat} (h : bY l = true) : 47 ∉ l ∧ l ≠ [] ∧ l.length ≤ 8 := by
 unfold bY at h
 simp only [Bool.or_eq_true, decide_eq_true_eq] at h
 rcases h with (rfl | rfl) | h
 ·exact ⟨by decide, by decide, by decide⟩
 ·exact ⟨by decide, by decide, by decide⟩
 ·obtain ⟨h1, h2, h3⟩ := sj h
  refine ⟨fun m => ?_, fun e => by rw [e] at h1; simp at h1, h2⟩
  have := List.all_eq_true.mp h3 47 m
  exact absurd this (by decide +kernel)
abbrev PV (ps : List (List Nat)) : List V := (ps.map Tx.S).map V.str
def told (ps : List (List Nat)) (t : List Nat) : List (List Nat) := if ps ≠ [] ∧ t.getLast? = some 47 then ps ++ [[46]] else ps
def fh (t : List Nat) : Bool := decide (t.head? = some 47)
theorem Eh {W : List (List Nat)} (h : W.all bY = true) : told W (47 :: Tx.eS 47 W) = W := by
 have hw : ∀ w' ∈ W, 47 ∉ w' ∧ w' ≠ [] := fun w' hw' => let q := oV (List.all_eq_true.mp h w' hw'); ⟨q.1, q.2.1⟩
 unfold told
 refine if_neg fun z => ?_
 have e : (47 :: Tx.eS 47 W) = [47] ++ Tx.eS 47 W := rfl
 rw [e, Tx.u0 _ _ (Tx.yp 47 W hw z.1)] at z
 exact Tx.Az 47 W hw z.2
def tY (K : PySem.W.Frag) : Sp := fun vs H Q _ => match vs with
 | [.str z] => ∃ w : List Nat, z = Tx.S w ∧ w.length ≤ 1000 ∧ ∀ H', ao H H' → Q (.bl (bY w)) H'
 | _ => False
def tM (K : PySem.W.Frag) : Sp := fun vs H Q _ => match vs with
 | [.str z] => ∃ t : List Nat, z = Tx.S t ∧ 1 ≤ t.length ∧ t.length ≤ 2000 ∧ (Tx.words 47 t).all bY = true ∧
   ∀ (H' : Hp) (l p : Addr), ao H H' → H l = none → H' l = some (.lst (PV (told (Tx.words 47 t) t))) → H' p = some (.tup [.bl (fh t), .ref l]) → Q (.ref p) H'
 | _ => False
structure OS (ps : List (List Nat)) (t : List Nat) : Prop where
 words : Tx.words 47 t = ps
 one : 1 ≤ t.length
 most : t.length ≤ 150
def kN (n kd ow mi re tx nm pl : V) : List (Str × V) := [("number", n), ("kind", kd), ("owner", ow), ("mine", mi), ("rest", re), ("text", tx), ("names", nm), ("places", pl)]
def lI (ml : Addr) (c : Int) : List (Str × V) := [("made", .ref ml), ("changes", .int c)]
structure Th where
 kd : Str
 ow : Str
 mi : Str
 re : Str
 tx : Str
 aX : List (Str × Nat)
 fK : List (Nat × Str)
structure Hs where
 ts : List Th
 ro : List (Str × Nat)
 st : List (Str × Nat)
 tr : List (Str × Nat)
 ov : List (Nat × Nat)
 un : List (Nat × Nat)
structure Ta where
 th : Addr
 cm : Addr
 nm : Addr
 pl : Addr
structure Ad where
 a : Addr
 dx : Addr
 t : Addr
 dt : Addr
 ml : Addr
 ro : Addr
 st : Addr
 tr : Addr
 ov : Addr
 un : Addr
 ho : Addr
def lS (c : Int) (A : Ad) : List (Str × V) := [("things", .ref A.t), ("changes", .int c), ("roots", .ref A.ro), ("standings", .ref A.st), ("tree_roots", .ref A.tr), ("root_over", .ref A.ov), ("folder_under", .ref A.un), ("holds", .ref A.ho), ("holds_given", .int 0), ("first_root", .int 0)]
theorem Jn {f : Str} {c c' : Int} {A : Ad} (h : f ≠ "changes") : (lS c A).lookup f = (lS c' A).lookup f := by
 unfold lS
 simp only [List.lookup]
 have : (f == ("changes" : Str)) = false := beq_eq_false_iff_ne.mpr h
 rw [this]
def sD (l : List (Str × Nat)) : List (Key × V) := l.map fun e => (.inr e.1, .int e.2)
def nD (l : List (Nat × Nat)) : List (Key × V) := l.map fun e => (.inl (e.1 : Int), .int e.2)
def pD (l : List (Nat × Str)) : List (List Key × V) := l.map fun e => ([.inl (e.1 : Int), .inr e.2], .bl true)
structure fF (CT : Addr) (H : Hp) (a : Ta) (i : Nat) (t : Th) : Prop where
 o : ∃ fs, H a.th = some (.ins CT a.cm fs) ∧ fs.length ≤ 40 ∧ cq fs (kN (.int i) (.str t.kd) (.str t.ow) (.str t.mi) (.str t.re) (.str t.tx) (.ref a.nm) (.ref a.pl))
 nm : H a.nm = some (.dK (sD t.aX))
 pl : H a.pl = some (.dT (pD t.fK))
def Ad.w (A : Ad) : List Addr := [A.a, A.t, A.ml, A.ro, A.st, A.tr, A.ov, A.un]
def Ta.l (a : Ta) : List Addr := [a.th, a.nm, a.pl]
structure aH (CH CS CT : Addr) (H : Hp) (A : Ad) (L : List Ta) (M : Hs) : Prop where
 h : ∃ fs c, H A.a = some (.ins CH A.dx fs) ∧ fs.length ≤ 40 ∧ cq fs (lS c A)
 t : ∃ fs c, H A.t = some (.ins CS A.dt fs) ∧ fs.length ≤ 40 ∧ cq fs (lI A.ml c)
 ml : H A.ml = some (.lst (L.map fun a => .ref a.th))
 len : L.length = M.ts.length
 th : ∀ i t, M.ts[i]? = some t → ∃ a, L[i]? = some a ∧ fF CT H a i t
 ro : H A.ro = some (.dK (sD M.ro))
 st : H A.st = some (.dK (sD M.st))
 tr : H A.tr = some (.dK (sD M.tr))
 ov : H A.ov = some (.dK (nD M.ov))
 un : H A.un = some (.dK (nD M.un))
 nd : (A.w ++ L.flatMap Ta.l).Nodup
def Kp (W : List Addr) (H H' : Hp) : Prop := ∀ b o, b ∉ W → H b = some o → H' b = some o
theorem Kp.trans {W : List Addr} {H H1 H2 : Hp} (a : Kp W H H1) (b : Kp W H1 H2) : Kp W H H2 := fun c o h e => b c o h (a c o h e)
theorem Kp.of {W : List Addr} {H H' : Hp} (s : ao H H') : Kp W H H' := fun b o _ e => s b o e
theorem Kp.more {V W : List Addr} {H H' : Hp} (k : Kp V H H') (h : ∀ b ∈ V, b ∈ W) : Kp W H H' := fun b o hb e => k b o (fun z => hb (h b z)) e
theorem bg {H : Hp} {a b : Addr} {o u : HO} (h1 : H a = some o) (h2 : H b = some u) (h : o ≠ u) : a ≠ b := fun e => h (by rw [e, h2] at h1; cases h1; rfl)
theorem aC {H : Hp} {a b : Addr} {o : HO} (h1 : H a = some o) (h2 : H b = none) : a ≠ b := fun e => by rw [e, h2] at h1; cases h1
theorem gx {H : Hp} {x d : Addr} {o O oo : HO} (hn : H d = none) (hx : H x = some oo) : upd (upd H d o) x O x = some O ∧ upd (upd H d o) x O d = some o ∧ (∀ b u, b ≠ x → H b = some u → upd (upd H d o) x O b = some u) ∧ d ≠ x := by
 have n := aC hx hn
 refine ⟨aw, by rw [ah (Ne.symm n), aw], fun b u hb e => ?_, Ne.symm n⟩
 rw [ah hb, ah (aC e hn)]; exact e
section
variable {CH CS CT : Addr} {H H' : Hp} {A : Ad} {L : List Ta} {M : Hs}
theorem fF.keep {W : List Addr} {a : Ta} {i : Nat} {t : Th} (h : fF CT H a i t) (k : Kp W H H') (hw : ∀ b ∈ a.l, b ∉ W) : fF CT H' a i t where
 o := let ⟨fs, e, r⟩ := h.o; ⟨fs, k _ _ (hw _ (by simp [Ta.l])) e, r⟩
 nm := k _ _ (hw _ (by simp [Ta.l])) h.nm
 pl := k _ _ (hw _ (by simp [Ta.l])) h.pl
theorem fJ {i : Nat} {a : Ta} (h : L[i]? = some a) {b : Addr} (hb : b ∈ a.l) : b ∈ L.flatMap Ta.l := List.mem_flatMap.mpr ⟨a, List.mem_of_getElem? h, hb⟩
theorem aH.keep {W : List Addr} (i : aH CH CS CT H A L M) (k : Kp W H H') (hw : ∀ b ∈ A.w ++ L.flatMap Ta.l, b ∉ W) : aH CH CS CT H' A L M where
 h := let ⟨fs, c, e, r⟩ := i.h; ⟨fs, c, k _ _ (hw _ (by simp [Ad.w])) e, r⟩
 t := let ⟨fs, c, e, r⟩ := i.t; ⟨fs, c, k _ _ (hw _ (by simp [Ad.w])) e, r⟩
 ml := k _ _ (hw _ (by simp [Ad.w])) i.ml
 len := i.len
 th := fun j t e => let ⟨a, e1, h⟩ := i.th j t e; ⟨a, e1, h.keep k fun b hb => hw b (List.mem_append_right _ (fJ e1 hb))⟩
 ro := k _ _ (hw _ (by simp [Ad.w])) i.ro
 st := k _ _ (hw _ (by simp [Ad.w])) i.st
 tr := k _ _ (hw _ (by simp [Ad.w])) i.tr
 ov := k _ _ (hw _ (by simp [Ad.w])) i.ov
 un := k _ _ (hw _ (by simp [Ad.w])) i.un
 nd := i.nd
theorem aH.same (i : aH CH CS CT H A L M) (s : ao H H') : aH CH CS CT H' A L M := i.keep (W := []) (.of s) fun _ _ => by simp
theorem nZ : ∀ {L : List Ta} {i j : Nat} {a a' : Ta} {b : Addr}, (L.flatMap Ta.l).Nodup → L[i]? = some a → L[j]? = some a' → b ∈ a.l → b ∈ a'.l → i = j
 | [], _, _, _, _, _, _, h, _, _, _ => by simp at h
 | c :: r, 0, 0, _, _, _, _, _, _, _, _ => rfl
 | c :: r, 0, j + 1, a, a', b, nd, h1, h2, m1, m2 => by
  rw [List.flatMap_cons, List.nodup_append] at nd
  simp only [List.getElem?_cons_zero, Option.some.injEq] at h1
  simp only [List.getElem?_cons_succ] at h2
  subst h1
  exact absurd rfl (nd.2.2 b m1 b (fJ h2 m2))
 | c :: r, i + 1, 0, a, a', b, nd, h1, h2, m1, m2 => by
  rw [List.flatMap_cons, List.nodup_append] at nd
  simp only [List.getElem?_cons_zero, Option.some.injEq] at h2
  simp only [List.getElem?_cons_succ] at h1
  subst h2
  exact absurd rfl (nd.2.2 b m2 b (fJ h1 m1))
 | c :: r, i + 1, j + 1, a, a', b, nd, h1, h2, m1, m2 => by
  rw [List.flatMap_cons, List.nodup_append] at nd
  simp only [List.getElem?_cons_succ] at h1 h2
  rw [nZ nd.2.1 h1 h2 m1 m2]
theorem aH.write {k : Nat} {a : Ta} {t' : Th} (i : aH CH CS CT H A L M) (hk : L[k]? = some a) (hh : ∃ fs c, H' A.a = some (.ins CH A.dx fs) ∧ fs.length ≤ 40 ∧ cq fs (lS c A)) (ht : ∃ fs c, H' A.t = some (.ins CS A.dt fs) ∧ fs.length ≤ 40 ∧ cq fs (lI A.ml c))
  (hth : fF CT H' a k t') (kp : Kp [A.a, A.t, a.th, a.nm, a.pl] H H') : aH CH CS CT H' A L { M with ts := M.ts.set k t' } := by
 have nd := i.nd
 rw [List.nodup_append] at nd
 obtain ⟨n1, n2, n3⟩ := nd
 have ma : ∀ b ∈ a.l, b ∈ L.flatMap Ta.l := fun b hb => fJ hk hb
 have kH : ∀ b ∈ [A.ml, A.ro, A.st, A.tr, A.ov, A.un], b ∉ [A.a, A.t, a.th, a.nm, a.pl] := by
  intro b hb hm
  have hw : b ∈ A.w := by
   simp only [Ad.w, List.mem_cons, List.not_mem_nil, or_false] at hb ⊢
   rcases hb with h | h | h | h | h | h <;> simp [h]
  simp only [List.mem_cons, List.not_mem_nil, or_false] at hm
  rcases hm with rfl | rfl | rfl | rfl | rfl
  ·have := (List.nodup_cons.mp n1).1
   simp only [List.mem_cons, List.not_mem_nil, or_false, not_or] at hb this
   rcases hb with h | h | h | h | h | h <;> simp [h] at this
  ·have := (List.nodup_cons.mp (List.nodup_cons.mp n1).2).1
   simp only [List.mem_cons, List.not_mem_nil, or_false, not_or] at hb this
   rcases hb with h | h | h | h | h | h <;> simp [h] at this
  ·exact n3 _ hw _ (ma _ (by simp [Ta.l])) rfl
  ·exact n3 _ hw _ (ma _ (by simp [Ta.l])) rfl
  ·exact n3 _ hw _ (ma _ (by simp [Ta.l])) rfl
 refine ⟨hh, ht, kp _ _ (kH _ (by simp)) i.ml, by rw [i.len]; simp, fun j t e => ?_, kp _ _ (kH _ (by simp)) i.ro, kp _ _ (kH _ (by simp)) i.st, kp _ _ (kH _ (by simp)) i.tr, kp _ _ (kH _ (by simp)) i.ov, kp _ _ (kH _ (by simp)) i.un, i.nd⟩
 by_cases hj : j = k
 ·subst hj
  have hlt : j < M.ts.length := by rw [← i.len]; exact (List.getElem?_eq_some_iff.mp hk).1
  have e' : (M.ts.set j t')[j]? = some t := e
  rw [List.getElem?_set_self hlt] at e'
  cases e'
  exact ⟨a, hk, hth⟩
 ·have e' : (M.ts.set k t')[j]? = some t := e
  rw [List.getElem?_set_ne (Ne.symm hj)] at e'
  obtain ⟨a', e1, h1⟩ := i.th j t e'
  refine ⟨a', e1, h1.keep kp fun b hb hm => ?_⟩
  have hbf := fJ e1 hb
  simp only [List.mem_cons, List.not_mem_nil, or_false] at hm
  rcases hm with rfl | rfl | rfl | rfl | rfl
  ·exact n3 _ (by simp [Ad.w]) _ hbf rfl
  ·exact n3 _ (by simp [Ad.w]) _ hbf rfl
  ·exact hj (nZ n2 e1 hk hb (by simp [Ta.l]))
  ·exact hj (nZ n2 e1 hk hb (by simp [Ta.l]))
  ·exact hj (nZ n2 e1 hk hb (by simp [Ta.l]))
end
def Ai : V → Bool
 | .int _ => true
 | _ => false
def qA : Sp := fun vs H Q _ => match vs with
 | [v] => (∃ T, clsName H v = some T) ∧ Q (.bl (Ai v)) H
 | _ => False
def qQ : Sp := fun vs H Q _ => match vs with
 | [x] => (∃ T, clsName H x = some T) ∧ BN x ∧ et x = true ∧ ∀ H', ao H H' → Q .au H'
 | _ => False
def rj (C : Addr) : Sp := fun vs H Q _ => match vs with
 | [.ref x, n, kd, ow, mi, re, tx] => ∃ dx, H x = some (.ins C dx []) ∧ ∀ l1 l2 H', H l1 = none → H l2 = none → l1 ≠ l2 → l1 ≠ x → l2 ≠ x → (∀ b, b ≠ x → b ≠ l1 → b ≠ l2 → H' b = H b) → H' l1 = some (.dK []) → H' l2 = some (.dT []) →
   (∀ fs, fs.length ≤ 40 → cq fs (kN n kd ow mi re tx (.ref l1) (.ref l2)) → H' x = some (.ins C dx fs) → Q .au H')
 | _ => False
def qb (C : Addr) : Sp := fun vs H Q _ => match vs with
 | [.ref x] => ∃ dx, H x = some (.ins C dx []) ∧ ∀ l H', H l = none → l ≠ x → (∀ b, b ≠ x → b ≠ l → H' b = H b) → H' l = some (.lst []) → (∀ fs, fs.length ≤ 40 → cq fs (lI l 0) → H' x = some (.ins C dx fs) → Q .au H')
 | _ => False
structure gn (CS : Addr) (H : Hp) (x dt ml : Addr) (rs : List V) : Prop where
 o : ∃ fs c, H x = some (.ins CS dt fs) ∧ fs.length ≤ 40 ∧ cq fs (lI ml c)
 ml : H ml = some (.lst rs)
def la (CS CT : Addr) (x dt ml : Addr) (rs : List V) (kd ow mi re tx : V) (H : Hp) (Q : VK) : Prop :=
 ∀ th cm nm pl ks H', H th = none → H nm = none → H pl = none → gn CS H' x dt ml (rs ++ [.ref th]) → H' th = some (.ins CT cm ks) → ks.length ≤ 40 → cq ks (kN (.int rs.length) kd ow mi re tx (.ref nm) (.ref pl)) →
  H' nm = some (.dK []) → H' pl = some (.dT []) → Kp [x, ml] H H' → Q (.int rs.length) H'
def vK (CS CT : Addr) : Sp := fun vs H Q _ => match vs with
 | [.ref x, kd, ow, mi, re, tx] => ∃ dt ml rs, gn CS H x dt ml rs ∧ rs.length ≤ 500 ∧ la CS CT x dt ml rs kd ow mi re tx H Q
 | _ => False
def tS (CS CT : Addr) : Sp := fun vs H Q _ => match vs with
 | [.ref x, ow, mi, re] => ∃ dt ml rs, gn CS H x dt ml rs ∧ rs.length ≤ 500 ∧ la CS CT x dt ml rs (.str "folder") ow mi re (.str "") H Q
 | _ => False
def qZ (CS CT : Addr) : Sp := fun vs H Q _ => match vs with
 | [.ref x, ow, tx, mi, re] => ∃ dt ml rs, gn CS H x dt ml rs ∧ rs.length ≤ 500 ∧ la CS CT x dt ml rs (.str "file") ow mi re tx H Q
 | _ => False
def qi (CS CT : Addr) : Sp := fun vs H Q _ => match vs with
 | [.ref x, ow, tx] => ∃ dt ml rs, gn CS H x dt ml rs ∧ rs.length ≤ 500 ∧ la CS CT x dt ml rs (.str "lead") ow (.str "") (.str "") tx H Q
 | _ => False
def oH (CH CS CT CN : Addr) : Sp := fun vs H Q E => match vs with
 | [.ref x, v] => ∃ A L M, aH CH CS CT H A L M ∧ A.t = x ∧ (∃ T, clsName H v = some T) ∧ (∀ (k : Nat) a t, v = .int k → L[k]? = some a → M.ts[k]? = some t → Q (.ref a.th) H) ∧ ((∀ k : Nat, v = .int k → ¬ k < M.ts.length) → E (.ref CN) none H)
 | _ => False
abbrev gL := Ad → List Ta → Hs → Nat → Ta → Th → Hp → VK → Prop
def bO (CH CS CT : Addr) (sel : Ad → Addr) (f : gL) : Sp := fun vs H Q _ => match vs with
 | [.ref x, .int n] => ∃ A L M, ∃ k : Nat, ∃ a t, aH CH CS CT H A L M ∧ sel A = x ∧ n = (k : Int) ∧ L[k]? = some a ∧ M.ts[k]? = some t ∧ f A L M k a t H Q
 | _ => False
def qK (CH CS CT : Addr) (sel : Ad → Addr) : Sp := fun vs H Q _ => match vs with
 | [.ref x, .int n, .str z] => ∃ A L M, ∃ k : Nat, ∃ a t, aH CH CS CT H A L M ∧ sel A = x ∧ n = (k : Int) ∧ L[k]? = some a ∧ M.ts[k]? = some t ∧ Q ((aL (sD t.aX) (.inr z)).getD .au) H
 | _ => False
def rD (CH CS CT : Addr) : Sp := fun vs H Q _ => match vs with
 | [.ref x, .int n, .str z] => ∃ A L M, ∃ k : Nat, ∃ a t, aH CH CS CT H A L M ∧ A.a = x ∧ n = (k : Int) ∧ L[k]? = some a ∧ M.ts[k]? = some t ∧ et (.str z) = true ∧ z.length ≤ 1000 ∧ ∀ H', ao H H' → Q ((aL (sD t.aX) (.inr z)).getD .au) H'
 | _ => False
def jg (CH CS CT : Addr) (sel : Ad → Addr) : Sp := fun vs H Q _ => match vs with
 | [.ref x] => ∃ A L M, aH CH CS CT H A L M ∧ sel A = x ∧ Q (.int M.ts.length) H
 | _ => False
abbrev yM : gL := fun _ _ _ _ _ t H Q => t.aX.length < 64 ∧ ∀ l, H l = none → Q (.ref l) (upd H l (.lst ((d9 (t.aX.map (·.1))).map V.str)))
abbrev zd : gL := fun _ _ _ _ _ t H Q => (t.fK = [] ∧ Q .au H) ∨ ∃ f z, t.fK = [(f, z)] ∧ ∀ p, H p = some (.tup [.int (f : Nat), .str z]) → Q (.ref p) H
abbrev nH : gL := fun _ _ _ _ _ t H Q => Q (.str t.kd) H
abbrev FL : gL := fun _ _ _ _ _ t H Q => Q (.str t.ow) H
abbrev N2 : gL := fun _ _ _ _ _ t H Q => Q (.str t.tx) H
abbrev D6 : gL := fun _ _ _ _ _ t H Q => ∀ l, H l = none → Q (.ref l) (upd H l (.tup [.str t.mi, .str t.re]))
abbrev G3 : gL := fun _ _ _ _ _ _ H Q => Q .au H
def oG (CH CS CT CA : Addr) : Sp := fun vs H Q E => match vs with
 | [.ref x, v] => ∃ A L M, aH CH CS CT H A L M ∧ A.a = x ∧ (∃ T, clsName H v = some T) ∧ (∀ z, v = .str z → (aL (sD M.ro) (.inr z)).isSome = true → Q .au H) ∧ ((∀ z, v = .str z → aL (sD M.ro) (.inr z) = none) → E (.ref CA) none H)
 | _ => False
def uk (CH CS CT : Addr) : Sp := fun vs H Q _ => match vs with
 | [.ref x, .str z] => ∃ A L M, ∃ r : Nat, aH CH CS CT H A L M ∧ A.a = x ∧ aL (sD M.ro) (.inr z) = some (.int r) ∧ Q (.int r) H
 | _ => False
def cD (t : Th) (asker : Str) : Str := if asker = t.ow then t.mi else t.re
def vz (CT : Addr) : Sp := fun vs H Q _ => match vs with
 | [.ref x, .str z] => ∃ a i t, fF CT H a i t ∧ a.th = x ∧ Q (.str (cD t z)) H
 | _ => False
def ei (v : V) : Bool := decide (v = .str "l") || decide (v = .str "g") || decide (v = .str "w")
def va (CR : Addr) : Sp := fun vs H Q E => match vs with
 | [v] => (∃ T, clsName H v = some T) ∧ (ei v = true → Q .au H) ∧ (ei v = false → E (.ref CR) none H)
 | _ => False
def dh (s : Str) (z : Str) : Bool := !(Builtin.Str.occurrences z s 0 z.length 1).isEmpty
def ej (CH CS CT CA CR CN : Addr) : Sp := fun vs H Q E => match vs with
 | [.ref x, w, v, r] => ∃ A L M, aH CH CS CT H A L M ∧ A.a = x ∧ (∃ T, clsName H w = some T) ∧ (∃ T, clsName H v = some T) ∧ (∃ T, clsName H r = some T) ∧
   ((∀ z, w = .str z → aL (sD M.ro) (.inr z) = none) → E (.ref CA) none H) ∧
   ∀ z, w = .str z → (aL (sD M.ro) (.inr z)).isSome = true → (ei r = false → E (.ref CR) none H) ∧
    ∀ s, r = .str s → ei r = true → ((∀ k : Nat, v = .int k → ¬ k < M.ts.length) → E (.ref CN) none H) ∧ ∀ (k : Nat) t, v = .int k → M.ts[k]? = some t → Q (.bl (dh s (cD t z))) H
 | _ => False
local macro_rules | `(tactic| walk_at "rd") => `(tactic| simp only [u9, sR, vh, Lw, fX, eE, rm, nB, tC, gj, qP, oP, iQ, oz, ik, rM, qO, vf, vn, sd, EK, vW, E5, jn, fO, lV, ni, nA, gG, sL, vE, pT, ug, oR, qJ, og, uI, Gz, Ib, IM, Jq, oB, nu, tq, vt, Fu, N3, qC, vO, vx, pU, rJoin, qG, qk, lU, tD, GD, tj, vH, vg, uh, zc, FV, rl, JK, vP, rH, u5, vJ, vC, sX, lx, kT, qz, Mu, Ka, vS, Mb, Iw, vU, rR, rn, tP, vY, pW, qu, uU, uW, uB, JJ, rh, sr, nK, G2, Ends.uL, oJ, mG, nq, qm, vR, uv, vj, rT, vG, rg, sx, rp, Hx, JA, ua, MF, nz, nR, Gm, List.getElem?_cons_zero, List.getElem?_cons_succ, List.set_cons_zero, List.set_cons_succ, List.append_nil, Bool.false_bne, Bool.true_bne])
local macro_rules | `(tactic| walk_at "w") => `(tactic| (first | walk_at "rd" | skip))
section
variable {P : Program} {w : World} {K : PySem.W.Frag} {mg : Str → Option Value} {base : Heap}
theorem rA (T : Tx K mg) : aD P w K mg base aG 1 T.eI.f T.eI.d ["text"] (qY K) := by
 refine T.eI.F.ok IP (fun vs H Q E h => ?_) (fun cdv A outer s H vs Q E hr h => ?_)
 ·unfold qY at h
  split at h
  ·rfl
  ·exact h.elim
 ·unfold qY at h
  split at h
  ·rename_i x
   obtain ⟨⟨ty, h1⟩, hsh, q⟩ := h
   refine ⟨_, ((Dv.cut (Dv.aW (Dv.dS (Dv.w_or (Dv.cH (Dv.cE (Dv.bB gr T.cy cA (Dv.aa (Dv.v 0) (Dv.aa (Dv.fD (.ty "str") T.j9 ji rfl) Dv.ag))))) (Dv.fN (Dv.cH (Dv.rY jl jl Dv.int (Dv.bB (g9 (K := K) rfl) T.fZ PySem.boot_len (Dv.aa (Dv.v 0) Dv.ag)) (Dv.glob (.int 8) T.Le ⟨_, rfl⟩)))))) (Dv.aq (Dv.aK Dv.bl)) Dv.nil)
   (Dv.aq (Dv.aK (Dv.bB (xW (K := K) rfl rfl) T.xC ze (Dv.aa (Dv.comp rfl (Dv.xQ (Dv.v 0)) (fun _ _ _ _ => by exact Dv.yK) (fun _ _ _ _ => by exact (Dv.cmp (oZ (K := K) rfl) (Dv.v 0) (Dv.glob (.str "abcdefghijklmnopqrstuvwxyz") T.EB ⟨_, rfl⟩)))) Dv.ag)))))).h, ?_⟩
   rw [show start ["text"] [x] = [some x] from rfl]
   refine ai ?_
   walk_at "rd"
   simp only [h1, uH h1]
   refine ⟨nF _ rfl, ?_⟩
   cases x with
   | str z =>
    simp only [oF, Bool.not_true, Bool.false_eq_true, if_false]
    have hsh' : z.length ≤ 1000 := hsh
    have hl : z.cps.toList.length = z.length := by simp [Str.length]
    refine ⟨fits hsh', ?_⟩
    by_cases a1 : 1 ≤ z.length
    ·rw [decide_eq_true (show (1 : Int) ≤ (z.length : Int) by omega)]
     refine bZ ?_
     by_cases a2 : z.length ≤ 8
     ·rw [decide_eq_true (show (z.length : Int) ≤ 8 by omega)]
      refine aS ?_
      refine Mf (fun c => .bl (g7.contains c)) (fits hsh') ?_ ?_
      ·intro c _ H1 _ R hR
       walk_at "rd"
       rw [Iu, show (⟨#[c]⟩ : Str) = Tx.S [c] from rfl, Tx.NR]
       exact hR H1 (ao.refl H1)
      ·intro H1 s1 l fb
       refine ⟨_, aJ.of aw, z.cps.toList.map (g7.contains ·), by rw [List.map_map]; rfl, ?_⟩
       have e : ((z.cps.toList.map (g7.contains ·)).all id) = et (.str z) := by
        show _ = isNm z.cps.toList
        unfold isNm
        rw [hl, decide_eq_true a1, decide_eq_true a2, List.all_map]
        rfl
       rw [e]
       exact q _ (s1.trans (ao.upd fb))
     ·rw [decide_eq_false (show ¬ (z.length : Int) ≤ 8 by omega)]
      refine bZ ?_
      have e : et (.str z) = false := by
       show isNm z.cps.toList = false
       unfold isNm
       rw [hl, decide_eq_false a2, Bool.and_false, Bool.false_and]
      have := q H (ao.refl H)
      rw [e] at this
      exact this
    ·rw [decide_eq_false (show ¬ (1 : Int) ≤ (z.length : Int) by omega)]
     refine aS (bZ ?_)
     have e : et (.str z) = false := by
      show isNm z.cps.toList = false
      unfold isNm
      rw [hl, decide_eq_false a1, Bool.false_and, Bool.false_and]
     have := q H (ao.refl H)
     rw [e] at this
     exact this
   | _ => exact q H (ao.refl H)
  ·exact h.elim
theorem bK {X : Cx} {b : List Stmt} {t : TS} {D : Ends} {σ : St} {H : Hp} (h : QB X b t) (q : t D σ H) : ∃ t, bT X b t ∧ t D σ H := ⟨t, h.h, q⟩
def Kf : V → Bool
 | .int _ => true
 | .bl _ => true
 | _ => false
theorem FY {H : Hp} {v : V} {ty : String} (h : clsName H v = some ty) : oW ty "int" = Kf v := by
 unfold clsName at h
 split at h
 ·cases h; rfl
 ·cases h; rfl
 ·cases h; rfl
 ·cases h; rfl
 ·split at h
  ·cases h; rfl
  ·cases h; rfl
  ·cases h; rfl
  ·cases h
 ·cases h
theorem A2 (T : Tx K mg) : aD P w K mg base aG 1 T.fU.f T.fU.d ["number"] qA := by
 refine T.fU.F.ok Dy (fun vs H Q E h => ?_) (fun cdv A outer s H vs Q E hr h => ?_)
 ·unfold qA at h
  split at h
  ·rfl
  ·exact h.elim
 ·unfold qA at h
  split at h
  ·rename_i v
   obtain ⟨⟨ty, hty⟩, q⟩ := h
   refine ⟨_, ((Dv.aq (Dv.aK (Dv.tQ (Dv.bB gr T.cy cA (Dv.aa (Dv.v 0) (Dv.aa (Dv.fD (.ty "int") T.Ab Ak rfl) Dv.ag))) (Dv.one (Dv.HU (Dv.bB gr T.cy cA (Dv.aa (Dv.v 0) (Dv.aa (Dv.fD (.ty "bool") T.g_bool zW rfl) Dv.ag))))))))).h, ?_⟩
   rw [show start ["number"] [v] = [some v] from rfl]
   walk_at "w"
   simp only [hty]
   refine ⟨by decide, ?_⟩
   cases v with
   | int i => cases hty; exact bZ ⟨by decide, q⟩
   | bl b => cases hty; exact bZ ⟨by decide, q⟩
   | _ =>
    rw [FY hty]
    exact aS q
  ·exact h.elim
theorem ub (T : Tx K mg) : aD P w K mg base aG 2 T.eV.f T.eV.d ["text"] qQ := by
 have mS := rA (P := P) (w := w) (base := base) T
 refine T.eV.F.ok JW (fun vs H Q E h => ?_) (fun cdv A outer s H vs Q E hr h => ?_)
 ·unfold qQ at h
  split at h
  ·rfl
  ·exact h.elim
 ·unfold qQ at h
  split at h
  ·rename_i x
   obtain ⟨hc, hsh, hn, q1⟩ := h
   refine ⟨_, ((Dv.aq (Dv.aW (Dv.cH (Dv.cE (Dv.call mS (hr.mono (by decide)) T.eI.m T.eI.F.kp T.eI.b .nil az (Dv.aa (Dv.v 0) Dv.ag)))) (Dv.aq Dv.bw) Dv.nil))).h, ?_⟩
   rw [show start ["text"] [x] = [some x] from rfl]
   walk_at "w"
   refine ⟨hc, hsh, fun H' s' => ?_⟩
   rw [hn]
   exact aS (q1 H' s')
  ·exact h.elim
def dU : List Str := ["", "l", "g", "w", "lg", "lw", "gw", "lgw"]
def qy : Sp := fun vs H Q _ => match vs with
 | [.str z] => z ∈ dU ∧ Q (.bl true) H
 | _ => False
def u4 : Sp := fun vs H Q _ => match vs with
 | [.str z] => z ∈ dU ∧ Q .au H
 | _ => False
theorem LB {z : Str} {zs : List Str} (h : z ∈ zs) : dQ (V.str z) (zs.map V.str) = true := by
 unfold dQ
 rw [List.any_map, List.any_eq_true]
 exact ⟨z, h, show (z == z) = true from beq_self_eq_true z⟩
theorem OB (T : Tx K mg) : aD P w K mg base aG 1 T.jO.f T.jO.d ["text"] qy := by
 refine T.jO.F.ok My (fun vs H Q E h => ?_) (fun cdv A outer s H vs Q E hr h => ?_)
 ·unfold qy at h
  split at h
  ·rfl
  ·exact h.elim
 ·unfold qy at h
  split at h
  ·rename_i z
   obtain ⟨hz, q⟩ := h
   refine ⟨_, ((Dv.aq (Dv.aK (Dv.tQ (Dv.bB gr T.cy cA (Dv.aa (Dv.v 0) (Dv.aa (Dv.fD (.ty "str") T.j9 ji rfl) Dv.ag))) (Dv.one (Dv.cmp (Aa (K := K) rfl) (Dv.v 0) (Dv.glob (.ref T.xt) T.JX rfl))))))).h, ?_⟩
   rw [show start ["text"] [V.str z] = [some (V.str z)] from rfl]
   walk_at "w"
   refine ⟨by decide, bZ ⟨_, .inr (T.uw H), rfl, rfl, ?_⟩⟩
   rw [show [V.str (Str.ofString ""), V.str (Str.ofString "l"), V.str (Str.ofString "g"), V.str (Str.ofString "w"), V.str (Str.ofString "lg"), V.str (Str.ofString "lw"), V.str (Str.ofString "gw"), V.str (Str.ofString "lgw")] = dU.map V.str from rfl, LB hz]
   exact q
  ·exact h.elim
theorem sW (T : Tx K mg) : aD P w K mg base aG 2 T.cF.f T.cF.d ["text"] u4 := by
 have G_is_rights := OB (P := P) (w := w) (base := base) T
 refine T.cF.F.ok HS (fun vs H Q E h => ?_) (fun cdv A outer s H vs Q E hr h => ?_)
 ·unfold u4 at h
  split at h
  ·rfl
  ·exact h.elim
 ·unfold u4 at h
  split at h
  ·rename_i z
   obtain ⟨hz, q⟩ := h
   refine ⟨_, ((Dv.aq (Dv.aW (Dv.cH (Dv.cE (Dv.call G_is_rights (hr.mono (by decide)) T.jO.m T.jO.F.kp T.jO.b .nil az (Dv.aa (Dv.v 0) Dv.ag)))) (Dv.aq Dv.bw) Dv.nil))).h, ?_⟩
   rw [show start ["text"] [V.str z] = [some (V.str z)] from rfl]
   walk_at "w"
   exact ⟨hz, aS q⟩
  ·exact h.elim
def vd : Sp := fun vs H Q _ => match vs with
 | [.str z] => z.length ≤ 60 ∧ Q (.bl true) H
 | _ => False
def uu : Sp := fun vs H Q _ => match vs with
 | [.str z] => z.length ≤ 60 ∧ Q .au H
 | _ => False
theorem G5 (T : Tx K mg) : aD P w K mg base aG 1 T.jd.f T.jd.d ["text"] vd := by
 refine T.jd.F.ok DD (fun vs H Q E h => ?_) (fun cdv A outer s H vs Q E hr h => ?_)
 ·unfold vd at h
  split at h
  ·rfl
  ·exact h.elim
 ·unfold vd at h
  split at h
  ·rename_i z
   obtain ⟨hz, q⟩ := h
   refine ⟨_, ((Dv.aq (Dv.aK (Dv.tQ (Dv.bB gr T.cy cA (Dv.aa (Dv.v 0) (Dv.aa (Dv.fD (.ty "str") T.j9 ji rfl) Dv.ag))) (Dv.one (Dv.cmp jl (Dv.bB (g9 (K := K) rfl) T.fZ PySem.boot_len (Dv.aa (Dv.v 0) Dv.ag)) (Dv.glob (.int 60) T.KW ⟨_, rfl⟩))))))).h, ?_⟩
   rw [show start ["text"] [V.str z] = [some (V.str z)] from rfl]
   walk_at "w"
   refine ⟨by decide, bZ ⟨fits (by omega), ?_⟩⟩
   rw [decide_eq_true (show (z.length : Int) ≤ 60 by omega)]
   exact q
  ·exact h.elim
theorem Ox (T : Tx K mg) : aD P w K mg base aG 2 T.jR.f T.jR.d ["text"] uu := by
 have G_is_text := G5 (P := P) (w := w) (base := base) T
 refine T.jR.F.ok Ih (fun vs H Q E h => ?_) (fun cdv A outer s H vs Q E hr h => ?_)
 ·unfold uu at h
  split at h
  ·rfl
  ·exact h.elim
 ·unfold uu at h
  split at h
  ·rename_i z
   obtain ⟨hz, q⟩ := h
   refine ⟨_, ((Dv.aq (Dv.aW (Dv.cH (Dv.cE (Dv.call G_is_text (hr.mono (by decide)) T.jd.m T.jd.F.kp T.jd.b .nil az (Dv.aa (Dv.v 0) Dv.ag)))) (Dv.aq Dv.bw) Dv.nil))).h, ?_⟩
   rw [show start ["text"] [V.str z] = [some (V.str z)] from rfl]
   walk_at "w"
   exact ⟨hz, aS q⟩
  ·exact h.elim
theorem GO (v : V) : dQ v [V.str (Str.ofString "l"), V.str (Str.ofString "g"), V.str (Str.ofString "w")] = ei v := by
 unfold dQ ei
 simp only [List.any_cons, List.any_nil, Bool.or_false]
 have key : ∀ z : Str, eD (.str z) v = decide (v = .str z) := fun z => by
  cases v with
  | str y =>
   show (z == y) = decide (V.str y = V.str z)
   by_cases e : z = y
   ·subst e; simp
   ·rw [decide_eq_false (by intro h; injection h with h; exact e h.symm)]
    exact beq_eq_false_iff_ne.mpr e
  | _ => rfl
 rw [key, key, key, Bool.or_assoc]
theorem Fs (T : Tx K mg) : aD P w K mg base (bJ P w) 1 T.kg.f T.kg.d ["text"] (va T.bH) := by
 refine T.kg.F.jV Hz (fun vs H Q E h => ?_) (fun cdv A outer s H vs Q E hr h => ?_)
 ·unfold va at h
  split at h
  ·rfl
  ·exact h.elim
 ·unfold va at h
  split at h
  ·rename_i v
   obtain ⟨⟨ty, hty⟩, q1, q2⟩ := h
   refine ⟨_, ((Dv.aq (Dv.aW (Dv.dS (Dv.w_or (Dv.cH (Dv.cE (Dv.bB gr T.cy cA (Dv.aa (Dv.v 0) (Dv.aa (Dv.fD (.ty "str") T.j9 ji rfl) Dv.ag))))) (Dv.fN (Dv.bc (xD (K := K) rfl) (Dv.v 0) (Dv.glob (.ref T.wO) T.G4 rfl))))) (Dv.aq (Dv.tE vT rfl T.Bg T.M8 (Dv.aa Dv.str Dv.ag))) Dv.nil))).h, ?_⟩
   rw [show start ["text"] [v] = [some v] from rfl]
   walk_at "w"
   simp only [hty, uH hty]
   refine ⟨nF _ rfl, ?_⟩
   cases v with
   | str z =>
    simp only [oF, Bool.not_true, Bool.false_eq_true, if_false]
    refine ⟨_, .inr (T.qF H), rfl, rfl, ?_⟩
    rw [GO]
    cases ho : ei (.str z) with
    | true => exact aS (q1 ho)
    | false => exact bZ ⟨fits (by simp), q2 ho⟩
   | _ => exact ⟨fits (by simp), q2 rfl⟩
  ·exact h.elim
theorem D1 (T : Tx K mg) : aD P w K mg base aG 2 T.jA.f T.jA.d ["text"] (tY K) := by
 have mS := rA (P := P) (w := w) (base := base) T
 refine T.jA.F.ok Oz (fun vs H Q E h => ?_) (fun cdv A outer s H vs Q E hr h => ?_)
 ·unfold tY at h
  split at h
  ·rfl
  ·exact h.elim
 ·unfold tY at h
  split at h
  ·rename_i z
   obtain ⟨w', rfl, hw, q⟩ := h
   refine ⟨_, ((Dv.aq (Dv.aK (Dv.Mr (Dv.cmp (Aa (K := K) rfl) (Dv.v 0) (Dv.glob (.ref T.wW) T.Gp rfl)) (Dv.one (Dv.call mS (hr.mono (by decide)) T.eI.m T.eI.F.kp T.eI.b .nil az (Dv.aa (Dv.v 0) Dv.ag))))))).h, ?_⟩
   rw [show start ["text"] [V.str (Tx.S w')] = [some (V.str (Tx.S w'))] from rfl]
   walk_at "rd"
   refine ⟨_, .inr (T.rW H), rfl, rfl, ?_⟩
   have e : dQ (V.str (Tx.S w')) [V.str (Str.ofString "."), V.str (Str.ofString "..")] = (decide (w' = [46]) || decide (w' = [46, 46])) := by
    rw [show Str.ofString "." = Tx.S [46] from by decide +kernel, show Str.ofString ".." = Tx.S [46, 46] from by decide +kernel]
    unfold dQ eD
    simp only [List.any_cons, List.any_nil, Bool.or_false]
    have b : ∀ m : List Nat, (Tx.S m == Tx.S w') = decide (w' = m) := fun m => by
     by_cases h : w' = m
     ·rw [h]; simp
     ·have : Tx.S m ≠ Tx.S w' := fun e => h (Tx.ki e).symm
      rw [decide_eq_false h]
      exact beq_eq_false_iff_ne.mpr this
    rw [b, b]
   rw [e]
   cases hd : (decide (w' = [46]) || decide (w' = [46, 46])) with
   | true =>
    refine bZ ?_
    have := q H (ao.refl H)
    unfold bY at this
    rw [hd] at this
    exact this
   | false =>
    refine aS ?_
    refine ⟨⟨_, rfl⟩, (by show (Tx.S w').length ≤ 1000; rw [Tx.cw]; exact hw), fun H' s' => ?_⟩
    have := q H' s'
    unfold bY at this
    rw [hd, Bool.false_or] at this
    have e2 : et (V.str (Tx.S w')) = isNm w' := by show isNm _ = _; rw [Tx.gH]
    rw [e2]
    exact this
  ·exact h.elim
theorem gQ (T : Tx K mg) : aD P w K mg base aG 3 T.bS.f T.bS.d ["path"] (tM K) := by
 have G_is_part := D1 (P := P) (w := w) (base := base) T
 refine T.bS.F.ok Bw (fun vs H Q E h => ?_) (fun cdv A outer s H vs Q E hr h => ?_)
 ·unfold tM at h
  split at h
  ·rfl
  ·exact h.elim
 ·unfold tM at h
  split at h
  ·rename_i z
   obtain ⟨t, rfl, t1, t2, eg, q⟩ := h
   refine ⟨_, ((Dv.cut (Dv.aW (Dv.dS (Dv.w_or (Dv.cH (Dv.cE (Dv.bB gr T.cy cA (Dv.aa (Dv.v 0) (Dv.aa (Dv.fD (.ty "str") T.j9 ji rfl) Dv.ag))))) (Dv.fN (Dv.cH (Dv.rY jl jl Dv.int (Dv.bB (g9 (K := K) rfl) T.fZ PySem.boot_len (Dv.aa (Dv.v 0) Dv.ag)) (Dv.glob (.int 2000) T.Kb ⟨_, rfl⟩)))))) (Dv.aq Dv.bw) Dv.nil)
   (Dv.cut (Dv.N5 1 rfl Bw.nd (Dv.oY (K := K) rfl (Dv.pC PySem.F.slot_str_split PySem.F.type_str_split Mo (Dv.v 0) (Dv.aa Dv.str Dv.ag))) (fun _ _ _ _ => by exact (Dv.BI (Dv.bc eT (Dv.v 0) Dv.str))) (fun _ _ _ _ => by exact (Dv.v 0)))
   (Dv.cut (Dv.aW (Dv.cH (Dv.cE (Dv.bB (xW (K := K) rfl rfl) T.xC ze (Dv.aa (Dv.comp rfl (Dv.oY (K := K) rfl (Dv.v 1)) (fun _ _ _ _ => by exact Dv.yK) (fun _ _ _ _ => by exact (Dv.call G_is_part (hr.mono (by decide)) T.jA.m T.jA.F.kp T.jA.b .nil az (Dv.aa (Dv.v 0) Dv.ag)))) Dv.ag)))) (Dv.aq Dv.bw) Dv.nil)
   (Dv.cut (Dv.aW (Dv.dS (Dv.w_and (Dv.bc (pf hr.iA) (Dv.v 1) (Dv.lst Dv.ag)) (Dv.nW (Dv.cE (Dv.pC PySem.F.slot_str_endswith PySem.F.type_str_endswith OF (Dv.v 0) (Dv.aa Dv.str Dv.ag)))))) (Dv.aq (Dv.aQ (Dv.iw PySem.F.slot_list_append PySem.F.type_list_append iq (Dv.v 1) (Dv.aa Dv.str Dv.ag)))) Dv.nil)
   (Dv.aq (Dv.aK (Dv.tup (Dv.aa (Dv.pC PySem.F.slot_str_startswith PySem.F.type_str_startswith OI (Dv.v 0) (Dv.aa Dv.str Dv.ag)) (Dv.aa (Dv.v 1) Dv.ag)))))))))).h, ?_⟩
   rw [show start ["path", "parts"] [V.str (Tx.S t)] = [some (V.str (Tx.S t)), none] from rfl]
   refine ai ?_
   walk_at "rd"
   have e47 : Str.ofString "/" = Tx.S [47] := by decide +kernel
   have e0 : Str.ofString "" = Tx.S [] := by decide +kernel
   simp only [Tx.cw, e47, e0]
   refine ⟨nF _ rfl, aS ⟨Nat.le_trans t2 (by decide), ?_⟩⟩
   rw [decide_eq_true (show (1 : Int) ≤ (t.length : Int) by omega), decide_eq_true (show (t.length : Int) ≤ 2000 by omega)]
   refine bZ (aS (ai ?_))
   walk_at "rd"
   have hcl := Tx.yP 47 t
   refine ⟨rfl, by rw [Tx.cw]; exact Nat.le_trans t2 (by decide), ?_, ?_⟩
   ·rw [Tx.Am, Tx.fQ, Tx.yt, Tx.pq, List.length_map]
    exact Nat.le_trans (show _ ≤ 2001 by omega) (by decide)
   intro l hl
   rw [Tx.Fn t 47 (by decide)]
   have s1 := ao.upd (o := .lst (((Tx.cut 47 t).map Tx.S).map V.str)) hl
   have b1 : upd H l (.lst (((Tx.cut 47 t).map Tx.S).map V.str)) l = some (.lst (((Tx.cut 47 t).map Tx.S).map V.str)) := aw
   generalize upd H l (.lst (((Tx.cut 47 t).map Tx.S).map V.str)) = H1 at s1 b1 ⊢
   refine ⟨⟨_, aJ.of b1⟩, Bc (fun x => match x with | .str z => !decide (z = Tx.S []) | _ => false) id (aJ.of b1) (by rw [List.length_map, List.length_map]; exact Nat.le_trans (show _ ≤ 2001 by omega) (by decide)) ?_ ?_ ?_⟩
   ·intro x hx H2 _ R hR
    obtain ⟨z, _, rfl⟩ := List.mem_map.mp hx
    walk_at "rd"
    exact hR H2 (ao.refl H2)
   ·intro x hx _ H2 _ R hR
    walk_at "rd"
    exact hR H2 (ao.refl H2)
   intro H2 s2 l2 dE
   have ew : ((((Tx.cut 47 t).map Tx.S).map V.str).filter (fun x => match x with | .str z => !decide (z = Tx.S []) | _ => false)).map id = PV (Tx.words 47 t) := by
    rw [List.map_id, List.filter_map]
    show ((((Tx.cut 47 t).map Tx.S)).filter _).map V.str = _
    congr 1
    rw [← Tx.Dm]
    refine List.filter_congr fun z _ => ?_
    show (!decide (z = Tx.S [])) = decide (z ≠ Tx.S [])
    by_cases h : z = Tx.S [] <;> simp [h]
   rw [ew]
   have hn2 : H l2 = none := (s1.trans s2).free dE
   have s3 := ao.upd (o := .lst (PV (Tx.words 47 t))) dE
   have b3 : upd H2 l2 (.lst (PV (Tx.words 47 t))) l2 = some (.lst (PV (Tx.words 47 t))) := aw
   generalize upd H2 l2 (.lst (PV (Tx.words 47 t))) = H3 at s3 b3 ⊢
   have sH3 : ao H H3 := (s1.trans s2).trans s3
   have hwl : (Tx.words 47 t).length ≤ 2001 := Nat.le_trans (List.length_filter_le _ _) (by omega)
   refine ai ?_
   walk_at "rd"
   refine ⟨⟨_, aJ.of b3⟩, Bc (fun _ => true) (fun x => match x with | .str z => .bl (bY z.cps.toList) | _ => .bl false) (aJ.of b3) (by rw [List.length_map, List.length_map]; exact Nat.le_trans hwl (by decide)) ?_ ?_ ?_⟩
   ·intro x _ H4 _ R hR
    exact hR H4 (ao.refl H4)
   ·intro x hx _ H4 _ R hR
    obtain ⟨z, hz, rfl⟩ := List.mem_map.mp hx
    obtain ⟨w', hw, rfl⟩ := List.mem_map.mp hz
    walk_at "rd"
    obtain ⟨_, _, g3⟩ := oV (List.all_eq_true.mp eg w' hw)
    refine ⟨w', rfl, by omega, fun H5 s5 => ?_⟩
    have := hR H5 s5
    simp only [Tx.gH] at this
    exact this
   intro H4 s4 l4 hl4
   have eb : ((PV (Tx.words 47 t)).filter (fun _ => true)).map (fun x => match x with | .str z => V.bl (bY z.cps.toList) | _ => V.bl false) = ((Tx.words 47 t).map bY).map V.bl := by
    rw [List.filter_eq_self.mpr (fun _ _ => rfl), List.map_map, List.map_map, List.map_map]
    refine List.map_congr_left fun w' _ => ?_
    show V.bl (bY (Tx.S w').cps.toList) = V.bl (bY w')
    rw [Tx.gH]
   rw [eb]
   refine ⟨_, aJ.of aw, _, rfl, ?_⟩
   have ea : ((Tx.words 47 t).map bY).all id = true := by rw [List.all_map]; exact eg
   rw [ea]
   refine aS ?_
   have s5 := ao.upd (o := .lst (((Tx.words 47 t).map bY).map V.bl)) hl4
   generalize upd H4 l4 (.lst (((Tx.words 47 t).map bY).map V.bl)) = H5 at s5 ⊢
   have b5 : H5 l2 = some (.lst (PV (Tx.words 47 t))) := s5 _ _ (s4 _ _ b3)
   have sH5 : ao H H5 := (sH3.trans s4).trans s5
   refine fM (fun σ' H' => σ' = [some (V.str (Tx.S t)), some (V.ref l2)] ∧ ao H H' ∧ H' l2 = some (.lst (PV (told (Tx.words 47 t) t)))) ?_ ?_
   ·walk_at "rd"
    refine ⟨fits (by simp), fun p hp => ?_⟩
    have s6 := ao.upd (o := .lst []) hp
    have c6 : upd H5 p (.lst []) p = some (.lst ((([] : List Str)).map V.str)) := aw
    generalize upd H5 p (.lst []) = H6 at s6 c6 ⊢
    have b6 : H6 l2 = some (.lst (PV (Tx.words 47 t))) := s6 _ _ b5
    refine ⟨(Tx.words 47 t).map Tx.S, [], b6, c6, ?_⟩
    by_cases hw0 : Tx.words 47 t = []
    ·rw [decide_eq_true (show (Tx.words 47 t).map Tx.S = [] by rw [hw0]; rfl)]
     refine aS (aS ⟨trivial, sH5.trans s6, ?_⟩)
     unfold told
     rw [if_neg (fun z => z.1 hw0)]
     exact b6
    ·rw [decide_eq_false (show ¬ (Tx.words 47 t).map Tx.S = [] by simpa using hw0)]
     refine bZ ?_
     rw [Tx.DP]
     by_cases pQ : t.getLast? = some 47
     ·rw [decide_eq_true pQ]
      refine bZ ?_
      simp only [b6]
      refine ⟨by rw [List.length_map, List.length_map]; exact Nat.lt_of_le_of_lt hwl (by decide), trivial, jw.same (sH5.trans s6) hn2 jw.upd, ?_⟩
      unfold told
      rw [if_pos ⟨hw0, pQ⟩, aw, show Str.ofString "." = Tx.S [46] from by decide +kernel]
      simp only [PV, List.map_append, List.map_cons, List.map_nil]
     ·rw [decide_eq_false pQ]
      refine aS ⟨trivial, sH5.trans s6, ?_⟩
      unfold told
      rw [if_neg (fun z => pQ z.2)]
      exact b6
   ·rintro σ' H6 ⟨rfl, s6, b6⟩
    walk_at "rd"
    simp only [e47, Tx.IZ]
    refine ⟨fits (by simp), fun p hp => ?_⟩
    exact q _ l2 p (s6.trans (ao.upd hp)) hn2 (Jd b6 hp) aw
  ·exact h.elim
def vb : Sp := fun vs H Q _ => match vs with
 | [.str z] => ∃ t : List Nat, z = Tx.S t ∧ 1 ≤ t.length ∧ t.length ≤ 120 ∧ (Tx.words 47 t).all bY = true ∧ ∀ H', ao H H' → Q .au H'
 | _ => False
theorem Jl (T : Tx K mg) : aD P w K mg base aG 4 T.jy.f T.jy.d ["path"] vb := by
 have dO := gQ (P := P) (w := w) (base := base) T
 refine T.jy.F.ok LQ (fun vs H Q E h => ?_) (fun cdv A outer s H vs Q E hr h => ?_)
 ·unfold vb at h
  split at h
  ·rfl
  ·exact h.elim
 ·unfold vb at h
  split at h
  ·rename_i z
   obtain ⟨t, rfl, t1, t2, eg, q⟩ := h
   refine ⟨_, ((Dv.cut (Dv.aQ (Dv.call dO (hr.mono (by decide)) T.bS.m T.bS.F.kp T.bS.b .nil az (Dv.aa (Dv.v 0) Dv.ag)))
   (Dv.aq (Dv.aW (Dv.bc zE (Dv.bB (g9 (K := K) rfl) T.fZ PySem.boot_len (Dv.aa (Dv.v 0) Dv.ag)) (Dv.glob (.int 120) T.DJ ⟨_, rfl⟩)) (Dv.aq Dv.bw) Dv.nil)))).h, ?_⟩
   rw [show start ["path"] [V.str (Tx.S t)] = [some (V.str (Tx.S t))] from rfl]
   refine ai ?_
   walk_at "w"
   refine ⟨t, rfl, t1, by omega, eg, fun H' l p s' _ _ _ => ?_⟩
   refine ⟨by rw [Tx.cw]; exact fits (by omega), ?_⟩
   exact fS (fun hd => absurd (of_decide_eq_true hd) (by rw [Tx.cw]; omega)) (fun _ => q H' s')
  ·exact h.elim
theorem JP (T : Tx K mg) : aD P w K mg base aG 1 T.ll.f T.ll.d ["self", "number", "kind", "owner", "mine", "rest", "text"] (rj T.aE) := by
 refine T.ll.F.ok JZ (fun vs H Q E h => ?_) (fun cdv A outer s H vs Q E hr h => ?_)
 ·unfold rj at h
  split at h
  ·rfl
  ·exact h.elim
 ·unfold rj at h
  split at h
  ·rename_i x n kd ow mi re tx
   obtain ⟨dx, hx, q⟩ := h
   refine ⟨_, ((Dv.cut (Dv.bb T.bW T.EW (Dv.v 0) (Dv.v 1))
   (Dv.cut (Dv.bb T.bW T.sZ (Dv.v 0) (Dv.v 2))
   (Dv.cut (Dv.bb T.bW T.u3 (Dv.v 0) (Dv.v 3))
   (Dv.cut (Dv.bb T.bW T.nk (Dv.v 0) (Dv.v 4))
   (Dv.cut (Dv.bb T.bW T.nO (Dv.v 0) (Dv.v 5))
   (Dv.cut (Dv.bb T.bW T.zC (Dv.v 0) (Dv.v 6))
   (Dv.cut (Dv.bb T.bW T.oO (Dv.v 0) Dv.iR)
   (Dv.aq (Dv.bb T.bW T.nI (Dv.v 0) Dv.KC)))))))))).h, ?_⟩
   rw [show start ["self", "number", "kind", "owner", "mine", "rest", "text"] [V.ref x, n, kd, ow, mi, re, tx] = [some (.ref x), some n, some kd, some ow, some mi, some re, some tx] from rfl]
   refine ai ?_
   walk_at "rd"
   refine ⟨x, dx, _, rfl, hx, by decide, ai ?_⟩
   walk_at "rd"
   refine ⟨x, dx, _, rfl, aw, by (refine Nat.lt_of_le_of_lt (m := 40) ?_ (by decide); (repeat (refine bq ?_)); exact Nat.zero_le _), ai ?_⟩
   walk_at "rd"
   refine ⟨x, dx, _, rfl, aw, by (refine Nat.lt_of_le_of_lt (m := 40) ?_ (by decide); (repeat (refine bq ?_)); exact Nat.zero_le _), ai ?_⟩
   walk_at "rd"
   refine ⟨x, dx, _, rfl, aw, by (refine Nat.lt_of_le_of_lt (m := 40) ?_ (by decide); (repeat (refine bq ?_)); exact Nat.zero_le _), ai ?_⟩
   walk_at "rd"
   refine ⟨x, dx, _, rfl, aw, by (refine Nat.lt_of_le_of_lt (m := 40) ?_ (by decide); (repeat (refine bq ?_)); exact Nat.zero_le _), ai ?_⟩
   walk_at "rd"
   refine ⟨x, dx, _, rfl, aw, by (refine Nat.lt_of_le_of_lt (m := 40) ?_ (by decide); (repeat (refine bq ?_)); exact Nat.zero_le _), ai ?_⟩
   simp only [iN]
   walk_at "rd"
   intro l1 h1
   have n1 : l1 ≠ x := fun e => by rw [e, aw] at h1; cases h1
   have h1' : H l1 = none := by rw [ah n1] at h1; exact h1
   refine ⟨x, dx, _, rfl, by rw [ah (Ne.symm n1), aw], by (refine Nat.lt_of_le_of_lt (m := 40) ?_ (by decide); (repeat (refine bq ?_)); exact Nat.zero_le _), fun l2 h2 => ?_⟩
   have n2 : l2 ≠ x := fun e => by rw [e, aw] at h2; cases h2
   rw [ah n2] at h2
   have n3 : l2 ≠ l1 := fun e => by rw [e, aw] at h2; cases h2
   rw [ah n3, ah n2] at h2
   refine ⟨x, dx, _, rfl, by rw [ah (Ne.symm n2), aw], by (refine Nat.lt_of_le_of_lt (m := 40) ?_ (by decide); (repeat (refine bq ?_)); exact Nat.zero_le _), ?_⟩
   refine q l1 l2 _ h1' h2 (Ne.symm n3) n1 n2 (fun b b1 b2 b3 => ?_) ?_ ?_ _ ?_ (fun f => ?_) aw
   ·rw [ah b1, ah b3, ah b1, ah b2, ah b1]
   ·rw [ah n1, ah (Ne.symm n3), ah n1, aw]
   ·rw [ah n2, aw]
   ·exact Nat.le_trans (by (repeat (refine bq ?_)); exact Nat.zero_le _) (Nat.le_refl 40)
   ·rfl
  ·exact h.elim
theorem D4 (T : Tx K mg) : aD P w K mg base aG 1 T.lD.f T.lD.d ["self"] (qb T.aB) := by
 refine T.lD.F.ok FU (fun vs H Q E h => ?_) (fun cdv A outer s H vs Q E hr h => ?_)
 ·unfold qb at h
  split at h
  ·rfl
  ·exact h.elim
 ·unfold qb at h
  split at h
  ·rename_i x
   obtain ⟨dx, hx, q⟩ := h
   refine ⟨_, ((Dv.cut (Dv.bb T.br T.j4 (Dv.v 0) (Dv.lst Dv.ag))
   (Dv.aq (Dv.bb T.br T.pw (Dv.v 0) Dv.int)))).h, ?_⟩
   rw [show start ["self"] [V.ref x] = [some (.ref x)] from rfl]
   refine ai ?_
   walk_at "rd"
   refine ⟨fits (by simp), fun l hl => ?_⟩
   have n1 : l ≠ x := fun e => by rw [e, hx] at hl; cases hl
   refine ⟨x, dx, _, rfl, by rw [ah (Ne.symm n1)]; exact hx, by decide, ?_⟩
   refine ⟨x, dx, _, rfl, aw, by (refine Nat.lt_of_le_of_lt (m := 40) ?_ (by decide); (repeat (refine bq ?_)); exact Nat.zero_le _), ?_⟩
   refine q l _ hl n1 (fun b b1 b2 => ?_) ?_ _ ?_ (fun f => ?_) aw
   ·rw [ah b1, ah b1, ah b2]
   ·rw [ah n1, ah n1, aw]
   ·exact Nat.le_trans (bq (bq (Nat.zero_le _))) (show 0 + 1 + 1 ≤ 40 by decide)
   ·rfl
  ·exact h.elim
theorem Ef (T : Tx K mg) : aD P w K mg base aG 1 T.lM.f T.lM.d ["self", "asker"] (vz T.aE) := by
 refine T.lM.F.ok Ku (fun vs H Q E h => ?_) (fun cdv A outer s H vs Q E hr h => ?_)
 ·unfold vz at h
  split at h
  ·rfl
  ·exact h.elim
 ·unfold vz at h
  split at h
  ·rename_i x z
   obtain ⟨a, i, t, ith, rfl, q⟩ := h
   obtain ⟨fs, hx, hfl, sf⟩ := ith.o
   refine ⟨_, ((Dv.aq (Dv.aK (Dv.ye (Dv.bc eJ (Dv.v 1) (Dv.fld T.bW T.u3 (Dv.v 0))) (Dv.fld T.bW T.nk (Dv.v 0)) (Dv.fld T.bW T.nO (Dv.v 0)))))).h, ?_⟩
   rw [show start ["self", "asker"] [V.ref a.th, V.str z] = [some (V.ref a.th), some (V.str z)] from rfl]
   walk_at "w"
   refine ⟨a.th, _, _, _, rfl, hx, (sf _).trans rfl, ?_⟩
   dsimp only
   unfold cD at q
   by_cases e : z = t.ow
   ·rw [decide_eq_true e]
    rw [if_pos e] at q
    exact bZ ⟨a.th, _, _, _, rfl, hx, (sf _).trans rfl, q⟩
   ·rw [decide_eq_false e]
    rw [if_neg e] at q
    exact aS ⟨a.th, _, _, _, rfl, hx, (sf _).trans rfl, q⟩
  ·exact h.elim
theorem sQ (T : Tx K mg) : aD P w K mg base aG 3 T.gd.f T.gd.d ["self", "kind", "owner", "mine", "rest", "text"] (vK T.aB T.aE) := by
 have G_Thing___init__ := JP (P := P) (w := w) (base := base) T
 refine T.gd.F.ok xZ (fun vs H Q E h => ?_) (fun cdv A outer s H vs Q E hr h => ?_)
 ·unfold vK at h
  split at h
  ·rfl
  ·exact h.elim
 ·unfold vK at h
  split at h
  case h_2 => exact h.elim
  rename_i x kd ow mi re tx
  obtain ⟨dt, ml, rs, ⟨⟨fs, c, hx, hfl, sf⟩, hml⟩, hrl, q⟩ := h
  refine ⟨_, ((Dv.cut (Dv.gU T.br T.pw ia (Dv.v 0) Dv.int)
   (Dv.cut (Dv.aP 6 xZ.nd (Dv.bB (g9 (K := K) rfl) T.fZ PySem.boot_len (Dv.aa (Dv.fld T.br T.j4 (Dv.v 0)) Dv.ag)))
   (Dv.cut (Dv.aQ (Dv.iw PySem.F.slot_list_append PySem.F.type_list_append iq (Dv.fld T.br T.j4 (Dv.v 0)) (Dv.aa (Dv.make T.M5 G_Thing___init__ (hr.mono (by decide)) T.Hy T.ll.b .nil az (Dv.aa (Dv.v 6) (Dv.aa (Dv.v 1) (Dv.aa (Dv.v 2) (Dv.aa (Dv.v 3) (Dv.aa (Dv.v 4) (Dv.aa (Dv.v 5) Dv.ag))))))) Dv.ag)))
   (Dv.aq (Dv.aK (Dv.v 6))))))).h, ?_⟩
  rw [show start ["self", "kind", "owner", "mine", "rest", "text", "number"] [V.ref x, kd, ow, mi, re, tx] = [some (.ref x), some kd, some ow, some mi, some re, some tx, none] from rfl]
  have hne : ml ≠ x := fun e => by rw [e, hx] at hml; cases hml
  refine ai ?_
  walk_at "rd"
  refine ⟨x, dt, fs, .int c, rfl, hx, (sf _).trans rfl, _, _, rfl, rfl, dt, fs, hx, by omega, ai ?_⟩
  have sf1 : cq (ae "changes" (.int (c + 1)) fs) (lI ml (c + 1)) := fun f => by rw [(sf.put "changes" (.int (c + 1))) f]; rfl
  have iX : (ae "changes" (.int (c + 1)) fs).length ≤ 41 := bq hfl
  have hx1 : upd H x (.ins T.aB dt (ae "changes" (.int (c + 1)) fs)) x = some (.ins T.aB dt (ae "changes" (.int (c + 1)) fs)) := aw
  have gE : upd H x (.ins T.aB dt (ae "changes" (.int (c + 1)) fs)) ml = some (.lst rs) := by rw [ah hne]; exact hml
  have kp1 : Kp [x] H (upd H x (.ins T.aB dt (ae "changes" (.int (c + 1)) fs))) := fun b o hb e => by rw [ah (fun z => hb (by simp [z]))]; exact e
  have fr1 : ∀ b, b ≠ x → upd H x (.ins T.aB dt (ae "changes" (.int (c + 1)) fs)) b = H b := fun b hb => ah hb
  generalize upd H x (.ins T.aB dt (ae "changes" (.int (c + 1)) fs)) = H1 at hx1 gE kp1 fr1 ⊢
  walk_at "rd"
  refine ⟨x, dt, _, .ref ml, rfl, hx1, (sf1 _).trans rfl, ?_⟩
  simp only [bt, gE]
  refine ai ?_
  walk_at "rd"
  refine ⟨x, dt, _, .ref ml, rfl, hx1, (sf1 _).trans rfl, ?_⟩
  simp only [gE]
  intro th cm hth hdth hdn
  refine ⟨cm, aw, fun nm pl H2 hnm hpl hnp hn1 hn2 fr2 hnm2 hpl2 ks hkl sk hth2 => ⟨rfl, ?_⟩⟩
  have v7 : ∀ b o, H1 b = some o → upd (upd H1 cm (HO.own th)) th (HO.ins T.aE cm []) b = some o := fun b o e => by
   rw [ah (aC e hth), ah (aC e hdth)]; exact e
  have wH : ∀ b o, H1 b = some o → H2 b = some o := fun b o e => by
   rw [fr2 b (aC e hth) (aC (v7 b o e) hnm) (aC (v7 b o e) hpl)]; exact v7 b o e
  have dn : ∀ d, d ≠ th → upd (upd H1 cm (HO.own th)) th (HO.ins T.aE cm []) d = none → H1 d = none := fun d n e => by
   rw [ah n] at e
   by_cases z : d = cm
   ·rw [z, aw] at e; cases e
   ·rw [ah z] at e; exact e
  have nm1 := dn nm hn1 hnm
  have pl1 := dn pl hn2 hpl
  have toH : ∀ d, H1 d = none → H d = none := fun d e => by rw [← fr1 d (Ne.symm (aC hx1 e))]; exact e
  simp only [wH _ _ gE]
  refine ⟨iB (by omega), ?_⟩
  refine q th cm nm pl ks _ (toH _ hth) (toH _ nm1) (toH _ pl1) ⟨⟨_, c + 1, by rw [ah (Ne.symm hne)]; exact wH _ _ hx1, ?_, sf1⟩, aw⟩ (by rw [ah (Ne.symm (aC gE hth))]; exact hth2) hkl sk
   (by rw [ah (Ne.symm (aC gE nm1))]; exact hnm2) (by rw [ah (Ne.symm (aC gE pl1))]; exact hpl2) (fun b o hb e => ?_)
  ·rw [cW (u := .int c) ((sf _).trans rfl)]; exact hfl
  ·simp only [List.mem_cons, List.not_mem_nil, or_false, not_or] at hb
   rw [ah hb.2]
   exact wH _ _ (kp1 b o (by simp [hb.1]) e)
theorem Ax (T : Tx K mg) : aD P w K mg base aG 4 T.iM.f T.iM.d ["self", "owner", "mine", "rest"] (tS T.aB T.aE) := by
 have m8 := sQ (P := P) (w := w) (base := base) T
 refine T.iM.F.ok Ed (fun vs H Q E h => ?_) (fun cdv A outer s H vs Q E hr h => ?_)
 ·unfold tS at h
  split at h
  ·rfl
  ·exact h.elim
 ·unfold tS at h
  split at h
  ·rename_i x ow mi re
   obtain ⟨dt, ml, rs, at', hrl, q⟩ := h
   obtain ⟨fs, c, hx, hfl, sf⟩ := at'.o
   refine ⟨_, ((Dv.aq (Dv.aK (Dv.aZ T.br T.gd.h m8 (hr.mono (by decide)) T.gd.b .nil az (Dv.v 0) (Dv.aa (Dv.glob (.str "folder") T.oN ⟨_, rfl⟩) (Dv.aa (Dv.v 1) (Dv.aa (Dv.v 2) (Dv.aa (Dv.v 3) (Dv.aa Dv.str Dv.ag))))))))).h, ?_⟩
   rw [show start ["self", "owner", "mine", "rest"] [V.ref x, ow, mi, re] = [some (.ref x), some ow, some mi, some re] from rfl]
   walk_at "w"
   exact ⟨x, dt, fs, rfl, hx, (sf _).trans rfl, dt, ml, rs, at', hrl, q⟩
  ·exact h.elim
theorem Gd (T : Tx K mg) : aD P w K mg base aG 4 T.mm.f T.mm.d ["self", "owner", "text", "mine", "rest"] (qZ T.aB T.aE) := by
 have m8 := sQ (P := P) (w := w) (base := base) T
 refine T.mm.F.ok D3 (fun vs H Q E h => ?_) (fun cdv A outer s H vs Q E hr h => ?_)
 ·unfold qZ at h
  split at h
  ·rfl
  ·exact h.elim
 ·unfold qZ at h
  split at h
  ·rename_i x ow tx mi re
   obtain ⟨dt, ml, rs, at', hrl, q⟩ := h
   obtain ⟨fs, c, hx, hfl, sf⟩ := at'.o
   refine ⟨_, ((Dv.aq (Dv.aK (Dv.aZ T.br T.gd.h m8 (hr.mono (by decide)) T.gd.b .nil az (Dv.v 0) (Dv.aa (Dv.glob (.str "file") T.Ay ⟨_, rfl⟩) (Dv.aa (Dv.v 1) (Dv.aa (Dv.v 3) (Dv.aa (Dv.v 4) (Dv.aa (Dv.v 2) Dv.ag))))))))).h, ?_⟩
   rw [show start ["self", "owner", "text", "mine", "rest"] [V.ref x, ow, tx, mi, re] = [some (.ref x), some ow, some tx, some mi, some re] from rfl]
   walk_at "w"
   exact ⟨x, dt, fs, rfl, hx, (sf _).trans rfl, dt, ml, rs, at', hrl, q⟩
  ·exact h.elim
theorem DY (T : Tx K mg) : aD P w K mg base aG 4 T.lz.f T.lz.d ["self", "owner", "path"] (qi T.aB T.aE) := by
 have m8 := sQ (P := P) (w := w) (base := base) T
 refine T.lz.F.ok HL (fun vs H Q E h => ?_) (fun cdv A outer s H vs Q E hr h => ?_)
 ·unfold qi at h
  split at h
  ·rfl
  ·exact h.elim
 ·unfold qi at h
  split at h
  ·rename_i x ow tx
   obtain ⟨dt, ml, rs, at', hrl, q⟩ := h
   obtain ⟨fs, c, hx, hfl, sf⟩ := at'.o
   refine ⟨_, ((Dv.aq (Dv.aK (Dv.aZ T.br T.gd.h m8 (hr.mono (by decide)) T.gd.b .nil az (Dv.v 0) (Dv.aa (Dv.glob (.str "lead") T.Kq ⟨_, rfl⟩) (Dv.aa (Dv.v 1) (Dv.aa Dv.str (Dv.aa Dv.str (Dv.aa (Dv.v 2) Dv.ag))))))))).h, ?_⟩
   rw [show start ["self", "owner", "path"] [V.ref x, ow, tx] = [some (.ref x), some ow, some tx] from rfl]
   walk_at "w"
   exact ⟨x, dt, fs, rfl, hx, (sf _).trans rfl, dt, ml, rs, at', hrl, q⟩
  ·exact h.elim
theorem fe (T : Tx K mg) : aD P w K mg base (bJ P w) 2 T.bQ.f T.bQ.d ["self", "number"] (oH T.aj T.aB T.aE T.bD) := by
 have w9 := A2 (P := P) (w := w) (base := base) T
 refine T.bQ.F.jV F8 (fun vs H Q E h => ?_) (fun cdv A outer s H vs Q E hr h => ?_)
 ·unfold oH at h
  split at h
  ·rfl
  ·exact h.elim
 ·unfold oH at h
  split at h
  ·rename_i x v
   obtain ⟨AA, L, M, i, rfl, hcl, q1, q2⟩ := h
   obtain ⟨fs, c, hx, hfl, sf⟩ := i.t
   refine ⟨_, ((Dv.cut (Dv.aW (Dv.dS (Dv.w_or (Dv.cH (Dv.cE (Dv.call w9 (hr.mono (by decide)) T.fU.m T.fU.F.kp T.fU.b .nil az (Dv.aa (Dv.v 1) Dv.ag)))) (Dv.fN (Dv.cH (Dv.rY jl Bo Dv.int (Dv.v 1) (Dv.bB (g9 (K := K) rfl) T.fZ PySem.boot_len (Dv.aa (Dv.fld T.br T.j4 (Dv.v 0)) Dv.ag))))))) (Dv.aq (Dv.tE vT rfl T.yZ T.Of (Dv.aa Dv.str Dv.ag))) Dv.nil)
   (Dv.aq (Dv.aK (Dv.ix (ba (K := K) rfl) (Dv.fld T.br T.j4 (Dv.v 0)) (Dv.v 1)))))).h, ?_⟩
   rw [show start ["self", "number"] [V.ref AA.t, v] = [some (.ref AA.t), some v] from rfl]
   refine ai ?_
   walk_at "w"
   refine ⟨hcl, ?_⟩
   cases v with
   | int n =>
    simp only [Ai, Bool.not_true, Bool.false_eq_true, if_false]
    refine fS (fun h0 => ?_) (fun h0 => bZ ⟨fits (by simp), q2 fun j e => ?_⟩)
    ·have h0' : 0 ≤ n := of_decide_eq_true h0
     refine ⟨AA.t, _, _, .ref AA.ml, rfl, hx, (sf _).trans rfl, ?_⟩
     simp only [bt, i.ml, List.length_map, i.len]
     obtain ⟨k, rfl⟩ := Int.eq_ofNat_of_zero_le h0'
     by_cases hk : k < M.ts.length
     ·rw [decide_eq_true (show (k : Int) < (M.ts.length : Int) by omega)]
      refine aS ⟨AA.t, _, _, .ref AA.ml, rfl, hx, (sf _).trans rfl, ?_⟩
      simp only [bt, i.ml]
      have hkL : k < L.length := by rw [i.len]; exact hk
      rw [lX (xs := L.map fun a => V.ref a.th) (j := k) (by rw [List.getElem?_map, List.getElem?_eq_getElem hkL]; rfl)]
      exact q1 k _ _ rfl (List.getElem?_eq_getElem hkL) (List.getElem?_eq_getElem hk)
     ·rw [decide_eq_false (show ¬ (k : Int) < (M.ts.length : Int) by omega)]
      refine bZ ⟨fits (by simp), q2 fun j e => ?_⟩
      injection e with e
      have : k = j := by omega
      rw [← this]; exact hk
    ·injection e with e
     exact absurd (decide_eq_true (show (0 : Int) ≤ n by omega)) h0
   | _ => exact ⟨fits (by simp), q2 fun k e => by cases e⟩
  ·exact h.elim
theorem Hg (T : Tx K mg) : aD P w K mg base aG 1 T.lC.f T.lC.d ["self"] (jg T.aj T.aB T.aE Ad.t) := by
 refine T.lC.F.ok Hn (fun vs H Q E h => ?_) (fun cdv A outer s H vs Q E hr h => ?_)
 ·unfold jg at h
  split at h
  ·rfl
  ·exact h.elim
 ·unfold jg at h
  split at h
  ·rename_i x
   obtain ⟨AA, L, M, i, rfl, q⟩ := h
   obtain ⟨fs, c, hx, hfl, sf⟩ := i.t
   refine ⟨_, ((Dv.aq (Dv.aK (Dv.bB (g9 (K := K) rfl) T.fZ PySem.boot_len (Dv.aa (Dv.fld T.br T.j4 (Dv.v 0)) Dv.ag))))).h, ?_⟩
   rw [show start ["self"] [V.ref AA.t] = [some (.ref AA.t)] from rfl]
   walk_at "w"
   refine ⟨AA.t, _, _, .ref AA.ml, rfl, hx, (sf _).trans rfl, ?_⟩
   simp only [bt, i.ml, List.length_map, i.len]
   exact q
  ·exact h.elim
section
variable {T : Tx K mg} {H : Hp} {A : Ad} {L : List Ta} {M : Hs}
theorem fk {k : Nat} {a : Ta} {t : Th} {Q : VK} {E : XK} (i : aH T.aj T.aB T.aE H A L M) (ha : L[k]? = some a) (ht : M.ts[k]? = some t) (q : Q (.ref a.th) H) : oH T.aj T.aB T.aE T.bD [.ref A.t, .int (k : Int)] H Q E :=
 ⟨A, L, M, i, rfl, ⟨_, rfl⟩, fun j a' t' e h1 h2 => by
  injection e with e
  have : k = j := by omega
  subst this
  rw [ha] at h1; cases h1
  exact q, fun h => absurd (List.getElem?_eq_some_iff.mp ht).1 (h k rfl)⟩
theorem cP {k : Nat} {a : Ta} {t : Th} (i : aH T.aj T.aB T.aE H A L M) (ha : L[k]? = some a) (ht : M.ts[k]? = some t) : fF T.aE H a k t := by
 obtain ⟨a', e, h⟩ := i.th k t ht
 rw [ha] at e; cases e
 exact h
end
theorem AG (T : Tx K mg) : aD P w K mg base aG 3 T.iC.f T.iC.d ["self", "folder", "name"] (qK T.aj T.aB T.aE Ad.t) := by
 have cB := fe (P := P) (w := w) (base := base) T
 refine T.iC.F.ok Ge (fun vs H Q E h => ?_) (fun cdv A outer s H vs Q E hr h => ?_)
 ·unfold qK at h
  split at h
  ·rfl
  ·exact h.elim
 ·unfold qK at h
  split at h
  ·rename_i x n z
   obtain ⟨AA, L, M, k, a, t, i, rfl, rfl, ha, hth, q⟩ := h
   obtain ⟨fs, c, hx, hfl, sf⟩ := i.h
   obtain ⟨gs, c2, ht, hgl, sg⟩ := i.t
   have ith := cP i ha hth
   obtain ⟨ks, ho, hol, so⟩ := ith.o
   refine ⟨_, ((Dv.aq (Dv.aK (Dv.OC (ff hr) (Dv.fld T.bW T.oO (Dv.bU T.br T.bQ.h cB (hr.mono (by decide)) T.bQ.b .nil ck (Dv.v 0) (Dv.aa (Dv.v 1) Dv.ag))) (Dv.v 2))))).h, ?_⟩
   rw [show start ["self", "folder", "name"] [V.ref AA.t, V.int (k : Int), V.str z] = [some (V.ref AA.t), some (V.int (k : Int)), some (V.str z)] from rfl]
   walk_at "w"
   refine ⟨AA.t, _, _, rfl, ht, (sg _).trans rfl, fk i ha hth ⟨a.th, _, _, .ref a.nm, rfl, ho, (so _).trans rfl, a.nm, rfl, .inl ⟨_, .inl ith.nm⟩, _, cS.k (k := .inr z) ith.nm, q⟩⟩
  ·exact h.elim
theorem Km (T : Tx K mg) : aD P w K mg base aG 3 T.lH.f T.lH.d ["self", "number"] (bO T.aj T.aB T.aE Ad.t yM) := by
 have cB := fe (P := P) (w := w) (base := base) T
 refine T.lH.F.ok LU (fun vs H Q E h => ?_) (fun cdv A outer s H vs Q E hr h => ?_)
 ·unfold bO at h
  split at h
  ·rfl
  ·exact h.elim
 ·unfold bO at h
  split at h
  ·rename_i x n
   obtain ⟨AA, L, M, k, a, t, i, rfl, rfl, ha, hth, q⟩ := h
   obtain ⟨fs, c, hx, hfl, sf⟩ := i.h
   obtain ⟨gs, c2, ht, hgl, sg⟩ := i.t
   have ith := cP i ha hth
   obtain ⟨ks, ho, hol, so⟩ := ith.o
   refine ⟨_, ((Dv.aq (Dv.aK (Dv.bB (EU (K := K) rfl rfl) T.IF ED (Dv.aa (Dv.fld T.bW T.oO (Dv.bU T.br T.bQ.h cB (hr.mono (by decide)) T.bQ.b .nil ck (Dv.v 0) (Dv.aa (Dv.v 1) Dv.ag))) Dv.ag))))).h, ?_⟩
   rw [show start ["self", "number"] [V.ref AA.t, V.int (k : Int)] = [some (V.ref AA.t), some (V.int (k : Int))] from rfl]
   walk_at "w"
   refine ⟨AA.t, _, _, rfl, ht, (sg _).trans rfl, fk i ha hth ⟨a.th, _, _, .ref a.nm, rfl, ho, (so _).trans rfl, .inr (.inl ⟨a.nm, _, t.aX.map (·.1), rfl, ith.nm, by unfold sD; rw [List.map_map, List.map_map]; rfl, by rw [List.length_map]; exact q.1, q.2⟩)⟩⟩
  ·exact h.elim
theorem Lo (T : Tx K mg) : aD P w K mg base aG 3 T.lA.f T.lA.d ["self", "number"] (bO T.aj T.aB T.aE Ad.t zd) := by
 have cB := fe (P := P) (w := w) (base := base) T
 refine T.lA.F.ok EH (fun vs H Q E h => ?_) (fun cdv A outer s H vs Q E hr h => ?_)
 ·unfold bO at h
  split at h
  ·rfl
  ·exact h.elim
 ·unfold bO at h
  split at h
  ·rename_i x n
   obtain ⟨AA, L, M, k, a, t, i, rfl, rfl, ha, hth, q⟩ := h
   obtain ⟨fs, c, hx, hfl, sf⟩ := i.h
   obtain ⟨gs, c2, ht, hgl, sg⟩ := i.t
   have ith := cP i ha hth
   obtain ⟨ks, ho, hol, so⟩ := ith.o
   refine ⟨_, ((Dv.aq (Dv.aK (Dv.minD rfl T.OA (Dv.fld T.bW T.nI (Dv.bU T.br T.bQ.h cB (hr.mono (by decide)) T.bQ.b .nil ck (Dv.v 0) (Dv.aa (Dv.v 1) Dv.ag))))))).h, ?_⟩
   rw [show start ["self", "number"] [V.ref AA.t, V.int (k : Int)] = [some (V.ref AA.t), some (V.int (k : Int))] from rfl]
   walk_at "w"
   refine ⟨AA.t, _, _, rfl, ht, (sg _).trans rfl, fk i ha hth ⟨a.th, _, _, .ref a.pl, rfl, ho, (so _).trans rfl, a.pl, _, rfl, ith.pl, ?_⟩⟩
   rcases q with ⟨e, q⟩ | ⟨f, z, e, q⟩
   ·rw [e]; exact .inl ⟨rfl, q⟩
   ·rw [e]; exact .inr ⟨_, _, rfl, q⟩
  ·exact h.elim
theorem n9 (T : Tx K mg) : aD P w K mg base aG 3 T.e9.f T.e9.d ["self", "number"] (bO T.aj T.aB T.aE Ad.a nH) := by
 have cB := fe (P := P) (w := w) (base := base) T
 refine T.e9.F.ok Lv (fun vs H Q E h => ?_) (fun cdv A outer s H vs Q E hr h => ?_)
 ·unfold bO at h
  split at h
  ·rfl
  ·exact h.elim
 ·unfold bO at h
  split at h
  ·rename_i x n
   obtain ⟨AA, L, M, k, a, t, i, rfl, rfl, ha, hth, q⟩ := h
   obtain ⟨fs, c, hx, hfl, sf⟩ := i.h
   obtain ⟨gs, c2, ht, hgl, sg⟩ := i.t
   have ith := cP i ha hth
   obtain ⟨ks, ho, hol, so⟩ := ith.o
   refine ⟨_, ((Dv.aq (Dv.aK (Dv.fld T.bW T.sZ (Dv.bU T.br T.bQ.h cB (hr.mono (by decide)) T.bQ.b .nil ck (Dv.fld T.aI T.cX (Dv.v 0)) (Dv.aa (Dv.v 1) Dv.ag)))))).h, ?_⟩
   rw [show start ["self", "number"] [V.ref AA.a, V.int (k : Int)] = [some (V.ref AA.a), some (V.int (k : Int))] from rfl]
   walk_at "w"
   exact ⟨AA.a, _, _, .ref AA.t, rfl, hx, (sf _).trans rfl, AA.t, _, _, rfl, ht, (sg _).trans rfl, fk i ha hth ⟨a.th, _, _, _, rfl, ho, (so _).trans rfl, q⟩⟩
  ·exact h.elim
theorem zg (T : Tx K mg) : aD P w K mg base aG 3 T.il.f T.il.d ["self", "number"] (bO T.aj T.aB T.aE Ad.a FL) := by
 have cB := fe (P := P) (w := w) (base := base) T
 refine T.il.F.ok M7 (fun vs H Q E h => ?_) (fun cdv A outer s H vs Q E hr h => ?_)
 ·unfold bO at h
  split at h
  ·rfl
  ·exact h.elim
 ·unfold bO at h
  split at h
  ·rename_i x n
   obtain ⟨AA, L, M, k, a, t, i, rfl, rfl, ha, hth, q⟩ := h
   obtain ⟨fs, c, hx, hfl, sf⟩ := i.h
   obtain ⟨gs, c2, ht, hgl, sg⟩ := i.t
   have ith := cP i ha hth
   obtain ⟨ks, ho, hol, so⟩ := ith.o
   refine ⟨_, ((Dv.aq (Dv.aK (Dv.fld T.bW T.u3 (Dv.bU T.br T.bQ.h cB (hr.mono (by decide)) T.bQ.b .nil ck (Dv.fld T.aI T.cX (Dv.v 0)) (Dv.aa (Dv.v 1) Dv.ag)))))).h, ?_⟩
   rw [show start ["self", "number"] [V.ref AA.a, V.int (k : Int)] = [some (V.ref AA.a), some (V.int (k : Int))] from rfl]
   walk_at "w"
   exact ⟨AA.a, _, _, .ref AA.t, rfl, hx, (sf _).trans rfl, AA.t, _, _, rfl, ht, (sg _).trans rfl, fk i ha hth ⟨a.th, _, _, _, rfl, ho, (so _).trans rfl, q⟩⟩
  ·exact h.elim
theorem LL (T : Tx K mg) : aD P w K mg base aG 3 T.lN.f T.lN.d ["self", "number"] (bO T.aj T.aB T.aE Ad.a N2) := by
 have cB := fe (P := P) (w := w) (base := base) T
 refine T.lN.F.ok Mv (fun vs H Q E h => ?_) (fun cdv A outer s H vs Q E hr h => ?_)
 ·unfold bO at h
  split at h
  ·rfl
  ·exact h.elim
 ·unfold bO at h
  split at h
  ·rename_i x n
   obtain ⟨AA, L, M, k, a, t, i, rfl, rfl, ha, hth, q⟩ := h
   obtain ⟨fs, c, hx, hfl, sf⟩ := i.h
   obtain ⟨gs, c2, ht, hgl, sg⟩ := i.t
   have ith := cP i ha hth
   obtain ⟨ks, ho, hol, so⟩ := ith.o
   refine ⟨_, ((Dv.aq (Dv.aK (Dv.fld T.bW T.zC (Dv.bU T.br T.bQ.h cB (hr.mono (by decide)) T.bQ.b .nil ck (Dv.fld T.aI T.cX (Dv.v 0)) (Dv.aa (Dv.v 1) Dv.ag)))))).h, ?_⟩
   rw [show start ["self", "number"] [V.ref AA.a, V.int (k : Int)] = [some (V.ref AA.a), some (V.int (k : Int))] from rfl]
   walk_at "w"
   exact ⟨AA.a, _, _, .ref AA.t, rfl, hx, (sf _).trans rfl, AA.t, _, _, rfl, ht, (sg _).trans rfl, fk i ha hth ⟨a.th, _, _, _, rfl, ho, (so _).trans rfl, q⟩⟩
  ·exact h.elim
theorem FP (T : Tx K mg) : aD P w K mg base aG 3 T.lQ.f T.lQ.d ["self", "number"] (bO T.aj T.aB T.aE Ad.a D6) := by
 have cB := fe (P := P) (w := w) (base := base) T
 refine T.lQ.F.ok Bu (fun vs H Q E h => ?_) (fun cdv A outer s H vs Q E hr h => ?_)
 ·unfold bO at h
  split at h
  ·rfl
  ·exact h.elim
 ·unfold bO at h
  split at h
  ·rename_i x n
   obtain ⟨AA, L, M, k, a, t, i, rfl, rfl, ha, hth, q⟩ := h
   obtain ⟨fs, c, hx, hfl, sf⟩ := i.h
   obtain ⟨gs, c2, ht, hgl, sg⟩ := i.t
   have ith := cP i ha hth
   obtain ⟨ks, ho, hol, so⟩ := ith.o
   refine ⟨_, ((Dv.cut (Dv.aP 2 Bu.nd (Dv.bU T.br T.bQ.h cB (hr.mono (by decide)) T.bQ.b .nil ck (Dv.fld T.aI T.cX (Dv.v 0)) (Dv.aa (Dv.v 1) Dv.ag)))
   (Dv.aq (Dv.aK (Dv.tup (Dv.aa (Dv.fld T.bW T.nk (Dv.v 2)) (Dv.aa (Dv.fld T.bW T.nO (Dv.v 2)) Dv.ag))))))).h, ?_⟩
   rw [show start ["self", "number", "thing"] [V.ref AA.a, V.int (k : Int)] = [some (V.ref AA.a), some (V.int (k : Int)), none] from rfl]
   refine ai ?_
   walk_at "w"
   refine ⟨AA.a, _, _, .ref AA.t, rfl, hx, (sf _).trans rfl, AA.t, _, _, rfl, ht, (sg _).trans rfl, fk i ha hth ?_⟩
   walk_at "w"
   exact ⟨a.th, _, _, _, rfl, ho, (so _).trans rfl, a.th, _, _, _, rfl, ho, (so _).trans rfl, fits (by simp), q⟩
  ·exact h.elim
theorem LO (T : Tx K mg) : aD P w K mg base aG 4 T.kX.f T.kX.d ["self", "number"] (bO T.aj T.aB T.aE Ad.a yM) := by
 have G_Things_names_in := Km (P := P) (w := w) (base := base) T
 refine T.kX.F.ok Hq (fun vs H Q E h => ?_) (fun cdv A outer s H vs Q E hr h => ?_)
 ·unfold bO at h
  split at h
  ·rfl
  ·exact h.elim
 ·unfold bO at h
  split at h
  ·rename_i x n
   obtain ⟨AA, L, M, k, a, t, i, rfl, rfl, ha, hth, q⟩ := h
   obtain ⟨fs, c, hx, hfl, sf⟩ := i.h
   obtain ⟨gs, c2, ht, hgl, sg⟩ := i.t
   have ith := cP i ha hth
   obtain ⟨ks, ho, hol, so⟩ := ith.o
   refine ⟨_, ((Dv.aq (Dv.aK (Dv.aZ T.br T.lH.h G_Things_names_in (hr.mono (by decide)) T.lH.b .nil az (Dv.fld T.aI T.cX (Dv.v 0)) (Dv.aa (Dv.v 1) Dv.ag))))).h, ?_⟩
   rw [show start ["self", "number"] [V.ref AA.a, V.int (k : Int)] = [some (V.ref AA.a), some (V.int (k : Int))] from rfl]
   walk_at "w"
   exact ⟨AA.a, _, _, .ref AA.t, rfl, hx, (sf _).trans rfl, AA.t, _, _, rfl, ht, (sg _).trans rfl, AA, L, M, k, a, t, i, rfl, rfl, ha, hth, q⟩
  ·exact h.elim
theorem yw (T : Tx K mg) : aD P w K mg base aG 4 T.iE.f T.iE.d ["self", "number"] (bO T.aj T.aB T.aE Ad.a zd) := by
 have G_Things_place_of := Lo (P := P) (w := w) (base := base) T
 refine T.iE.F.ok Iy (fun vs H Q E h => ?_) (fun cdv A outer s H vs Q E hr h => ?_)
 ·unfold bO at h
  split at h
  ·rfl
  ·exact h.elim
 ·unfold bO at h
  split at h
  ·rename_i x n
   obtain ⟨AA, L, M, k, a, t, i, rfl, rfl, ha, hth, q⟩ := h
   obtain ⟨fs, c, hx, hfl, sf⟩ := i.h
   obtain ⟨gs, c2, ht, hgl, sg⟩ := i.t
   have ith := cP i ha hth
   obtain ⟨ks, ho, hol, so⟩ := ith.o
   refine ⟨_, ((Dv.aq (Dv.aK (Dv.aZ T.br T.lA.h G_Things_place_of (hr.mono (by decide)) T.lA.b .nil az (Dv.fld T.aI T.cX (Dv.v 0)) (Dv.aa (Dv.v 1) Dv.ag))))).h, ?_⟩
   rw [show start ["self", "number"] [V.ref AA.a, V.int (k : Int)] = [some (V.ref AA.a), some (V.int (k : Int))] from rfl]
   walk_at "w"
   exact ⟨AA.a, _, _, .ref AA.t, rfl, hx, (sf _).trans rfl, AA.t, _, _, rfl, ht, (sg _).trans rfl, AA, L, M, k, a, t, i, rfl, rfl, ha, hth, q⟩
  ·exact h.elim
theorem Gy (T : Tx K mg) : aD P w K mg base aG 3 T.kO.f T.kO.d ["self", "number"] (bO T.aj T.aB T.aE Ad.a G3) := by
 have cB := fe (P := P) (w := w) (base := base) T
 refine T.kO.F.ok Fz (fun vs H Q E h => ?_) (fun cdv A outer s H vs Q E hr h => ?_)
 ·unfold bO at h
  split at h
  ·rfl
  ·exact h.elim
 ·unfold bO at h
  split at h
  ·rename_i x n
   obtain ⟨AA, L, M, k, a, t, i, rfl, rfl, ha, hth, q⟩ := h
   obtain ⟨fs, c, hx, hfl, sf⟩ := i.h
   obtain ⟨gs, c2, ht, hgl, sg⟩ := i.t
   have ith := cP i ha hth
   obtain ⟨ks, ho, hol, so⟩ := ith.o
   refine ⟨_, ((Dv.aq (Dv.aQ (Dv.bU T.br T.bQ.h cB (hr.mono (by decide)) T.bQ.b .nil ck (Dv.fld T.aI T.cX (Dv.v 0)) (Dv.aa (Dv.v 1) Dv.ag))))).h, ?_⟩
   rw [show start ["self", "number"] [V.ref AA.a, V.int (k : Int)] = [some (V.ref AA.a), some (V.int (k : Int))] from rfl]
   walk_at "w"
   exact ⟨AA.a, _, _, .ref AA.t, rfl, hx, (sf _).trans rfl, AA.t, _, _, rfl, ht, (sg _).trans rfl, fk i ha hth q⟩
  ·exact h.elim
theorem Ex (T : Tx K mg) : aD P w K mg base aG 2 T.lZ.f T.lZ.d ["self"] (jg T.aj T.aB T.aE Ad.a) := by
 have G_Things_many := Hg (P := P) (w := w) (base := base) T
 refine T.lZ.F.ok Fe (fun vs H Q E h => ?_) (fun cdv A outer s H vs Q E hr h => ?_)
 ·unfold jg at h
  split at h
  ·rfl
  ·exact h.elim
 ·unfold jg at h
  split at h
  ·rename_i x
   obtain ⟨AA, L, M, i, rfl, q⟩ := h
   obtain ⟨fs, c, hx, hfl, sf⟩ := i.h
   obtain ⟨gs, c2, ht, hgl, sg⟩ := i.t
   refine ⟨_, ((Dv.aq (Dv.aK (Dv.ou T.br T.lC.h G_Things_many (hr.mono (by decide)) T.lC.b .nil az (Dv.fld T.aI T.cX (Dv.v 0)))))).h, ?_⟩
   rw [show start ["self"] [V.ref AA.a] = [some (V.ref AA.a)] from rfl]
   walk_at "w"
   exact ⟨AA.a, _, _, .ref AA.t, rfl, hx, (sf _).trans rfl, AA.t, _, _, rfl, ht, (sg _).trans rfl, AA, L, M, i, rfl, q⟩
  ·exact h.elim
section
variable {CH CS CT : Addr} {H : Hp} {A : Ad} {L : List Ta} {M : Hs}
theorem aH.mq (i : aH CH CS CT H A L M) {k : Nat} {a : Ta} (ha : L[k]? = some a) : ∀ b ∈ A.w, ∀ c ∈ a.l, b ≠ c := fun b hb c hc => by
 have nd := i.nd
 rw [List.nodup_append] at nd
 exact nd.2.2 b hb c (fJ ha hc)
theorem aH.aT (i : aH CH CS CT H A L M) : A.a ≠ A.t := by
 have nd := i.nd
 rw [List.nodup_append] at nd
 have := (List.nodup_cons.mp nd.1).1
 exact fun e => this (by rw [e]; simp)
theorem yG : ∀ {L : List Ta} {k : Nat} {a : Ta}, (L.flatMap Ta.l).Nodup → L[k]? = some a → a.l.Nodup
 | c :: r, 0, a, nd, h => by
  rw [List.flatMap_cons, List.nodup_append] at nd
  simp only [List.getElem?_cons_zero, Option.some.injEq] at h
  subst h; exact nd.1
 | c :: r, k + 1, a, nd, h => by
  rw [List.flatMap_cons, List.nodup_append] at nd
  simp only [List.getElem?_cons_succ] at h
  exact yG nd.2.1 h
theorem aH.own (i : aH CH CS CT H A L M) {k : Nat} {a : Ta} (ha : L[k]? = some a) : a.th ≠ a.nm ∧ a.th ≠ a.pl ∧ a.nm ≠ a.pl := by
 have nd := i.nd
 rw [List.nodup_append] at nd
 have := yG nd.2.1 ha
 simp only [Ta.l, List.nodup_cons, List.mem_cons, List.not_mem_nil, or_false, not_or, not_false_eq_true, List.nodup_nil, and_true] at this
 exact ⟨this.1.1, this.1.2, this.2⟩
end
def um (CH CS CT : Addr) : Sp := fun vs H Q _ => match vs with
 | [.ref x, .int n, .str m, .str r] => ∃ A L M, ∃ k : Nat, ∃ a t, aH CH CS CT H A L M ∧ A.t = x ∧ n = (k : Int) ∧ L[k]? = some a ∧ M.ts[k]? = some t ∧
   ∀ H', aH CH CS CT H' A L { M with ts := M.ts.set k { t with mi := m, re := r } } → Kp [A.t, a.th] H H' → Q .au H'
 | _ => False
theorem Eo (T : Tx K mg) : aD P w K mg base aG 3 T.mM.f T.mM.d ["self", "number", "mine", "rest"] (um T.aj T.aB T.aE) := by
 have cB := fe (P := P) (w := w) (base := base) T
 refine T.mM.F.ok Bq (fun vs H Q E h => ?_) (fun cdv A outer s H vs Q E hr h => ?_)
 ·unfold um at h
  split at h
  ·rfl
  ·exact h.elim
 ·unfold um at h
  split at h
  ·rename_i x n m r
   obtain ⟨AA, L, M, k, a, t, i, rfl, rfl, ha, hth, q⟩ := h
   obtain ⟨fs, c, hx, hfl, sf⟩ := i.h
   obtain ⟨gs, c2, ht, hgl, sg⟩ := i.t
   have ith := cP i ha hth
   obtain ⟨ks, ho, hol, so⟩ := ith.o
   have off := i.mq ha
   have n1 : AA.t ≠ a.th := off _ (by simp [Ad.w]) _ (by simp [Ta.l])
   have n2 : AA.a ≠ a.th := off _ (by simp [Ad.w]) _ (by simp [Ta.l])
   have n3 := i.own ha
   refine ⟨_, ((Dv.cut (Dv.aP 4 Bq.nd (Dv.bU T.br T.bQ.h cB (hr.mono (by decide)) T.bQ.b .nil ck (Dv.v 0) (Dv.aa (Dv.v 1) Dv.ag)))
   (Dv.cut (Dv.gU T.br T.pw ia (Dv.v 0) Dv.int)
   (Dv.cut (Dv.bb T.bW T.nk (Dv.v 4) (Dv.v 2))
   (Dv.aq (Dv.bb T.bW T.nO (Dv.v 4) (Dv.v 3))))))).h, ?_⟩
   rw [show start ["self", "number", "mine", "rest", "thing"] [V.ref AA.t, V.int (k : Int), V.str m, V.str r] = [some (V.ref AA.t), some (V.int (k : Int)), some (V.str m), some (V.str r), none] from rfl]
   refine ai ?_
   walk_at "w"
   refine ⟨AA.t, _, _, rfl, ht, (sg _).trans rfl, fk i ha hth ?_⟩
   refine ai ?_
   walk_at "w"
   refine ⟨AA.t, _, _, .int c2, rfl, ht, (sg _).trans rfl, _, _, rfl, rfl, _, _, ht, by omega, ai ?_⟩
   walk_at "w"
   refine ⟨a.th, _, _, rfl, by rw [ah (Ne.symm n1)]; exact ho, by omega, ?_⟩
   walk_at "w"
   refine ⟨a.th, _, _, rfl, aw, by rw [cW (u := .str t.mi) ((so _).trans rfl)]; omega, ?_⟩
   refine q _ (i.write (t' := { t with mi := m, re := r }) ha ⟨fs, c, by rw [ah n2, ah n2, ah i.aT]; exact hx, hfl, sf⟩ ⟨_, c2 + 1, by rw [ah n1, ah n1, aw], by rw [cW (u := .int c2) ((sg _).trans rfl)]; exact hgl, fun f => by rw [(sg.put "changes" (.int (c2 + 1))) f]; rfl⟩ ⟨⟨_, aw, ?_, fun f => ((so.put "mine" (.str m)).put "rest" (.str r) f).trans rfl⟩, ?_, ?_⟩ (fun b o hb e => ?_)) (fun b o hb e => ?_)
   ·rw [cW (u := .str t.re) (by rw [cG, if_neg (by decide)]; exact (so _).trans rfl), cW (u := .str t.mi) ((so _).trans rfl)]; exact hol
   ·rw [ah (Ne.symm n3.1), ah (Ne.symm n3.1), ah (Ne.symm (off _ (by simp [Ad.w]) _ (by simp [Ta.l])))]; exact ith.nm
   ·rw [ah (Ne.symm n3.2.1), ah (Ne.symm n3.2.1), ah (Ne.symm (off _ (by simp [Ad.w]) _ (by simp [Ta.l])))]; exact ith.pl
   ·simp only [List.mem_cons, List.not_mem_nil, or_false, not_or] at hb
    rw [ah hb.2.2.1, ah hb.2.2.1, ah hb.2.1]; exact e
   ·simp only [List.mem_cons, List.not_mem_nil, or_false, not_or] at hb
    rw [ah hb.2, ah hb.2, ah hb.1]; exact e
  ·exact h.elim
def r8 (CH CS CT : Addr) : Sp := fun vs H Q _ => match vs with
 | [.ref x, .int n, .str z] => ∃ A L M, ∃ k : Nat, ∃ a t, aH CH CS CT H A L M ∧ A.t = x ∧ n = (k : Int) ∧ L[k]? = some a ∧ M.ts[k]? = some t ∧ aL (sD t.aX) (.inr z) = none ∧ Q .au H
 | _ => False
theorem GQ (T : Tx K mg) : aD P w K mg base aG 4 T.kS.f T.kS.d ["self", "folder", "name"] (r8 T.aj T.aB T.aE) := by
 have wY := AG (P := P) (w := w) (base := base) T
 refine T.kS.F.ok zY (fun vs H Q E h => ?_) (fun cdv A outer s H vs Q E hr h => ?_)
 ·unfold r8 at h
  split at h
  ·rfl
  ·exact h.elim
 ·unfold r8 at h
  split at h
  ·rename_i x n z
   obtain ⟨AA, L, M, k, a, t, i, rfl, rfl, ha, hth, hv, q⟩ := h
   obtain ⟨gs, c2, ht, hgl, sg⟩ := i.t
   refine ⟨_, ((Dv.cut (Dv.aP 3 zY.nd (Dv.aZ T.br T.iC.h wY (hr.mono (by decide)) T.iC.b .nil az (Dv.v 0) (Dv.aa (Dv.v 1) (Dv.aa (Dv.v 2) Dv.ag))))
   (Dv.aq (Dv.aW (Dv.bc sJ (Dv.v 3) Dv.au) (Dv.cut Dv.bw
   (Dv.cut Dv.bw
   (Dv.aq Dv.bw))) Dv.nil)))).h, ?_⟩
   rw [show start ["self", "folder", "name", "number"] [V.ref AA.t, V.int (k : Int), V.str z] = [some (V.ref AA.t), some (V.int (k : Int)), some (V.str z), none] from rfl]
   refine ai ?_
   walk_at "w"
   refine ⟨AA.t, _, _, rfl, ht, (sg _).trans rfl, AA, L, M, k, a, t, i, rfl, rfl, ha, hth, ?_⟩
   rw [hv]
   refine ⟨trivial, ?_⟩
   exact aS q
  ·exact h.elim
def vL (CH CS CT : Addr) : Sp := fun vs H Q _ => match vs with
 | [.ref x, .int fn, .str z, .int kn] => ∃ A L M, ∃ f k : Nat, ∃ af tf ak tk, aH CH CS CT H A L M ∧ A.t = x ∧ fn = (f : Int) ∧ kn = (k : Int) ∧ L[f]? = some af ∧ M.ts[f]? = some tf ∧ L[k]? = some ak ∧ M.ts[k]? = some tk ∧ f ≠ k ∧ aL (sD tf.aX) (.inr z) = none ∧ tf.aX.length ≤ 500 ∧ tk.fK = [] ∧
   ∀ H', aH CH CS CT H' A L { M with ts := (M.ts.set f { tf with aX := tf.aX ++ [(z, k)] }).set k { tk with fK := [(f, z)] } } → Kp [A.t, af.nm, ak.pl] H H' → Q .au H'
 | _ => False
theorem qV {l : List (Str × Nat)} {z : Str} {k : Nat} (h : aL (sD l) (.inr z) = none) : putK (sD l) (.inr z) (.int (k : Int)) = sD (l ++ [(z, k)]) := by
 have e : ((sD l).any fun kv => decide (kv.1 = (Sum.inr z : Key))) = false := by rw [vB, h]; rfl
 unfold putK
 rw [e]
 simp [sD]
theorem Gf (T : Tx K mg) : aD P w K mg base aG 5 T.kP.f T.kP.d ["self", "folder", "name", "number"] (vL T.aj T.aB T.aE) := by
 have cB := fe (P := P) (w := w) (base := base) T
 have G_Things_drop_name := GQ (P := P) (w := w) (base := base) T
 refine T.kP.F.ok pF (fun vs H Q E h => ?_) (fun cdv A outer s H vs Q E hr h => ?_)
 ·unfold vL at h
  split at h
  ·rfl
  ·exact h.elim
 ·unfold vL at h
  split at h
  ·rename_i x fn z kn
   obtain ⟨AA, L, M, f, k, af, tf, ak, tk, i, rfl, rfl, rfl, haf, htf, hak, dv, hfk, hv, hnl, hpl, q⟩ := h
   obtain ⟨fs, c, hx, hfl, sf⟩ := i.h
   obtain ⟨gs, c2, ht, hgl, sg⟩ := i.t
   have Cv := cP i hak dv
   obtain ⟨ks, ho, hol, so⟩ := Cv.o
   refine ⟨_, ((Dv.cut (Dv.aP 4 pF.nd (Dv.bU T.br T.bQ.h cB (hr.mono (by decide)) T.bQ.b .nil ck (Dv.v 0) (Dv.aa (Dv.v 3) Dv.ag)))
   (Dv.cut (Dv.gU T.br T.pw ia (Dv.v 0) Dv.int)
   (Dv.cut (Dv.aQ (Dv.aZ T.br T.kS.h G_Things_drop_name (hr.mono (by decide)) T.kS.b .nil az (Dv.v 0) (Dv.aa (Dv.v 1) (Dv.aa (Dv.v 2) Dv.ag))))
   (Dv.cut (Dv.aW (Dv.bc eT (Dv.fld T.bW T.sZ (Dv.v 4)) (Dv.glob (.str "file") T.Ay ⟨_, rfl⟩)) (Dv.aq (Dv.jk PassesOwn.never rfl (Dv.oY (K := K) rfl (Dv.By (NA rfl) T.tK GY (Dv.aa (Dv.fld T.bW T.nI (Dv.v 4)) Dv.ag))) (Dv.yQ (K := K) rfl rfl (Dv.fI (Dv.dM 5 pF.nd) (Dv.fI (Dv.dM 6 pF.nd) Dv.uG))) (Dv.aq Dv.bw))) Dv.nil)
   (Dv.cut (Dv.mx (ff hr) (Dv.fld T.bW T.oO (Dv.bU T.br T.bQ.h cB (hr.mono (by decide)) T.bQ.b .nil ck (Dv.v 0) (Dv.aa (Dv.v 1) Dv.ag))) (Dv.v 2) (Dv.v 3))
   (Dv.aq (Dv.mx (ff hr) (Dv.fld T.bW T.nI (Dv.v 4)) (Dv.tup (Dv.aa (Dv.v 1) (Dv.aa (Dv.v 2) Dv.ag))) Dv.bl)))))))).h, ?_⟩
   rw [show start ["self", "folder", "name", "number", "thing", "former", "known"] [V.ref AA.t, V.int (f : Int), V.str z, V.int (k : Int)] = [some (V.ref AA.t), some (V.int (f : Int)), some (V.str z), some (V.int (k : Int)), none, none, none] from rfl]
   refine ai ?_
   walk_at "w"
   refine ⟨AA.t, _, _, rfl, ht, (sg _).trans rfl, fk i hak dv ?_⟩
   refine ai ?_
   walk_at "w"
   refine ⟨AA.t, _, _, .int c2, rfl, ht, (sg _).trans rfl, _, _, rfl, rfl, _, _, ht, by omega, ai ?_⟩
   have tn : ∀ b ∈ ak.l, AA.t ≠ b := i.mq hak _ (by simp [Ad.w])
   have i1 : aH T.aj T.aB T.aE (upd H AA.t (.ins T.aB AA.dt (ae "changes" (.int (c2 + 1)) gs))) AA L M := by
    have w := i.write (H' := upd H AA.t (.ins T.aB AA.dt (ae "changes" (.int (c2 + 1)) gs))) (t' := tk) hak ⟨fs, c, by rw [ah i.aT]; exact hx, hfl, sf⟩ ⟨_, c2 + 1, aw, by rw [cW (u := .int c2) ((sg _).trans rfl)]; exact hgl, fun f => by rw [(sg.put "changes" (.int (c2 + 1))) f]; rfl⟩
     (Cv.keep (W := [AA.t]) (fun b o hb e => by rw [ah (fun z => hb (by simp [z]))]; exact e) fun b hb => by simp [Ne.symm (tn b hb)]) (fun b o hb e => by simp only [List.mem_cons, List.not_mem_nil, or_false, not_or] at hb; rw [ah hb.2.1]; exact e)
    have e : M.ts.set k tk = M.ts := by
     apply List.ext_getElem?
     intro j
     by_cases hj : k = j
     ·subst hj; rw [List.getElem?_set_self (List.getElem?_eq_some_iff.mp dv).1, dv]
     ·rw [List.getElem?_set_ne hj]
    rw [e] at w
    exact w
   have kp1 : Kp [AA.t] H (upd H AA.t (.ins T.aB AA.dt (ae "changes" (.int (c2 + 1)) gs))) := fun b o hb e => by rw [ah (fun z => hb (by simp [z]))]; exact e
   generalize upd H AA.t (.ins T.aB AA.dt (ae "changes" (.int (c2 + 1)) gs)) = H1 at i1 kp1 ⊢
   obtain ⟨gs1, c3, ht1, Ce, sg1⟩ := i1.t
   have Cd := cP i1 hak dv
   have ithf1 := cP i1 haf htf
   obtain ⟨ks1, ho1, hol1, so1⟩ := Cd.o
   obtain ⟨fs1, hf1, iX, sf1⟩ := ithf1.o
   walk_at "w"
   refine ⟨AA.t, _, _, rfl, ht1, (sg1 _).trans rfl, AA, L, M, f, af, tf, i1, rfl, rfl, haf, htf, hv, ?_⟩
   refine fM (fun σ' H' => ao H1 H' ∧ ∃ t5 t6, σ' = [some (V.ref AA.t), some (V.int (f : Int)), some (V.str z), some (V.int (k : Int)), some (.ref ak.th), t5, t6]) ?_ ?_
   ·walk_at "w"
    refine ⟨ak.th, _, _, _, rfl, ho1, (so1 _).trans rfl, ?_⟩
    refine fS (fun _ => ?_) (fun _ => ⟨ao.refl _, _, _, rfl⟩)
    refine ⟨ak.th, _, _, _, rfl, ho1, (so1 _).trans rfl, ?_⟩
    have xq : H1 ak.pl = some (.dT []) := by have := Cd.pl; rw [hpl] at this; exact this
    refine ⟨ak.pl, _, rfl, xq, ?_⟩
    intro l ks hk _ hl
    have hks : ks = [] := List.length_eq_zero_iff.mp hk
    subst hks
    refine ⟨⟨_, aJ.of aw⟩, Av (xs := []) (fun _ σ' H' => H' = upd H1 l (.lst []) ∧ σ' = [some (V.ref AA.t), some (V.int (f : Int)), some (V.str z), some (V.int (k : Int)), some (.ref ak.th), none, none]) ⟨rfl, rfl⟩ (fun _ σ' H' _ h => by rw [h.1]; exact aJ.of aw) (fun j x σ' H' hx _ => by simp at hx) (fun σ' H' h => ?_)⟩
    obtain ⟨rfl, rfl⟩ := h
    exact ⟨ao.upd hl, _, _, rfl⟩
   ·rintro σ' H2 ⟨s2, t5, t6, rfl⟩
    have i2 := i1.same s2
    obtain ⟨gs2, c4, ht2, hgl2, sg2⟩ := i2.t
    obtain ⟨hs2, d2, hx2, hxl2, sx2⟩ := i2.h
    have w8 := cP i2 haf htf
    obtain ⟨fs2, hf2, ja, sf2⟩ := w8.o
    have Cq := i2.own haf
    have B0 := i2.own hak
    have B2 := i2.mq haf
    have C8 := i2.mq hak
    refine ai ?_
    walk_at "w"
    refine ⟨AA.t, _, _, rfl, ht2, (sg2 _).trans rfl, fk i2 haf htf ⟨af.th, _, _, .ref af.nm, rfl, hf2, (sf2 _).trans rfl, af.nm, _, rfl, eY.k (k := .inr z) w8.nm (iB (by unfold sD; rw [List.length_map]; omega)), ?_⟩⟩
    rw [qV hv]
    have i3 : aH T.aj T.aB T.aE (upd H2 af.nm (.dK (sD (tf.aX ++ [(z, k)])))) AA L { M with ts := M.ts.set f { tf with aX := tf.aX ++ [(z, k)] } } := by
     refine i2.write haf ⟨hs2, d2, by rw [ah (B2 _ (by simp [Ad.w]) _ (by simp [Ta.l]))]; exact hx2, hxl2, sx2⟩ ⟨gs2, c4, by rw [ah (B2 _ (by simp [Ad.w]) _ (by simp [Ta.l]))]; exact ht2, hgl2, sg2⟩ ⟨⟨fs2, by rw [ah Cq.1]; exact hf2, ja, sf2⟩, aw, by rw [ah (Ne.symm Cq.2.2)]; exact w8.pl⟩ (fun b o hb e => ?_)
     simp only [List.mem_cons, List.not_mem_nil, or_false, not_or] at hb
     rw [ah hb.2.2.2.1]; exact e
    have kp3 : Kp [AA.t, af.nm] H (upd H2 af.nm (.dK (sD (tf.aX ++ [(z, k)])))) := fun b o hb e => by
     simp only [List.mem_cons, List.not_mem_nil, or_false, not_or] at hb
     rw [ah hb.2]
     exact s2 _ _ (kp1 b o (by simp [hb.1]) e)
    generalize upd H2 af.nm (.dK (sD (tf.aX ++ [(z, k)]))) = H3 at i3 kp3 ⊢
    have B5 : (M.ts.set f { tf with aX := tf.aX ++ [(z, k)] })[k]? = some tk := by rw [List.getElem?_set_ne hfk]; exact dv
    have ithk3 := cP i3 hak B5
    obtain ⟨ks3, ho3, hol3, so3⟩ := ithk3.o
    walk_at "w"
    refine ⟨ak.th, _, _, .ref ak.pl, rfl, ho3, (so3 _).trans rfl, fits (by simp), fun p hp => ?_⟩
    have s4 := ao.upd (o := .tup [V.int (f : Int), V.str z]) hp
    have b4 : upd H3 p (.tup [V.int (f : Int), V.str z]) p = some (.tup [V.int (f : Int), V.str z]) := aw
    generalize upd H3 p (.tup [V.int (f : Int), V.str z]) = H4 at s4 b4 ⊢
    have i4 := i3.same s4
    have wK := cP i4 hak B5
    obtain ⟨ks4, ho4, hol4, so4⟩ := wK.o
    obtain ⟨gs4, c5, ht4, hgl4, sg4⟩ := i4.t
    obtain ⟨hs4, d4, hx4, hxl4, sx4⟩ := i4.h
    have hpl4 : H4 ak.pl = some (.dT []) := by have := wK.pl; rw [hpl] at this; exact this
    refine ⟨ak.pl, _, rfl, eY.t (k := [.inl (f : Int), .inr z]) hpl4 b4 (by decide), ?_⟩
    refine q _ (i4.write hak ⟨hs4, d4, by rw [ah (C8 _ (by simp [Ad.w]) _ (by simp [Ta.l]))]; exact hx4, hxl4, sx4⟩ ⟨gs4, c5, by rw [ah (C8 _ (by simp [Ad.w]) _ (by simp [Ta.l]))]; exact ht4, hgl4, sg4⟩ ⟨⟨ks4, by rw [ah B0.2.1]; exact ho4, hol4, so4⟩, by rw [ah B0.2.2]; exact wK.nm, aw⟩ (fun b o hb e => ?_)) (fun b o hb e => ?_)
    ·simp only [List.mem_cons, List.not_mem_nil, or_false, not_or] at hb
     rw [ah hb.2.2.2.2]; exact e
    ·simp only [List.mem_cons, List.not_mem_nil, or_false, not_or] at hb
     rw [ah hb.2.2]
     exact s4 _ _ (kp3 b o (by simp [hb.1, hb.2.1]) e)
  ·exact h.elim
def ju (CH : Addr) (fld : Str) : Sp := fun vs H Q _ => match vs with
 | [.ref x, .str z, .int 0] => ∃ dx fs c d kvs, H x = some (.ins CH dx fs) ∧ fs.length ≤ 40 ∧ fs.lookup ("changes" : Str) = some (.int c) ∧ fs.lookup fld = some (.ref d) ∧ H d = some (.dK kvs) ∧ kvs.length ≤ 40 ∧
   Q .au (upd (upd H x (.ins CH dx (ae "changes" (.int (c + 1)) fs))) d (.dK (putK kvs (.inr z) (.int 0))))
 | _ => False
def tJ (CH : Addr) : Sp := fun vs H Q _ => match vs with
 | [.ref x, .str z] => ∃ dx fs c ro st kr ks, H x = some (.ins CH dx fs) ∧ fs.length ≤ 40 ∧ fs.lookup ("changes" : Str) = some (.int c) ∧ fs.lookup ("roots" : Str) = some (.ref ro) ∧ fs.lookup ("standings" : Str) = some (.ref st) ∧ fs.lookup ("first_root" : Str) = some (.int 0) ∧ fs.lookup ("put_root" : Str) = none ∧ fs.lookup ("put_standing" : Str) = none ∧
   H ro = some (.dK kr) ∧ kr.length ≤ 40 ∧ H st = some (.dK ks) ∧ ks.length ≤ 40 ∧ ro ≠ st ∧
   ∀ fs' c' H', H' x = some (.ins CH dx fs') → fs'.length ≤ 40 → cq fs' (ae "changes" (.int c') fs) → H' ro = some (.dK (putK kr (.inr z) (.int 0))) → H' st = some (.dK (putK ks (.inr z) (.int 0))) → (∀ b, b ≠ x → b ≠ ro → b ≠ st → H' b = H b) → Q .au H'
 | _ => False
theorem Jb (T : Tx K mg) : aD P w K mg base aG 1 T.lB.f T.lB.d ["self", "asker", "folder"] (ju T.aj "roots") := by
 refine T.lB.F.ok Df (fun vs H Q E h => ?_) (fun cdv A outer s H vs Q E hr h => ?_)
 ·unfold ju at h
  split at h
  ·rfl
  ·exact h.elim
 ·unfold ju at h
  split at h
  ·rename_i x z
   obtain ⟨dx, fs, c, d, kvs, hx, hfl, hc, hd, hD, hkl, q⟩ := h
   refine ⟨_, ((Dv.cut (Dv.gU T.aI T.pB ia (Dv.v 0) Dv.int)
   (Dv.aq (Dv.mx (ff hr) (Dv.fld T.aI T.mH (Dv.v 0)) (Dv.v 1) (Dv.v 2))))).h, ?_⟩
   rw [show start ["self", "asker", "folder"] [V.ref x, V.str z, V.int 0] = [some (V.ref x), some (V.str z), some (V.int 0)] from rfl]
   have hne : d ≠ x := fun e => by rw [e, hx] at hD; cases hD
   refine ai ?_
   walk_at "w"
   refine ⟨x, dx, fs, .int c, rfl, hx, hc, _, _, rfl, rfl, dx, fs, hx, by omega, ?_⟩
   walk_at "w"
   refine ⟨x, dx, _, .ref d, rfl, aw, by rw [cG, if_neg (by decide)]; exact hd, d, _, rfl, eY.k (k := .inr z) (by rw [ah hne]; exact hD) (iB (by omega)), q⟩
  ·exact h.elim
theorem HX (T : Tx K mg) : aD P w K mg base aG 1 T.mJ.f T.mJ.d ["self", "asker", "folder"] (ju T.aj "standings") := by
 refine T.mJ.F.ok IL (fun vs H Q E h => ?_) (fun cdv A outer s H vs Q E hr h => ?_)
 ·unfold ju at h
  split at h
  ·rfl
  ·exact h.elim
 ·unfold ju at h
  split at h
  ·rename_i x z
   obtain ⟨dx, fs, c, d, kvs, hx, hfl, hc, hd, hD, hkl, q⟩ := h
   refine ⟨_, ((Dv.cut (Dv.gU T.aI T.pB ia (Dv.v 0) Dv.int)
   (Dv.aq (Dv.mx (ff hr) (Dv.fld T.aI T.zV (Dv.v 0)) (Dv.v 1) (Dv.v 2))))).h, ?_⟩
   rw [show start ["self", "asker", "folder"] [V.ref x, V.str z, V.int 0] = [some (V.ref x), some (V.str z), some (V.int 0)] from rfl]
   have hne : d ≠ x := fun e => by rw [e, hx] at hD; cases hD
   refine ai ?_
   walk_at "w"
   refine ⟨x, dx, fs, .int c, rfl, hx, hc, _, _, rfl, rfl, dx, fs, hx, by omega, ?_⟩
   walk_at "w"
   refine ⟨x, dx, _, .ref d, rfl, aw, by rw [cG, if_neg (by decide)]; exact hd, d, _, rfl, eY.k (k := .inr z) (by rw [ah hne]; exact hD) (iB (by omega)), q⟩
  ·exact h.elim
theorem Br (T : Tx K mg) : aD P w K mg base aG 2 T.iO.f T.iO.d ["self", "name"] (tJ T.aj) := by
 have G_House_put_root := Jb (P := P) (w := w) (base := base) T
 have G_House_put_standing := HX (P := P) (w := w) (base := base) T
 refine T.iO.F.ok GR (fun vs H Q E h => ?_) (fun cdv A outer s H vs Q E hr h => ?_)
 ·unfold tJ at h
  split at h
  ·rfl
  ·exact h.elim
 ·unfold tJ at h
  split at h
  ·rename_i x z
   obtain ⟨dx, fs, c, ro, st, kr, ks, hx, hfl, hc, hro, hst, hfr, hp1, hp2, hRo, hkr, hSt, hks, hrs, q⟩ := h
   refine ⟨_, ((Dv.cut (Dv.aQ (Dv.aZ T.aI T.lB.h G_House_put_root (hr.mono (by decide)) T.lB.b .nil az (Dv.v 0) (Dv.aa (Dv.v 1) (Dv.aa (Dv.fld T.aI T.uT (Dv.v 0)) Dv.ag))))
   (Dv.aq (Dv.aQ (Dv.aZ T.aI T.mJ.h G_House_put_standing (hr.mono (by decide)) T.mJ.b .nil az (Dv.v 0) (Dv.aa (Dv.v 1) (Dv.aa (Dv.fld T.aI T.uT (Dv.v 0)) Dv.ag))))))).h, ?_⟩
   rw [show start ["self", "name"] [V.ref x, V.str z] = [some (V.ref x), some (V.str z)] from rfl]
   have n1 : ro ≠ x := fun e => by rw [e, hx] at hRo; cases hRo
   have n2 : st ≠ x := fun e => by rw [e, hx] at hSt; cases hSt
   refine ai ?_
   walk_at "w"
   refine ⟨x, dx, fs, rfl, hx, hp1, x, dx, fs, .int 0, rfl, hx, hfr, ?_⟩
   refine ⟨dx, fs, c, ro, kr, hx, by omega, hc, hro, hRo, hkr, ?_⟩
   have hx1 : upd (upd H x (.ins T.aj dx (ae "changes" (.int (c + 1)) fs))) ro (.dK (putK kr (.inr z) (.int 0))) x = some (.ins T.aj dx (ae "changes" (.int (c + 1)) fs)) := by rw [ah (Ne.symm n1), aw]
   have hr1 : upd (upd H x (.ins T.aj dx (ae "changes" (.int (c + 1)) fs))) ro (.dK (putK kr (.inr z) (.int 0))) ro = some (.dK (putK kr (.inr z) (.int 0))) := aw
   have hs1 : upd (upd H x (.ins T.aj dx (ae "changes" (.int (c + 1)) fs))) ro (.dK (putK kr (.inr z) (.int 0))) st = some (.dK ks) := by rw [ah (Ne.symm hrs), ah n2]; exact hSt
   have fr1 : ∀ b, b ≠ x → b ≠ ro → upd (upd H x (.ins T.aj dx (ae "changes" (.int (c + 1)) fs))) ro (.dK (putK kr (.inr z) (.int 0))) b = H b := fun b b1 b2 => by rw [ah b2, ah b1]
   generalize upd (upd H x (.ins T.aj dx (ae "changes" (.int (c + 1)) fs))) ro (.dK (putK kr (.inr z) (.int 0))) = H1 at hx1 hr1 hs1 fr1 ⊢
   have lk : ∀ f : Str, f ≠ "changes" → (ae "changes" (.int (c + 1)) fs).lookup f = fs.lookup f := fun f hf => by rw [cG, if_neg hf]
   walk_at "w"
   refine ⟨x, dx, _, rfl, hx1, (lk _ (by decide)).trans hp2, x, dx, _, .int 0, rfl, hx1, (lk _ (by decide)).trans hfr, ?_⟩
   refine ⟨dx, _, c + 1, st, ks, hx1, by rw [cW hc]; exact hfl, by rw [cG, if_pos rfl], (lk _ (by decide)).trans hst, hs1, hks, ?_⟩
   refine q _ (c + 1 + 1) _ (by rw [ah (Ne.symm n2), aw]) (by rw [cW (u := .int (c + 1)) (by rw [cG, if_pos rfl]), cW hc]; exact hfl) (fun f => ?_) (by rw [ah hrs, ah n1]; exact hr1) aw (fun b b1 b2 b3 => by rw [ah b3, ah b1]; exact fr1 b b1 b2)
   rw [cG, cG, cG]
   by_cases e : f = "changes"
   ·rw [if_pos e, if_pos e]
   ·rw [if_neg e, if_neg e, if_neg e]
  ·exact h.elim
def ux (CH CS CT : Addr) : Sp := fun vs H Q _ => match vs with
 | [.ref x, .str m, .str own] => m = "main" ∧ ∃ dx fs c t dt ml tr, H x = some (.ins CH dx fs) ∧ fs.length ≤ 40 ∧ fs.lookup ("things" : Str) = some (.ref t) ∧ fs.lookup ("changes" : Str) = some (.int c) ∧ fs.lookup ("tree_roots" : Str) = some (.ref tr) ∧ fs.lookup ("add_folder" : Str) = none ∧
   gn CS H t dt ml [] ∧ H tr = some (.dK []) ∧
   ∀ th cm nm pl fs' ks c' H', H th = none → H nm = none → H pl = none → H' x = some (.ins CH dx fs') → fs'.length ≤ fs.length → cq fs' (ae "changes" (.int c') fs) → gn CS H' t dt ml [.ref th] → H' th = some (.ins CT cm ks) → ks.length ≤ 40 →
    cq ks (kN (.int 0) (.str "folder") (.str own) (.str "lgw") (.str "lg") (.str "") (.ref nm) (.ref pl)) → H' nm = some (.dK []) → H' pl = some (.dT []) → H' tr = some (.dK [(.inr "main", .int 0)]) → Kp [x, t, ml, tr] H H' → Q (.int 0) H'
 | _ => False
theorem Gr (T : Tx K mg) : aD P w K mg base aG 5 T.mv.f T.mv.d ["self", "tree", "owner"] (ux T.aj T.aB T.aE) := by
 have wF := Ax (P := P) (w := w) (base := base) T
 refine T.mv.F.ok zI (fun vs H Q E h => ?_) (fun cdv A outer s H vs Q E hr h => ?_)
 ·unfold ux at h
  split at h
  ·rfl
  ·exact h.elim
 ·unfold ux at h
  split at h
  ·rename_i x m own
   obtain ⟨rfl, dx, fs, c, t, dt, ml, tr, hx, hfl, hth, hc, htr, haf, kQ, hTr, q⟩ := h
   obtain ⟨gs, d, ht, hgl, sg⟩ := kQ.o
   have hml := kQ.ml
   refine ⟨_, ((Dv.cut (Dv.aP 3 zI.nd (Dv.aZ T.br T.iM.h wF (hr.mono (by decide)) T.iM.b .nil az (Dv.fld T.aI T.cX (Dv.v 0)) (Dv.aa (Dv.v 2) (Dv.aa Dv.str (Dv.aa Dv.str Dv.ag)))))
   (Dv.cut (Dv.gU T.aI T.pB ia (Dv.v 0) Dv.int)
   (Dv.cut (Dv.mx (ff hr) (Dv.fld T.aI T.y9 (Dv.v 0)) (Dv.v 1) (Dv.v 3))
   (Dv.aq (Dv.aK (Dv.v 3))))))).h, ?_⟩
   rw [show start ["self", "tree", "owner", "root"] [V.ref x, V.str "main", V.str own] = [some (V.ref x), some (V.str "main"), some (V.str own), none] from rfl]
   have n1 : t ≠ x ∨ True := .inr trivial
   refine ai ?_
   walk_at "w"
   refine ⟨x, dx, fs, .ref t, rfl, hx, hth, t, dt, gs, rfl, ht, (sg _).trans rfl, ?_⟩
   refine ⟨dt, ml, [], kQ, by simp, ?_⟩
   intro th cm nm pl ks H1 fth fnm fpl at1 hth1 hkl1 sk1 hnm1 xq kp1
   obtain ⟨gs', d', ht1, Ce, sg1⟩ := at1.o
   have gE := at1.ml
   have dP : x ≠ t := fun e => by
    rw [e, ht] at hx
    injection hx with hx
    injection hx with _ _ hfs
    rw [← hfs] at hth
    have := (sg "things").symm.trans hth
    cases this
   have nxm : x ≠ ml := fun e => by rw [e, hml] at hx; cases hx
   have Ck : tr ≠ t := fun e => by rw [e, ht] at hTr; cases hTr
   have B7 : tr ≠ ml := fun e => by rw [e, hml] at hTr; cases hTr
   have Cn : tr ≠ x := fun e => by rw [e, hx] at hTr; cases hTr
   have hx1 : H1 x = some (.ins T.aj dx fs) := kp1 _ _ (by simp [dP, nxm]) hx
   have hTr1 : H1 tr = some (.dK []) := kp1 _ _ (by simp [Ck, B7]) hTr
   refine ai ?_
   walk_at "w"
   refine ⟨x, dx, fs, .int c, rfl, hx1, hc, _, _, rfl, rfl, dx, fs, hx1, by omega, ai ?_⟩
   walk_at "w"
   refine ⟨x, dx, _, .ref tr, rfl, aw, by rw [cG, if_neg (by decide)]; exact htr, tr, _, rfl, eY.k (k := .inr "main") (by rw [ah Cn]; exact hTr1) (by decide), ?_⟩
   walk_at "w"
   have old : ∀ b o, H1 b = some o → b ≠ x → b ≠ tr → upd (upd H1 x (.ins T.aj dx (ae "changes" (.int (c + 1)) fs))) tr (.dK (putK [] (.inr "main") (.int 0))) b = some o := fun b o e b1 b2 => by rw [ah b2, ah b1]; exact e
   have nth : th ≠ x ∧ th ≠ tr := ⟨Ne.symm (aC hx fth), Ne.symm (aC hTr fth)⟩
   have nnm : nm ≠ x ∧ nm ≠ tr := ⟨Ne.symm (aC hx fnm), Ne.symm (aC hTr fnm)⟩
   have npl : pl ≠ x ∧ pl ≠ tr := ⟨Ne.symm (aC hx fpl), Ne.symm (aC hTr fpl)⟩
   refine q th cm nm pl _ ks (c + 1) _ fth fnm fpl (by rw [ah (Ne.symm Cn), aw]) (Nat.le_of_eq (cW hc)) (cq.refl _) ⟨⟨gs', d', old _ _ ht1 (Ne.symm dP) (Ne.symm Ck), Ce, sg1⟩, old _ _ gE (Ne.symm nxm) (Ne.symm B7)⟩ (old _ _ hth1 nth.1 nth.2) hkl1 sk1 (old _ _ hnm1 nnm.1 nnm.2) (old _ _ xq npl.1 npl.2) aw ?_
   intro b o hb e
   simp only [List.mem_cons, List.not_mem_nil, or_false, not_or] at hb
   exact old _ _ (kp1 b o (by simp [hb.2.1, hb.2.2.1]) e) hb.1 hb.2.2.2
  ·exact h.elim
theorem aD.never {P : Program} {w : World} {K : PySem.W.Frag} {mg : Str → Option Value} {base : Heap} {CX : cu} {k : Nat} {f : Addr} {fd : FuncData} {ps : List Str} : aD P w K mg base CX k f fd ps (fun _ _ _ _ => False) := ⟨fun _ _ _ _ h => h.elim, fun _ _ _ _ _ _ _ _ _ _ _ _ _ h => h.elim⟩
theorem ij (T : Tx K mg) : aD P w K mg base (bJ P w) 1 T.cZ.f T.cZ.d ["self", "asker"] (oG T.aj T.aB T.aE T.bC) := by
 refine T.cZ.F.jV JL (fun vs H Q E h => ?_) (fun cdv A outer s H vs Q E hr h => ?_)
 ·unfold oG at h
  split at h
  ·rfl
  ·exact h.elim
 ·unfold oG at h
  split at h
  ·rename_i x v
   obtain ⟨AA, L, M, i, rfl, ⟨ty, hty⟩, q1, q2⟩ := h
   obtain ⟨fs, c, hx, hfl, sf⟩ := i.h
   refine ⟨_, ((Dv.aq (Dv.aW (Dv.dS (Dv.w_or (Dv.cH (Dv.cE (Dv.bB gr T.cy cA (Dv.aa (Dv.v 1) (Dv.aa (Dv.fD (.ty "str") T.j9 ji rfl) Dv.ag))))) (Dv.fN (Dv.DK (ff hr) (Dv.v 1) (Dv.fld T.aI T.mH (Dv.v 0)))))) (Dv.aq (Dv.tE vT rfl T.zo T.HI (Dv.aa Dv.str Dv.ag))) Dv.nil))).h, ?_⟩
   rw [show start ["self", "asker"] [V.ref AA.a, v] = [some (V.ref AA.a), some v] from rfl]
   walk_at "w"
   simp only [hty, uH hty]
   refine ⟨nF _ rfl, ?_⟩
   cases v with
   | str z =>
    simp only [oF, Bool.not_true, Bool.false_eq_true, if_false]
    refine ⟨AA.a, _, _, .ref AA.ro, rfl, hx, (sf _).trans rfl, AA.ro, _, rfl, cS.k (k := .inr z) i.ro, ?_⟩
    cases hz : aL (sD M.ro) (.inr z) with
    | none => exact bZ ⟨fits (by simp), q2 fun z' e => by cases e; exact hz⟩
    | some u => exact aS (q1 z rfl (by rw [hz]; rfl))
   | _ => exact ⟨fits (by simp), q2 fun z' e => by cases e⟩
  ·exact h.elim
section
variable {T : Tx K mg} {H : Hp} {A : Ad} {L : List Ta} {M : Hs}
theorem jv {z : Str} {Q : VK} {E : XK} (i : aH T.aj T.aB T.aE H A L M) (hz : (aL (sD M.ro) (.inr z)).isSome = true) (q : Q .au H) : oG T.aj T.aB T.aE T.bC [.ref A.a, .str z] H Q E :=
 ⟨A, L, M, i, rfl, ⟨_, rfl⟩, fun _ _ _ => q, fun h => by rw [h z rfl] at hz; cases hz⟩
end
theorem sE (T : Tx K mg) : aD P w K mg base aG 2 T.gi.f T.gi.d ["self", "asker"] (uk T.aj T.aB T.aE) := by
 have eB := ij (P := P) (w := w) (base := base) T
 refine T.gi.F.ok GF (fun vs H Q E h => ?_) (fun cdv A outer s H vs Q E hr h => ?_)
 ·unfold uk at h
  split at h
  ·rfl
  ·exact h.elim
 ·unfold uk at h
  split at h
  ·rename_i x z
   obtain ⟨AA, L, M, r, i, rfl, hz, q⟩ := h
   obtain ⟨fs, c, hx, hfl, sf⟩ := i.h
   refine ⟨_, ((Dv.cut (Dv.aQ (Dv.bU T.aI T.cZ.h eB (hr.mono (by decide)) T.cZ.b .nil ck (Dv.v 0) (Dv.aa (Dv.v 1) Dv.ag)))
   (Dv.aq (Dv.aK (Dv.Ob (ff hr) (Dv.fld T.aI T.mH (Dv.v 0)) (Dv.v 1)))))).h, ?_⟩
   rw [show start ["self", "asker"] [V.ref AA.a, V.str z] = [some (V.ref AA.a), some (V.str z)] from rfl]
   refine ai ?_
   walk_at "w"
   refine ⟨AA.a, _, _, rfl, hx, (sf _).trans rfl, jv i (by rw [hz]; rfl) ?_⟩
   refine ⟨AA.a, _, _, .ref AA.ro, rfl, hx, (sf _).trans rfl, AA.ro, .int r, rfl, ?_, q⟩
   have := cS.k (k := .inr z) i.ro
   rw [hz] at this
   exact this
  ·exact h.elim
theorem u7 (T : Tx K mg) : aD P w K mg base aG 4 T.eZ.f T.eZ.d ["self", "number", "name"] (rD T.aj T.aB T.aE) := by
 have mX := ub (P := P) (w := w) (base := base) T
 have wY := AG (P := P) (w := w) (base := base) T
 refine T.eZ.F.ok Fw (fun vs H Q E h => ?_) (fun cdv A outer s H vs Q E hr h => ?_)
 ·unfold rD at h
  split at h
  ·rfl
  ·exact h.elim
 ·unfold rD at h
  split at h
  ·rename_i x n z
   obtain ⟨AA, L, M, k, a, t, i, rfl, rfl, ha, hth, hn, hl, q⟩ := h
   refine ⟨_, ((Dv.cut (Dv.aQ (Dv.call mX (hr.mono (by decide)) T.eV.m T.eV.F.kp T.eV.b .nil az (Dv.aa (Dv.v 2) Dv.ag)))
   (Dv.aq (Dv.aK (Dv.aZ T.br T.iC.h wY (hr.mono (by decide)) T.iC.b .nil az (Dv.fld T.aI T.cX (Dv.v 0)) (Dv.aa (Dv.v 1) (Dv.aa (Dv.v 2) Dv.ag))))))).h, ?_⟩
   rw [show start ["self", "number", "name"] [V.ref AA.a, V.int (k : Int), V.str z] = [some (V.ref AA.a), some (V.int (k : Int)), some (V.str z)] from rfl]
   refine ai ?_
   walk_at "w"
   refine ⟨⟨_, rfl⟩, hl, hn, fun H1 s1 => ?_⟩
   have i1 := i.same s1
   obtain ⟨fs, c, hx, hfl, sf⟩ := i1.h
   obtain ⟨gs, c2, ht, hgl, sg⟩ := i1.t
   exact ⟨AA.a, _, _, .ref AA.t, rfl, hx, (sf _).trans rfl, AA.t, _, _, rfl, ht, (sg _).trans rfl, AA, L, M, k, a, t, i1, rfl, rfl, ha, hth, q H1 s1⟩
  ·exact h.elim
theorem pj (T : Tx K mg) : aD P w K mg base (bJ P w) 3 T.cT.f T.cT.d ["self", "asker", "number", "right"] (ej T.aj T.aB T.aE T.bC T.bH T.bD) := by
 have eB := ij (P := P) (w := w) (base := base) T
 have G_check_one_right := Fs (P := P) (w := w) (base := base) T
 have cB := fe (P := P) (w := w) (base := base) T
 have G_Thing_rights_for := Ef (P := P) (w := w) (base := base) T
 refine T.cT.F.jV MJ (fun vs H Q E h => ?_) (fun cdv A outer s H vs Q E hr h => ?_)
 ·unfold ej at h
  split at h
  ·rfl
  ·exact h.elim
 ·unfold ej at h
  split at h
  ·rename_i x wv v r
   obtain ⟨AA, L, M, i, rfl, hcw, hcv, hcr, q1, q2⟩ := h
   obtain ⟨fs, c, hx, hfl, sf⟩ := i.h
   obtain ⟨gs, c2, ht, hgl, sg⟩ := i.t
   refine ⟨_, ((Dv.cut (Dv.aQ (Dv.bU T.aI T.cZ.h eB (hr.mono (by decide)) T.cZ.b .nil oE (Dv.v 0) (Dv.aa (Dv.v 1) Dv.ag)))
   (Dv.cut (Dv.aQ (Dv.AZ G_check_one_right (hr.mono (by decide)) T.kg.m T.kg.F.kp T.kg.b .nil oE (Dv.aa (Dv.v 3) Dv.ag)))
   (Dv.aq (Dv.aK (Dv.cmp (oZ (K := K) rfl) (Dv.v 3) (Dv.aZ T.bW T.lM.h G_Thing_rights_for (hr.mono (by decide)) T.lM.b .nil az (Dv.bU T.br T.bQ.h cB (hr.mono (by decide)) T.bQ.b .nil oE (Dv.fld T.aI T.cX (Dv.v 0)) (Dv.aa (Dv.v 2) Dv.ag)) (Dv.aa (Dv.v 1) Dv.ag)))))))).h, ?_⟩
   rw [show start ["self", "asker", "number", "right"] [V.ref AA.a, wv, v, r] = [some (V.ref AA.a), some wv, some v, some r] from rfl]
   refine ai ?_
   walk_at "w"
   refine ⟨AA.a, _, _, rfl, hx, (sf _).trans rfl, AA, L, M, i, rfl, hcw, fun z ez hz => ?_, q1⟩
   obtain ⟨q3, q4⟩ := q2 z ez hz
   subst ez
   refine ai ?_
   walk_at "w"
   refine ⟨hcr, fun h1 => ?_, q3⟩
   obtain ⟨st, rfl⟩ : ∃ st, r = .str st := by
    unfold ei at h1
    simp only [Bool.or_eq_true, decide_eq_true_eq] at h1
    rcases h1 with (h1 | h1) | h1 <;> exact ⟨_, h1⟩
   obtain ⟨q5, q6⟩ := q4 st rfl h1
   refine ⟨AA.a, _, _, .ref AA.t, rfl, hx, (sf _).trans rfl, AA.t, _, _, rfl, ht, (sg _).trans rfl, AA, L, M, i, rfl, hcv, fun k a t ev ha hth => ?_, q5⟩
   have ith := cP i ha hth
   obtain ⟨ks, ho, hol, so⟩ := ith.o
   exact ⟨a.th, _, _, rfl, ho, (so _).trans rfl, a, k, t, ith, rfl, q6 k t ev hth⟩
  ·exact h.elim
def M0 (z : Str) : Hs := { ts := [{ kd := "folder", ow := z, mi := "lgw", re := "lg", tx := "", aX := [], fK := [] }], ro := [(z, 0)], st := [(z, 0)], tr := [("main", 0)], ov := [], un := [] }
def r9 (CH CS CT : Addr) : Sp := fun vs H Q _ => match vs with
 | [.ref x, .str z] => (∃ dx, H x = some (.ins CH dx [])) ∧ z.length ≤ 1000 ∧ et (.str z) = true ∧ ∀ A L H', A.a = x → aH CH CS CT H' A L (M0 z) → (∀ b ∈ A.w ++ L.flatMap Ta.l, b ≠ x → H b = none) → Kp [x] H H' → Q .au H'
 | _ => False
theorem Lc (T : Tx K mg) : aD P w K mg base aG 6 T.kZ.f T.kZ.d ["self", "owner"] (r9 T.aj T.aB T.aE) := by
 have mX := ub (P := P) (w := w) (base := base) T
 have G_Things___init__ := D4 (P := P) (w := w) (base := base) T
 have G_House_add_tree := Gr (P := P) (w := w) (base := base) T
 have wN := Br (P := P) (w := w) (base := base) T
 refine T.kZ.F.ok Kr (fun vs H Q E h => ?_) (fun cdv A outer s H vs Q E hr h => ?_)
 ·unfold r9 at h
  split at h
  ·rfl
  ·exact h.elim
 ·unfold r9 at h
  split at h
  ·rename_i x z
   obtain ⟨⟨dx, hx0⟩, hsh, hn, q⟩ := h
   refine ⟨_, ((Dv.cut (Dv.aQ (Dv.call mX (hr.mono (by decide)) T.eV.m T.eV.F.kp T.eV.b .nil az (Dv.aa (Dv.v 1) Dv.ag)))
   (Dv.cut (Dv.bb T.aI T.cX (Dv.v 0) (Dv.NW T.MW G_Things___init__ (hr.mono (by decide)) T.KL T.lD.b .nil az))
   (Dv.cut (Dv.bb T.aI T.pB (Dv.v 0) Dv.int)
   (Dv.cut (Dv.bb T.aI T.mH (Dv.v 0) Dv.iR)
   (Dv.cut (Dv.bb T.aI T.zV (Dv.v 0) Dv.iR)
   (Dv.cut (Dv.bb T.aI T.y9 (Dv.v 0) Dv.iR)
   (Dv.cut (Dv.bb T.aI T.zb (Dv.v 0) Dv.iR)
   (Dv.cut (Dv.bb T.aI T.xM (Dv.v 0) Dv.iR)
   (Dv.cut (Dv.bb T.aI T.HN (Dv.v 0) Dv.iR)
   (Dv.cut (Dv.bb T.aI T.Ew (Dv.v 0) Dv.int)
   (Dv.cut (Dv.bb T.aI T.uT (Dv.v 0) (Dv.aZ T.aI T.mv.h G_House_add_tree (hr.mono (by decide)) T.mv.b .nil az (Dv.v 0) (Dv.aa (Dv.glob (.str "main") T.Nh ⟨_, rfl⟩) (Dv.aa (Dv.v 1) Dv.ag))))
   (Dv.aq (Dv.aQ (Dv.aZ T.aI T.iO.h wN (hr.mono (by decide)) T.iO.b .nil az (Dv.v 0) (Dv.aa (Dv.v 1) Dv.ag)))))))))))))))).h, ?_⟩
   rw [show start ["self", "owner"] [V.ref x, V.str z] = [some (V.ref x), some (V.str z)] from rfl]
   refine ai ?_
   walk_at "w"
   refine ⟨⟨_, rfl⟩, hsh, hn, fun H1 s1 => ?_⟩
   have hx1 := s1 _ _ hx0
   refine ai ?_
   walk_at "w"
   intro t dt ht hdt hdn
   refine ⟨dt, aw, fun ml H2 hml nml fr2 hml2 gs hgl sg ht2 => ⟨rfl, ?_⟩⟩
   have dP : x ≠ t := aC hx1 ht
   have nxd : x ≠ dt := aC hx1 hdt
   have hml' : H1 ml = none := by
    rw [ah nml] at hml
    by_cases e : ml = dt
    ·rw [e, aw] at hml; cases hml
    ·rw [ah e] at hml; exact hml
   have s2 : ao H1 H2 := fun b o e => by
    rw [fr2 b (aC e ht) (aC e hml'), ah (aC e ht), ah (aC e hdt)]; exact e
   refine ⟨x, dx, _, rfl, s2 _ _ hx1, by decide, ai ?_⟩
   have n1 : t ≠ x := Ne.symm dP
   have n2 : ml ≠ x := Ne.symm (aC hx1 hml')
   have hx2 : upd H2 x (.ins T.aj dx (ae "things" (.ref t) [])) x = some (.ins T.aj dx (ae "things" (.ref t) [])) := aw
   have t2 : upd H2 x (.ins T.aj dx (ae "things" (.ref t) [])) t = some (.ins T.aB dt gs) := by rw [ah n1]; exact ht2
   have m2 : upd H2 x (.ins T.aj dx (ae "things" (.ref t) [])) ml = some (.lst []) := by rw [ah n2]; exact hml2
   have k2 : Kp [x] H (upd H2 x (.ins T.aj dx (ae "things" (.ref t) []))) := fun b o hb e => by
    rw [ah (fun z => hb (by simp [z]))]; exact s2 _ _ (s1 _ _ e)
   have ft : H t = none := by
    cases e : H t with
    | none => rfl
    | some o => rw [s1 _ _ e] at ht; cases ht
   have fml : H ml = none := by
    cases e : H ml with
    | none => rfl
    | some o => rw [s1 _ _ e] at hml'; cases hml'
   clear fr2
   generalize upd H2 x (.ins T.aj dx (ae "things" (.ref t) [])) = H3 at hx2 t2 m2 k2 ⊢
   walk_at "w"
   refine ⟨x, dx, _, rfl, hx2, by (refine Nat.lt_of_le_of_lt (m := 40) ?_ (by decide); (repeat (refine bq ?_)); exact Nat.zero_le _), ai ?_⟩
   have hx3 : upd H3 x (.ins T.aj dx (ae "changes" (.int 0) (ae "things" (.ref t) []))) x = some (.ins T.aj dx (ae "changes" (.int 0) (ae "things" (.ref t) []))) := aw
   have t3 : upd H3 x (.ins T.aj dx (ae "changes" (.int 0) (ae "things" (.ref t) []))) t = some (.ins T.aB dt gs) := by rw [ah n1]; exact t2
   have m3 : upd H3 x (.ins T.aj dx (ae "changes" (.int 0) (ae "things" (.ref t) []))) ml = some (.lst []) := by rw [ah n2]; exact m2
   have k3 : Kp [x] H (upd H3 x (.ins T.aj dx (ae "changes" (.int 0) (ae "things" (.ref t) [])))) := fun b o hb e => by
    rw [ah (fun z => hb (by simp [z]))]; exact k2 _ _ hb e
   generalize upd H3 x (.ins T.aj dx (ae "changes" (.int 0) (ae "things" (.ref t) []))) = H4 at hx3 t3 m3 k3 ⊢
   have fresh : ∀ {J : Hp} {d : Addr}, Kp [x] H J → d ≠ x → J d = none → H d = none := fun {J d} k hd hn => by
    cases e : H d with
    | none => rfl
    | some o => rw [k d o (by simp [hd]) e] at hn; cases hn
   walk_at "w"
   intro ro hro
   refine ⟨x, dx, _, rfl, by rw [ah (aC hx3 hro)]; exact hx3, by (refine Nat.lt_of_le_of_lt (m := 40) ?_ (by decide); (repeat (refine bq ?_)); exact Nat.zero_le _), ai ?_⟩
   obtain ⟨hx5, wX, ic, nro⟩ := gx (o := .dK []) (O := .ins T.aj dx (ae "roots" (.ref ro) (ae "changes" (.int 0) (ae "things" (.ref t) [])))) hro hx3
   have Cj : H ro = none := fresh k3 nro hro
   have k5 : Kp [x] H (upd (upd H4 ro (.dK [])) x (.ins T.aj dx (ae "roots" (.ref ro) (ae "changes" (.int 0) (ae "things" (.ref t) []))))) := fun b o hb e => ic b o (fun z => hb (by simp [z])) (k3 b o hb e)
   have gt5 := ic t _ n1 t3
   have Cf := ic ml _ n2 m3
   clear ic
   generalize upd (upd H4 ro (.dK [])) x (.ins T.aj dx (ae "roots" (.ref ro) (ae "changes" (.int 0) (ae "things" (.ref t) [])))) = H5 at hx5 wX k5 gt5 Cf ⊢
   walk_at "w"
   intro st hst
   refine ⟨x, dx, _, rfl, by rw [ah (aC hx5 hst)]; exact hx5, by (refine Nat.lt_of_le_of_lt (m := 40) ?_ (by decide); (repeat (refine bq ?_)); exact Nat.zero_le _), ai ?_⟩
   obtain ⟨hx6, xr, mW, nst⟩ := gx (o := .dK []) (O := .ins T.aj dx (ae "standings" (.ref st) (ae "roots" (.ref ro) (ae "changes" (.int 0) (ae "things" (.ref t) []))))) hst hx5
   have B3 : H st = none := fresh k5 nst hst
   have Cm : ro ≠ st := aC wX hst
   have k6 : Kp [x] H (upd (upd H5 st (.dK [])) x (.ins T.aj dx (ae "standings" (.ref st) (ae "roots" (.ref ro) (ae "changes" (.int 0) (ae "things" (.ref t) [])))))) := fun b o hb e => mW b o (fun z => hb (by simp [z])) (k5 b o hb e)
   have gt6 := mW t _ n1 gt5
   have C4 := mW ml _ n2 Cf
   have xn := mW ro _ nro wX
   clear mW
   generalize upd (upd H5 st (.dK [])) x (.ins T.aj dx (ae "standings" (.ref st) (ae "roots" (.ref ro) (ae "changes" (.int 0) (ae "things" (.ref t) []))))) = H6 at hx6 xr k6 gt6 C4 xn ⊢
   walk_at "w"
   intro tr htr
   refine ⟨x, dx, _, rfl, by rw [ah (aC hx6 htr)]; exact hx6, by (refine Nat.lt_of_le_of_lt (m := 40) ?_ (by decide); (repeat (refine bq ?_)); exact Nat.zero_le _), ai ?_⟩
   obtain ⟨hx7, wg, kz, ntr⟩ := gx (o := .dK []) (O := .ins T.aj dx (ae "tree_roots" (.ref tr) (ae "standings" (.ref st) (ae "roots" (.ref ro) (ae "changes" (.int 0) (ae "things" (.ref t) [])))))) htr hx6
   have Cy : H tr = none := fresh k6 ntr htr
   have wM : ro ≠ tr := aC xn htr
   have wJ : st ≠ tr := aC xr htr
   have k7 : Kp [x] H (upd (upd H6 tr (.dK [])) x (.ins T.aj dx (ae "tree_roots" (.ref tr) (ae "standings" (.ref st) (ae "roots" (.ref ro) (ae "changes" (.int 0) (ae "things" (.ref t) []))))))) := fun b o hb e => kz b o (fun z => hb (by simp [z])) (k6 b o hb e)
   have gt7 := kz t _ n1 gt6
   have B6 := kz ml _ n2 C4
   have we := kz ro _ nro xn
   have xc := kz st _ nst xr
   clear kz
   generalize upd (upd H6 tr (.dK [])) x (.ins T.aj dx (ae "tree_roots" (.ref tr) (ae "standings" (.ref st) (ae "roots" (.ref ro) (ae "changes" (.int 0) (ae "things" (.ref t) [])))))) = H7 at hx7 wg k7 gt7 B6 we xc ⊢
   walk_at "w"
   intro ov bj
   refine ⟨x, dx, _, rfl, by rw [ah (aC hx7 bj)]; exact hx7, by (refine Nat.lt_of_le_of_lt (m := 40) ?_ (by decide); (repeat (refine bq ?_)); exact Nat.zero_le _), ai ?_⟩
   obtain ⟨hx8, xk, iT, nov⟩ := gx (o := .dK []) (O := .ins T.aj dx (ae "root_over" (.ref ov) (ae "tree_roots" (.ref tr) (ae "standings" (.ref st) (ae "roots" (.ref ro) (ae "changes" (.int 0) (ae "things" (.ref t) []))))))) bj hx7
   have fr_ov : H ov = none := fresh k7 nov bj
   have De : ro ≠ ov := aC we bj
   have CK : st ≠ ov := aC xc bj
   have CG : tr ≠ ov := aC wg bj
   have k8 : Kp [x] H (upd (upd H7 ov (.dK [])) x (.ins T.aj dx (ae "root_over" (.ref ov) (ae "tree_roots" (.ref tr) (ae "standings" (.ref st) (ae "roots" (.ref ro) (ae "changes" (.int 0) (ae "things" (.ref t) [])))))))) := fun b o hb e => iT b o (fun z => hb (by simp [z])) (k7 b o hb e)
   have gt8 := iT t _ n1 gt7
   have B8 := iT ml _ n2 B6
   have xf := iT ro _ nro we
   have wc := iT st _ nst xc
   have xj := iT tr _ ntr wg
   clear iT
   generalize upd (upd H7 ov (.dK [])) x (.ins T.aj dx (ae "root_over" (.ref ov) (ae "tree_roots" (.ref tr) (ae "standings" (.ref st) (ae "roots" (.ref ro) (ae "changes" (.int 0) (ae "things" (.ref t) []))))))) = H8 at hx8 xk k8 gt8 B8 xf wc xj ⊢
   walk_at "w"
   intro un bh
   refine ⟨x, dx, _, rfl, by rw [ah (aC hx8 bh)]; exact hx8, by (refine Nat.lt_of_le_of_lt (m := 40) ?_ (by decide); (repeat (refine bq ?_)); exact Nat.zero_le _), ai ?_⟩
   obtain ⟨hx9, xh, ie, nun⟩ := gx (o := .dK []) (O := .ins T.aj dx (ae "folder_under" (.ref un) (ae "root_over" (.ref ov) (ae "tree_roots" (.ref tr) (ae "standings" (.ref st) (ae "roots" (.ref ro) (ae "changes" (.int 0) (ae "things" (.ref t) [])))))))) bh hx8
   have fr_un : H un = none := fresh k8 nun bh
   have CB : ro ≠ un := aC xf bh
   have C5 : st ≠ un := aC wc bh
   have CJ : tr ≠ un := aC xj bh
   have eovun : ov ≠ un := aC xk bh
   have k9 : Kp [x] H (upd (upd H8 un (.dK [])) x (.ins T.aj dx (ae "folder_under" (.ref un) (ae "root_over" (.ref ov) (ae "tree_roots" (.ref tr) (ae "standings" (.ref st) (ae "roots" (.ref ro) (ae "changes" (.int 0) (ae "things" (.ref t) []))))))))) := fun b o hb e => ie b o (fun z => hb (by simp [z])) (k8 b o hb e)
   have gt9 := ie t _ n1 gt8
   have B1 := ie ml _ n2 B8
   have vZ := ie ro _ nro xf
   have wk := ie st _ nst wc
   have wA := ie tr _ ntr xj
   have xl := ie ov _ nov xk
   clear ie
   generalize upd (upd H8 un (.dK [])) x (.ins T.aj dx (ae "folder_under" (.ref un) (ae "root_over" (.ref ov) (ae "tree_roots" (.ref tr) (ae "standings" (.ref st) (ae "roots" (.ref ro) (ae "changes" (.int 0) (ae "things" (.ref t) [])))))))) = H9 at hx9 xh k9 gt9 B1 vZ wk wA xl ⊢
   walk_at "w"
   intro ho hho
   refine ⟨x, dx, _, rfl, by rw [ah (aC hx9 hho)]; exact hx9, by (refine Nat.lt_of_le_of_lt (m := 40) ?_ (by decide); (repeat (refine bq ?_)); exact Nat.zero_le _), ai ?_⟩
   obtain ⟨CO, Cs, gB, nho⟩ := gx (o := .dK []) (O := .ins T.aj dx (ae "holds" (.ref ho) (ae "folder_under" (.ref un) (ae "root_over" (.ref ov) (ae "tree_roots" (.ref tr) (ae "standings" (.ref st) (ae "roots" (.ref ro) (ae "changes" (.int 0) (ae "things" (.ref t) []))))))))) hho hx9
   have fr_ho : H ho = none := fresh k9 nho hho
   have eroho : ro ≠ ho := aC vZ hho
   have estho : st ≠ ho := aC wk hho
   have etrho : tr ≠ ho := aC wA hho
   have eovho : ov ≠ ho := aC xl hho
   have eunho : un ≠ ho := aC xh hho
   have k10 : Kp [x] H (upd (upd H9 ho (.dK [])) x (.ins T.aj dx (ae "holds" (.ref ho) (ae "folder_under" (.ref un) (ae "root_over" (.ref ov) (ae "tree_roots" (.ref tr) (ae "standings" (.ref st) (ae "roots" (.ref ro) (ae "changes" (.int 0) (ae "things" (.ref t) [])))))))))) := fun b o hb e => gB b o (fun z => hb (by simp [z])) (k9 b o hb e)
   have BW := gB t _ n1 gt9
   have Ct := gB ml _ n2 B1
   have CP := gB ro _ nro vZ
   have CQ := gB st _ nst wk
   have C2 := gB tr _ ntr wA
   have C9 := gB ov _ nov xl
   have Cp := gB un _ nun xh
   clear gB
   generalize upd (upd H9 ho (.dK [])) x (.ins T.aj dx (ae "holds" (.ref ho) (ae "folder_under" (.ref un) (ae "root_over" (.ref ov) (ae "tree_roots" (.ref tr) (ae "standings" (.ref st) (ae "roots" (.ref ro) (ae "changes" (.int 0) (ae "things" (.ref t) []))))))))) = H10 at CO Cs k10 BW Ct CP CQ C2 C9 Cp ⊢
   walk_at "w"
   refine ⟨x, dx, _, rfl, CO, by (refine Nat.lt_of_le_of_lt (m := 40) ?_ (by decide); (repeat (refine bq ?_)); exact Nat.zero_le _), ai ?_⟩
   have gC : upd H10 x (.ins T.aj dx (ae "holds_given" (.int 0) (ae "holds" (.ref ho) (ae "folder_under" (.ref un) (ae "root_over" (.ref ov) (ae "tree_roots" (.ref tr) (ae "standings" (.ref st) (ae "roots" (.ref ro) (ae "changes" (.int 0) (ae "things" (.ref t) [])))))))))) x = some (.ins T.aj dx (ae "holds_given" (.int 0) (ae "holds" (.ref ho) (ae "folder_under" (.ref un) (ae "root_over" (.ref ov) (ae "tree_roots" (.ref tr) (ae "standings" (.ref st) (ae "roots" (.ref ro) (ae "changes" (.int 0) (ae "things" (.ref t) [])))))))))) := aw
   have da : upd H10 x (.ins T.aj dx (ae "holds_given" (.int 0) (ae "holds" (.ref ho) (ae "folder_under" (.ref un) (ae "root_over" (.ref ov) (ae "tree_roots" (.ref tr) (ae "standings" (.ref st) (ae "roots" (.ref ro) (ae "changes" (.int 0) (ae "things" (.ref t) [])))))))))) t = some (.ins T.aB dt gs) := by rw [ah n1]; exact BW
   have c9 : upd H10 x (.ins T.aj dx (ae "holds_given" (.int 0) (ae "holds" (.ref ho) (ae "folder_under" (.ref un) (ae "root_over" (.ref ov) (ae "tree_roots" (.ref tr) (ae "standings" (.ref st) (ae "roots" (.ref ro) (ae "changes" (.int 0) (ae "things" (.ref t) [])))))))))) ml = some (.lst []) := by rw [ah n2]; exact Ct
   have dY : upd H10 x (.ins T.aj dx (ae "holds_given" (.int 0) (ae "holds" (.ref ho) (ae "folder_under" (.ref un) (ae "root_over" (.ref ov) (ae "tree_roots" (.ref tr) (ae "standings" (.ref st) (ae "roots" (.ref ro) (ae "changes" (.int 0) (ae "things" (.ref t) [])))))))))) ro = some (.dK []) := by rw [ah nro]; exact CP
   have dZ : upd H10 x (.ins T.aj dx (ae "holds_given" (.int 0) (ae "holds" (.ref ho) (ae "folder_under" (.ref un) (ae "root_over" (.ref ov) (ae "tree_roots" (.ref tr) (ae "standings" (.ref st) (ae "roots" (.ref ro) (ae "changes" (.int 0) (ae "things" (.ref t) [])))))))))) st = some (.dK []) := by rw [ah nst]; exact CQ
   have iU : upd H10 x (.ins T.aj dx (ae "holds_given" (.int 0) (ae "holds" (.ref ho) (ae "folder_under" (.ref un) (ae "root_over" (.ref ov) (ae "tree_roots" (.ref tr) (ae "standings" (.ref st) (ae "roots" (.ref ro) (ae "changes" (.int 0) (ae "things" (.ref t) [])))))))))) tr = some (.dK []) := by rw [ah ntr]; exact C2
   have gz : upd H10 x (.ins T.aj dx (ae "holds_given" (.int 0) (ae "holds" (.ref ho) (ae "folder_under" (.ref un) (ae "root_over" (.ref ov) (ae "tree_roots" (.ref tr) (ae "standings" (.ref st) (ae "roots" (.ref ro) (ae "changes" (.int 0) (ae "things" (.ref t) [])))))))))) ov = some (.dK []) := by rw [ah nov]; exact C9
   have gA : upd H10 x (.ins T.aj dx (ae "holds_given" (.int 0) (ae "holds" (.ref ho) (ae "folder_under" (.ref un) (ae "root_over" (.ref ov) (ae "tree_roots" (.ref tr) (ae "standings" (.ref st) (ae "roots" (.ref ro) (ae "changes" (.int 0) (ae "things" (.ref t) [])))))))))) un = some (.dK []) := by rw [ah nun]; exact Cp
   have gho11 : upd H10 x (.ins T.aj dx (ae "holds_given" (.int 0) (ae "holds" (.ref ho) (ae "folder_under" (.ref un) (ae "root_over" (.ref ov) (ae "tree_roots" (.ref tr) (ae "standings" (.ref st) (ae "roots" (.ref ro) (ae "changes" (.int 0) (ae "things" (.ref t) [])))))))))) ho = some (.dK []) := by rw [ah nho]; exact Cs
   have k11 : Kp [x] H (upd H10 x (.ins T.aj dx (ae "holds_given" (.int 0) (ae "holds" (.ref ho) (ae "folder_under" (.ref un) (ae "root_over" (.ref ov) (ae "tree_roots" (.ref tr) (ae "standings" (.ref st) (ae "roots" (.ref ro) (ae "changes" (.int 0) (ae "things" (.ref t) []))))))))))) := fun b o hb e => by rw [ah (fun z => hb (by simp [z]))]; exact k10 b o hb e
   generalize upd H10 x (.ins T.aj dx (ae "holds_given" (.int 0) (ae "holds" (.ref ho) (ae "folder_under" (.ref un) (ae "root_over" (.ref ov) (ae "tree_roots" (.ref tr) (ae "standings" (.ref st) (ae "roots" (.ref ro) (ae "changes" (.int 0) (ae "things" (.ref t) [])))))))))) = H11 at gC k11 da c9 dY dZ iU gz gA gho11 ⊢
   walk_at "w"
   refine ⟨x, dx, _, rfl, gC, rfl, ?_⟩
   refine ⟨rfl, dx, _, 0, t, dt, ml, tr, gC, by (repeat (refine bq ?_)); exact Nat.zero_le _, rfl, rfl, rfl, rfl, ⟨⟨gs, 0, da, hgl, sg⟩, c9⟩, iU, ?_⟩
   intro th cm nm pl fs' ks c' H12 fth fnm fpl hxA hflA sfA atA hthA hklA skA hnmA hplA htrA kpA
   obtain ⟨gs', d', htA, hglA, sgA⟩ := atA.o
   have hmlA := atA.ml
   have lkA : ∀ f : Str, f ≠ "changes" → fs'.lookup f = (ae "holds_given" (.int 0) (ae "holds" (.ref ho) (ae "folder_under" (.ref un) (ae "root_over" (.ref ov) (ae "tree_roots" (.ref tr) (ae "standings" (.ref st) (ae "roots" (.ref ro) (ae "changes" (.int 0) (ae "things" (.ref t) []))))))))).lookup f := fun f hf => by rw [sfA f, cG, if_neg hf]
   have qro : H12 ro = some (.dK []) := kpA _ _ (by simp [nro, bg dY da (by nofun), bg dY c9 (by nofun), wM]) dY
   have qst : H12 st = some (.dK []) := kpA _ _ (by simp [nst, bg dZ da (by nofun), bg dZ c9 (by nofun), wJ]) dZ
   have qun : H12 un = some (.dK []) := kpA _ _ (by simp [nun, bg gA da (by nofun), bg gA c9 (by nofun), Ne.symm CJ]) gA
   have qov : H12 ov = some (.dK []) := kpA _ _ (by simp [nov, bg gz da (by nofun), bg gz c9 (by nofun), Ne.symm CG]) gz
   have hlN : (ae "holds_given" (.int 0) (ae "holds" (.ref ho) (ae "folder_under" (.ref un) (ae "root_over" (.ref ov) (ae "tree_roots" (.ref tr) (ae "standings" (.ref st) (ae "roots" (.ref ro) (ae "changes" (.int 0) (ae "things" (.ref t) []))))))))).length ≤ 9 := by (repeat (refine bq ?_)); exact Nat.zero_le _
   have lk2 : ∀ f : Str, f ≠ "first_root" → f ≠ "changes" → (ae "first_root" (.int 0) fs').lookup f = (ae "holds_given" (.int 0) (ae "holds" (.ref ho) (ae "folder_under" (.ref un) (ae "root_over" (.ref ov) (ae "tree_roots" (.ref tr) (ae "standings" (.ref st) (ae "roots" (.ref ro) (ae "changes" (.int 0) (ae "things" (.ref t) []))))))))).lookup f := fun f h1 h2 => by rw [cG, if_neg h1]; exact lkA f h2
   refine ⟨x, dx, fs', rfl, hxA, by omega, ?_⟩
   refine ⟨x, dx, _, rfl, aw, (lk2 _ (by decide) (by decide)).trans rfl, ?_⟩
   refine ⟨dx, _, c', ro, st, [], [], aw, Nat.le_trans (bq (Nat.le_trans hflA hlN)) (by decide), by rw [cG, if_neg (by decide), sfA, cG, if_pos rfl], (lk2 _ (by decide) (by decide)).trans rfl, (lk2 _ (by decide) (by decide)).trans rfl, by rw [cG, if_pos rfl], (lk2 _ (by decide) (by decide)).trans rfl, (lk2 _ (by decide) (by decide)).trans rfl, by rw [ah nro]; exact qro, by decide, by rw [ah nst]; exact qst, by decide, Cm, ?_⟩
   intro fs3 c3 H13 hx13 iV sf3 hro3 hst3 fr3
   have old : ∀ b o, b ≠ x → b ≠ ro → b ≠ st → H12 b = some o → H13 b = some o := fun b o b1 b2 b3 e => by rw [fr3 b b1 b2 b3, ah b1]; exact e
   refine q ⟨x, dx, t, dt, ml, ro, st, tr, ov, un, ho⟩ [⟨th, cm, nm, pl⟩] H13 rfl ⟨⟨fs3, c3, hx13, iV, fun f => ?_⟩, ⟨gs', d', old _ _ (n1) (bg da dY (by nofun)) (bg da dZ (by nofun)) htA, hglA, sgA⟩, old _ _ (n2) (bg c9 dY (by nofun)) (bg c9 dZ (by nofun)) hmlA, rfl, fun j tt e => ?_, hro3, hst3, old _ _ (ntr) (Ne.symm wM) (Ne.symm wJ) htrA, old _ _ (nov) (Ne.symm De) (Ne.symm CK) qov, old _ _ (nun) (Ne.symm CB) (Ne.symm C5) qun, ?_⟩ ?_ ?_
   ·rw [sf3 f]
    refine ((sfA.put "first_root" (.int 0)).put "changes" (.int c3) f).trans rfl
   ·have hj : j = 0 := by
     have := (List.getElem?_eq_some_iff.mp e).1
     have h1 : (M0 z).ts.length = 1 := rfl
     omega
    subst hj
    cases e
    exact ⟨_, rfl, ⟨⟨ks, old _ _ (Ne.symm (aC gC fth)) (Ne.symm (aC dY fth)) (Ne.symm (aC dZ fth)) hthA, hklA, skA⟩, old _ _ (Ne.symm (aC gC fnm)) (Ne.symm (aC dY fnm)) (Ne.symm (aC dZ fnm)) hnmA, old _ _ (Ne.symm (aC gC fpl)) (Ne.symm (aC dY fpl)) (Ne.symm (aC dZ fpl)) hplA⟩⟩
   ·show List.Nodup [x, t, ml, ro, st, tr, ov, un, th, nm, pl]
    simp only [List.nodup_cons, List.mem_cons, List.not_mem_nil, or_false, not_or, not_false_eq_true, List.nodup_nil, and_true]
    exact ⟨⟨Ne.symm n1, Ne.symm n2, Ne.symm nro, Ne.symm nst, Ne.symm ntr, Ne.symm nov, Ne.symm nun, aC gC fth, aC gC fnm, aC gC fpl⟩, ⟨bg da c9 (by nofun), bg da dY (by nofun), bg da dZ (by nofun), bg da iU (by nofun), bg da gz (by nofun), bg da gA (by nofun), aC da fth, aC da fnm, aC da fpl⟩, ⟨bg c9 dY (by nofun), bg c9 dZ (by nofun), bg c9 iU (by nofun), bg c9 gz (by nofun), bg c9 gA (by nofun), aC c9 fth, aC c9 fnm, aC c9 fpl⟩, ⟨Cm, wM, De, CB, aC dY fth, aC dY fnm, aC dY fpl⟩, ⟨wJ, CK, C5, aC dZ fth, aC dZ fnm, aC dZ fpl⟩, ⟨CG, CJ, aC iU fth, aC iU fnm, aC iU fpl⟩, ⟨eovun, aC gz fth, aC gz fnm, aC gz fpl⟩, ⟨aC gA fth, aC gA fnm, aC gA fpl⟩, ⟨bg hthA hnmA (by nofun), bg hthA hplA (by nofun)⟩, bg hnmA hplA (by nofun)⟩
   ·intro b hb hbx
    have hb' : b ∈ [x, t, ml, ro, st, tr, ov, un, th, nm, pl] := hb
    simp only [List.mem_cons, List.not_mem_nil, or_false] at hb'
    rcases hb' with rfl | rfl | rfl | rfl | rfl | rfl | rfl | rfl | rfl | rfl | rfl
    ·exact absurd rfl hbx
    ·exact ft
    ·exact fml
    ·exact Cj
    ·exact B3
    ·exact Cy
    ·exact fr_ov
    ·exact fr_un
    ·exact fresh k11 hbx fth
    ·exact fresh k11 hbx fnm
    ·exact fresh k11 hbx fpl
   ·intro b o hb e
    have hbx : b ≠ x := fun z => hb (by simp [z])
    refine old b o hbx (aC e Cj) (aC e B3) (kpA b o ?_ (k11 b o hb e))
    simp only [List.mem_cons, List.not_mem_nil, or_false, not_or]
    exact ⟨hbx, aC e ft, aC e fml, aC e Cy⟩
  ·exact h.elim
def ud (CH CS CT : Addr) : Sp := fun vs H Q _ => match vs with
 | [.ref x, .str z] => ∃ A L M, aH CH CS CT H A L M ∧ A.a = x ∧ z.length ≤ 1000 ∧ et (.str z) = true ∧ M.ro.length ≤ 30 ∧ M.st.length ≤ 30 ∧ aL (sD M.ro) (.inr z) = none ∧ aL (sD M.st) (.inr z) = none ∧
   ∀ H', aH CH CS CT H' A L { M with ro := M.ro ++ [(z, 0)], st := M.st ++ [(z, 0)] } → Kp [A.a, A.ro, A.st] H H' → Q .au H'
 | _ => False
theorem Nw (T : Tx K mg) : aD P w K mg base aG 3 T.iL.f T.iL.d ["self", "name"] (ud T.aj T.aB T.aE) := by
 have mX := ub (P := P) (w := w) (base := base) T
 have wN := Br (P := P) (w := w) (base := base) T
 refine T.iL.F.ok MH (fun vs H Q E h => ?_) (fun cdv A outer s H vs Q E hr h => ?_)
 ·unfold ud at h
  split at h
  ·rfl
  ·exact h.elim
 ·unfold ud at h
  split at h
  ·rename_i x z
   obtain ⟨AA, L, M, i, rfl, hsh, hn, hrl, hsl, hr0, hs0, q⟩ := h
   refine ⟨_, ((Dv.cut (Dv.aQ (Dv.call mX (hr.mono (by decide)) T.eV.m T.eV.F.kp T.eV.b .nil az (Dv.aa (Dv.v 1) Dv.ag)))
   (Dv.cut (Dv.aW (Dv.sY (ff hr) (Dv.v 1) (Dv.fld T.aI T.mH (Dv.v 0))) (Dv.aq Dv.bw) Dv.nil)
   (Dv.aq (Dv.aQ (Dv.aZ T.aI T.iO.h wN (hr.mono (by decide)) T.iO.b .nil az (Dv.v 0) (Dv.aa (Dv.v 1) Dv.ag))))))).h, ?_⟩
   rw [show start ["self", "name"] [V.ref AA.a, V.str z] = [some (V.ref AA.a), some (V.str z)] from rfl]
   refine ai ?_
   walk_at "w"
   refine ⟨⟨_, rfl⟩, hsh, hn, fun H1 s1 => ?_⟩
   have i1 := i.same s1
   obtain ⟨fs, c, hx, hfl, sf⟩ := i1.h
   have nd := i1.nd
   rw [List.nodup_append] at nd
   have ndw := nd.1
   simp only [Ad.w, List.nodup_cons, List.mem_cons, List.not_mem_nil, or_false, not_or] at ndw
   refine ai ?_
   walk_at "w"
   refine ⟨AA.a, _, _, .ref AA.ro, rfl, hx, (sf _).trans rfl, AA.ro, _, rfl, cS.k (k := .inr z) i1.ro, ?_⟩
   rw [hr0]
   refine aS ?_
   walk_at "w"
   refine ⟨AA.a, _, _, rfl, hx, (sf _).trans rfl, AA.dx, fs, c, AA.ro, AA.st, _, _, hx, hfl, (sf _).trans rfl, (sf _).trans rfl, (sf _).trans rfl, (sf _).trans rfl, (sf _).trans rfl, (sf _).trans rfl, i1.ro, by unfold sD; rw [List.length_map]; omega, i1.st, by unfold sD; rw [List.length_map]; omega, ndw.2.2.2.1.1, ?_⟩
   intro fs' c' H' hx' hfl' sf' hro' hst' fr'
   have e1 : putK (sD M.ro) (.inr z) (.int 0) = sD (M.ro ++ [(z, 0)]) := qV hr0
   have e2 : putK (sD M.st) (.inr z) (.int 0) = sD (M.st ++ [(z, 0)]) := qV hs0
   rw [e1] at hro'
   rw [e2] at hst'
   have kp : Kp [AA.a, AA.ro, AA.st] H1 H' := fun b o hb e => by
    simp only [List.mem_cons, List.not_mem_nil, or_false, not_or] at hb
    rw [fr' b hb.1 hb.2.1 hb.2.2]; exact e
   have ng : ∀ b ∈ [AA.t, AA.ml, AA.tr, AA.ov, AA.un], b ∉ [AA.a, AA.ro, AA.st] := by
    intro b hb hm
    simp only [List.mem_cons, List.not_mem_nil, or_false] at hb hm
    obtain ⟨⟨a1, a2, a3, a4, a5, a6, a7⟩, ⟨b1, b2, b3, b4, b5, b6⟩, ⟨c1, c2, c3, c4, c5⟩, ⟨d1, d2, d3, d4⟩, ⟨f1, f2, f3⟩, _⟩ := ndw
    rcases hb with rfl | rfl | rfl | rfl | rfl <;> rcases hm with h | h | h <;> first
     | exact a1 h.symm | exact a2 h.symm | exact a5 h.symm | exact a6 h.symm | exact a7 h.symm
     | exact b2 h | exact b3 h | exact c1' h | exact c1 h | exact c2 h | exact c3 h
     | exact d2 h.symm | exact d3 h.symm | exact d4 h.symm | exact f1 h.symm | exact f2 h.symm | exact f3 h.symm | exact b1 h | exact b4 h
   refine q H' ⟨⟨fs', c', hx', hfl', fun f => ?_⟩, ?_, kp _ _ (ng _ (by simp)) i1.ml, i1.len, fun j t e => ?_, hro', hst', kp _ _ (ng _ (by simp)) i1.tr, kp _ _ (ng _ (by simp)) i1.ov, kp _ _ (ng _ (by simp)) i1.un, i1.nd⟩ (fun b o hb e => kp b o hb (s1 b o e))
   ·rw [sf' f, cG, sf f]
    by_cases e : f = "changes"
    ·rw [if_pos e, e]; rfl
    ·rw [if_neg e]
     exact Jn e
   ·obtain ⟨gs, d, e, r⟩ := i1.t
    exact ⟨gs, d, kp _ _ (ng _ (by simp)) e, r⟩
   ·obtain ⟨a, e1, h1⟩ := i1.th j t e
    refine ⟨a, e1, h1.keep kp fun b hb hm => ?_⟩
    have := i1.mq e1
    simp only [List.mem_cons, List.not_mem_nil, or_false] at hm
    rcases hm with rfl | rfl | rfl
    ·exact this _ (by simp [Ad.w]) _ hb rfl
    ·exact this _ (by simp [Ad.w]) _ hb rfl
    ·exact this _ (by simp [Ad.w]) _ hb rfl
  ·exact h.elim
abbrev P3 (f : Addr → Addr → Addr → Sp) (T : Tx K mg) : Sp := f T.aj T.aB T.aE
def uE (CH CS CT : Addr) : Sp := fun vs H Q _ => match vs with
 | [.ref x, .int n] => ∃ A L M, ∃ k : Nat, ∃ a t, aH CH CS CT H A L M ∧ A.a = x ∧ n = (k : Int) ∧ L[k]? = some a ∧ M.ts[k]? = some t ∧ M.ov = [] ∧ M.un = [] ∧ Q (.int k) H
 | _ => False
def p9 (CH CS CT : Addr) : Sp := fun vs H Q _ => match vs with
 | [.ref x, .int n] => ∃ A L M, ∃ k : Nat, ∃ a t, aH CH CS CT H A L M ∧ A.a = x ∧ n = (k : Int) ∧ L[k]? = some a ∧ M.ts[k]? = some t ∧ M.ov = [] ∧ M.un = [] ∧ ∀ l, H l = none → Q (.ref l) (upd H l (.lst [.int k]))
 | _ => False
def rZ (CH CS CT : Addr) : Sp := fun vs H Q _ => match vs with
 | [.ref x, .int n] => ∃ A L M, ∃ k : Nat, ∃ a t, aH CH CS CT H A L M ∧ A.a = x ∧ n = (k : Int) ∧ L[k]? = some a ∧ M.ts[k]? = some t ∧ M.ov = [] ∧ M.un = [] ∧ ∀ H', ao H H' → Q (.int k) H'
 | _ => False
def tT (CH CS CT : Addr) : Sp := fun vs H Q _ => match vs with
 | [.ref x, .str z, .int 0] => ∃ A L M a t, aH CH CS CT H A L M ∧ A.a = x ∧ L[0]? = some a ∧ M.ts[0]? = some t ∧ M.ov = [] ∧ M.un = [] ∧ aL (sD M.ro) (.inr z) = some (.int 0) ∧ ∀ H', ao H H' → Q (.bl true) H'
 | _ => False
theorem EF (T : Tx K mg) : aD P w K mg base aG 4 T.jK.f T.jK.d ["house", "folder"] (uE T.aj T.aB T.aE) := by
 have G_House_check_thing := Gy (P := P) (w := w) (base := base) T
 refine T.jK.F.ok y6 (fun vs H Q E h => ?_) (fun cdv A outer s H vs Q E hr h => ?_)
 ·unfold uE at h
  split at h
  ·rfl
  ·exact h.elim
 ·unfold uE at h
  split at h
  ·rename_i x n
   obtain ⟨AA, L, M, k, a, t, i, rfl, rfl, ha, hth, bj, bh, q⟩ := h
   obtain ⟨fs, c, hx, hfl, sf⟩ := i.h
   refine ⟨_, ((Dv.cut (Dv.aQ (Dv.aZ T.aI T.kO.h G_House_check_thing (hr.mono (by decide)) T.kO.b .nil az (Dv.v 0) (Dv.aa (Dv.v 1) Dv.ag)))
   (Dv.cut (Dv.aP 2 y6.nd (Dv.v 1))
   (Dv.cut (Dv.me PassesOwn.never (Dv.sY (ff hr) (Dv.v 2) (Dv.fld T.aI T.xM (Dv.v 0))) (Dv.aq Dv.bw))
   (Dv.aq (Dv.aK (Dv.v 2))))))).h, ?_⟩
   rw [show start ["house", "folder", "base"] [V.ref AA.a, V.int (k : Int)] = [some (V.ref AA.a), some (V.int (k : Int)), none] from rfl]
   refine ai ?_
   walk_at "w"
   refine ⟨AA.a, _, _, rfl, hx, (sf _).trans rfl, AA, L, M, k, a, t, i, rfl, rfl, ha, hth, ?_⟩
   refine ai ?_
   walk_at "w"
   refine ai ⟨fun _ σ' H' => σ' = [some (V.ref AA.a), some (V.int (k : Int)), some (V.int (k : Int))] ∧ H' = H, ⟨0, rfl, rfl⟩, ?_⟩
   rintro m σ' H' ⟨rfl, rfl⟩
   walk_at "w"
   refine ⟨AA.a, _, _, .ref AA.un, rfl, hx, (sf _).trans rfl, AA.un, _, rfl, cS.k (k := .inl (k : Int)) i.un, ?_⟩
   rw [bh]
   exact aS q
  ·exact h.elim
theorem ur (T : Tx K mg) : aD P w K mg base aG 5 T.dA.f T.dA.d ["house", "folder"] (p9 T.aj T.aB T.aE) := by
 have G_base_of := EF (P := P) (w := w) (base := base) T
 refine T.dA.F.ok zl (fun vs H Q E h => ?_) (fun cdv A outer s H vs Q E hr h => ?_)
 ·unfold p9 at h
  split at h
  ·rfl
  ·exact h.elim
 ·unfold p9 at h
  split at h
  ·rename_i x n
   obtain ⟨AA, L, M, k, a, t, i, rfl, rfl, ha, hth, bj, bh, q⟩ := h
   refine ⟨_, ((Dv.cut (Dv.aP 2 zl.nd (Dv.lst (Dv.aa (Dv.call G_base_of (hr.mono (by decide)) T.jK.m T.jK.F.kp T.jK.b .nil az (Dv.aa (Dv.v 0) (Dv.aa (Dv.v 1) Dv.ag))) Dv.ag)))
   (Dv.cut (Dv.me PassesOwn.never (Dv.sY (ff hr) (Dv.ix (ba (K := K) rfl) (Dv.v 2) (Dv.un dR Dv.int)) (Dv.fld T.aI T.zb (Dv.v 0))) (Dv.aq Dv.bw))
   (Dv.aq (Dv.aK (Dv.v 2)))))).h, ?_⟩
   rw [show start ["house", "folder", "stack"] [V.ref AA.a, V.int (k : Int)] = [some (V.ref AA.a), some (V.int (k : Int)), none] from rfl]
   refine ai ?_
   walk_at "w"
   refine ⟨AA, L, M, k, a, t, i, rfl, rfl, ha, hth, bj, bh, fits (by simp), fun l hl => ?_⟩
   have s1 := ao.upd (o := .lst [V.int (k : Int)]) hl
   have b1 : upd H l (.lst [V.int (k : Int)]) l = some (.lst [V.int (k : Int)]) := aw
   have q' := q l hl
   generalize upd H l (.lst [V.int (k : Int)]) = H1 at s1 b1 q' ⊢
   have i1 := i.same s1
   obtain ⟨fs, c, hx, hfl, sf⟩ := i1.h
   refine ai ⟨fun _ σ' H' => σ' = [some (V.ref AA.a), some (V.int (k : Int)), some (V.ref l)] ∧ H' = H1, ⟨0, rfl, rfl⟩, ?_⟩
   rintro m σ' H' ⟨rfl, rfl⟩
   walk_at "w"
   simp only [bt, b1]
   refine ⟨AA.a, _, _, .ref AA.ov, rfl, hx, (sf _).trans rfl, AA.ov, _, rfl, cS.k (k := .inl (k : Int)) i1.ov, ?_⟩
   rw [bj]
   exact aS q'
  ·exact h.elim
theorem x5 (T : Tx K mg) : aD P w K mg base aG 6 T.gf.f T.gf.d ["house", "folder"] (rZ T.aj T.aB T.aE) := by
 have kE := ur (P := P) (w := w) (base := base) T
 refine T.gf.F.ok Hd (fun vs H Q E h => ?_) (fun cdv A outer s H vs Q E hr h => ?_)
 ·unfold rZ at h
  split at h
  ·rfl
  ·exact h.elim
 ·unfold rZ at h
  split at h
  ·rename_i x n
   obtain ⟨AA, L, M, k, a, t, i, rfl, rfl, ha, hth, bj, bh, q⟩ := h
   refine ⟨_, ((Dv.aq (Dv.aK (Dv.ix (ba (K := K) rfl) (Dv.call kE (hr.mono (by decide)) T.dA.m T.dA.F.kp T.dA.b .nil az (Dv.aa (Dv.v 0) (Dv.aa (Dv.v 1) Dv.ag))) (Dv.un dR Dv.int))))).h, ?_⟩
   rw [show start ["house", "folder"] [V.ref AA.a, V.int (k : Int)] = [some (V.ref AA.a), some (V.int (k : Int))] from rfl]
   walk_at "w"
   refine ⟨AA, L, M, k, a, t, i, rfl, rfl, ha, hth, bj, bh, fun l hl => ?_⟩
   dsimp only
   simp only [bt, aw]
   exact q _ (ao.upd hl)
  ·exact h.elim
theorem NK (T : Tx K mg) : aD P w K mg base aG 6 T.jU.f T.jU.d ["house", "asker", "folder"] (tT T.aj T.aB T.aE) := by
 have kE := ur (P := P) (w := w) (base := base) T
 have m6 := sE (P := P) (w := w) (base := base) T
 refine T.jU.F.ok oI (fun vs H Q E h => ?_) (fun cdv A outer s H vs Q E hr h => ?_)
 ·unfold tT at h
  split at h
  ·rfl
  ·exact h.elim
 ·unfold tT at h
  split at h
  ·rename_i x z
   obtain ⟨AA, L, M, a, t, i, rfl, ha, hth, bj, bh, hz, q⟩ := h
   obtain ⟨fs, c, hx, hfl, sf⟩ := i.h
   refine bK (b := aU qX) ((Dv.cut (Dv.aP 3 oI.nd (Dv.aZ T.aI T.gi.h m6 (hr.mono (by decide)) T.gi.b .nil az (Dv.v 0) (Dv.aa (Dv.v 1) Dv.ag)))
   (Dv.cut (Dv.aP 4 oI.nd (Dv.v 2))
   (Dv.cut (Dv.aP 5 oI.nd (Dv.call kE (hr.mono (by decide)) T.dA.m T.dA.F.kp T.dA.b .nil az (Dv.aa (Dv.v 0) (Dv.aa (Dv.v 4) Dv.ag))))
   (Dv.cut (Dv.me PassesOwn.never (Dv.bc eJ (Dv.v 4) (Dv.ix (ba (K := K) rfl) (Dv.v 5) (Dv.un dR Dv.int))) (Dv.cut (Dv.aW (Dv.bc (oZ (K := K) rfl) (Dv.v 3) (Dv.v 5)) (Dv.aq (Dv.aK Dv.bl)) Dv.nil)
   (Dv.cut Dv.bw
   (Dv.cut Dv.bw
   (Dv.cut Dv.bw
   (Dv.aq Dv.bw))))))
   (Dv.aq (Dv.aK Dv.bl))))))) ?_
   rw [show start ["house", "asker", "folder", "root", "here", "stack", "place"] [V.ref AA.a, V.str z, V.int 0] = [some (V.ref AA.a), some (V.str z), some (V.int 0), none, none, none, none] from rfl]
   refine ai ?_
   walk_at "w"
   refine ⟨AA.a, _, _, rfl, hx, (sf _).trans rfl, AA, L, M, 0, i, rfl, hz, ?_⟩
   refine ai ?_
   walk_at "w"
   refine ai ?_
   walk_at "w"
   refine ⟨AA, L, M, 0, a, t, i, rfl, rfl, ha, hth, bj, bh, fun l hl => ?_⟩
   have s1 := ao.upd (o := .lst [V.int ((0 : Nat) : Int)]) hl
   have b1 : upd H l (.lst [V.int ((0 : Nat) : Int)]) l = some (.lst [V.int ((0 : Nat) : Int)]) := aw
   generalize upd H l (.lst [V.int ((0 : Nat) : Int)]) = H1 at s1 b1 ⊢
   refine ai ⟨fun _ σ' H' => σ' = [some (V.ref AA.a), some (V.str z), some (V.int 0), some (V.int ((0 : Nat) : Int)), some (V.int 0), some (V.ref l), none] ∧ H' = H1, ⟨0, rfl, rfl⟩, ?_⟩
   rintro m σ' H' ⟨rfl, rfl⟩
   walk_at "w"
   simp only [bt, b1]
   refine bZ ⟨fun _ _ => False, fun _ _ z => z.elim, ?_⟩
   refine ai ?_
   walk_at "w"
   simp only [bt, b1]
   exact ⟨rfl, rfl, bZ (q _ s1)⟩
  ·exact h.elim
def jh (C : Addr) (f1 f2 : Str) : Sp := fun vs H Q _ => match vs with
 | [.ref x, v1, v2] => ∃ dx, H x = some (.ins C dx []) ∧ Q .au (upd H x (.ins C dx (ae f2 v2 (ae f1 v1 []))))
 | _ => False
theorem Lg (T : Tx K mg) : aD P w K mg base aG 1 T.lR.f T.lR.d ["self", "number", "way"] (jh T.cg "number" "way") := by
 refine T.lR.F.ok NQ (fun vs H Q E h => ?_) (fun cdv A outer s H vs Q E hr h => ?_)
 ·unfold jh at h
  split at h
  ·rfl
  ·exact h.elim
 ·unfold jh at h
  split at h
  ·rename_i x v1 v2
   obtain ⟨dx, hx, q⟩ := h
   refine ⟨_, ((Dv.cut (Dv.bb T.oi T.BU (Dv.v 0) (Dv.v 1))
   (Dv.aq (Dv.bb T.oi T.Fy (Dv.v 0) (Dv.v 2))))).h, ?_⟩
   rw [show start ["self", "number", "way"] [V.ref x, v1, v2] = [some (V.ref x), some v1, some v2] from rfl]
   refine ai ?_
   walk_at "w"
   refine ⟨x, dx, _, rfl, hx, by decide, ?_⟩
   refine ⟨x, dx, _, rfl, aw, by (refine Nat.lt_of_le_of_lt (m := 40) ?_ (by decide); (repeat (refine bq ?_)); exact Nat.zero_le _), ?_⟩
   rw [iN]
   exact q
  ·exact h.elim
theorem Fg (T : Tx K mg) : aD P w K mg base aG 1 T.lK.f T.lK.d ["self", "folder", "name"] (jh T.eW "folder" "name") := by
 refine T.lK.F.ok N6 (fun vs H Q E h => ?_) (fun cdv A outer s H vs Q E hr h => ?_)
 ·unfold jh at h
  split at h
  ·rfl
  ·exact h.elim
 ·unfold jh at h
  split at h
  ·rename_i x v1 v2
   obtain ⟨dx, hx, q⟩ := h
   refine ⟨_, ((Dv.cut (Dv.bb T.iH T.n6 (Dv.v 0) (Dv.v 1))
   (Dv.aq (Dv.bb T.iH T.qr (Dv.v 0) (Dv.v 2))))).h, ?_⟩
   rw [show start ["self", "folder", "name"] [V.ref x, v1, v2] = [some (V.ref x), some v1, some v2] from rfl]
   refine ai ?_
   walk_at "w"
   refine ⟨x, dx, _, rfl, hx, by decide, ?_⟩
   refine ⟨x, dx, _, rfl, aw, by (refine Nat.lt_of_le_of_lt (m := 40) ?_ (by decide); (repeat (refine bq ?_)); exact Nat.zero_le _), ?_⟩
   rw [iN]
   exact q
  ·exact h.elim
def zw (h : Addr) (z : Str) (here : Int) (place : V) (step : Int) (av lf rd : Addr) (lu : Int) (told : V) : List (Str × V) := [("house", .ref h), ("asker", .str z), ("last", .bl true), ("root", .int 0), ("here", .int here), ("place", place), ("step", .int step), ("asked", .ref av), ("left", .ref lf), ("reading", .ref rd), ("leads_read", .int 0), ("looked_up", .int lu), ("told", told)]
structure bF (CH CS CT CW : Addr) (n : Nat) (H0 H : Hp) (A : Ad) (L : List Ta) (M : Hs) (x dx av lf : Addr) (z : Str) (here : Nat) (told : V) (lv : List V) : Prop where
 i : aH CH CS CT H0 A L M
 s : ao H0 H
 x0 : H0 x = none
 a0 : H0 av = none
 l0 : H0 lf = none
 o : ∃ fs rd step lu, H x = some (.ins CW dx fs) ∧ fs.length ≤ 40 ∧ cq fs (zw A.a z here .au step av lf rd lu told)
 oa : ∃ as, H av = some (.lst as) ∧ as.length ≤ n
 ol : H lf = some (.lst lv)
 ne : av ≠ lf
 bj : M.ov = []
 bh : M.un = []
 hz : aL (sD M.ro) (.inr z) = some (.int 0)
def tR (CH CS CT CW : Addr) : Sp := fun vs H Q _ => match vs with
 | [.ref x, .ref h, .str z, .bl true] => ∃ A L M dx H0, aH CH CS CT H0 A L M ∧ A.a = h ∧ H x = some (.ins CW dx []) ∧ ao H0 H ∧ H0 x = none ∧ M.ov = [] ∧ M.un = [] ∧ aL (sD M.ro) (.inr z) = some (.int 0) ∧
   ∀ av lf H', bF CH CS CT CW 0 H0 H' A L M x dx av lf z 0 .au [] → Q .au H'
 | _ => False
theorem Mw (T : Tx K mg) : aD P w K mg base aG 3 T.mz.f T.mz.d ["self", "house", "asker", "last"] (tR T.aj T.aB T.aE T.aM) := by
 have m6 := sE (P := P) (w := w) (base := base) T
 refine T.mz.F.ok Gk (fun vs H Q E h => ?_) (fun cdv A outer s H vs Q E hr h => ?_)
 ·unfold tR at h
  split at h
  ·rfl
  ·exact h.elim
 ·unfold tR at h
  split at h
  ·rename_i x hh z
   obtain ⟨AA, L, M, dx, H0, i, rfl, hx, s0, x0, bj, bh, hz, q⟩ := h
   refine bK (b := aU vF) ((Dv.cut (Dv.bb T.aR T.fc (Dv.v 0) (Dv.v 1))
   (Dv.cut (Dv.bb T.aR T.ly (Dv.v 0) (Dv.v 2))
   (Dv.cut (Dv.bb T.aR T.G1 (Dv.v 0) (Dv.v 3))
   (Dv.cut (Dv.bb T.aR T.uX (Dv.v 0) (Dv.aZ T.aI T.gi.h m6 (hr.mono (by decide)) T.gi.b .nil az (Dv.v 1) (Dv.aa (Dv.v 2) Dv.ag)))
   (Dv.cut (Dv.bb T.aR T.eX (Dv.v 0) (Dv.fld T.aR T.uX (Dv.v 0)))
   (Dv.cut (Dv.bb T.aR T.LX (Dv.v 0) Dv.au)
   (Dv.cut (Dv.bb T.aR T.yH (Dv.v 0) Dv.int)
   (Dv.cut (Dv.bb T.aR T.yy (Dv.v 0) (Dv.lst Dv.ag))
   (Dv.cut (Dv.bb T.aR T.nE (Dv.v 0) (Dv.lst Dv.ag))
   (Dv.cut (Dv.bb T.aR T.Hh (Dv.v 0) (Dv.lst Dv.ag))
   (Dv.cut (Dv.bb T.aR T.Ja (Dv.v 0) Dv.int)
   (Dv.cut (Dv.bb T.aR T.A8 (Dv.v 0) Dv.int)
   (Dv.aq (Dv.bb T.aR T.jG (Dv.v 0) Dv.au))))))))))))))) ?_
   rw [show start ["self", "house", "asker", "last"] [V.ref x, V.ref AA.a, V.str z, V.bl true] = [some (V.ref x), some (V.ref AA.a), some (V.str z), some (V.bl true)] from rfl]
   refine ai ?_
   walk_at "w"
   refine ⟨x, dx, _, rfl, hx, by decide, ai ?_⟩
   walk_at "w"
   refine ⟨x, dx, _, rfl, aw, by (refine Nat.lt_of_le_of_lt (m := 40) ?_ (by decide); (repeat (refine bq ?_)); exact Nat.zero_le _), ai ?_⟩
   walk_at "w"
   refine ⟨x, dx, _, rfl, aw, by (refine Nat.lt_of_le_of_lt (m := 40) ?_ (by decide); (repeat (refine bq ?_)); exact Nat.zero_le _), ai ?_⟩
   simp only [iN]
   walk_at "w"
   have s1 := s0.eU (o := .ins T.aM dx (ae "last" (.bl true) (ae "asker" (.str z) (ae "house" (.ref AA.a) [])))) x0
   have b1 : upd H x (.ins T.aM dx (ae "last" (.bl true) (ae "asker" (.str z) (ae "house" (.ref AA.a) [])))) x = some (.ins T.aM dx (ae "last" (.bl true) (ae "asker" (.str z) (ae "house" (.ref AA.a) [])))) := aw
   generalize upd H x (.ins T.aM dx (ae "last" (.bl true) (ae "asker" (.str z) (ae "house" (.ref AA.a) [])))) = H1 at s1 b1 ⊢
   have i1 := i.same s1
   obtain ⟨fs, c, hx1, hfl, sf⟩ := i1.h
   refine ⟨AA.a, _, _, rfl, hx1, (sf _).trans rfl, AA, L, M, 0, i1, rfl, hz, ?_⟩
   refine ⟨x, dx, _, rfl, b1, by (refine Nat.lt_of_le_of_lt (m := 40) ?_ (by decide); (repeat (refine bq ?_)); exact Nat.zero_le _), ai ?_⟩
   walk_at "w"
   refine ⟨x, dx, _, _, rfl, aw, rfl, x, dx, _, rfl, aw, by (refine Nat.lt_of_le_of_lt (m := 40) ?_ (by decide); (repeat (refine bq ?_)); exact Nat.zero_le _), ai ?_⟩
   walk_at "w"
   refine ⟨x, dx, _, rfl, aw, by (refine Nat.lt_of_le_of_lt (m := 40) ?_ (by decide); (repeat (refine bq ?_)); exact Nat.zero_le _), ai ?_⟩
   walk_at "w"
   refine ⟨x, dx, _, rfl, aw, by (refine Nat.lt_of_le_of_lt (m := 40) ?_ (by decide); (repeat (refine bq ?_)); exact Nat.zero_le _), ai ?_⟩
   simp only [iN]
   walk_at "w"
   have sF7 : cq (ae "step" (.int 0) (ae "place" .au (ae "here" (.int ((0 : Nat) : Int)) (ae "root" (.int ((0 : Nat) : Int)) (ae "last" (.bl true) (ae "asker" (.str z) (ae "house" (.ref AA.a) []))))))) [("house", .ref AA.a), ("asker", .str z), ("last", .bl true), ("root", .int 0), ("here", .int 0), ("place", .au), ("step", .int 0)] := fun f => rfl
   have lF7 : (ae "step" (.int 0) (ae "place" .au (ae "here" (.int ((0 : Nat) : Int)) (ae "root" (.int ((0 : Nat) : Int)) (ae "last" (.bl true) (ae "asker" (.str z) (ae "house" (.ref AA.a) []))))))).length ≤ 10 := by (repeat (refine bq ?_)); exact Nat.zero_le _
   generalize (ae "step" (.int 0) (ae "place" .au (ae "here" (.int ((0 : Nat) : Int)) (ae "root" (.int ((0 : Nat) : Int)) (ae "last" (.bl true) (ae "asker" (.str z) (ae "house" (.ref AA.a) []))))))) = F7 at sF7 lF7 ⊢
   have s2 := s1.eU (o := .ins T.aM dx F7) x0
   have b2 : upd H1 x (.ins T.aM dx F7) x = some (.ins T.aM dx F7) := aw
   generalize upd H1 x (.ins T.aM dx F7) = H2 at s2 b2 ⊢
   have bG : ∀ {J : Hp} {d : Addr}, ao H0 J → J d = none → H0 d = none := fun {J d} k hn => by
    cases e : H0 d with
    | none => rfl
    | some o => rw [k d o e] at hn; cases hn
   refine ⟨fits (by simp), fun av hav => ?_⟩
   refine ⟨x, dx, _, rfl, by rw [ah (aC b2 hav)]; exact b2, by omega, ai ?_⟩
   obtain ⟨b3, o3, old3, n3⟩ := gx (o := .lst []) (O := .ins T.aM dx (ae "asked" (.ref av) F7)) hav b2
   have s3 := (s2.trans (ao.upd (o := .lst []) hav)).eU (o := .ins T.aM dx (ae "asked" (.ref av) F7)) x0
   have av0 := bG s2 hav
   generalize upd (upd H2 av (.lst [])) x (.ins T.aM dx (ae "asked" (.ref av) F7)) = H3 at b3 o3 old3 s3 ⊢
   walk_at "w"
   refine ⟨fits (by simp), fun lf hlf => ?_⟩
   have l1 : (ae "asked" (.ref av) F7).length ≤ 11 := bq lF7
   refine ⟨x, dx, _, rfl, by rw [ah (aC b3 hlf)]; exact b3, by omega, ai ?_⟩
   obtain ⟨b4, o4, Cu, n4⟩ := gx (o := .lst []) (O := .ins T.aM dx (ae "left" (.ref lf) (ae "asked" (.ref av) F7))) hlf b3
   have s4 := (s3.trans (ao.upd (o := .lst []) hlf)).eU (o := .ins T.aM dx (ae "left" (.ref lf) (ae "asked" (.ref av) F7))) x0
   have lf0 := bG s3 hlf
   have nal : av ≠ lf := aC o3 hlf
   have o34 := Cu av _ n3 o3
   generalize upd (upd H3 lf (.lst [])) x (.ins T.aM dx (ae "left" (.ref lf) (ae "asked" (.ref av) F7))) = H4 at b4 o4 Cu s4 o34 ⊢
   walk_at "w"
   refine ⟨fits (by simp), fun rd hrd => ?_⟩
   have l2 : (ae "left" (.ref lf) (ae "asked" (.ref av) F7)).length ≤ 12 := bq l1
   refine ⟨x, dx, _, rfl, by rw [ah (aC b4 hrd)]; exact b4, by omega, ai ?_⟩
   obtain ⟨b5, o5, ic, n5⟩ := gx (o := .lst []) (O := .ins T.aM dx (ae "reading" (.ref rd) (ae "left" (.ref lf) (ae "asked" (.ref av) F7)))) hrd b4
   have s5 := (s4.trans (ao.upd (o := .lst []) hrd)).eU (o := .ins T.aM dx (ae "reading" (.ref rd) (ae "left" (.ref lf) (ae "asked" (.ref av) F7)))) x0
   have o35 := ic av _ n3 o34
   have o45 := ic lf _ n4 o4
   generalize upd (upd H4 rd (.lst [])) x (.ins T.aM dx (ae "reading" (.ref rd) (ae "left" (.ref lf) (ae "asked" (.ref av) F7)))) = H5 at b5 o5 ic s5 o35 o45 ⊢
   have l3 : (ae "reading" (.ref rd) (ae "left" (.ref lf) (ae "asked" (.ref av) F7))).length ≤ 13 := bq l2
   walk_at "w"
   refine ⟨x, dx, _, rfl, b5, by omega, ai ?_⟩
   have l4 : (ae "leads_read" (.int 0) (ae "reading" (.ref rd) (ae "left" (.ref lf) (ae "asked" (.ref av) F7)))).length ≤ 14 := bq l3
   walk_at "w"
   refine ⟨x, dx, _, rfl, aw, by omega, ?_⟩
   have l5 : (ae "looked_up" (.int 0) (ae "leads_read" (.int 0) (ae "reading" (.ref rd) (ae "left" (.ref lf) (ae "asked" (.ref av) F7))))).length ≤ 15 := bq l4
   refine ⟨x, dx, _, rfl, aw, by omega, ?_⟩
   simp only [iN]
   refine q av lf _ ⟨i, s5.eU x0, x0, av0, lf0, ⟨_, rd, 0, 0, aw, Nat.le_trans (bq l5) (by decide), fun f => ?_⟩, ⟨[], by rw [ah n3]; exact o35, by simp⟩, by rw [ah n4]; exact o45, nal, bj, bh, hz⟩
   exact ((((((sF7.put "asked" (.ref av)).put "left" (.ref lf)).put "reading" (.ref rd)).put "leads_read" (.int 0)).put "looked_up" (.int 0)).put "told" .au f).trans rfl
  ·exact h.elim
section
variable {CH CS CT CW : Addr} {n : Nat} {H0 H H' : Hp} {A : Ad} {L : List Ta} {M : Hs} {x dx av lf : Addr} {z : Str} {here : Nat} {told : V} {lv : List V}
theorem bF.same (v : bF CH CS CT CW n H0 H A L M x dx av lf z here told lv) (s : ao H H') : bF CH CS CT CW n H0 H' A L M x dx av lf z here told lv :=
 ⟨v.i, v.s.trans s, v.x0, v.a0, v.l0, let ⟨fs, rd, st, lu, e, r⟩ := v.o; ⟨fs, rd, st, lu, s _ _ e, r⟩, let ⟨as, e, r⟩ := v.oa; ⟨as, s _ _ e, r⟩, s _ _ v.ol, v.ne, v.bj, v.bh, v.hz⟩
theorem bF.m (v : bF CH CS CT CW n H0 H A L M x dx av lf z here told lv) : aH CH CS CT H A L M := v.i.same v.s
theorem bF.xa (v : bF CH CS CT CW n H0 H A L M x dx av lf z here told lv) : x ≠ av ∧ x ≠ lf := by
 obtain ⟨fs, rd, st, lu, e, _⟩ := v.o
 obtain ⟨as, e2, _⟩ := v.oa
 exact ⟨bg e e2 (by nofun), bg e v.ol (by nofun)⟩
theorem bF.put (v : bF CH CS CT CW n H0 H A L M x dx av lf z here told lv) {fs : List (Str × V)} {here' : Nat} {told' : V} {lf' : Addr} {lv' : List V} {rd : Addr} {st lu : Int} (hl : fs.length ≤ 40) (sf : cq fs (zw A.a z here' .au st av lf' rd lu told')) (h0 : H0 lf' = none) (hlf : H lf' = some (.lst lv')) (hne : av ≠ lf') :
  bF CH CS CT CW n H0 (upd H x (.ins CW dx fs)) A L M x dx av lf' z here' told' lv' := by
 have nx : x ≠ lf' := by
  obtain ⟨gs, _, _, _, e, _⟩ := v.o
  exact bg e hlf (by nofun)
 exact ⟨v.i, v.s.eU v.x0, v.x0, v.a0, h0, ⟨fs, rd, st, lu, aw, hl, sf⟩, let ⟨as, e, r⟩ := v.oa; ⟨as, by rw [ah (Ne.symm v.xa.1)]; exact e, r⟩, by rw [ah (Ne.symm nx)]; exact hlf, hne, v.bj, v.bh, v.hz⟩
end
def tV (CH CS CT CW : Addr) : Sp := fun vs H Q _ => match vs with
 | [.ref x, .bl true, .ref lp] => ∃ n H0 A L M dx av lf z ps a t, bF CH CS CT CW n H0 H A L M x dx av lf z 0 .au [] ∧ H lp = some (.lst ps) ∧ L[0]? = some a ∧ M.ts[0]? = some t ∧ ∀ lf' H', bF CH CS CT CW n H0 H' A L M x dx av lf' z 0 .au ps.reverse → Q .au H'
 | _ => False
theorem HJ (T : Tx K mg) : aD P w K mg base aG 7 T.lb.f T.lb.d ["self", "from_root", "parts"] (tV T.aj T.aB T.aE T.aM) := by
 have wo := x5 (P := P) (w := w) (base := base) T
 have G_is_seen := NK (P := P) (w := w) (base := base) T
 have G_House_standing_of : aD P w K mg base aG 1 T.nV.f T.nV.d ["self", "asker"] (fun _ _ _ _ => False) := aD.never
 refine T.lb.F.ok xI (fun vs H Q E h => ?_) (fun cdv A outer s H vs Q E hr h => ?_)
 ·unfold tV at h
  split at h
  ·rfl
  ·exact h.elim
 ·unfold tV at h
  split at h
  ·rename_i x lp
   obtain ⟨n, H0, AA, L, M, dx, av, lf, z, ps, a, t, v, hlp, ha, hth, q⟩ := h
   obtain ⟨fs, rd, st, lu, hx, hfl, sf⟩ := v.o
   refine bK (b := aU tH) ((Dv.cut (Dv.aP 3 xI.nd (Dv.ye (Dv.cE (Dv.v 1)) (Dv.fld T.aR T.uX (Dv.v 0)) (Dv.aZ T.aI T.nV.h G_House_standing_of (hr.mono (by decide)) T.nV.b .nil az (Dv.fld T.aR T.fc (Dv.v 0)) (Dv.aa (Dv.fld T.aR T.ly (Dv.v 0)) Dv.ag))))
   (Dv.cut (Dv.bb T.aR T.eX (Dv.v 0) (Dv.call wo (hr.mono (by decide)) T.gf.m T.gf.F.kp T.gf.b .nil az (Dv.aa (Dv.fld T.aR T.fc (Dv.v 0)) (Dv.aa (Dv.v 3) Dv.ag))))
   (Dv.aq (Dv.aW (Dv.cE (Dv.call G_is_seen (hr.mono (by decide)) T.jU.m T.jU.F.kp T.jU.b .nil az (Dv.aa (Dv.fld T.aR T.fc (Dv.v 0)) (Dv.aa (Dv.fld T.aR T.ly (Dv.v 0)) (Dv.aa (Dv.fld T.aR T.eX (Dv.v 0)) Dv.ag))))) (Dv.aq (Dv.bb T.aR T.nE (Dv.v 0) (Dv.listRev (K := K) rfl rfl T.tK T.zA (Dv.v 2)))) (Dv.aq Dv.bw)))))) ?_
   rw [show start ["self", "from_root", "parts", "start"] [V.ref x, V.bl true, V.ref lp] = [some (V.ref x), some (V.bl true), some (V.ref lp), none] from rfl]
   refine ai ?_
   walk_at "w"
   refine ⟨x, _, _, _, rfl, hx, (sf _).trans rfl, ?_⟩
   refine ai ?_
   walk_at "w"
   refine ⟨x, _, _, _, rfl, hx, (sf _).trans rfl, AA, L, M, 0, a, t, v.m, rfl, rfl, ha, hth, v.bj, v.bh, fun H1 s1 => ?_⟩
   have v1 := v.same s1
   obtain ⟨fs1, rd1, st1, lu1, hx1, iX, sf1⟩ := v1.o
   refine ⟨x, _, _, rfl, hx1, by omega, ?_⟩
   have v2 := v1.put (fs := ae "here" (.int ((0 : Nat) : Int)) fs1) (here' := 0) (told' := .au) (lf' := lf) (lv' := []) (rd := rd1) (st := st1) (lu := lu1) (by rw [cW (u := .int ((0 : Nat) : Int)) ((sf1 _).trans rfl)]; exact iX) (fun f => ((sf1.put "here" (.int ((0 : Nat) : Int))) f).trans rfl) v1.l0 v1.ol v1.ne
   have hlp1 := s1 _ _ hlp
   have nlp : lp ≠ x := fun e => by rw [e, hx] at hlp; cases hlp
   have Dd : upd H1 x (.ins T.aM dx (ae "here" (.int ((0 : Nat) : Int)) fs1)) lp = some (.lst ps) := by rw [ah nlp]; exact hlp1
   generalize upd H1 x (.ins T.aM dx (ae "here" (.int ((0 : Nat) : Int)) fs1)) = H2 at v2 Dd ⊢
   obtain ⟨fs2, rd2, st2, lu2, hx2, ja, sf2⟩ := v2.o
   walk_at "w"
   refine ⟨x, _, _, _, rfl, hx2, (sf2 _).trans rfl, x, _, _, _, rfl, hx2, (sf2 _).trans rfl, x, _, _, _, rfl, hx2, (sf2 _).trans rfl, AA, L, M, a, t, v2.m, rfl, ha, hth, v2.bj, v2.bh, v2.hz, fun H3 s3 => bZ ?_⟩
   have v3 := v2.same s3
   obtain ⟨fs3, rd3, st3, lu3, hx3, iV, sf3⟩ := v3.o
   refine ⟨lp, ps, rfl, aJ.of (s3 _ _ Dd), fun l hl => ?_⟩
   have v4 := v3.same (ao.upd (o := .lst ps.reverse) hl)
   have b4 : upd H3 l (.lst ps.reverse) l = some (.lst ps.reverse) := aw
   have l0 : H0 l = none := by
    cases e : H0 l with
    | none => rfl
    | some o => rw [v3.s l o e] at hl; cases hl
   obtain ⟨as, ea, _⟩ := v3.oa
   have nal : av ≠ l := aC ea hl
   generalize upd H3 l (.lst ps.reverse) = H4 at v4 b4 ⊢
   obtain ⟨fs4, rd4, st4, lu4, hx4, CU, sf4⟩ := v4.o
   refine ⟨x, _, _, rfl, hx4, by omega, ?_⟩
   exact q l _ (v4.put (fs := ae "left" (.ref l) fs4) (here' := 0) (told' := .au) (lf' := l) (lv' := ps.reverse) (rd := rd4) (st := st4) (lu := lu4) (by rw [cW (u := .ref lf) ((sf4 _).trans rfl)]; exact CU) (fun f => ((sf4.put "left" (.ref l)) f).trans rfl) l0 b4 nal)
  ·exact h.elim
def sT (CH CS CT : Addr) : Sp := fun vs H Q _ => match vs with
 | [.ref x, .str z, .int n] => ∃ A L M, ∃ k : Nat, ∃ a t a0 t0, aH CH CS CT H A L M ∧ A.a = x ∧ n = (k : Int) ∧ L[k]? = some a ∧ M.ts[k]? = some t ∧ L[0]? = some a0 ∧ M.ts[0]? = some t0 ∧ M.ov = [] ∧ M.un = [] ∧ aL (sD M.ro) (.inr z) = some (.int 0) ∧ (k ≠ 0 → ∃ nm, t.fK = [(0, nm)] ∧ nm.length ≤ 8) ∧
   ∀ (ns : List Str) l H', ns.length ≤ 1 → (∀ s ∈ ns, s.length ≤ 8) → ao H H' → H' l = some (.lst (ns.map V.str)) → Q (.ref l) H'
 | _ => False
theorem N1 (T : Tx K mg) : aD P w K mg base aG 6 T.j3.f T.j3.d ["house", "asker", "folder"] (sT T.aj T.aB T.aE) := by
 have kE := ur (P := P) (w := w) (base := base) T
 have m6 := sE (P := P) (w := w) (base := base) T
 have w6 := yw (P := P) (w := w) (base := base) T
 refine T.j3.F.ok jb (fun vs H Q E h => ?_) (fun cdv A outer s H vs Q E hr h => ?_)
 ·unfold sT at h
  split at h
  ·rfl
  ·exact h.elim
 ·unfold sT at h
  split at h
  ·rename_i x z n
   obtain ⟨AA, L, M, k, a, t, a0, t0, i, rfl, rfl, ha, hth, bR, ht0, bj, bh, hz, hk, q⟩ := h
   obtain ⟨fs, c, hx, hfl, sf⟩ := i.h
   refine bK (b := aU rF) ((Dv.cut (Dv.aP 3 jb.nd (Dv.aZ T.aI T.gi.h m6 (hr.mono (by decide)) T.gi.b .nil az (Dv.v 0) (Dv.aa (Dv.v 1) Dv.ag)))
   (Dv.cut (Dv.aP 4 jb.nd (Dv.lst Dv.ag))
   (Dv.cut (Dv.aP 5 jb.nd (Dv.call kE (hr.mono (by decide)) T.dA.m T.dA.F.kp T.dA.b .nil az (Dv.aa (Dv.v 0) (Dv.aa (Dv.v 2) Dv.ag))))
   (Dv.cut (Dv.me PassesOwn.never (Dv.bc (xD (K := K) rfl) (Dv.v 3) (Dv.v 5)) (Dv.cut (Dv.aP 6 jb.nd (Dv.aZ T.aI T.iE.h w6 (hr.mono (by decide)) T.iE.b .nil az (Dv.v 0) (Dv.aa (Dv.ix (ba (K := K) rfl) (Dv.v 5) Dv.int) Dv.ag)))
   (Dv.cut (Dv.aQ (Dv.iw PySem.F.slot_list_append PySem.F.type_list_append iq (Dv.v 4) (Dv.aa (Dv.ix (ba (K := K) rfl) (Dv.v 6) Dv.int) Dv.ag)))
   (Dv.aq (Dv.aP 5 jb.nd (Dv.call kE (hr.mono (by decide)) T.dA.m T.dA.F.kp T.dA.b .nil az (Dv.aa (Dv.v 0) (Dv.aa (Dv.ix (ba (K := K) rfl) (Dv.v 6) Dv.int) Dv.ag))))))))
   (Dv.aq (Dv.aK (Dv.listRev (K := K) rfl rfl T.tK T.zA (Dv.v 4))))))))) ?_
   rw [show start ["house", "asker", "folder", "root", "names", "stack", "place"] [V.ref AA.a, V.str z, V.int (k : Int)] = [some (V.ref AA.a), some (V.str z), some (V.int (k : Int)), none, none, none, none] from rfl]
   refine ai ?_
   walk_at "w"
   refine ⟨AA.a, _, _, rfl, hx, (sf _).trans rfl, AA, L, M, 0, i, rfl, hz, ?_⟩
   refine ai ?_
   walk_at "w"
   refine ⟨fits (by simp), fun ln hln => ?_⟩
   have s1 := ao.upd (o := .lst []) hln
   have b1 : upd H ln (.lst []) ln = some (.lst []) := aw
   generalize upd H ln (.lst []) = H1 at s1 b1 ⊢
   have i1 := i.same s1
   refine ai ?_
   walk_at "w"
   refine ⟨AA, L, M, k, a, t, i1, rfl, rfl, ha, hth, bj, bh, fun l2 dE => ?_⟩
   have s2 := ao.upd (o := .lst [V.int (k : Int)]) dE
   have b2 : upd H1 l2 (.lst [V.int (k : Int)]) l2 = some (.lst [V.int (k : Int)]) := aw
   generalize upd H1 l2 (.lst [V.int (k : Int)]) = H2 at s2 b2 ⊢
   have s12 := s1.trans s2
   have c1 := s2 _ _ b1
   refine ai ⟨fun m σ' H' => ao H H' ∧ ∃ (j : Nat) (ls : Addr) (ns : List Str) (pv : Option V), σ' = [some (V.ref AA.a), some (V.str z), some (V.int (k : Int)), some (V.int ((0 : Nat) : Int)), some (V.ref ln), some (V.ref ls), pv] ∧ H' ls = some (.lst [V.int (j : Int)]) ∧ H' ln = some (.lst (ns.map V.str)) ∧ ns.length ≤ 1 ∧ (∀ s ∈ ns, s.length ≤ 8) ∧ ((j = 0 ∧ m = 0) ∨ (j = k ∧ k ≠ 0 ∧ m = 1 ∧ ns = [])), ⟨if k = 0 then 0 else 1, s12, k, l2, [], none, rfl, b2, c1, by simp, by simp, ?_⟩, ?_⟩
   ·by_cases e : k = 0
    ·exact .inl ⟨e, if_pos e⟩
    ·exact .inr ⟨rfl, e, if_neg e, rfl⟩
   rintro m σ' H' ⟨s', j, ls, ns, pv, rfl, hls, hln', hn1, hn8, hj⟩
   walk_at "w"
   refine ⟨_, .inl (aJ.of hls), rfl, rfl, ?_⟩
   rcases hj with ⟨rfl, rfl⟩ | ⟨rfl, hk0, rfl, rfl⟩
   ·rw [show dQ (V.int ((0 : Nat) : Int)) [V.int ((0 : Nat) : Int)] = true from rfl]
    refine aS ?_
    walk_at "w"
    refine ⟨ln, _, rfl, aJ.of hln', fun l hl => ?_⟩
    refine q ns.reverse l _ (by simpa using hn1) (fun s hs => hn8 s (List.mem_reverse.mp hs)) (s'.trans (ao.upd hl)) (by rw [aw, List.map_reverse])
   ·have e0 : dQ (V.int ((0 : Nat) : Int)) [V.int (j : Int)] = false := by
     unfold dQ eD
     simp only [List.any_cons, List.any_nil, Bool.or_false]
     exact beq_eq_false_iff_ne.mpr (by omega)
    rw [e0]
    obtain ⟨nm, hpl, hnl⟩ := hk hk0
    refine bZ ⟨fun σ' H' => ao H H' ∧ ∃ (ls : Addr) (pv : Option V), σ' = [some (V.ref AA.a), some (V.str z), some (V.int (j : Int)), some (V.int ((0 : Nat) : Int)), some (V.ref ln), some (V.ref ls), pv] ∧ H' ls = some (.lst [V.int ((0 : Nat) : Int)]) ∧ H' ln = some (.lst [V.str nm]), fun σ' H' ⟨s3, ls', pv', e1, e2, e3⟩ => ⟨0, by decide, s3, 0, ls', [nm], pv', e1, e2, e3, by simp, by simpa using hnl, .inl ⟨rfl, rfl⟩⟩, ?_⟩
    have i' := i.same s'
    obtain ⟨fs', c', hx', hfl', sf'⟩ := i'.h
    refine ai ?_
    walk_at "w"
    simp only [bt, hls]
    refine ⟨AA.a, _, _, rfl, hx', (sf' _).trans rfl, AA, L, M, j, a, t, i', rfl, rfl, ha, hth, .inr ⟨0, nm, hpl, fun p hp => ?_⟩⟩
    refine ai ?_
    walk_at "w"
    simp only [hln', bt, hp]
    refine ⟨iB (by simp), ?_⟩
    have nlp : p ≠ ln := bg hp hln' (by nofun)
    have ln0 : H ln = none := hln
    have s4 := s'.eU (o := .lst (List.map V.str [] ++ [V.str nm])) ln0
    have b4 : upd H' ln (.lst (List.map V.str [] ++ [V.str nm])) ln = some (.lst [V.str nm]) := aw
    have hp4 : upd H' ln (.lst (List.map V.str [] ++ [V.str nm])) p = some (.tup [V.int ((0 : Nat) : Int), V.str nm]) := by rw [ah nlp]; exact hp
    generalize upd H' ln (.lst (List.map V.str [] ++ [V.str nm])) = H4 at s4 b4 hp4 ⊢
    walk_at "w"
    simp only [bt, hp4]
    exact ⟨AA, L, M, 0, a0, t0, i.same s4, rfl, rfl, bR, ht0, bj, bh, fun l5 hl5 => ⟨s4.trans (ao.upd hl5), l5, _, rfl, aw, by rw [ah (aC b4 hl5)]; exact b4⟩⟩
  ·exact h.elim
structure At (M : Hs) (L : List Ta) (k : Nat) : Prop where
 zero : ∃ a t, L[0]? = some a ∧ M.ts[0]? = some t ∧ t.kd = ("folder" : Str)
 here : ∃ a t, L[k]? = some a ∧ M.ts[k]? = some t ∧ t.kd = ("folder" : Str) ∧ (k ≠ 0 → ∃ nm, t.fK = [(0, nm)] ∧ nm.length ≤ 8)
def tm (CH CS CT CW : Addr) : Sp := fun vs H Q _ => match vs with
 | [.ref x] => ∃ n H0 A L M dx av lf z k lv, bF CH CS CT CW n H0 H A L M x dx av lf z k .au lv ∧ At M L k ∧ ∀ (sv : Str) H', ao H H' → Q (.str sv) H'
 | _ => False
theorem KN (T : Tx K mg) : aD P w K mg base aG 7 T.lh.f T.lh.d ["self"] (tm T.aj T.aB T.aE T.aM) := by
 have G_names_to := N1 (P := P) (w := w) (base := base) T
 have iY := n9 (P := P) (w := w) (base := base) T
 refine T.lh.F.ok uc (fun vs H Q E h => ?_) (fun cdv A outer s H vs Q E hr h => ?_)
 ·unfold tm at h
  split at h
  ·rfl
  ·exact h.elim
 ·unfold tm at h
  split at h
  ·rename_i x
   obtain ⟨n, H0, AA, L, M, dx, av, lf, z, k, lv, v, at', q⟩ := h
   refine bK (b := aU sH) ((Dv.cut (Dv.aP 1 uc.nd (Dv.lst Dv.ag))
   (Dv.cut (Dv.aP 2 uc.nd (Dv.fld T.aR T.eX (Dv.v 0)))
   (Dv.cut (Dv.aW (Dv.bc eT (Dv.aZ T.aI T.e9.h iY (hr.mono (by decide)) T.e9.b .nil az (Dv.fld T.aR T.fc (Dv.v 0)) (Dv.aa (Dv.fld T.aR T.eX (Dv.v 0)) Dv.ag)) (Dv.glob (.str "folder") T.oN ⟨_, rfl⟩)) (Dv.cut Dv.bw
   (Dv.aq Dv.bw)) Dv.nil)
   (Dv.aq (Dv.aK (Dv.op dI Dv.str (Dv.pC PySem.F.slot_str_join PySem.F.type_str_join (GB (K := K) rfl) Dv.str (Dv.aa (Dv.op dI (Dv.call G_names_to (hr.mono (by decide)) T.j3.m T.j3.F.kp T.j3.b .nil az (Dv.aa (Dv.fld T.aR T.fc (Dv.v 0)) (Dv.aa (Dv.fld T.aR T.ly (Dv.v 0)) (Dv.aa (Dv.v 2) Dv.ag)))) (Dv.v 1)) Dv.ag))))))))) ?_
   rw [show start ["self", "names", "folder"] [V.ref x] = [some (V.ref x), none, none] from rfl]
   refine ai ?_
   walk_at "w"
   refine ⟨fits (by simp), fun ln hln => ?_⟩
   have s1 := ao.upd (o := .lst []) hln
   have b1 : upd H ln (.lst []) ln = some (.lst []) := aw
   generalize upd H ln (.lst []) = H1 at s1 b1 ⊢
   have v1 := v.same s1
   obtain ⟨fs, rd, st, lu, hx, hfl, sf⟩ := v1.o
   obtain ⟨hfs, hc, hh, hhl, hsf⟩ := v1.m.h
   obtain ⟨a, t, ha, hth, cC, hpl⟩ := at'.here
   obtain ⟨a0, t0, bR, bN, hkd0⟩ := at'.zero
   refine ai ?_
   walk_at "w"
   refine ⟨x, _, _, _, rfl, hx, (sf _).trans rfl, ?_⟩
   refine ai ?_
   walk_at "w"
   refine ⟨x, _, _, _, rfl, hx, (sf _).trans rfl, AA.a, _, _, rfl, hh, (hsf _).trans rfl, x, _, _, _, rfl, hx, (sf _).trans rfl, AA, L, M, k, a, t, v1.m, rfl, rfl, ha, hth, ?_⟩
   simp only [nH, cC, decide_true]
   refine aS ?_
   walk_at "w"
   refine ⟨x, _, _, _, rfl, hx, (sf _).trans rfl, x, _, _, _, rfl, hx, (sf _).trans rfl, AA, L, M, k, a, t, a0, t0, v1.m, rfl, rfl, ha, hth, bR, bN, v1.bj, v1.bh, v1.hz, hpl, fun ns l H2 hn1 hn8 s2 hl => ?_⟩
   have c2 := s2 _ _ b1
   simp only [hl, c2]
   refine ⟨fits (by simp only [List.length_map, List.length_nil]; omega), fun p hp => ?_⟩
   refine ⟨_, aJ.of aw, ns, by simp, ?_⟩
   have lj : (Str.ofString "/").length = 1 := by decide +kernel
   have hb : ns.foldl (fun n z => n + z.length + (Str.ofString "/").length) 0 ≤ 9 ∧ (Str.join (Str.ofString "/") ns).length ≤ 8 := by
    rw [lj]
    match ns, hn1, hn8 with
    | [], _, _ => exact ⟨by decide, by decide +kernel⟩
    | [y], _, h8 =>
     have := h8 y (by simp)
     refine ⟨by simp only [List.foldl_cons, List.foldl_nil]; omega, this⟩
   refine ⟨fits (by omega), fits (by omega), q _ _ ((s1.trans s2).trans (ao.upd hp))⟩
  ·exact h.elim
def uY (CH CS CT CW : Addr) : Sp := fun vs H Q _ => match vs with
 | [.ref x, .str nm] => ∃ n H0 A L M dx av lf z lv, ∃ k : Nat, ∃ t0, bF CH CS CT CW n H0 H A L M x dx av lf z 0 .au lv ∧ At M L k ∧ M.ts[0]? = some t0 ∧ aL (sD t0.aX) (.inr nm) = some (.int k) ∧ et (.str nm) = true ∧ nm.length ≤ 1000 ∧
   ∀ H', bF CH CS CT CW n H0 H' A L M x dx av lf z k .au lv → Q .au H'
 | _ => False
theorem HQ (T : Tx K mg) : aD P w K mg base aG 7 T.lJ.f T.lJ.d ["self", "name"] (uY T.aj T.aB T.aE T.aM) := by
 have wo := x5 (P := P) (w := w) (base := base) T
 have kC := u7 (P := P) (w := w) (base := base) T
 have iY := n9 (P := P) (w := w) (base := base) T
 refine T.lJ.F.ok sC (fun vs H Q E h => ?_) (fun cdv A outer s H vs Q E hr h => ?_)
 ·unfold uY at h
  split at h
  ·rfl
  ·exact h.elim
 ·unfold uY at h
  split at h
  ·rename_i x nm
   obtain ⟨n, H0, AA, L, M, dx, av, lf, z, lv, k, t0, v, at', bN, hv, hn, hnl, q⟩ := h
   obtain ⟨fs, rd, st, lu, hx, hfl, sf⟩ := v.o
   obtain ⟨a, t, ha, hth, cC, hpl⟩ := at'.here
   obtain ⟨a0, t0', bR, hth0', hkd0⟩ := at'.zero
   refine bK (b := aU tZ) ((Dv.cut (Dv.gU T.aR T.A8 ia (Dv.v 0) Dv.int)
   (Dv.cut (Dv.aP 2 sC.nd (Dv.aZ T.aI T.eZ.h kC (hr.mono (by decide)) T.eZ.b .nil az (Dv.fld T.aR T.fc (Dv.v 0)) (Dv.aa (Dv.fld T.aR T.eX (Dv.v 0)) (Dv.aa (Dv.v 1) Dv.ag))))
   (Dv.cut (Dv.aW (Dv.bc nU (Dv.v 2) Dv.au) (Dv.cut Dv.bw
   (Dv.aq Dv.bw)) Dv.nil)
   (Dv.cut (Dv.aP 3 sC.nd (Dv.aZ T.aI T.e9.h iY (hr.mono (by decide)) T.e9.b .nil az (Dv.fld T.aR T.fc (Dv.v 0)) (Dv.aa (Dv.v 2) Dv.ag)))
   (Dv.aq (Dv.aW (Dv.bc eJ (Dv.v 3) (Dv.glob (.str "folder") T.oN ⟨_, rfl⟩)) (Dv.aq (Dv.bb T.aR T.eX (Dv.v 0) (Dv.call wo (hr.mono (by decide)) T.gf.m T.gf.F.kp T.gf.b .nil az (Dv.aa (Dv.fld T.aR T.fc (Dv.v 0)) (Dv.aa (Dv.v 2) Dv.ag))))) (Dv.aq Dv.bw)))))))) ?_
   rw [show start ["self", "name", "number", "kind"] [V.ref x, V.str nm] = [some (V.ref x), some (V.str nm), none, none] from rfl]
   refine ai ?_
   walk_at "w"
   refine ⟨x, _, _, .int lu, rfl, hx, (sf _).trans rfl, _, _, rfl, rfl, _, _, hx, by omega, ai ?_⟩
   have v1 := v.put (fs := ae "looked_up" (.int (lu + 1)) fs) (here' := 0) (told' := .au) (lf' := lf) (lv' := lv) (rd := rd) (st := st) (lu := lu + 1) (by rw [cW (u := .int lu) ((sf _).trans rfl)]; exact hfl) (fun f => ((sf.put "looked_up" (.int (lu + 1))) f).trans rfl) v.l0 v.ol v.ne
   generalize upd H x (.ins T.aM dx (ae "looked_up" (.int (lu + 1)) fs)) = H1 at v1 ⊢
   obtain ⟨fs1, rd1, st1, lu1, hx1, iX, sf1⟩ := v1.o
   obtain ⟨hfs, hc, hh, hhl, hsf⟩ := v1.m.h
   walk_at "w"
   refine ⟨x, _, _, _, rfl, hx1, (sf1 _).trans rfl, AA.a, _, _, rfl, hh, (hsf _).trans rfl, x, _, _, _, rfl, hx1, (sf1 _).trans rfl, AA, L, M, 0, a0, t0, v1.m, rfl, rfl, bR, bN, hn, hnl, fun H2 s2 => ?_⟩
   rw [hv]
   have v2 := v1.same s2
   obtain ⟨fs2, rd2, st2, lu2, hx2, ja, sf2⟩ := v2.o
   obtain ⟨hfs2, hc2, hh2, hhl2, hsf2⟩ := v2.m.h
   refine ai ?_
   walk_at "w"
   refine ⟨trivial, ?_⟩
   rw [decide_eq_false (by nofun)]
   refine aS ?_
   refine ai ?_
   walk_at "w"
   refine ⟨x, _, _, _, rfl, hx2, (sf2 _).trans rfl, AA.a, _, _, rfl, hh2, (hsf2 _).trans rfl, AA, L, M, k, a, t, v2.m, rfl, rfl, ha, hth, ?_⟩
   simp only [nH, cC, decide_true]
   walk_at "w"
   refine ⟨x, _, _, _, rfl, hx2, (sf2 _).trans rfl, AA, L, M, k, a, t, v2.m, rfl, rfl, ha, hth, v2.bj, v2.bh, fun H3 s3 => ?_⟩
   have v3 := v2.same s3
   obtain ⟨fs3, rd3, st3, lu3, hx3, iV, sf3⟩ := v3.o
   refine ⟨x, _, _, rfl, hx3, by omega, ?_⟩
   exact q _ (v3.put (fs := ae "here" (.int (k : Int)) fs3) (here' := k) (told' := .au) (lf' := lf) (lv' := lv) (rd := rd3) (st := st3) (lu := lu3) (by rw [cW (u := .int ((0 : Nat) : Int)) ((sf3 _).trans rfl)]; exact iV) (fun f => ((sf3.put "here" (.int (k : Int))) f).trans rfl) v3.l0 v3.ol v3.ne)
  ·exact h.elim
section
variable {T : Tx K mg} {H : Hp} {A : Ad} {L : List Ta} {M : Hs}
theorem vy {z s : Str} {k : Nat} {t : Th} {Q : VK} {E : XK} (i : aH T.aj T.aB T.aE H A L M) (hz : (aL (sD M.ro) (.inr z)).isSome = true) (hs : ei (.str s) = true) (ht : M.ts[k]? = some t) (q : Q (.bl (dh s (cD t z))) H) : ej T.aj T.aB T.aE T.bC T.bH T.bD [.ref A.a, .str z, .int k, .str s] H Q E := by
 refine ⟨A, L, M, i, rfl, ⟨_, rfl⟩, ⟨_, rfl⟩, ⟨_, rfl⟩, fun h => (by rw [h z rfl] at hz; cases hz), fun z' e _ => ?_⟩
 cases e
 refine ⟨fun h => (by rw [hs] at h; cases h), fun s' e _ => ?_⟩
 cases e
 have hlt := (List.getElem?_eq_some_iff.mp ht).1
 refine ⟨fun h => absurd hlt (h k rfl), fun k' t' e ht' => ?_⟩
 cases e
 rw [ht] at ht'
 cases ht'
 exact q
end
theorem bF.ask {CH CS CT CW : Addr} {n : Nat} {H0 H : Hp} {A : Ad} {L : List Ta} {M : Hs} {x dx av lf : Addr} {z : Str} {here : Nat} {told : V} {lv as : List V} {y : V} (v : bF CH CS CT CW n H0 H A L M x dx av lf z here told lv) (h : H av = some (.lst as)) : as.length ≤ n ∧ bF CH CS CT CW (n + 1) H0 (upd H av (.lst (as ++ [y]))) A L M x dx av lf z here told lv := by
 obtain ⟨as', e, hl⟩ := v.oa
 rw [h] at e
 cases e
 refine ⟨hl, v.i, v.s.eU v.a0, v.x0, v.a0, v.l0, ?_, ⟨_, aw, by simp; exact hl⟩, by rw [ah (Ne.symm v.ne)]; exact v.ol, v.ne, v.bj, v.bh, v.hz⟩
 obtain ⟨fs, rd, st, lu, e, r⟩ := v.o
 exact ⟨fs, rd, st, lu, by rw [ah v.xa.1]; exact e, r⟩
def qo (CH CS CT CW : Addr) : Sp := fun vs H Q _ => match vs with
 | [.ref x, .str p] => ∃ n H0 A L M dx av lf z lv, ∃ k : Nat, ∃ a0 t0, bF CH CS CT CW n H0 H A L M x dx av lf z 0 .au lv ∧ n ≤ 500 ∧ L[0]? = some a0 ∧ M.ts[0]? = some t0 ∧ t0.kd = ("folder" : Str) ∧ dh ("g" : Str) (cD t0 z) = true ∧
   (p = ("." : Str) ∧ k = 0 ∨ p ≠ ("." : Str) ∧ p ≠ (".." : Str) ∧ At M L k ∧ aL (sD t0.aX) (.inr p) = some (.int k) ∧ et (.str p) = true ∧ p.length ≤ 1000) ∧
   ∀ H', bF CH CS CT CW (n + 1) H0 H' A L M x dx av lf z k .au lv → Q .au H'
 | _ => False
theorem Ly (T : Tx K mg) : aD P w K mg base aG 8 T.lq.f T.lq.d ["self", "part"] (qo T.aj T.aB T.aE T.aM) := by
 have G_Walk_go_by := HQ (P := P) (w := w) (base := base) T
 have iY := n9 (P := P) (w := w) (base := base) T
 have fT := pj (P := P) (w := w) (base := base) T
 refine T.lq.F.ok Ik (fun vs H Q E h => ?_) (fun cdv A outer s H vs Q E hr h => ?_)
 ·unfold qo at h
  split at h
  ·rfl
  ·exact h.elim
 ·unfold qo at h
  split at h
  ·rename_i x p
   obtain ⟨n, H0, AA, L, M, dx, av, lf, z, lv, k, a0, t0, v, hn, bR, bN, cC, hg, hp, q⟩ := h
   obtain ⟨fs, rd, st, lu, hx, hfl, sf⟩ := v.o
   refine bK (b := aU qN) ((Dv.cut (Dv.gU T.aR T.yH ia (Dv.v 0) Dv.int)
   (Dv.cut (Dv.aW (Dv.bc eT (Dv.aZ T.aI T.e9.h iY (hr.mono (by decide)) T.e9.b .nil az (Dv.fld T.aR T.fc (Dv.v 0)) (Dv.aa (Dv.fld T.aR T.eX (Dv.v 0)) Dv.ag)) (Dv.glob (.str "folder") T.oN ⟨_, rfl⟩)) (Dv.cut Dv.bw
   (Dv.aq Dv.bw)) Dv.nil)
   (Dv.cut (Dv.aQ (Dv.iw PySem.F.slot_list_append PySem.F.type_list_append iq (Dv.fld T.aR T.yy (Dv.v 0)) (Dv.aa (Dv.fld T.aR T.eX (Dv.v 0)) Dv.ag)))
   (Dv.aq (Dv.aW (Dv.cH (Dv.cE (Dv.bU T.aI T.cT.h fT (hr.mono (by decide)) T.cT.b .nil ck (Dv.fld T.aR T.fc (Dv.v 0)) (Dv.aa (Dv.fld T.aR T.ly (Dv.v 0)) (Dv.aa (Dv.fld T.aR T.eX (Dv.v 0)) (Dv.aa Dv.str Dv.ag)))))) (Dv.aq Dv.bw) (Dv.aq (Dv.aW (Dv.bc eJ (Dv.v 1) Dv.str) (Dv.aq Dv.bw) (Dv.aq (Dv.aW (Dv.bc eT (Dv.v 1) Dv.str) (Dv.aq (Dv.aQ (Dv.aZ T.aR T.lJ.h G_Walk_go_by (hr.mono (by decide)) T.lJ.b .nil az (Dv.v 0) (Dv.aa (Dv.v 1) Dv.ag)))) Dv.nil)))))))))) ?_
   rw [show start ["self", "part"] [V.ref x, V.str p] = [some (V.ref x), some (V.str p)] from rfl]
   refine ai ?_
   walk_at "w"
   refine ⟨x, _, _, .int st, rfl, hx, (sf _).trans rfl, _, _, rfl, rfl, _, _, hx, by omega, ai ?_⟩
   have v1 := v.put (fs := ae "step" (.int (st + 1)) fs) (here' := 0) (told' := .au) (lf' := lf) (lv' := lv) (rd := rd) (st := st + 1) (lu := lu) (by rw [cW (u := .int st) ((sf _).trans rfl)]; exact hfl) (fun f => ((sf.put "step" (.int (st + 1))) f).trans rfl) v.l0 v.ol v.ne
   generalize upd H x (.ins T.aM dx (ae "step" (.int (st + 1)) fs)) = H1 at v1 ⊢
   obtain ⟨fs1, rd1, st1, lu1, hx1, iX, sf1⟩ := v1.o
   obtain ⟨hfs, hc, hh, hhl, hsf⟩ := v1.m.h
   walk_at "w"
   refine ⟨x, _, _, _, rfl, hx1, (sf1 _).trans rfl, AA.a, _, _, rfl, hh, (hsf _).trans rfl, x, _, _, _, rfl, hx1, (sf1 _).trans rfl, AA, L, M, 0, a0, t0, v1.m, rfl, rfl, bR, bN, ?_⟩
   simp only [nH, cC, decide_true]
   refine aS ?_
   refine ai ?_
   walk_at "w"
   obtain ⟨as, hav, hasl⟩ := v1.oa
   refine ⟨x, _, _, _, rfl, hx1, (sf1 _).trans rfl, ?_⟩
   simp only [hav]
   refine ⟨x, _, _, _, rfl, hx1, (sf1 _).trans rfl, ?_⟩
   have v2 := (v1.ask (y := .int ((0 : Nat) : Int)) hav).2
   refine ⟨fits (by omega), ?_⟩
   generalize upd H1 av (.lst (as ++ [.int ((0 : Nat) : Int)])) = H2 at v2 ⊢
   obtain ⟨fs2, rd2, st2, lu2, hx2, ja, sf2⟩ := v2.o
   obtain ⟨gfs, gc, gh, ghl, gsf⟩ := v2.m.h
   refine ⟨x, _, _, _, rfl, hx2, (sf2 _).trans rfl, AA.a, _, _, rfl, gh, (gsf _).trans rfl, x, _, _, _, rfl, hx2, (sf2 _).trans rfl, x, _, _, _, rfl, hx2, (sf2 _).trans rfl, vy v2.m (by rw [v2.hz]; rfl) (by decide +kernel) bN ?_⟩
   rw [hg]
   refine aS ?_
   rcases hp with ⟨rfl, rfl⟩ | ⟨h1, h2, at', hv, hnm, hpl⟩
   ·rw [decide_eq_false (by decide +kernel), decide_eq_true rfl]
    exact aS (aS (q _ v2))
   ·rw [decide_eq_false h1, decide_eq_false h2]
    exact aS (bZ ⟨x, _, _, rfl, hx2, (sf2 _).trans rfl, n + 1, H0, AA, L, M, dx, av, lf, z, lv, k, t0, v2, at', bN, hv, hnm, hpl, fun H3 v3 => q _ v3⟩)
  ·exact h.elim
theorem bF.up {CH CS CT CW : Addr} {n m : Nat} {H0 H : Hp} {A : Ad} {L : List Ta} {M : Hs} {x dx av lf : Addr} {z : Str} {here : Nat} {told : V} {lv : List V} (v : bF CH CS CT CW n H0 H A L M x dx av lf z here told lv) (h : n ≤ m) : bF CH CS CT CW m H0 H A L M x dx av lf z here told lv :=
 ⟨v.i, v.s, v.x0, v.a0, v.l0, v.o, let ⟨as, e, r⟩ := v.oa; ⟨as, e, Nat.le_trans r h⟩, v.ol, v.ne, v.bj, v.bh, v.hz⟩
theorem bF.pop {CH CS CT CW : Addr} {n : Nat} {H0 H : Hp} {A : Ad} {L : List Ta} {M : Hs} {x dx av lf : Addr} {z : Str} {here : Nat} {told : V} {lv lv' : List V} (v : bF CH CS CT CW n H0 H A L M x dx av lf z here told lv) : bF CH CS CT CW n H0 (upd H lf (.lst lv')) A L M x dx av lf z here told lv' := by
 refine ⟨v.i, v.s.eU v.l0, v.x0, v.a0, v.l0, ?_, ?_, aw, v.ne, v.bj, v.bh, v.hz⟩
 ·obtain ⟨fs, rd, st, lu, e, r⟩ := v.o
  exact ⟨fs, rd, st, lu, by rw [ah v.xa.2]; exact e, r⟩
 ·obtain ⟨as, e, r⟩ := v.oa
  exact ⟨as, by rw [ah v.ne]; exact e, r⟩
def kY (M : Hs) (L : List Ta) (z : Str) (t0 : Th) (k : Nat) (lv : List V) : Prop :=
 lv = [] ∧ k = 0 ∨ ∃ p : Str, lv = [.str p] ∧ dh ("g" : Str) (cD t0 z) = true ∧ (p = ("." : Str) ∧ k = 0 ∨ p ≠ ("." : Str) ∧ p ≠ (".." : Str) ∧ At M L k ∧ aL (sD t0.aX) (.inr p) = some (.int k) ∧ et (.str p) = true ∧ p.length ≤ 1000)
def vq (CH CS CT CW CF : Addr) : Sp := fun vs H Q _ => match vs with
 | [.ref x] => ∃ n H0 A L M dx av lf z lv, ∃ k : Nat, ∃ a0 t0, bF CH CS CT CW n H0 H A L M x dx av lf z 0 .au lv ∧ n ≤ 500 ∧ L[0]? = some a0 ∧ M.ts[0]? = some t0 ∧ t0.kd = ("folder" : Str) ∧ kY M L z t0 k lv ∧ At M L k ∧
   ∀ fd dfd fs H', bF CH CS CT CW (n + 1) H0 H' A L M x dx av lf z k (.ref fd) [] → H' fd = some (.ins CF dfd fs) → fs.lookup ("number" : Str) = some (.int (k : Int)) → Q .au H'
 | _ => False
theorem D8 (T : Tx K mg) : aD P w K mg base aG 9 T.my.f T.my.d ["self"] (vq T.aj T.aB T.aE T.aM T.cg) := by
 have G_Walk_take_step := Ly (P := P) (w := w) (base := base) T
 have w9 := A2 (P := P) (w := w) (base := base) T
 have G_Walk_true_path := KN (P := P) (w := w) (base := base) T
 have G_Found___init__ := Lg (P := P) (w := w) (base := base) T
 refine T.my.F.ok y2 (fun vs H Q E h => ?_) (fun cdv A outer s H vs Q E hr h => ?_)
 ·unfold vq at h
  split at h
  ·rfl
  ·exact h.elim
 ·unfold vq at h
  split at h
  ·rename_i x
   obtain ⟨n, H0, AA, L, M, dx, av, lf, z, lv, k, a0, t0, v, hn, bR, bN, cC, hw, at', q⟩ := h
   refine bK (b := aU u6) ((Dv.cut (Dv.me PassesOwn.never (Dv.dS (Dv.w_and (Dv.bc nU (Dv.fld T.aR T.jG (Dv.v 0)) Dv.au) (Dv.nW (Dv.bc (pf hr.iA) (Dv.fld T.aR T.nE (Dv.v 0)) (Dv.lst Dv.ag))))) (Dv.cut (Dv.aP 1 y2.nd (Dv.Li PySem.F.slot_list_pop PySem.F.type_list_pop Fo (Dv.fld T.aR T.nE (Dv.v 0))))
   (Dv.aq (Dv.aW (Dv.cE (Dv.call w9 (hr.mono (by decide)) T.fU.m T.fU.F.kp T.fU.b .nil az (Dv.aa (Dv.v 1) Dv.ag))) (Dv.aq Dv.bw) (Dv.aq (Dv.aQ (Dv.aZ T.aR T.lq.h G_Walk_take_step (hr.mono (by decide)) T.lq.b .nil az (Dv.v 0) (Dv.aa (Dv.v 1) Dv.ag))))))))
   (Dv.aq (Dv.aW (Dv.bc nU (Dv.fld T.aR T.jG (Dv.v 0)) Dv.au) (Dv.aq (Dv.bb T.aR T.jG (Dv.v 0) (Dv.make T.JO G_Found___init__ (hr.mono (by decide)) T.zz T.lR.b .nil az (Dv.aa (Dv.fld T.aR T.eX (Dv.v 0)) (Dv.aa (Dv.ou T.aR T.lh.h G_Walk_true_path (hr.mono (by decide)) T.lh.b .nil az (Dv.v 0)) Dv.ag))))) Dv.nil)))) ?_
   rw [show start ["self", "part"] [V.ref x] = [some (V.ref x), none] from rfl]
   refine ai ?_
   refine ⟨fun m σ' H' => ∃ pv, σ' = [some (V.ref x), pv] ∧ (m = 0 ∧ bF T.aj T.aB T.aE T.aM (n + 1) H0 H' AA L M x dx av lf z k .au [] ∨ m = 1 ∧ bF T.aj T.aB T.aE T.aM n H0 H' AA L M x dx av lf z 0 .au lv ∧ ∃ p, lv = [V.str p]), ?_, ?_⟩
   ·rcases hw with ⟨rfl, rfl⟩ | ⟨p, rfl, _⟩
    ·exact ⟨0, none, rfl, .inl ⟨rfl, v.up (by omega)⟩⟩
    ·exact ⟨1, none, rfl, .inr ⟨rfl, v, p, rfl⟩⟩
   rintro m σ' H' ⟨pv, rfl, hI⟩
   walk_at "w"
   rcases hI with ⟨rfl, v1⟩ | ⟨rfl, v1, p, rfl⟩
   ·obtain ⟨fs1, rd1, st1, lu1, hx1, iX, sf1⟩ := v1.o
    refine ⟨x, _, _, _, rfl, hx1, (sf1 _).trans rfl, trivial, bZ ?_⟩
    refine ⟨x, _, _, _, rfl, hx1, (sf1 _).trans rfl, fits (by simp), fun d hd => ?_⟩
    have v2 := v1.same (ao.upd (o := .lst []) hd)
    have b2 : upd H' d (.lst []) d = some (.lst []) := aw
    generalize upd H' d (.lst []) = H2 at v2 b2 ⊢
    obtain ⟨fs2, rd2, st2, lu2, hx2, ja, sf2⟩ := v2.o
    refine ⟨[], [], v2.ol, b2, aS ?_⟩
    refine ⟨x, _, _, _, rfl, hx2, (sf2 _).trans rfl, trivial, bZ ?_⟩
    walk_at "w"
    refine ⟨x, _, _, _, rfl, hx2, (sf2 _).trans rfl, x, _, _, rfl, hx2, (sf2 _).trans rfl, n + 1, H0, AA, L, M, dx, av, lf, z, k, [], v2, at', fun sv H3 s3 => ?_⟩
    have v3 := v2.same s3
    intro fd dfd hfd hdfd nfd
    have s4 := (ao.upd (o := .own fd) hdfd).trans (ao.upd (p := fd) (o := .ins T.cg dfd []) (by rw [ah (Ne.symm nfd)]; exact hfd))
    have b4 : upd (upd H3 dfd (.own fd)) fd (.ins T.cg dfd []) fd = some (.ins T.cg dfd []) := aw
    have v4 := v3.same s4
    have f0 : H0 fd = none := by
     cases e : H0 fd with
     | none => rfl
     | some o => rw [v3.s fd o e] at hfd; cases hfd
    have nfx : x ≠ fd := by
     obtain ⟨fs3, rd3, st3, lu3, hx3, iV, sf3⟩ := v3.o
     exact aC hx3 hfd
    have nfa : av ≠ fd := by
     obtain ⟨as, e, _⟩ := v3.oa
     exact aC e hfd
    have nfl : lf ≠ fd := aC v3.ol hfd
    generalize upd (upd H3 dfd (.own fd)) fd (.ins T.cg dfd []) = H4 at s4 b4 v4 ⊢
    refine ⟨dfd, b4, rfl, ?_⟩
    have v5 : bF T.aj T.aB T.aE T.aM (n + 1) H0 (upd H4 fd (.ins T.cg dfd (ae "way" (.str sv) (ae "number" (.int (k : Int)) [])))) AA L M x dx av lf z k .au [] := by
     refine ⟨v4.i, v4.s.eU f0, v4.x0, v4.a0, v4.l0, ?_, ?_, ?_, v4.ne, v4.bj, v4.bh, v4.hz⟩
     ·obtain ⟨fs, rd, st, lu, e, r⟩ := v4.o
      exact ⟨fs, rd, st, lu, by rw [ah nfx]; exact e, r⟩
     ·obtain ⟨as, e, r⟩ := v4.oa
      exact ⟨as, by rw [ah nfa]; exact e, r⟩
     ·rw [ah nfl]; exact v4.ol
    have b5 : upd H4 fd (.ins T.cg dfd (ae "way" (.str sv) (ae "number" (.int (k : Int)) []))) fd = some (.ins T.cg dfd (ae "way" (.str sv) (ae "number" (.int (k : Int)) []))) := aw
    generalize upd H4 fd (.ins T.cg dfd (ae "way" (.str sv) (ae "number" (.int (k : Int)) []))) = H5 at v5 b5 ⊢
    obtain ⟨fs5, rd5, st5, lu5, hx5, hfl5, sf5⟩ := v5.o
    refine ⟨x, _, _, rfl, hx5, by omega, ?_⟩
    refine q fd dfd _ _ (v5.put (fs := ae "told" (.ref fd) fs5) (here' := k) (told' := .ref fd) (lf' := lf) (lv' := []) (rd := rd5) (st := st5) (lu := lu5) (by rw [cW (u := .au) ((sf5 _).trans rfl)]; exact hfl5) (fun f => ((sf5.put "told" (.ref fd)) f).trans rfl) v5.l0 v5.ol v5.ne) (by rw [ah (Ne.symm nfx)]; exact b5) rfl
   ·obtain ⟨fs1, rd1, st1, lu1, hx1, iX, sf1⟩ := v1.o
    refine ⟨x, _, _, _, rfl, hx1, (sf1 _).trans rfl, trivial, bZ ?_⟩
    refine ⟨x, _, _, _, rfl, hx1, (sf1 _).trans rfl, fits (by simp), fun d hd => ?_⟩
    have v2 := v1.same (ao.upd (o := .lst []) hd)
    have b2 : upd H' d (.lst []) d = some (.lst []) := aw
    generalize upd H' d (.lst []) = H2 at v2 b2 ⊢
    obtain ⟨fs2, rd2, st2, lu2, hx2, ja, sf2⟩ := v2.o
    refine ⟨[p], [], v2.ol, b2, bZ ?_⟩
    rcases hw with ⟨e, _⟩ | ⟨p', e, hg, hp⟩
    ·cases e
    cases e
    refine ⟨fun σ' H' => ∃ pv, σ' = [some (V.ref x), pv] ∧ bF T.aj T.aB T.aE T.aM (n + 1) H0 H' AA L M x dx av lf z k .au [], fun σ' H' => fun ⟨pv, e, v3⟩ => ⟨0, by omega, pv, e, .inl ⟨rfl, v3⟩⟩, ai ?_⟩
    walk_at "w"
    refine ⟨x, _, _, _, rfl, hx2, (sf2 _).trans rfl, ?_⟩
    simp only [v2.ol]
    refine ⟨[], V.str p, rfl, ?_⟩
    have v3 := v2.pop (lv' := [])
    generalize upd H2 lf (.lst []) = H3 at v3 ⊢
    obtain ⟨fs3, rd3, st3, lu3, hx3, iV, sf3⟩ := v3.o
    refine ⟨⟨_, rfl⟩, aS ?_⟩
    exact ⟨x, _, _, rfl, hx3, (sf3 _).trans rfl, n, H0, AA, L, M, dx, av, lf, z, [], k, a0, t0, v3, hn, bR, bN, cC, hg, hp, fun H4 v4 => ⟨_, rfl, v4⟩⟩
  ·exact h.elim
def mQ (CW CF : Addr) (H H' : Hp) (k : Nat) (x : Addr) : Prop := ao H H' ∧ ∃ dx gs fd dfd fs, H' x = some (.ins CW dx gs) ∧ gs.lookup ("told" : Str) = some (.ref fd) ∧ H' fd = some (.ins CF dfd fs) ∧ fs.lookup ("number" : Str) = some (.int (k : Int))
def vV (CH CS CT CW CF : Addr) : Sp := fun vs H Q _ => match vs with
 | [.ref h, .str z, .bl true, .ref lp, .bl true] => ∃ A L M a0 t0 ps, ∃ k : Nat, aH CH CS CT H A L M ∧ A.a = h ∧ M.ov = [] ∧ M.un = [] ∧ aL (sD M.ro) (.inr z) = some (.int 0) ∧ H lp = some (.lst ps) ∧ L[0]? = some a0 ∧ M.ts[0]? = some t0 ∧ t0.kd = ("folder" : Str) ∧ kY M L z t0 k ps.reverse ∧ At M L k ∧
   ∀ x H', mQ CW CF H H' k x → Q (.ref x) H'
 | _ => False
theorem xA (T : Tx K mg) : aD P w K mg base aG 10 T.gb.f T.gb.d ["house", "asker", "from_root", "parts", "last"] (vV T.aj T.aB T.aE T.aM T.cg) := by
 have G_Walk___init__ := Mw (P := P) (w := w) (base := base) T
 have G_Walk_begin := HJ (P := P) (w := w) (base := base) T
 have G_Walk_go_on := D8 (P := P) (w := w) (base := base) T
 refine T.gb.F.ok xG (fun vs H Q E h => ?_) (fun cdv A outer s H vs Q E hr h => ?_)
 ·unfold vV at h
  split at h
  ·rfl
  ·exact h.elim
 ·unfold vV at h
  split at h
  ·rename_i hh z lp
   obtain ⟨AA, L, M, a0, t0, ps, k, i, rfl, bj, bh, hz, hlp, bR, bN, cC, hw, at', q⟩ := h
   refine bK (b := aU qI) ((Dv.cut (Dv.aP 5 xG.nd (Dv.make T.Dn G_Walk___init__ (hr.mono (by decide)) T.Oy T.mz.b .nil az (Dv.aa (Dv.v 0) (Dv.aa (Dv.v 1) (Dv.aa (Dv.v 4) Dv.ag)))))
   (Dv.cut (Dv.aQ (Dv.aZ T.aR T.lb.h G_Walk_begin (hr.mono (by decide)) T.lb.b .nil az (Dv.v 5) (Dv.aa (Dv.v 2) (Dv.aa (Dv.v 3) Dv.ag))))
   (Dv.cut (Dv.aQ (Dv.ou T.aR T.my.h G_Walk_go_on (hr.mono (by decide)) T.my.b .nil az (Dv.v 5)))
   (Dv.aq (Dv.aK (Dv.v 5))))))) ?_
   rw [show start ["house", "asker", "from_root", "parts", "last", "ended"] [V.ref AA.a, V.str z, V.bl true, V.ref lp, V.bl true] = [some (V.ref AA.a), some (V.str z), some (V.bl true), some (V.ref lp), some (V.bl true), none] from rfl]
   refine ai ?_
   walk_at "w"
   intro x dx hx hdx ndx
   have s1 := (ao.upd (o := .own x) hdx).trans (ao.upd (p := x) (o := .ins T.aM dx []) (by rw [ah (Ne.symm ndx)]; exact hx))
   have b1 : upd (upd H dx (.own x)) x (.ins T.aM dx []) x = some (.ins T.aM dx []) := aw
   generalize upd (upd H dx (.own x)) x (.ins T.aM dx []) = H1 at s1 b1 ⊢
   refine ⟨AA, L, M, dx, H, i, rfl, b1, s1, hx, bj, bh, hz, fun av lf H2 v2 => ?_⟩
   refine ⟨rfl, ai ?_⟩
   walk_at "w"
   obtain ⟨fs2, rd2, st2, lu2, hx2, ja, sf2⟩ := v2.o
   refine ⟨x, _, _, rfl, hx2, (sf2 _).trans rfl, 0, H, AA, L, M, dx, av, lf, z, ps, a0, t0, v2, v2.s _ _ hlp, bR, bN, fun lf' H3 v3 => ai ?_⟩
   walk_at "w"
   obtain ⟨fs3, rd3, st3, lu3, hx3, iV, sf3⟩ := v3.o
   refine ⟨x, _, _, rfl, hx3, (sf3 _).trans rfl, 0, H, AA, L, M, dx, av, lf', z, ps.reverse, k, a0, t0, v3, by omega, bR, bN, cC, hw, at', fun fd dfd fs H4 v4 hfd v9 => ?_⟩
   obtain ⟨fs4, rd4, st4, lu4, hx4, CU, sf4⟩ := v4.o
   exact q x H4 ⟨v4.s, dx, fs4, fd, dfd, fs, hx4, (sf4 _).trans rfl, hfd, v9⟩
  ·exact h.elim
def tO (CH CS CT CW CF : Addr) : Sp := fun vs H Q _ => match vs with
 | [.ref h, .str z, .str pt, .bl true] => ∃ A L M a0 t0 t, ∃ k : Nat, pt = Tx.S t ∧ aH CH CS CT H A L M ∧ A.a = h ∧ M.ov = [] ∧ M.un = [] ∧ aL (sD M.ro) (.inr z) = some (.int 0) ∧ 1 ≤ t.length ∧ t.length ≤ 2000 ∧ (Tx.words 47 t).all bY = true ∧ fh t = true ∧ L[0]? = some a0 ∧ M.ts[0]? = some t0 ∧ t0.kd = ("folder" : Str) ∧ kY M L z t0 k (PV (told (Tx.words 47 t) t)).reverse ∧ At M L k ∧
   ∀ x H', mQ CW CF H H' k x → Q (.ref x) H'
 | _ => False
theorem mQ.of {CW CF : Addr} {H H1 H2 : Hp} {k : Nat} {x : Addr} (s : ao H H1) (h : mQ CW CF H1 H2 k x) : mQ CW CF H H2 k x := ⟨s.trans h.1, h.2⟩
theorem Eb (T : Tx K mg) : aD P w K mg base aG 11 T.jN.f T.jN.d ["house", "asker", "path", "last"] (tO T.aj T.aB T.aE T.aM T.cg) := by
 have eB := ij (P := P) (w := w) (base := base) T
 have dO := gQ (P := P) (w := w) (base := base) T
 have xb := xA (P := P) (w := w) (base := base) T
 refine T.jN.F.ok BS (fun vs H Q E h => ?_) (fun cdv A outer s H vs Q E hr h => ?_)
 ·unfold tO at h
  split at h
  ·rfl
  ·exact h.elim
 ·unfold tO at h
  split at h
  ·rename_i hh z pt
   obtain ⟨AA, L, M, a0, t0, t, k, rfl, i, rfl, bj, bh, hz, t1, t2, eg, lF, bR, bN, cC, hw, at', q⟩ := h
   obtain ⟨hfs, hc, hh, hhl, hsf⟩ := i.h
   refine bK (b := aU uf) ((Dv.cut (Dv.aQ (Dv.bU T.aI T.cZ.h eB (hr.mono (by decide)) T.cZ.b .nil ck (Dv.v 0) (Dv.aa (Dv.v 1) Dv.ag)))
   (Dv.cut (Dv.aP 4 BS.nd (Dv.call dO (hr.mono (by decide)) T.bS.m T.bS.F.kp T.bS.b .nil az (Dv.aa (Dv.v 2) Dv.ag)))
   (Dv.aq (Dv.aK (Dv.call xb (hr.mono (by decide)) T.gb.m T.gb.F.kp T.gb.b .nil az (Dv.aa (Dv.v 0) (Dv.aa (Dv.v 1) (Dv.aa (Dv.ix (ba (K := K) rfl) (Dv.v 4) Dv.int) (Dv.aa (Dv.ix (ba (K := K) rfl) (Dv.v 4) Dv.int) (Dv.aa (Dv.v 3) Dv.ag))))))))))) ?_
   rw [show start ["house", "asker", "path", "last", "read"] [V.ref AA.a, V.str z, V.str (Tx.S t), V.bl true] = [some (V.ref AA.a), some (V.str z), some (V.str (Tx.S t)), some (V.bl true), none] from rfl]
   refine ai ?_
   walk_at "w"
   refine ⟨AA.a, _, _, rfl, hh, (hsf _).trans rfl, jv i (by rw [hz]; rfl) (ai ?_)⟩
   walk_at "w"
   refine ⟨t, rfl, t1, t2, eg, fun H1 l p s1 _ hl hp => ?_⟩
   simp only [bt, hp]
   walk_at "w"
   rw [show bu [V.bl (fh t), V.ref l] 0 = some (V.bl (fh t)) from rfl, show bu [V.bl (fh t), V.ref l] 1 = some (V.ref l) from rfl, lF]
   exact ⟨AA, L, M, a0, t0, _, k, i.same s1, rfl, bj, bh, hz, hl, bR, bN, cC, hw, at', fun x H2 f => q x H2 (f.of s1)⟩
  ·exact h.elim
def uQ (CH CS CT CF : Addr) : Sp := fun vs H Q _ => match vs with
 | [.ref h, .str z, .str pt, .bl true] => ∃ A L M a0 t0 t, ∃ k : Nat, pt = Tx.S t ∧ aH CH CS CT H A L M ∧ A.a = h ∧ M.ov = [] ∧ M.un = [] ∧ aL (sD M.ro) (.inr z) = some (.int 0) ∧ 1 ≤ t.length ∧ t.length ≤ 2000 ∧ (Tx.words 47 t).all bY = true ∧ fh t = true ∧ L[0]? = some a0 ∧ M.ts[0]? = some t0 ∧ t0.kd = ("folder" : Str) ∧ kY M L z t0 k (PV (told (Tx.words 47 t) t)).reverse ∧ At M L k ∧
   ∀ fd dfd fs H', ao H H' → H' fd = some (.ins CF dfd fs) → fs.lookup ("number" : Str) = some (.int (k : Int)) → Q (.ref fd) H'
 | _ => False
theorem Kz (T : Tx K mg) : aD P w K mg base aG 12 T.xv T.pJ ["house", "asker", "path", "last"] (uQ T.aj T.aB T.aE T.cg) := by
 have G_walk_path := Eb (P := P) (w := w) (base := base) T
 refine T.o9.ok Ej (fun vs H Q E h => ?_) (fun cdv A outer s H vs Q E hr h => ?_)
 ·unfold uQ at h
  split at h
  ·rfl
  ·exact h.elim
 ·unfold uQ at h
  split at h
  ·rename_i hh z pt
   obtain ⟨AA, L, M, a0, t0, t, k, rfl, i, rfl, bj, bh, hz, t1, t2, eg, lF, bR, bN, cC, hw, at', q⟩ := h
   refine bK (b := aU lY) ((Dv.aq (Dv.aK (Dv.fld T.aR T.jG (Dv.call G_walk_path (hr.mono (by decide)) T.jN.m T.jN.F.kp T.jN.b .nil az (Dv.aa (Dv.v 0) (Dv.aa (Dv.v 1) (Dv.aa (Dv.v 2) (Dv.aa (Dv.v 3) Dv.ag))))))))) ?_
   rw [show start ["house", "asker", "path", "last"] [V.ref AA.a, V.str z, V.str (Tx.S t), V.bl true] = [some (V.ref AA.a), some (V.str z), some (V.str (Tx.S t)), some (V.bl true)] from rfl]
   walk_at "w"
   refine ⟨AA, L, M, a0, t0, t, k, rfl, i, rfl, bj, bh, hz, t1, t2, eg, lF, bR, bN, cC, hw, at', fun x H1 ⟨s1, dx, gs, fd, dfd, fs, hx, hgs, hfd, hn⟩ => ?_⟩
   exact ⟨x, _, _, _, rfl, hx, hgs, q fd dfd fs H1 s1 hfd hn⟩
  ·exact h.elim
def sy (CF : Addr) : Sp := fun vs H Q _ => match vs with
 | [.ref fd] => ∃ dfd fs n, H fd = some (.ins CF dfd fs) ∧ fs.lookup ("number" : Str) = some (.int n) ∧ Q (.int n) H
 | _ => False
theorem AF (T : Tx K mg) : aD P w K mg base aG 1 T.f9.f T.f9.d ["told"] (sy T.cg) := by
 refine T.f9.F.ok Eg (fun vs H Q E h => ?_) (fun cdv A outer s H vs Q E hr h => ?_)
 ·unfold sy at h
  split at h
  ·rfl
  ·exact h.elim
 ·unfold sy at h
  split at h
  ·rename_i fd
   obtain ⟨dfd, fs, n, hfd, hn, q⟩ := h
   refine bK (b := aU rb) ((Dv.cut (Dv.aW (Dv.cH (Dv.cE (Dv.bB (ef (K := K) rfl) T.cy cA (Dv.aa (Dv.v 0) (Dv.aa (Dv.glob (.ref T.cg) T.zz rfl) Dv.ag))))) (Dv.aq Dv.bw) Dv.nil)
   (Dv.aq (Dv.aK (Dv.fld T.oi T.BU (Dv.v 0)))))) ?_
   rw [show start ["told"] [V.ref fd] = [some (V.ref fd)] from rfl]
   refine ai ?_
   walk_at "w"
   exact ⟨_, _, _, .of (.ins hfd T.oi T.q1 T.q2 T.q3 T.q4), .cls T.q5, aS ⟨fd, dfd, fs, _, rfl, hfd, hn, q⟩⟩
  ·exact h.elim
structure eG (CH CS CT : Addr) (H : Hp) (A : Ad) (L : List Ta) (M : Hs) (z : Str) (a0 : Ta) (t0 : Th) : Prop where
 i : aH CH CS CT H A L M
 bj : M.ov = []
 bh : M.un = []
 hz : aL (sD M.ro) (.inr z) = some (.int 0)
 bR : L[0]? = some a0
 bN : M.ts[0]? = some t0
 cC : t0.kd = ("folder" : Str)
theorem eG.same {CH CS CT : Addr} {H H' : Hp} {A : Ad} {L : List Ta} {M : Hs} {z : Str} {a0 : Ta} {t0 : Th} (r : eG CH CS CT H A L M z a0 t0) (s : ao H H') : eG CH CS CT H' A L M z a0 t0 := ⟨r.i.same s, r.bj, r.bh, r.hz, r.bR, r.bN, r.cC⟩
theorem eG.kQ {CH CS CT : Addr} {H : Hp} {A : Ad} {L : List Ta} {M : Hs} {z : Str} {a0 : Ta} {t0 : Th} (r : eG CH CS CT H A L M z a0 t0) : At M L 0 := ⟨⟨a0, t0, r.bR, r.bN, r.cC⟩, ⟨a0, t0, r.bR, r.bN, r.cC, fun h => absurd rfl h⟩⟩
structure hU (M : Hs) (L : List Ta) (z : Str) (t0 : Th) (k : Nat) (t : List Nat) : Prop where
 t1 : 1 ≤ t.length
 t2 : t.length ≤ 2000
 eg : (Tx.words 47 t).all bY = true
 lF : fh t = true
 hw : kY M L z t0 k (PV (told (Tx.words 47 t) t)).reverse
 at' : At M L k
theorem g8 {w : List Nat} (h : isNm w = true) : 47 ∉ w ∧ w ≠ [] ∧ 1 ≤ w.length ∧ w.length ≤ 8 := by
 have hp : bY w = true := by unfold bY; rw [h]; simp
 obtain ⟨h1, h2, _⟩ := sj h
 exact ⟨(oV hp).1, (oV hp).2.1, h1, h2⟩
theorem ka {w : List Nat} (h : isNm w = true) : Tx.words 47 (47 :: w) = [w] ∧ told (Tx.words 47 (47 :: w)) (47 :: w) = [w] ∧ (Tx.words 47 (47 :: w)).all bY = true := by
 obtain ⟨h1, h2, _, _⟩ := g8 h
 have hp : bY w = true := by unfold bY; rw [h]; simp
 have e : Tx.words 47 (47 :: w) = [w] := by rw [Tx.FK, Tx.vw 47 w h1 h2]
 refine ⟨e, ?_, by rw [e]; simp [hp]⟩
 rw [e]
 exact Eh (W := [w]) (by simp [hp])
theorem pE {w : List Nat} (h : isNm w = true) : et (.str (Tx.S w)) = true := by
 show isNm (Tx.S w).cps.toList = true
 rw [Tx.gH]; exact h
theorem hU.name {M : Hs} {L : List Ta} {z : Str} {t0 : Th} {k : Nat} {w : List Nat} (h : isNm w = true) (hg : dh ("g" : Str) (cD t0 z) = true) (at' : At M L k) (hv : aL (sD t0.aX) (.inr (Tx.S w)) = some (.int k)) : hU M L z t0 k (47 :: w) := by
 obtain ⟨e1, e2, e3⟩ := ka h
 obtain ⟨h1, h2, h3, h4⟩ := g8 h
 have hc := (sj h).2.2
 refine ⟨by simp, by simp; omega, e3, rfl, .inr ⟨Tx.S w, by rw [e2]; rfl, hg, .inr ⟨fun e => ?_, fun e => ?_, at', hv, pE h, by rw [Tx.cw]; omega⟩⟩, at'⟩
 ·have : Tx.S w = Tx.S [46] := e
  rw [Tx.ki this] at hc
  revert hc; decide +kernel
 ·have : Tx.S w = Tx.S [46, 46] := e
  rw [Tx.ki this] at hc
  revert hc; decide +kernel
theorem hU.root {M : Hs} {L : List Ta} {z : Str} {t0 : Th} (at' : At M L 0) : hU M L z t0 0 [47] :=
 ⟨by simp, by simp, by decide +kernel, rfl, .inl ⟨by decide +kernel, rfl⟩, at'⟩
def uC (CH CS CT : Addr) : Sp := fun vs H Q _ => match vs with
 | [.ref h, .str z, .str pt] => ∃ A L M a0 t0 t, ∃ k : Nat, pt = Tx.S t ∧ eG CH CS CT H A L M z a0 t0 ∧ A.a = h ∧ hU M L z t0 k t ∧ ∀ H', ao H H' → Q (.int (k : Int)) H'
 | _ => False
theorem Io (T : Tx K mg) : aD P w K mg base aG 13 T.jB.f T.jB.d ["house", "asker", "path"] (uC T.aj T.aB T.aE) := by
 have G_walk := Kz (P := P) (w := w) (base := base) T
 have wV := AF (P := P) (w := w) (base := base) T
 refine T.jB.F.ok Gh (fun vs H Q E h => ?_) (fun cdv A outer s H vs Q E hr h => ?_)
 ·unfold uC at h
  split at h
  ·rfl
  ·exact h.elim
 ·unfold uC at h
  split at h
  ·rename_i hh z pt
   obtain ⟨AA, L, M, a0, t0, t, k, rfl, r, rfl, pa, q⟩ := h
   refine bK (b := aU vv) ((Dv.aq (Dv.aK (Dv.call wV (hr.mono (by decide)) T.f9.m T.f9.F.kp T.f9.b .nil az (Dv.aa (Dv.call G_walk (hr.mono (by decide)) T.FJ T.o9.kp T.vD (.cons (show RelV (.bl true) _ from rfl) .nil) az (Dv.aa (Dv.v 0) (Dv.aa (Dv.v 1) (Dv.aa (Dv.v 2) Dv.ag)))) Dv.ag))))) ?_
   rw [show start ["house", "asker", "path"] [V.ref AA.a, V.str z, V.str (Tx.S t)] = [some (V.ref AA.a), some (V.str z), some (V.str (Tx.S t))] from rfl]
   walk_at "w"
   exact ⟨AA, L, M, a0, t0, t, k, rfl, r.i, rfl, r.bj, r.bh, r.hz, pa.t1, pa.t2, pa.eg, pa.lF, r.bR, r.bN, r.cC, pa.hw, pa.at', fun fd dfd fs H1 s1 hfd hn => ⟨dfd, fs, _, hfd, hn, q H1 s1⟩⟩
  ·exact h.elim
def rk : Sp := fun vs H Q _ => match vs with
 | [.str pt] => ∃ w : List Nat, pt = Tx.S (47 :: w) ∧ isNm w = true ∧ ∀ H', ao H H' → Q .au H'
 | _ => False
theorem HE (T : Tx K mg) : aD P w K mg base aG 4 T.jr.f T.jr.d ["path"] rk := by
 have dO := gQ (P := P) (w := w) (base := base) T
 have mS := rA (P := P) (w := w) (base := base) T
 refine T.jr.F.ok yF (fun vs H Q E h => ?_) (fun cdv A outer s H vs Q E hr h => ?_)
 ·unfold rk at h
  split at h
  ·rfl
  ·exact h.elim
 ·unfold rk at h
  split at h
  ·rename_i pt
   obtain ⟨nm, rfl, hn, q⟩ := h
   obtain ⟨e1, e2, e3⟩ := ka hn
   obtain ⟨h1, h2, h3, h4⟩ := g8 hn
   refine bK (b := aU qR) ((Dv.cut (Dv.aP 1 yF.nd (Dv.ix (ba (K := K) rfl) (Dv.call dO (hr.mono (by decide)) T.bS.m T.bS.F.kp T.bS.b .nil az (Dv.aa (Dv.v 0) Dv.ag)) Dv.int))
   (Dv.aq (Dv.aW (Dv.dS (Dv.w_or (Dv.bc (Nq hr.iA) (Dv.v 1) (Dv.lst Dv.ag)) (Dv.fN (Dv.cH (Dv.cE (Dv.call mS (hr.mono (by decide)) T.eI.m T.eI.F.kp T.eI.b .nil az (Dv.aa (Dv.ix (ba (K := K) rfl) (Dv.v 1) (Dv.un dR Dv.int)) Dv.ag))))))) (Dv.aq Dv.bw) Dv.nil)))) ?_
   rw [show start ["path", "parts"] [V.str (Tx.S (47 :: nm))] = [some (V.str (Tx.S (47 :: nm))), none] from rfl]
   refine ai ?_
   walk_at "w"
   refine ⟨47 :: nm, rfl, by simp, by simp; omega, e3, fun H1 l p s1 _ hl hp => ?_⟩
   rw [e2] at hl
   simp only [bt, hp]
   rw [show bu [V.bl (fh (47 :: nm)), V.ref l] 1 = some (V.ref l) from rfl]
   refine ⟨fits (by simp), fun d hd => ?_⟩
   have s2 := ao.upd (o := .lst []) hd
   have b2 : upd H1 d (.lst []) d = some (.lst []) := aw
   generalize upd H1 d (.lst []) = H2 at s2 b2 ⊢
   have dE : H2 l = some (.lst (PV [nm])) := s2 _ _ hl
   refine ⟨[Tx.S nm], [], dE, b2, aS ?_⟩
   simp only [dE]
   rw [show bu (PV [nm]) (-1) = some (V.str (Tx.S nm)) from rfl]
   refine ⟨⟨_, rfl⟩, by show (Tx.S nm).length ≤ 1000; rw [Tx.cw]; omega, fun H3 s3 => ?_⟩
   rw [pE hn]
   exact aS (q _ ((s1.trans s2).trans s3))
  ·exact h.elim
theorem Jw {H H' : Hp} {x : Addr} (s : ao H H') (h : H' x = none) : H x = none := by
 cases e : H x with
 | none => rfl
 | some o => rw [s _ _ e] at h; cases h
def uz (CH CS CT CE : Addr) : Sp := fun vs H Q _ => match vs with
 | [.ref h, .str z, .str pt] => ∃ A L M a0 t0, ∃ nm : List Nat, pt = Tx.S (47 :: nm) ∧ isNm nm = true ∧ eG CH CS CT H A L M z a0 t0 ∧ A.a = h ∧ dh ("g" : Str) (cD t0 z) = true ∧
   ∀ x dx H', H x = none → ao H H' → H' x = some (.ins CE dx (ae "name" (.str (Tx.S nm)) (ae "folder" (.int 0) []))) → Q (.ref x) H'
 | _ => False
theorem Ey (T : Tx K mg) : aD P w K mg base aG 11 T.jL.f T.jL.d ["house", "asker", "path"] (uz T.aj T.aB T.aE T.eW) := by
 have G_check_seat := HE (P := P) (w := w) (base := base) T
 have dO := gQ (P := P) (w := w) (base := base) T
 have xb := xA (P := P) (w := w) (base := base) T
 have wV := AF (P := P) (w := w) (base := base) T
 have G_Seat___init__ := Fg (P := P) (w := w) (base := base) T
 refine T.jL.F.ok uK (fun vs H Q E h => ?_) (fun cdv A outer s H vs Q E hr h => ?_)
 ·unfold uz at h
  split at h
  ·rfl
  ·exact h.elim
 ·unfold uz at h
  split at h
  ·rename_i hh z pt
   obtain ⟨AA, L, M, a0, t0, nm, rfl, hn, r, rfl, hg, q⟩ := h
   obtain ⟨e1, e2, e3⟩ := ka hn
   obtain ⟨h1, h2, h3, h4⟩ := g8 hn
   refine bK (b := aU qE) ((Dv.cut (Dv.aQ (Dv.call G_check_seat (hr.mono (by decide)) T.jr.m T.jr.F.kp T.jr.b .nil az (Dv.aa (Dv.v 2) Dv.ag)))
   (Dv.cut (Dv.aP 3 uK.nd (Dv.call dO (hr.mono (by decide)) T.bS.m T.bS.F.kp T.bS.b .nil az (Dv.aa (Dv.v 2) Dv.ag)))
   (Dv.cut (Dv.aP 4 uK.nd (Dv.call xb (hr.mono (by decide)) T.gb.m T.gb.F.kp T.gb.b .nil az (Dv.aa (Dv.v 0) (Dv.aa (Dv.v 1) (Dv.aa (Dv.ix (ba (K := K) rfl) (Dv.v 3) Dv.int) (Dv.aa (Dv.op dI (Dv.slice (vA (K := K) rfl) (Dv.ix (ba (K := K) rfl) (Dv.v 3) Dv.int) Dv.qB (Dv.sN (Dv.un dR Dv.int))) (Dv.lst (Dv.aa Dv.str Dv.ag))) (Dv.aa Dv.bl Dv.ag)))))))
   (Dv.aq (Dv.aK (Dv.make T.Nr G_Seat___init__ (hr.mono (by decide)) T.Dh T.lK.b .nil az (Dv.aa (Dv.call wV (hr.mono (by decide)) T.f9.m T.f9.F.kp T.f9.b .nil az (Dv.aa (Dv.fld T.aR T.jG (Dv.v 4)) Dv.ag)) (Dv.aa (Dv.ix (ba (K := K) rfl) (Dv.ix (ba (K := K) rfl) (Dv.v 3) Dv.int) (Dv.un dR Dv.int)) Dv.ag))))))))) ?_
   rw [show start ["house", "asker", "path", "asked", "ended"] [V.ref AA.a, V.str z, V.str (Tx.S (47 :: nm))] = [some (V.ref AA.a), some (V.str z), some (V.str (Tx.S (47 :: nm))), none, none] from rfl]
   refine ai ?_
   walk_at "w"
   refine ⟨nm, rfl, hn, fun H1 s1 => ai ?_⟩
   walk_at "w"
   refine ⟨47 :: nm, rfl, by simp, by simp; omega, e3, fun H2 l p s2 _ hl hp => ai ?_⟩
   rw [e2] at hl
   walk_at "w"
   simp only [bt, hp]
   rw [show bu [V.bl (fh (47 :: nm)), V.ref l] 1 = some (V.ref l) from rfl, show bu [V.bl (fh (47 :: nm)), V.ref l] 0 = some (V.bl true) from rfl]
   dsimp only
   refine ⟨_, aJ.of hl, fun p1 hp1 => ?_⟩
   rw [show jE (PV [nm]) none (some (-1)) = [] from rfl]
   refine ⟨fits (by simp), fun p2 hp2 => ?_⟩
   have s3 := (ao.upd (o := .lst []) hp1).trans (ao.upd (o := .lst [V.str (Str.ofString ".")]) hp2)
   have n12 : p1 ≠ p2 := aC (aw (o := .lst [])) hp2
   have b3 : upd (upd H2 p1 (.lst [])) p2 (.lst [V.str (Str.ofString ".")]) p1 = some (.lst []) := by rw [ah n12, aw]
   have b4 : upd (upd H2 p1 (.lst [])) p2 (.lst [V.str (Str.ofString ".")]) p2 = some (.lst [V.str (Str.ofString ".")]) := aw
   generalize upd (upd H2 p1 (.lst [])) p2 (.lst [V.str (Str.ofString ".")]) = H3 at s3 b3 b4 ⊢
   simp only [b3, b4]
   refine ⟨fits (by simp), fun p3 hp3 => ?_⟩
   rw [List.nil_append]
   have s4 := s3.trans (ao.upd (o := .lst [V.str (Str.ofString ".")]) hp3)
   have b5 : upd H3 p3 (.lst [V.str (Str.ofString ".")]) p3 = some (.lst [V.str (Str.ofString ".")]) := aw
   generalize upd H3 p3 (.lst [V.str (Str.ofString ".")]) = H4 at s4 b5 ⊢
   have r4 := r.same ((s1.trans s2).trans s4)
   refine ⟨AA, L, M, a0, t0, _, 0, r4.i, rfl, r.bj, r.bh, r.hz, b5, r.bR, r.bN, r.cC, .inr ⟨".", rfl, hg, .inl ⟨rfl, rfl⟩⟩, r.kQ, ?_⟩
   rintro x H5 ⟨s5, dx, gs, fd, dfd, fs, hx, hgs, hfd, v9⟩
   refine ⟨x, _, _, _, rfl, hx, hgs, dfd, fs, _, hfd, v9, ?_⟩
   have hp5 := (s4.trans s5) _ _ hp
   have hl5 := (s4.trans s5) _ _ hl
   simp only [hp5]
   rw [show bu [V.bl (fh (47 :: nm)), V.ref l] 1 = some (V.ref l) from rfl]
   simp only [hl5]
   rw [show bu (PV [nm]) (-1) = some (V.str (Tx.S nm)) from rfl]
   dsimp only
   intro y dy hy hdy ndy
   refine ⟨dy, aw, rfl, ?_⟩
   rw [iN]
   refine q y dy _ (Jw (((s1.trans s2).trans s4).trans s5) hy) ((((s1.trans s2).trans s4).trans s5).trans ((ao.upd (o := .own y) hdy).trans (ao.upd (p := y) (by rw [ah (Ne.symm ndy)]; exact hy)))) aw
  ·exact h.elim
def vX (CH CS CT : Addr) : Sp := fun vs H Q _ => match vs with
 | [.ref h, .str z, .int n, .str r, .str _] => ∃ A L M t, ∃ k : Nat, n = (k : Int) ∧ aH CH CS CT H A L M ∧ A.a = h ∧ (aL (sD M.ro) (.inr z)).isSome = true ∧ ei (.str r) = true ∧ M.ts[k]? = some t ∧ dh r (cD t z) = true ∧ Q .au H
 | _ => False
theorem ML (T : Tx K mg) : aD P w K mg base aG 4 T.jo.f T.jo.d ["house", "asker", "number", "right", "reason"] (vX T.aj T.aB T.aE) := by
 have fT := pj (P := P) (w := w) (base := base) T
 refine T.jo.F.ok LG (fun vs H Q E h => ?_) (fun cdv A outer s H vs Q E hr h => ?_)
 ·unfold vX at h
  split at h
  ·rfl
  ·exact h.elim
 ·unfold vX at h
  split at h
  ·rename_i hh z n r rs
   obtain ⟨AA, L, M, t, k, rfl, i, rfl, hz, hr1, ht, hm, q⟩ := h
   obtain ⟨gfs, gc, gh, ghl, gsf⟩ := i.h
   refine bK (b := aU uA) ((Dv.aq (Dv.aW (Dv.cH (Dv.cE (Dv.bU T.aI T.cT.h fT (hr.mono (by decide)) T.cT.b .nil ck (Dv.v 0) (Dv.aa (Dv.v 1) (Dv.aa (Dv.v 2) (Dv.aa (Dv.v 3) Dv.ag)))))) (Dv.aq Dv.bw) Dv.nil))) ?_
   rw [show start ["house", "asker", "number", "right", "reason"] [V.ref AA.a, V.str z, V.int (k : Int), V.str r, V.str rs] = [some (V.ref AA.a), some (V.str z), some (V.int (k : Int)), some (V.str r), some (V.str rs)] from rfl]
   walk_at "w"
   refine ⟨AA.a, _, _, rfl, gh, (gsf _).trans rfl, vy i hz hr1 ht ?_⟩
   rw [hm]
   exact aS q
  ·exact h.elim
def ue (CH CS CT : Addr) : Sp := fun vs H Q _ => match vs with
 | [.ref h, .str z, .int n] => ∃ A L M t, ∃ k : Nat, n = (k : Int) ∧ aH CH CS CT H A L M ∧ A.a = h ∧ (aL (sD M.ro) (.inr z)).isSome = true ∧ M.ts[k]? = some t ∧ dh ("w" : Str) (cD t z) = true ∧ Q .au H
 | _ => False
theorem Lm (T : Tx K mg) : aD P w K mg base aG 5 T.jS.f T.jS.d ["house", "asker", "folder"] (ue T.aj T.aB T.aE) := by
 have G_check_may := ML (P := P) (w := w) (base := base) T
 refine T.jS.F.ok Ia (fun vs H Q E h => ?_) (fun cdv A outer s H vs Q E hr h => ?_)
 ·unfold ue at h
  split at h
  ·rfl
  ·exact h.elim
 ·unfold ue at h
  split at h
  ·rename_i hh z n
   obtain ⟨AA, L, M, t, k, rfl, i, rfl, hz, ht, hm, q⟩ := h
   refine bK (b := aU tF) ((Dv.aq (Dv.aQ (Dv.call G_check_may (hr.mono (by decide)) T.jo.m T.jo.F.kp T.jo.b .nil az (Dv.aa (Dv.v 0) (Dv.aa (Dv.v 1) (Dv.aa (Dv.v 2) (Dv.aa Dv.str (Dv.aa Dv.str Dv.ag))))))))) ?_
   rw [show start ["house", "asker", "folder"] [V.ref AA.a, V.str z, V.int (k : Int)] = [some (V.ref AA.a), some (V.str z), some (V.int (k : Int))] from rfl]
   walk_at "w"
   exact ⟨AA, L, M, t, k, rfl, i, rfl, hz, by decide +kernel, ht, hm, q⟩
  ·exact h.elim
def rC (CH CS CT CE : Addr) : Sp := fun vs H Q _ => match vs with
 | [.ref h, .ref x] => ∃ A L M a t dx nm, ∃ k : Nat, aH CH CS CT H A L M ∧ A.a = h ∧ H x = some (.ins CE dx (ae "name" (.str (Tx.S nm)) (ae "folder" (.int (k : Int)) []))) ∧ isNm nm = true ∧ L[k]? = some a ∧ M.ts[k]? = some t ∧ ∀ H', ao H H' → Q ((aL (sD t.aX) (.inr (Tx.S nm))).getD .au) H'
 | _ => False
theorem Jm (T : Tx K mg) : aD P w K mg base aG 5 T.j8.f T.j8.d ["house", "seat"] (rC T.aj T.aB T.aE T.eW) := by
 have kC := u7 (P := P) (w := w) (base := base) T
 refine T.j8.F.ok Ks (fun vs H Q E h => ?_) (fun cdv A outer s H vs Q E hr h => ?_)
 ·unfold rC at h
  split at h
  ·rfl
  ·exact h.elim
 ·unfold rC at h
  split at h
  ·rename_i hh x
   obtain ⟨AA, L, M, a, t, dx, nm, k, i, rfl, hx, hn, ha, ht, q⟩ := h
   obtain ⟨gfs, gc, gh, ghl, gsf⟩ := i.h
   obtain ⟨h1, h2, h3, h4⟩ := g8 hn
   refine bK (b := aU vQ) ((Dv.aq (Dv.aK (Dv.aZ T.aI T.eZ.h kC (hr.mono (by decide)) T.eZ.b .nil az (Dv.v 0) (Dv.aa (Dv.fld T.iH T.n6 (Dv.v 1)) (Dv.aa (Dv.fld T.iH T.qr (Dv.v 1)) Dv.ag)))))) ?_
   rw [show start ["house", "seat"] [V.ref AA.a, V.ref x] = [some (V.ref AA.a), some (V.ref x)] from rfl]
   walk_at "w"
   exact ⟨AA.a, _, _, rfl, gh, (gsf _).trans rfl, x, _, _, _, rfl, hx, rfl, x, _, _, _, rfl, hx, rfl, AA, L, M, k, a, t, i, rfl, rfl, ha, ht, pE hn, by rw [Tx.cw]; omega, q⟩
  ·exact h.elim
def uS (CH CS CT CE : Addr) : Sp := fun vs H Q _ => match vs with
 | [.ref h, .ref x] => ∃ A L M a t dx nm, ∃ k : Nat, aH CH CS CT H A L M ∧ A.a = h ∧ H x = some (.ins CE dx (ae "name" (.str (Tx.S nm)) (ae "folder" (.int (k : Int)) []))) ∧ isNm nm = true ∧ L[k]? = some a ∧ M.ts[k]? = some t ∧ aL (sD t.aX) (.inr (Tx.S nm)) = none ∧ ∀ H', ao H H' → Q .au H'
 | _ => False
theorem GS (T : Tx K mg) : aD P w K mg base aG 6 T.jt.f T.jt.d ["house", "seat"] (uS T.aj T.aB T.aE T.eW) := by
 have G_thing_at := Jm (P := P) (w := w) (base := base) T
 refine T.jt.F.ok EZ (fun vs H Q E h => ?_) (fun cdv A outer s H vs Q E hr h => ?_)
 ·unfold uS at h
  split at h
  ·rfl
  ·exact h.elim
 ·unfold uS at h
  split at h
  ·rename_i hh x
   obtain ⟨AA, L, M, a, t, dx, nm, k, i, rfl, hx, hn, ha, ht, hv, q⟩ := h
   refine bK (b := aU rP) ((Dv.aq (Dv.aW (Dv.bc sJ (Dv.call G_thing_at (hr.mono (by decide)) T.j8.m T.j8.F.kp T.j8.b .nil az (Dv.aa (Dv.v 0) (Dv.aa (Dv.v 1) Dv.ag))) Dv.au) (Dv.aq Dv.bw) Dv.nil))) ?_
   rw [show start ["house", "seat"] [V.ref AA.a, V.ref x] = [some (V.ref AA.a), some (V.ref x)] from rfl]
   walk_at "w"
   refine ⟨AA, L, M, a, t, dx, nm, k, i, rfl, hx, hn, ha, ht, fun H1 s1 => ?_⟩
   rw [hv]
   exact ⟨trivial, aS (q H1 s1)⟩
  ·exact h.elim
section
variable {CH CS CT : Addr} {H H' : Hp} {A : Ad} {L : List Ta} {M : Hs}
theorem aH.some (i : aH CH CS CT H A L M) : ∀ b ∈ A.w ++ L.flatMap Ta.l, ∃ o, H b = .some o := fun b hb => by
 rcases List.mem_append.mp hb with h | h
 ·simp only [Ad.w, List.mem_cons, List.not_mem_nil, or_false] at h
  rcases h with rfl | rfl | rfl | rfl | rfl | rfl | rfl | rfl
  ·obtain ⟨_, _, e, _⟩ := i.h; exact ⟨_, e⟩
  ·obtain ⟨_, _, e, _⟩ := i.t; exact ⟨_, e⟩
  ·exact ⟨_, i.ml⟩
  ·exact ⟨_, i.ro⟩
  ·exact ⟨_, i.st⟩
  ·exact ⟨_, i.tr⟩
  ·exact ⟨_, i.ov⟩
  ·exact ⟨_, i.un⟩
 ·obtain ⟨a, ha, hb⟩ := List.mem_flatMap.mp h
  obtain ⟨k, hk⟩ := List.getElem?_of_mem ha
  have hlt : k < M.ts.length := by rw [← i.len]; exact (List.getElem?_eq_some_iff.mp hk).1
  obtain ⟨a', e1, t⟩ := i.th k _ (List.getElem?_eq_getElem hlt)
  rw [hk] at e1
  cases e1
  simp only [Ta.l, List.mem_cons, List.not_mem_nil, or_false] at hb
  rcases hb with rfl | rfl | rfl
  ·obtain ⟨_, e, _⟩ := t.o; exact ⟨_, e⟩
  ·exact ⟨_, t.nm⟩
  ·exact ⟨_, t.pl⟩
theorem aH.add {th cm nm pl : Addr} {ks : List (Str × V)} {kd ow mi re tx : Str} (i : aH CH CS CT H A L M) (f1 : H th = none) (f2 : H nm = none) (f3 : H pl = none) (at' : gn CS H' A.t A.dt A.ml ((L.map fun a => V.ref a.th) ++ [.ref th])) (hth : H' th = Option.some (.ins CT cm ks)) (kl : ks.length ≤ 40)
  (sk : cq ks (kN (.int (L.length : Nat)) (.str kd) (.str ow) (.str mi) (.str re) (.str tx) (.ref nm) (.ref pl))) (hnm : H' nm = Option.some (.dK [])) (hpl : H' pl = Option.some (.dT [])) (kp : Kp [A.t, A.ml] H H') :
  aH CH CS CT H' A (L ++ [⟨th, cm, nm, pl⟩]) { M with ts := M.ts ++ [⟨kd, ow, mi, re, tx, [], []⟩] } := by
 have nd := i.nd
 have sm := i.some
 have nw : ∀ b ∈ A.w ++ L.flatMap Ta.l, b ≠ th ∧ b ≠ nm ∧ b ≠ pl := fun b hb => by
  obtain ⟨o, e⟩ := sm b hb
  exact ⟨aC e f1, aC e f2, aC e f3⟩
 have h12 : th ≠ nm := bg hth hnm (by nofun)
 have h13 : th ≠ pl := bg hth hpl (by nofun)
 have h23 : nm ≠ pl := bg hnm hpl (by nofun)
 have n0 := nd
 rw [List.nodup_append] at n0
 obtain ⟨n1, n2, n3⟩ := n0
 simp only [Ad.w, List.nodup_cons, List.mem_cons, List.not_mem_nil, or_false, not_or] at n1
 have kA : ∀ b ∈ [A.a, A.ro, A.st, A.tr, A.ov, A.un], b ∉ [A.t, A.ml] := by
  intro b hb hm
  simp only [List.mem_cons, List.not_mem_nil, or_false] at hb hm
  rcases hb with rfl | rfl | rfl | rfl | rfl | rfl <;> rcases hm with h | h
  ·exact n1.1.1 h
  ·exact n1.1.2.1 h
  ·exact n1.2.1.2.1 h.symm
  ·exact n1.2.2.1.1 h.symm
  ·exact n1.2.1.2.2.1 h.symm
  ·exact n1.2.2.1.2.1 h.symm
  ·exact n1.2.1.2.2.2.1 h.symm
  ·exact n1.2.2.1.2.2.1 h.symm
  ·exact n1.2.1.2.2.2.2.1 h.symm
  ·exact n1.2.2.1.2.2.2.1 h.symm
  ·exact n1.2.1.2.2.2.2.2 h.symm
  ·exact n1.2.2.1.2.2.2.2 h.symm
 refine ⟨?_, at'.o, ?_, by simp [i.len], fun j t e => ?_, kp _ _ (kA _ (by simp)) i.ro, kp _ _ (kA _ (by simp)) i.st, kp _ _ (kA _ (by simp)) i.tr, kp _ _ (kA _ (by simp)) i.ov, kp _ _ (kA _ (by simp)) i.un, ?_⟩
 ·obtain ⟨fs, c, e, r⟩ := i.h
  exact ⟨fs, c, kp _ _ (kA _ (by simp)) e, r⟩
 ·rw [at'.ml]; simp
 ·have e' : (M.ts ++ [(⟨kd, ow, mi, re, tx, [], []⟩ : Th)])[j]? = .some t := e
  by_cases hj : j < M.ts.length
  ·rw [List.getElem?_append_left hj] at e'
   obtain ⟨a, e1, h1⟩ := i.th j t e'
   refine ⟨a, by rw [List.getElem?_append_left (by rw [i.len]; exact hj)]; exact e1, h1.keep kp fun b hb hm => ?_⟩
   have hbf := fJ e1 hb
   simp only [List.mem_cons, List.not_mem_nil, or_false] at hm
   rcases hm with rfl | rfl
   ·exact n3 _ (by simp [Ad.w]) _ hbf rfl
   ·exact n3 _ (by simp [Ad.w]) _ hbf rfl
  ·rw [List.getElem?_append_right (by omega)] at e'
   have hj0 : j - M.ts.length = 0 := by
    rcases Nat.eq_zero_or_pos (j - M.ts.length) with h | h
    ·exact h
    ·rw [List.getElem?_eq_none (by simp; omega)] at e'; cases e'
   rw [hj0] at e'
   cases e'
   have hjl : j = L.length := by rw [i.len]; omega
   subst hjl
   exact ⟨_, by rw [List.getElem?_append_right (Nat.le_refl _), Nat.sub_self]; rfl, ⟨⟨ks, hth, kl, sk⟩, hnm, hpl⟩⟩
 ·rw [List.flatMap_append, ← List.append_assoc, List.nodup_append]
  refine ⟨nd, ?_, fun b hb c hc e => ?_⟩
  ·simp only [List.flatMap_cons, List.flatMap_nil, List.append_nil, Ta.l, List.nodup_cons, List.mem_cons, List.not_mem_nil, or_false, not_or, not_false_eq_true, List.nodup_nil, and_true]
   exact ⟨⟨h12, h13⟩, h23⟩
  ·obtain ⟨q1, q2, q3⟩ := nw b hb
   simp only [List.flatMap_cons, List.flatMap_nil, List.append_nil, Ta.l, List.mem_cons, List.not_mem_nil, or_false] at hc
   rcases hc with h | h | h
   ·exact q1 (e.trans h)
   ·exact q2 (e.trans h)
   ·exact q3 (e.trans h)
end
def uM (CH CS CT CE : Addr) : Sp := fun vs H Q _ => match vs with
 | [.ref h, .str z, .str pt] => ∃ A L M a0 t0, ∃ nm : List Nat, pt = Tx.S (47 :: nm) ∧ isNm nm = true ∧ eG CH CS CT H A L M z a0 t0 ∧ A.a = h ∧ dh ("g" : Str) (cD t0 z) = true ∧ dh ("w" : Str) (cD t0 z) = true ∧ aL (sD t0.aX) (.inr (Tx.S nm)) = none ∧
   ∀ x dx H', H x = none → ao H H' → H' x = some (.ins CE dx (ae "name" (.str (Tx.S nm)) (ae "folder" (.int 0) []))) → Q (.ref x) H'
 | _ => False
theorem ql (T : Tx K mg) : aD P w K mg base aG 12 T.eP.f T.eP.d ["house", "asker", "path"] (uM T.aj T.aB T.aE T.eW) := by
 have G_seat_of := Ey (P := P) (w := w) (base := base) T
 have G_check_kept := Lm (P := P) (w := w) (base := base) T
 have G_check_free := GS (P := P) (w := w) (base := base) T
 refine T.eP.F.ok zq (fun vs H Q E h => ?_) (fun cdv A outer s H vs Q E hr h => ?_)
 ·unfold uM at h
  split at h
  ·rfl
  ·exact h.elim
 ·unfold uM at h
  split at h
  ·rename_i hh z pt
   obtain ⟨AA, L, M, a0, t0, nm, rfl, hn, r, rfl, hg, hw, hv, q⟩ := h
   refine bK (b := aU vp) ((Dv.cut (Dv.aP 3 zq.nd (Dv.call G_seat_of (hr.mono (by decide)) T.jL.m T.jL.F.kp T.jL.b .nil az (Dv.aa (Dv.v 0) (Dv.aa (Dv.v 1) (Dv.aa (Dv.v 2) Dv.ag)))))
   (Dv.cut (Dv.aQ (Dv.call G_check_kept (hr.mono (by decide)) T.jS.m T.jS.F.kp T.jS.b .nil az (Dv.aa (Dv.v 0) (Dv.aa (Dv.v 1) (Dv.aa (Dv.fld T.iH T.n6 (Dv.v 3)) Dv.ag)))))
   (Dv.cut (Dv.aQ (Dv.call G_check_free (hr.mono (by decide)) T.jt.m T.jt.F.kp T.jt.b .nil az (Dv.aa (Dv.v 0) (Dv.aa (Dv.v 3) Dv.ag))))
   (Dv.aq (Dv.aK (Dv.v 3))))))) ?_
   rw [show start ["house", "asker", "path", "seat"] [V.ref AA.a, V.str z, V.str (Tx.S (47 :: nm))] = [some (V.ref AA.a), some (V.str z), some (V.str (Tx.S (47 :: nm))), none] from rfl]
   refine ai ?_
   walk_at "w"
   refine ⟨AA, L, M, a0, t0, nm, rfl, hn, r, rfl, hg, fun x dx H1 fx s1 hx => ai ?_⟩
   walk_at "w"
   have r1 := r.same s1
   refine ⟨x, _, _, _, rfl, hx, rfl, AA, L, M, t0, 0, rfl, r1.i, rfl, by rw [r.hz]; rfl, r.bN, hw, ai ?_⟩
   walk_at "w"
   exact ⟨AA, L, M, a0, t0, dx, nm, 0, r1.i, rfl, hx, hn, r.bR, r.bN, hv, fun H2 s2 => q x dx H2 fx (s1.trans s2) (s2 _ _ hx)⟩
  ·exact h.elim
def nG (CH CS CT CE : Addr) : Sp := fun vs H Q _ => match vs with
 | [.ref h, .ref x, .int n] => ∃ A L M, ∃ k : Nat, ∃ af tf ak tk dx nm, aH CH CS CT H A L M ∧ A.a = h ∧ H x = some (.ins CE dx (ae "name" (.str nm) (ae "folder" (.int 0) []))) ∧ n = (k : Int) ∧ L[0]? = some af ∧ M.ts[0]? = some tf ∧ L[k]? = some ak ∧ M.ts[k]? = some tk ∧ 0 ≠ k ∧ aL (sD tf.aX) (.inr nm) = none ∧ tf.aX.length ≤ 500 ∧ tk.fK = [] ∧
   ∀ H', aH CH CS CT H' A L { M with ts := (M.ts.set 0 { tf with aX := tf.aX ++ [(nm, k)] }).set k { tk with fK := [(0, nm)] } } → Kp [A.t, af.nm, ak.pl] H H' → Q (.int (k : Int)) H'
 | _ => False
theorem qh (T : Tx K mg) : aD P w K mg base aG 6 T.eN.f T.eN.d ["house", "seat", "number"] (nG T.aj T.aB T.aE T.eW) := by
 have G_Things_put_name := Gf (P := P) (w := w) (base := base) T
 refine T.eN.F.ok EC (fun vs H Q E h => ?_) (fun cdv A outer s H vs Q E hr h => ?_)
 ·unfold nG at h
  split at h
  ·rfl
  ·exact h.elim
 ·unfold nG at h
  split at h
  ·rename_i hh x n
   obtain ⟨AA, L, M, k, af, tf, ak, tk, dx, nm, i, rfl, hx, rfl, haf, htf, hak, dv, hne, hv, hl, hpl, q⟩ := h
   obtain ⟨gfs, gc, gh, ghl, gsf⟩ := i.h
   obtain ⟨gs, c2, ht, hgl, sg⟩ := i.t
   refine bK (b := aU tN) ((Dv.cut (Dv.aQ (Dv.aZ T.br T.kP.h G_Things_put_name (hr.mono (by decide)) T.kP.b .nil az (Dv.fld T.aI T.cX (Dv.v 0)) (Dv.aa (Dv.fld T.iH T.n6 (Dv.v 1)) (Dv.aa (Dv.fld T.iH T.qr (Dv.v 1)) (Dv.aa (Dv.v 2) Dv.ag)))))
   (Dv.aq (Dv.aK (Dv.v 2))))) ?_
   rw [show start ["house", "seat", "number"] [V.ref AA.a, V.ref x, V.int (k : Int)] = [some (V.ref AA.a), some (V.ref x), some (V.int (k : Int))] from rfl]
   refine ai ?_
   walk_at "w"
   exact ⟨AA.a, _, _, _, rfl, gh, (gsf _).trans rfl, AA.t, _, _, rfl, ht, (sg _).trans rfl, x, _, _, _, rfl, hx, rfl, x, _, _, _, rfl, hx, rfl, AA, L, M, 0, k, af, tf, ak, tk, i, rfl, rfl, rfl, haf, htf, hak, dv, hne, hv, hl, hpl, q⟩
  ·exact h.elim
def iK (CH CS CT : Addr) (A : Ad) (L : List Ta) (M : Hs) (t0 : Th) (a0 : Ta) (nm kd ow mi re tx : Str) (H : Hp) (Q : VK) : Prop :=
 ∀ a H', aH CH CS CT H' A (L ++ [a]) { M with ts := M.ts.set 0 { t0 with aX := t0.aX ++ [(nm, M.ts.length)] } ++ [⟨kd, ow, mi, re, tx, [], [(0, nm)]⟩] } → Kp [A.t, A.ml, a0.nm] H H' → Q (.int (M.ts.length : Nat)) H'
theorem qd {α : Type} {y b : α} : ∀ r : List α, (r ++ [y]).set r.length b = r ++ [b]
 | [] => rfl
 | c :: r => by simp only [List.cons_append, List.length_cons, List.set_cons_succ]; rw [qd r]
theorem IU {α : Type} : ∀ {xs : List α} {y a b : α}, 0 < xs.length → ((xs ++ [y]).set 0 a).set xs.length b = xs.set 0 a ++ [b]
 | x :: r, y, a, b, _ => by
  simp only [List.cons_append, List.set_cons_zero, List.length_cons, List.set_cons_succ]
  rw [qd]
theorem vi {CH CS CT CE : Addr} {H : Hp} {A : Ad} {L : List Ta} {M : Hs} {z nm kd mi re tx : Str} {a0 : Ta} {t0 : Th} {x dx : Addr} {Q : VK} {E : XK} (r : eG CH CS CT H A L M z a0 t0) (hx : H x = some (.ins CE dx (ae "name" (.str nm) (ae "folder" (.int 0) [])))) (hv : aL (sD t0.aX) (.inr nm) = none) (hl : t0.aX.length ≤ 400)
  (nx1 : x ≠ A.t) (mp : iK CH CS CT A L M t0 a0 nm kd z mi re tx H Q) : la CS CT A.t A.dt A.ml (L.map fun a => V.ref a.th) (.str kd) (.str z) (.str mi) (.str re) (.str tx) H (fun v H' => nG CH CS CT CE [.ref A.a, .ref x, v] H' Q E) := by
 intro th cm nm' pl ks H' f1 f2 f3 at' hth kl sk hnm hpl kp
 have nx2 : x ≠ A.ml := bg hx r.i.ml (by nofun)
 have hlen : (L.map fun a => V.ref a.th).length = L.length := List.length_map _
 rw [hlen] at sk ⊢
 have i2 := r.i.add f1 f2 f3 at' hth kl sk hnm hpl kp
 have h0 : 0 < M.ts.length := (List.getElem?_eq_some_iff.mp r.bN).1
 have hLM := r.i.len
 have e0 : (M.ts ++ [(⟨kd, z, mi, re, tx, [], []⟩ : Th)])[0]? = some t0 := by rw [List.getElem?_append_left h0]; exact r.bN
 have ek : (M.ts ++ [(⟨kd, z, mi, re, tx, [], []⟩ : Th)])[L.length]? = some ⟨kd, z, mi, re, tx, [], []⟩ := by rw [hLM, List.getElem?_append_right (Nat.le_refl _), Nat.sub_self]; rfl
 refine ⟨A, L ++ [⟨th, cm, nm', pl⟩], _, L.length, a0, t0, ⟨th, cm, nm', pl⟩, ⟨kd, z, mi, re, tx, [], []⟩, dx, nm, i2, rfl, kp _ _ (by simp [nx1, nx2]) hx, rfl, by rw [List.getElem?_append_left (by omega)]; exact r.bR, e0, by rw [List.getElem?_append_right (Nat.le_refl _), Nat.sub_self]; rfl, ek, by omega, hv, by omega, rfl, fun H2 i3 k3 => ?_⟩
 have := mp ⟨th, cm, nm', pl⟩ H2 (by
  have e := i3
  dsimp only at e
  rw [hLM] at e
  rw [IU h0] at e
  exact e) (fun b o hb e => ?_)
 ·rw [hLM]; exact this
 ·simp only [List.mem_cons, List.not_mem_nil, or_false, not_or] at hb
  have nbp : b ≠ pl := aC e f3
  exact k3 _ _ (by simp [hb.1, hb.2.2, nbp]) (kp _ _ (by simp [hb.1, hb.2.1]) e)
structure gM (CH CS CT : Addr) (H : Hp) (A : Ad) (L : List Ta) (M : Hs) (z : Str) (a0 : Ta) (t0 : Th) (nm : List Nat) : Prop where
 r : eG CH CS CT H A L M z a0 t0
 hn : isNm nm = true
 hg : dh ("g" : Str) (cD t0 z) = true
 hw : dh ("w" : Str) (cD t0 z) = true
 hv : aL (sD t0.aX) (.inr (Tx.S nm)) = none
 hl : t0.aX.length ≤ 400
 hL : L.length ≤ 400
theorem gM.tW {CH CS CT : Addr} {H : Hp} {A : Ad} {L : List Ta} {M : Hs} (i : aH CH CS CT H A L M) : gn CS H A.t A.dt A.ml (L.map fun a => V.ref a.th) := ⟨i.t, i.ml⟩
theorem iK.of {CH CS CT : Addr} {H H1 : Hp} {A : Ad} {L : List Ta} {M : Hs} {t0 : Th} {a0 : Ta} {nm kd ow mi re tx : Str} {Q : VK} (s : ao H H1) (m : iK CH CS CT A L M t0 a0 nm kd ow mi re tx H Q) : iK CH CS CT A L M t0 a0 nm kd ow mi re tx H1 Q := fun a H' i k => m a H' i ((Kp.of s).trans k)
def qS (CH CS CT : Addr) : Sp := fun vs H Q _ => match vs with
 | [.ref h, .str z, .str pt, .str mi, .str re] => ∃ A L M a0 t0, ∃ nm : List Nat, pt = Tx.S (47 :: nm) ∧ gM CH CS CT H A L M z a0 t0 nm ∧ A.a = h ∧ mi ∈ dU ∧ re ∈ dU ∧ iK CH CS CT A L M t0 a0 (Tx.S nm) "folder" z mi re "" H Q
 | _ => False
theorem II (T : Tx K mg) : aD P w K mg base aG 13 T.wz T.mY ["house", "asker", "path", "mine", "rest"] (qS T.aj T.aB T.aE) := by
 have eB := ij (P := P) (w := w) (base := base) T
 have dO := gQ (P := P) (w := w) (base := base) T
 have ib := sW (P := P) (w := w) (base := base) T
 have mU := ql (P := P) (w := w) (base := base) T
 have wF := Ax (P := P) (w := w) (base := base) T
 have m7 := qh (P := P) (w := w) (base := base) T
 refine T.o1.ok xH (fun vs H Q E h => ?_) (fun cdv A outer s H vs Q E hr h => ?_)
 ·unfold qS at h
  split at h
  ·rfl
  ·exact h.elim
 ·unfold qS at h
  split at h
  ·rename_i hh z pt mi re
   obtain ⟨AA, L, M, a0, t0, nm, rfl, pr, rfl, hmi, hre, mp⟩ := h
   obtain ⟨gfs, gc, gh, ghl, gsf⟩ := pr.r.i.h
   obtain ⟨e1, e2, e3⟩ := ka pr.hn
   obtain ⟨h1, h2, h3, h4⟩ := g8 pr.hn
   refine bK (b := aU jZ) ((Dv.cut (Dv.aQ (Dv.bU T.aI T.cZ.h eB (hr.mono (by decide)) T.cZ.b .nil ck (Dv.v 0) (Dv.aa (Dv.v 1) Dv.ag)))
   (Dv.cut (Dv.aQ (Dv.call dO (hr.mono (by decide)) T.bS.m T.bS.F.kp T.bS.b .nil az (Dv.aa (Dv.v 2) Dv.ag)))
   (Dv.cut (Dv.aQ (Dv.call ib (hr.mono (by decide)) T.cF.m T.cF.F.kp T.cF.b .nil az (Dv.aa (Dv.v 3) Dv.ag)))
   (Dv.cut (Dv.aQ (Dv.call ib (hr.mono (by decide)) T.cF.m T.cF.F.kp T.cF.b .nil az (Dv.aa (Dv.v 4) Dv.ag)))
   (Dv.cut (Dv.aP 5 xH.nd (Dv.call mU (hr.mono (by decide)) T.eP.m T.eP.F.kp T.eP.b .nil az (Dv.aa (Dv.v 0) (Dv.aa (Dv.v 1) (Dv.aa (Dv.v 2) Dv.ag)))))
   (Dv.aq (Dv.aK (Dv.call m7 (hr.mono (by decide)) T.eN.m T.eN.F.kp T.eN.b .nil az (Dv.aa (Dv.v 0) (Dv.aa (Dv.v 5) (Dv.aa (Dv.aZ T.br T.iM.h wF (hr.mono (by decide)) T.iM.b .nil az (Dv.fld T.aI T.cX (Dv.v 0)) (Dv.aa (Dv.v 1) (Dv.aa (Dv.v 3) (Dv.aa (Dv.v 4) Dv.ag)))) Dv.ag)))))))))))) ?_
   rw [show start ["house", "asker", "path", "mine", "rest", "seat"] [V.ref AA.a, V.str z, V.str (Tx.S (47 :: nm)), V.str mi, V.str re] = [some (V.ref AA.a), some (V.str z), some (V.str (Tx.S (47 :: nm))), some (V.str mi), some (V.str re), none] from rfl]
   refine ai ?_
   walk_at "w"
   refine ⟨AA.a, _, _, rfl, gh, (gsf _).trans rfl, jv pr.r.i (by rw [pr.r.hz]; rfl) (ai ?_)⟩
   walk_at "w"
   refine ⟨47 :: nm, rfl, by simp, by simp; omega, e3, fun H1 l p s1 _ hl hp => ai ?_⟩
   walk_at "w"
   refine ⟨hmi, ai ?_⟩
   walk_at "w"
   refine ⟨hre, ai ?_⟩
   walk_at "w"
   refine ⟨AA, L, M, a0, t0, nm, rfl, pr.hn, pr.r.same s1, rfl, pr.hg, pr.hw, pr.hv, fun x dx H2 fx s2 hx => ?_⟩
   walk_at "w"
   have r2 := pr.r.same (s1.trans s2)
   obtain ⟨xo, gc2, gh2, wD, ig⟩ := r2.i.h
   obtain ⟨gs, c2, ht, hgl, sg⟩ := r2.i.t
   obtain ⟨_, _, ht1, _⟩ := (pr.r.same s1).i.t
   refine ⟨AA.a, _, _, _, rfl, gh2, (ig _).trans rfl, AA.t, _, _, rfl, ht, (sg _).trans rfl, AA.dt, AA.ml, _, gM.tW r2.i, by rw [List.length_map]; have := pr.hL; omega, vi r2 hx pr.hv pr.hl (Ne.symm (aC ht1 fx)) (mp.of (s1.trans s2))⟩
  ·exact h.elim
def sI (CH CS CT : Addr) : Sp := fun vs H Q _ => match vs with
 | [.ref h, .str z, .str pt, .str tx, .str mi, .str re] => ∃ A L M a0 t0, ∃ nm : List Nat, pt = Tx.S (47 :: nm) ∧ gM CH CS CT H A L M z a0 t0 nm ∧ A.a = h ∧ mi ∈ dU ∧ re ∈ dU ∧ tx.length ≤ 60 ∧ iK CH CS CT A L M t0 a0 (Tx.S nm) "file" z mi re tx H Q
 | _ => False
theorem FZ (T : Tx K mg) : aD P w K mg base aG 13 T.wb T.mT ["house", "asker", "path", "text", "mine", "rest"] (sI T.aj T.aB T.aE) := by
 have eB := ij (P := P) (w := w) (base := base) T
 have dO := gQ (P := P) (w := w) (base := base) T
 have ib := sW (P := P) (w := w) (base := base) T
 have G_check_text := Ox (P := P) (w := w) (base := base) T
 have mU := ql (P := P) (w := w) (base := base) T
 have G_Things_add_file := Gd (P := P) (w := w) (base := base) T
 have m7 := qh (P := P) (w := w) (base := base) T
 refine T.oQ.ok z8 (fun vs H Q E h => ?_) (fun cdv A outer s H vs Q E hr h => ?_)
 ·unfold sI at h
  split at h
  ·rfl
  ·exact h.elim
 ·unfold sI at h
  split at h
  ·rename_i hh z pt tx mi re
   obtain ⟨AA, L, M, a0, t0, nm, rfl, pr, rfl, hmi, hre, htx, mp⟩ := h
   obtain ⟨gfs, gc, gh, ghl, gsf⟩ := pr.r.i.h
   obtain ⟨e1, e2, e3⟩ := ka pr.hn
   obtain ⟨h1, h2, h3, h4⟩ := g8 pr.hn
   refine bK (b := aU je) ((Dv.cut (Dv.aQ (Dv.bU T.aI T.cZ.h eB (hr.mono (by decide)) T.cZ.b .nil ck (Dv.v 0) (Dv.aa (Dv.v 1) Dv.ag)))
   (Dv.cut (Dv.aQ (Dv.call dO (hr.mono (by decide)) T.bS.m T.bS.F.kp T.bS.b .nil az (Dv.aa (Dv.v 2) Dv.ag)))
   (Dv.cut (Dv.aQ (Dv.call ib (hr.mono (by decide)) T.cF.m T.cF.F.kp T.cF.b .nil az (Dv.aa (Dv.v 4) Dv.ag)))
   (Dv.cut (Dv.aQ (Dv.call ib (hr.mono (by decide)) T.cF.m T.cF.F.kp T.cF.b .nil az (Dv.aa (Dv.v 5) Dv.ag)))
   (Dv.cut (Dv.aQ (Dv.call G_check_text (hr.mono (by decide)) T.jR.m T.jR.F.kp T.jR.b .nil az (Dv.aa (Dv.v 3) Dv.ag)))
   (Dv.cut (Dv.aP 6 z8.nd (Dv.call mU (hr.mono (by decide)) T.eP.m T.eP.F.kp T.eP.b .nil az (Dv.aa (Dv.v 0) (Dv.aa (Dv.v 1) (Dv.aa (Dv.v 2) Dv.ag)))))
   (Dv.aq (Dv.aK (Dv.call m7 (hr.mono (by decide)) T.eN.m T.eN.F.kp T.eN.b .nil az (Dv.aa (Dv.v 0) (Dv.aa (Dv.v 6) (Dv.aa (Dv.aZ T.br T.mm.h G_Things_add_file (hr.mono (by decide)) T.mm.b .nil az (Dv.fld T.aI T.cX (Dv.v 0)) (Dv.aa (Dv.v 1) (Dv.aa (Dv.v 3) (Dv.aa (Dv.v 4) (Dv.aa (Dv.v 5) Dv.ag))))) Dv.ag))))))))))))) ?_
   rw [show start ["house", "asker", "path", "text", "mine", "rest", "seat"] [V.ref AA.a, V.str z, V.str (Tx.S (47 :: nm)), V.str tx, V.str mi, V.str re] = [some (V.ref AA.a), some (V.str z), some (V.str (Tx.S (47 :: nm))), some (V.str tx), some (V.str mi), some (V.str re), none] from rfl]
   refine ai ?_
   walk_at "w"
   refine ⟨AA.a, _, _, rfl, gh, (gsf _).trans rfl, jv pr.r.i (by rw [pr.r.hz]; rfl) (ai ?_)⟩
   walk_at "w"
   refine ⟨47 :: nm, rfl, by simp, by simp; omega, e3, fun H1 l p s1 _ hl hp => ai ?_⟩
   walk_at "w"
   refine ⟨hmi, ai ?_⟩
   walk_at "w"
   refine ⟨hre, ai ?_⟩
   walk_at "w"
   refine ⟨htx, ai ?_⟩
   walk_at "w"
   refine ⟨AA, L, M, a0, t0, nm, rfl, pr.hn, pr.r.same s1, rfl, pr.hg, pr.hw, pr.hv, fun x dx H2 fx s2 hx => ?_⟩
   walk_at "w"
   have r2 := pr.r.same (s1.trans s2)
   obtain ⟨xo, gc2, gh2, wD, ig⟩ := r2.i.h
   obtain ⟨gs, c2, ht, hgl, sg⟩ := r2.i.t
   obtain ⟨_, _, ht1, _⟩ := (pr.r.same s1).i.t
   refine ⟨AA.a, _, _, _, rfl, gh2, (ig _).trans rfl, AA.t, _, _, rfl, ht, (sg _).trans rfl, AA.dt, AA.ml, _, gM.tW r2.i, by rw [List.length_map]; have := pr.hL; omega, vi r2 hx pr.hv pr.hl (Ne.symm (aC ht1 fx)) (mp.of (s1.trans s2))⟩
  ·exact h.elim
def tX (CH CS CT : Addr) : Sp := fun vs H Q _ => match vs with
 | [.ref h, .str z, .str pt, .str tx] => ∃ A L M a0 t0, ∃ nm t : List Nat, pt = Tx.S (47 :: nm) ∧ tx = Tx.S t ∧ gM CH CS CT H A L M z a0 t0 nm ∧ A.a = h ∧ 1 ≤ t.length ∧ t.length ≤ 120 ∧ (Tx.words 47 t).all bY = true ∧ iK CH CS CT A L M t0 a0 (Tx.S nm) "lead" z "" "" tx H Q
 | _ => False
theorem DH (T : Tx K mg) : aD P w K mg base aG 13 T.jH.f T.jH.d ["house", "asker", "path", "lead"] (tX T.aj T.aB T.aE) := by
 have eB := ij (P := P) (w := w) (base := base) T
 have dO := gQ (P := P) (w := w) (base := base) T
 have G_check_lead := Jl (P := P) (w := w) (base := base) T
 have mU := ql (P := P) (w := w) (base := base) T
 have G_Things_add_lead := DY (P := P) (w := w) (base := base) T
 have m7 := qh (P := P) (w := w) (base := base) T
 refine T.jH.F.ok y3 (fun vs H Q E h => ?_) (fun cdv A outer s H vs Q E hr h => ?_)
 ·unfold tX at h
  split at h
  ·rfl
  ·exact h.elim
 ·unfold tX at h
  split at h
  ·rename_i hh z pt tx
   obtain ⟨AA, L, M, a0, t0, nm, t, rfl, rfl, pr, rfl, ht1, ht2, ht3, mp⟩ := h
   obtain ⟨gfs, gc, gh, ghl, gsf⟩ := pr.r.i.h
   obtain ⟨e1, e2, e3⟩ := ka pr.hn
   obtain ⟨h1, h2, h3, h4⟩ := g8 pr.hn
   refine bK (b := aU vI) ((Dv.cut (Dv.aQ (Dv.bU T.aI T.cZ.h eB (hr.mono (by decide)) T.cZ.b .nil ck (Dv.v 0) (Dv.aa (Dv.v 1) Dv.ag)))
   (Dv.cut (Dv.aQ (Dv.call dO (hr.mono (by decide)) T.bS.m T.bS.F.kp T.bS.b .nil az (Dv.aa (Dv.v 2) Dv.ag)))
   (Dv.cut (Dv.aQ (Dv.call G_check_lead (hr.mono (by decide)) T.jy.m T.jy.F.kp T.jy.b .nil az (Dv.aa (Dv.v 3) Dv.ag)))
   (Dv.cut (Dv.aP 4 y3.nd (Dv.call mU (hr.mono (by decide)) T.eP.m T.eP.F.kp T.eP.b .nil az (Dv.aa (Dv.v 0) (Dv.aa (Dv.v 1) (Dv.aa (Dv.v 2) Dv.ag)))))
   (Dv.aq (Dv.aK (Dv.call m7 (hr.mono (by decide)) T.eN.m T.eN.F.kp T.eN.b .nil az (Dv.aa (Dv.v 0) (Dv.aa (Dv.v 4) (Dv.aa (Dv.aZ T.br T.lz.h G_Things_add_lead (hr.mono (by decide)) T.lz.b .nil az (Dv.fld T.aI T.cX (Dv.v 0)) (Dv.aa (Dv.v 1) (Dv.aa (Dv.v 3) Dv.ag))) Dv.ag))))))))))) ?_
   rw [show start ["house", "asker", "path", "lead", "seat"] [V.ref AA.a, V.str z, V.str (Tx.S (47 :: nm)), V.str (Tx.S t)] = [some (V.ref AA.a), some (V.str z), some (V.str (Tx.S (47 :: nm))), some (V.str (Tx.S t)), none] from rfl]
   refine ai ?_
   walk_at "w"
   refine ⟨AA.a, _, _, rfl, gh, (gsf _).trans rfl, jv pr.r.i (by rw [pr.r.hz]; rfl) (ai ?_)⟩
   walk_at "w"
   refine ⟨47 :: nm, rfl, by simp, by simp; omega, e3, fun H1 l p s1 _ hl hp => ai ?_⟩
   walk_at "w"
   refine ⟨t, rfl, ht1, ht2, ht3, fun H2 s2 => ai ?_⟩
   walk_at "w"
   refine ⟨AA, L, M, a0, t0, nm, rfl, pr.hn, pr.r.same (s1.trans s2), rfl, pr.hg, pr.hw, pr.hv, fun x dx H3 fx s3 hx => ?_⟩
   walk_at "w"
   have r2 := pr.r.same ((s1.trans s2).trans s3)
   obtain ⟨xo, gc2, gh2, wD, ig⟩ := r2.i.h
   obtain ⟨gs, c2, ht, hgl, sg⟩ := r2.i.t
   obtain ⟨_, _, ht1, _⟩ := (pr.r.same (s1.trans s2)).i.t
   refine ⟨AA.a, _, _, _, rfl, gh2, (ig _).trans rfl, AA.t, _, _, rfl, ht, (sg _).trans rfl, AA.dt, AA.ml, _, gM.tW r2.i, by rw [List.length_map]; have := pr.hL; omega, vi r2 hx pr.hv pr.hl (Ne.symm (aC ht1 fx)) (mp.of ((s1.trans s2).trans s3))⟩
  ·exact h.elim
def tU (CH CS CT : Addr) : Sp := fun vs H Q _ => match vs with
 | [.ref h, .str z, .str pt, .str m, .str r] => ∃ A L M a0 t0 a t tt, ∃ k : Nat, pt = Tx.S tt ∧ eG CH CS CT H A L M z a0 t0 ∧ A.a = h ∧ hU M L z t0 k tt ∧ m ∈ dU ∧ r ∈ dU ∧ L[k]? = some a ∧ M.ts[k]? = some t ∧ t.ow = z ∧
   ∀ H', aH CH CS CT H' A L { M with ts := M.ts.set k { t with mi := m, re := r } } → Kp [A.t, a.th] H H' → Q .au H'
 | _ => False
theorem NU (T : Tx K mg) : aD P w K mg base aG 14 T.fV.f T.fV.d ["house", "asker", "path", "mine", "rest"] (tU T.aj T.aB T.aE) := by
 have eB := ij (P := P) (w := w) (base := base) T
 have dO := gQ (P := P) (w := w) (base := base) T
 have ib := sW (P := P) (w := w) (base := base) T
 have G_find_any := Io (P := P) (w := w) (base := base) T
 have xg := zg (P := P) (w := w) (base := base) T
 have G_Things_put_rights := Eo (P := P) (w := w) (base := base) T
 refine T.fV.F.ok zp (fun vs H Q E h => ?_) (fun cdv A outer s H vs Q E hr h => ?_)
 ·unfold tU at h
  split at h
  ·rfl
  ·exact h.elim
 ·unfold tU at h
  split at h
  ·rename_i hh z pt m r
   obtain ⟨AA, L, M, a0, t0, a, t, tt, k, rfl, rd, rfl, pa, hm, hr', ha, ht, how, q⟩ := h
   obtain ⟨gfs, gc, gh, ghl, gsf⟩ := rd.i.h
   refine bK (b := aU sG) ((Dv.cut (Dv.aQ (Dv.bU T.aI T.cZ.h eB (hr.mono (by decide)) T.cZ.b .nil ck (Dv.v 0) (Dv.aa (Dv.v 1) Dv.ag)))
   (Dv.cut (Dv.aQ (Dv.call dO (hr.mono (by decide)) T.bS.m T.bS.F.kp T.bS.b .nil az (Dv.aa (Dv.v 2) Dv.ag)))
   (Dv.cut (Dv.aQ (Dv.call ib (hr.mono (by decide)) T.cF.m T.cF.F.kp T.cF.b .nil az (Dv.aa (Dv.v 3) Dv.ag)))
   (Dv.cut (Dv.aQ (Dv.call ib (hr.mono (by decide)) T.cF.m T.cF.F.kp T.cF.b .nil az (Dv.aa (Dv.v 4) Dv.ag)))
   (Dv.cut (Dv.aP 5 zp.nd (Dv.call G_find_any (hr.mono (by decide)) T.jB.m T.jB.F.kp T.jB.b .nil az (Dv.aa (Dv.v 0) (Dv.aa (Dv.v 1) (Dv.aa (Dv.v 2) Dv.ag)))))
   (Dv.cut (Dv.aW (Dv.bc eT (Dv.aZ T.aI T.il.h xg (hr.mono (by decide)) T.il.b .nil az (Dv.v 0) (Dv.aa (Dv.v 5) Dv.ag)) (Dv.v 1)) (Dv.aq Dv.bw) Dv.nil)
   (Dv.aq (Dv.aQ (Dv.aZ T.br T.mM.h G_Things_put_rights (hr.mono (by decide)) T.mM.b .nil az (Dv.fld T.aI T.cX (Dv.v 0)) (Dv.aa (Dv.v 5) (Dv.aa (Dv.v 3) (Dv.aa (Dv.v 4) Dv.ag))))))))))))) ?_
   rw [show start ["house", "asker", "path", "mine", "rest", "number"] [V.ref AA.a, V.str z, V.str (Tx.S tt), V.str m, V.str r] = [some (V.ref AA.a), some (V.str z), some (V.str (Tx.S tt)), some (V.str m), some (V.str r), none] from rfl]
   refine ai ?_
   walk_at "w"
   refine ⟨AA.a, _, _, rfl, gh, (gsf _).trans rfl, jv rd.i (by rw [rd.hz]; rfl) (ai ?_)⟩
   walk_at "w"
   refine ⟨tt, rfl, pa.t1, pa.t2, pa.eg, fun H1 l p s1 _ hl hp => ai ?_⟩
   walk_at "w"
   refine ⟨hm, ai ?_⟩
   walk_at "w"
   refine ⟨hr', ai ?_⟩
   walk_at "w"
   refine ⟨AA, L, M, a0, t0, tt, k, rfl, rd.same s1, rfl, pa, fun H2 s2 => ai ?_⟩
   walk_at "w"
   have r2 := rd.same (s1.trans s2)
   obtain ⟨xo, gc2, gh2, wD, ig⟩ := r2.i.h
   obtain ⟨gs, c2, hts, hgl, sg⟩ := r2.i.t
   refine ⟨AA.a, _, _, rfl, gh2, (ig _).trans rfl, AA, L, M, k, a, t, r2.i, rfl, rfl, ha, ht, ?_⟩
   show (if (!decide (t.ow = z)) = true then _ else _)
   rw [how]
   rw [decide_eq_true rfl]
   exact aS ⟨AA.a, _, _, _, rfl, gh2, (ig _).trans rfl, AA.t, _, _, rfl, hts, (sg _).trans rfl, AA, L, M, k, a, t, r2.i, rfl, rfl, ha, ht, fun H3 i3 k3 => q H3 i3 ((Kp.of (s1.trans s2)).trans k3)⟩
  ·exact h.elim
theorem mD {xs : List V} {n d : Int} (hn : 0 < n) (hl : (xs.length : Int) = n) : ∃ v ∈ xs, bu xs (d % n) = some v := by
 obtain ⟨k, hk⟩ : ∃ k : Nat, d % n = (k : Int) := ⟨(d % n).toNat, by have := Int.emod_nonneg d (show n ≠ 0 by omega); omega⟩
 have hk2 : k < xs.length := by have := Int.emod_lt_of_pos d hn; omega
 exact ⟨_, List.getElem_mem hk2, by rw [hk, lX (List.getElem?_eq_getElem hk2)]⟩
def uj (K : PySem.W.Frag) : Sp := fun vs H Q _ => match vs with
 | [.ref a, .int k] => (∃ ns : List Int, aJ K H a (ns.map V.int)) ∧ 0 ≤ k ∧ ∀ c : Int, Q (.int c) H
 | _ => False
def sF : Sp := fun vs H Q _ => match vs with
 | [.int _, .int _] => ∀ c : Int, 0 ≤ c → Q (.int c) H
 | _ => False
def pX : Sp := fun vs H Q _ => match vs with
 | [.int _, .int 9] => ∀ l (ds : List Int) H', H l = none → ds.length = 9 → H' l = some (.lst (ds.map V.int)) → ao H H' → Q (.ref l) H'
 | _ => False
theorem El (T : Tx K mg) : aD P w K mg base aG 1 T.gu.f T.gu.d ["_law_script", "_law_k"] (uj K) := by
 refine T.gu.F.ok Ng (fun vs H Q E h => ?_) (fun cdv A outer s H vs Q E hr h => ?_)
 ·unfold uj at h
  split at h
  ·rfl
  ·exact h.elim
 ·unfold uj at h
  split at h
  ·rename_i a k
   obtain ⟨⟨ns, hS⟩, hk, q⟩ := h
   obtain ⟨k, rfl⟩ := Int.eq_ofNat_of_zero_le hk
   refine ⟨_, ((Dv.cut (Dv.aW (Dv.bc Bo (Dv.v 1) (Dv.bB (Ll (K := K) rfl) T.fZ PySem.boot_len (Dv.aa (Dv.v 0) Dv.ag))) (Dv.aq (Dv.aK (Dv.ix (NP (K := K) rfl) (Dv.v 0) (Dv.v 1)))) Dv.nil)
   (Dv.aq (Dv.aK Dv.int)))).h, ?_⟩
   rw [show start ["_law_script", "_law_k"] [V.ref a, V.int (k : Nat)] = [some (.ref a), some (.int (k : Nat))] from rfl]
   refine ai ?_
   walk_at "w"
   refine ⟨_, hS, ?_⟩
   refine fS (fun hd => ?_) (fun _ => q _)
   have hl : k < ns.length := by have := of_decide_eq_true hd; rw [List.length_map] at this; omega
   refine ⟨_, .int ns[k], hS, ?_, q _⟩
   refine lX (j := k) ?_
   rw [List.getElem?_map, List.getElem?_eq_getElem hl]; rfl
  ·exact h.elim
theorem Ic (T : Tx K mg) : aD P w K mg base aG 1 T.jF.f T.jF.d ["_law_cell", "_law_k"] sF := by
 refine T.jF.F.ok tL (fun vs H Q E h => ?_) (fun cdv A outer s H vs Q E hr h => ?_)
 ·unfold sF at h
  split at h
  ·rfl
  ·exact h.elim
 ·unfold sF at h
  split at h
  ·rename_i c k
   refine ⟨_, ((Dv.cut (Dv.aP 2 tL.nd (Dv.op dF (Dv.op jI (Dv.op dI (Dv.op dI (Dv.op dF (Dv.v 0) Dv.int) (Dv.op jI Dv.int (Dv.v 1))) Dv.int) Dv.int) Dv.int))
   (Dv.cut (Dv.aP 2 tL.nd (Dv.op dF (Dv.op jI (Dv.v 2) (Dv.op dI (Dv.op jm (Dv.v 2) Dv.int) Dv.int)) Dv.int))
   (Dv.aq (Dv.aK (Dv.op dF (Dv.op jI (Dv.op dI (Dv.v 2) (Dv.op jI Dv.int (Dv.v 1))) (Dv.op dI (Dv.op jm (Dv.v 2) Dv.int) Dv.int)) Dv.int)))))).h, ?_⟩
   rw [show start ["_law_cell", "_law_k", "_law_number"] [V.int c, V.int k] = [some (.int c), some (.int k), none] from rfl]
   refine ai ?_
   walk_at "w"
   refine ⟨by decide, .inl ⟨by decide, by decide⟩, .inr ⟨by decide, by decide⟩, by decide, ai ?_⟩
   walk_at "w"
   generalize hm : (c % 2147483647 + 7919 * k + 1) * 48271 % 2147483647 = m
   have m0 : 0 ≤ m := by rw [← hm]; exact Int.emod_nonneg _ (by decide)
   have m1 : m < 2147483647 := by rw [← hm]; exact Int.emod_lt_of_pos _ (by decide)
   refine ⟨⟨by decide, by decide⟩, .inl ⟨by omega, by omega⟩, by decide, ?_⟩
   generalize hn : m * (m / 1009 + 69621) % 2147483647 = n
   have n0 : 0 ≤ n := by rw [← hn]; exact Int.emod_nonneg _ (by decide)
   have n1 : n < 2147483647 := by rw [← hn]; exact Int.emod_lt_of_pos _ (by decide)
   refine ⟨.inl ⟨by decide, by decide⟩, ⟨by decide, by decide⟩, .inr ⟨by omega, by omega⟩, by decide, ?_⟩
   exact h _ (Int.emod_nonneg _ (by decide))
  ·exact h.elim
theorem DI (T : Tx K mg) : aD P w K mg base aG 2 T.j0.f T.j0.d ["_law_cell", "_law_many"] pX := by
 have G_l_mixed := Ic (P := P) (w := w) (base := base) T
 refine T.j0.F.ok lr (fun vs H Q E h => ?_) (fun cdv A outer s H vs Q E hr h => ?_)
 ·unfold pX at h
  split at h
  ·rfl
  ·exact h.elim
 ·unfold pX at h
  split at h
  ·rename_i c
   refine ⟨_, ((Dv.cut (Dv.aP 2 lr.nd (Dv.lst Dv.ag))
   (Dv.cut (Dv.aP 3 lr.nd (Dv.op jm (Dv.v 0) Dv.int))
   (Dv.cut (Dv.jk PassesOwn.never rfl (Dv.vo T.rX (Dv.aa (Dv.v 1) Dv.ag)) (Dv.dM 4 lr.nd) (Dv.cut (Dv.aW (Dv.dS (Dv.w_and (Dv.bc eJ (Dv.op dF (Dv.v 0) Dv.int) Dv.int) (Dv.nW (Dv.bc zE (Dv.v 3) Dv.int)))) (Dv.aq (Dv.aQ (Dv.iw PySem.F.slot_list_append PySem.F.type_list_append iq (Dv.v 2) (Dv.aa (Dv.op dF (Dv.v 3) Dv.int) Dv.ag)))) (Dv.aq (Dv.aQ (Dv.iw PySem.F.slot_list_append PySem.F.type_list_append iq (Dv.v 2) (Dv.aa (Dv.op dF (Dv.call G_l_mixed (hr.mono (by decide)) T.jF.m T.jF.F.kp T.jF.b .nil az (Dv.aa (Dv.v 0) (Dv.aa (Dv.v 4) Dv.ag))) Dv.int) Dv.ag)))))
   (Dv.aq (Dv.aP 3 lr.nd (Dv.op jm (Dv.v 3) Dv.int)))))
   (Dv.aq (Dv.aK (Dv.v 2))))))).h, ?_⟩
   rw [show start ["_law_cell", "_law_many", "_law_found", "_law_left", "_law_k"] [V.int c, V.int 9] = [some (.int c), some (V.int 9), none, none, none] from rfl]
   refine ai ?_
   walk_at "w"
   refine ⟨fits (by simp), fun l hl => ai ?_⟩
   have s1 := ao.upd (o := .lst []) hl
   have b1 : upd H l (.lst []) l = some (.lst (([] : List Int).map V.int)) := aw
   generalize upd H l (.lst []) = H1 at s1 b1 ⊢
   walk_at "w"
   refine ⟨⟨by decide, by decide⟩, ?_⟩
   refine fM (fun σ' H' => ao H H' ∧ ∃ (ds : List Int) (lf : Int) (t : Option V), σ' = [some (.int c), some (V.int 9), some (.ref l), some (.int lf), t] ∧ ds.length = 9  ∧ H' l = some (.lst (ds.map V.int))) ?_ ?_
   ·walk_at "w"
    refine ⟨⟨by decide, by decide⟩, ?_⟩
    refine qf (fun j σ' H' => ao H H' ∧ ∃ (ds : List Int) (lf : Int) (t : Option V), σ' = [some (.int c), some (V.int 9), some (.ref l), some (.int lf), t] ∧ ds.length = j  ∧ H' l = some (.lst (ds.map V.int))) ⟨s1, [], _, none, rfl, rfl, b1⟩ ?_ (fun σ' H' h => h)
    rintro j σ' H2 hj ⟨s2, ds, lf, t, rfl, hdl, hb2⟩
    refine fM (fun σ' H' => ao H H' ∧ ∃ (ds : List Int) (lf : Int) (t : Option V), σ' = [some (.int c), some (V.int 9), some (.ref l), some (.int lf), t] ∧ ds.length = j + 1  ∧ H' l = some (.lst (ds.map V.int))) ?_ ?_
    ·walk_at "w"
     have step : ∀ d : Int, 0 ≤ d → (ao H (upd H2 l (HO.lst (ds.map V.int ++ [V.int d]))) ∧ ∃ (ds' : List Int) (lf' : Int) (t' : Option V), [some (V.int c), some (V.int 9), some (V.ref l), some (V.int lf), some (V.int (0 + (j : Int)))] = [some (V.int c), some (V.int 9), some (V.ref l), some (V.int lf'), t'] ∧
       ds'.length = j + 1  ∧ upd H2 l (HO.lst (ds.map V.int ++ [V.int d])) l = some (.lst (ds'.map V.int))) := fun d hd =>
      ⟨s2.eU hl, ds ++ [d], lf, _, rfl, by simp [hdl], by rw [aw, List.map_append]; rfl⟩
     have hlen : (ds.map V.int).length < sizeLine := iB (by rw [List.length_map]; have : j < 9 := hj; omega)
     simp only [hb2]
     refine ⟨by decide, fS (fun _ => fS (fun _ => ⟨by decide, hlen, step _ (Int.emod_nonneg _ (by decide))⟩) (fun _ => ?_)) (fun _ => aS ?_)⟩
     ·intro i hi
      dsimp only
      simp only [hb2]
      exact ⟨by decide, hlen, step _ (Int.emod_nonneg _ (by decide))⟩
     ·intro i hi
      dsimp only
      simp only [hb2]
      exact ⟨by decide, hlen, step _ (Int.emod_nonneg _ (by decide))⟩
    ·rintro σ' H3 ⟨s3, ds, lf, t, rfl, hdl, hb3⟩
     walk_at "w"
     exact ⟨⟨by decide, by decide⟩, s3, ds, _, _, rfl, hdl, hb3⟩
   ·rintro σ' H3 ⟨s3, ds, lf, t, rfl, hdl, hb3⟩
    walk_at "w"
    exact h l ds H3 hl hdl hb3 s3
  ·exact h.elim
def uF : Sp := fun vs H Q _ => match vs with
 | [.int _] => ∀ r H', r ∈ dU → ao H H' → Q (.str r) H'
 | _ => False
theorem yV (T : Tx K mg) : aD P w K mg base aG 1 T.dq.f T.dq.d ["_law_digit"] uF := by
 refine T.dq.F.ok IG (fun vs H Q E h => ?_) (fun cdv A outer s H vs Q E hr h => ?_)
 ·unfold uF at h
  split at h
  ·rfl
  ·exact h.elim
 ·unfold uF at h
  split at h
  ·rename_i d
   refine bK (b := aU rB) ((Dv.aq (Dv.aK (Dv.ix (ba (K := K) rfl) (Dv.lst (Dv.aa Dv.str (Dv.aa Dv.str (Dv.aa Dv.str (Dv.aa Dv.str (Dv.aa Dv.str (Dv.aa Dv.str (Dv.aa Dv.str (Dv.aa Dv.str Dv.ag))))))))) (Dv.op dF (Dv.v 0) Dv.int))))) ?_
   rw [show start ["_law_digit"] [V.int d] = [some (.int d)] from rfl]
   walk_at "w"
   refine ⟨fits (by simp), fun p hp => ⟨by decide, ?_⟩⟩
   simp only [bt, aw]
   obtain ⟨v, hv, e⟩ := mD (xs := dU.map V.str) (n := 8) (d := d) (by decide) rfl
   rw [show [V.str (Str.ofString ""), V.str (Str.ofString "l"), V.str (Str.ofString "g"), V.str (Str.ofString "w"), V.str (Str.ofString "lg"), V.str (Str.ofString "lw"), V.str (Str.ofString "gw"), V.str (Str.ofString "lgw")] = dU.map V.str from rfl, e]
   obtain ⟨r, hr, rfl⟩ := List.mem_map.mp hv
   exact h r _ hr (ao.upd hp)
  ·exact h.elim
structure En where
 kd : Str
 ow : Str
 mi : Str
 re : Str
 tx : Str
 nm : List Nat
def En.th (e : En) : Th := ⟨e.kd, e.ow, e.mi, e.re, e.tx, [], [(0, Tx.S e.nm)]⟩
def cx : Nat → List En → List (Str × Nat)
 | _, [] => []
 | k, e :: r => (Tx.S e.nm, k) :: cx (k + 1) r
def bI (es : List En) : Th := ⟨"folder", "own", "lgw", "lgw", "", cx 1 es, []⟩
def lO : List (Str × Nat) := [("own", 0), ("bo", 0), ("carla", 0)]
def Mk (es : List En) : Hs := ⟨bI es :: es.map En.th, lO, lO, [("main", 0)], [], []⟩
def fj : List Str := ["own", "bo", "carla"]
def Dl (j : Nat) (e : En) : Prop := ∃ n, 1 ≤ n ∧ n ≤ 8 ∧ e.nm = List.replicate n (97 + j)
structure eC (es : List En) : Prop where
 len : es.length ≤ 10
 nm : ∀ j e, es[j]? = some e → Dl j e
 ow : ∀ e ∈ es, e.ow ∈ fj
def cf (e : En) : List V := [.str e.kd, .str e.ow, .str e.mi, .str e.re, .str e.tx, .str (Tx.S (47 :: e.nm))]
def uy (CH CS CT : Addr) : Sp := fun vs H Q _ => match vs with
 | [.ref h, .ref dl, .int k] => ∃ A L es, ∃ ds : List Int, aH CH CS CT H A L (Mk es) ∧ A.a = h ∧ H dl = some (.lst (ds.map V.int)) ∧ ds.length = 9 ∧ k = (es.length : Int) ∧ es.length < 10 ∧ eC es ∧
   ∀ e a p H', eC (es ++ [e]) → aH CH CS CT H' A (L ++ [a]) (Mk (es ++ [e])) → Kp (A.w ++ L.flatMap Ta.l) H H' → H' p = some (.lst (cf e)) → H p = none → Q (.ref p) H'
 | _ => False
theorem AR {P : Nat → Prop} (h0 : P 0) (h1 : P 1) (h2 : P 2) (h3 : P 3) (h4 : P 4) (h5 : P 5) (h6 : P 6) (h7 : P 7) (h8 : P 8) (h9 : P 9) : ∀ {k : Nat}, k < 10 → P k
 | 0, _ => h0
 | 1, _ => h1
 | 2, _ => h2
 | 3, _ => h3
 | 4, _ => h4
 | 5, _ => h5
 | 6, _ => h6
 | 7, _ => h7
 | 8, _ => h8
 | 9, _ => h9
 | k + 10, h => by omega
theorem uP {m k : Nat} (hk : k < 10) (h1 : 1 ≤ m) (h8 : m ≤ 8) : isNm (List.replicate m (97 + k)) = true := by
 unfold isNm
 rw [List.length_replicate, decide_eq_true h1, decide_eq_true h8, List.all_replicate]
 have : g7.contains (97 + k) = true := AR (P := fun k => g7.contains (97 + k) = true) (by decide +kernel) (by decide +kernel) (by decide +kernel) (by decide +kernel) (by decide +kernel) (by decide +kernel) (by decide +kernel) (by decide +kernel) (by decide +kernel) (by decide +kernel) hk
 rw [this]
 simp
theorem r6 {j k m n : Nat} (hn : 1 ≤ n) (hjk : j ≠ k) : List.replicate n (97 + j) ≠ List.replicate m (97 + k) := fun h => by
 cases n with
 | zero => omega
 | succ n =>
  cases m with
  | zero => cases h
  | succ m =>
   rw [List.replicate_succ, List.replicate_succ] at h
   injection h with h _
   omega
theorem Aj {nm : List Nat} : ∀ {es : List En} {k : Nat}, (∀ e ∈ es, e.nm ≠ nm) → aL (sD (cx k es)) (.inr (Tx.S nm)) = none
 | [], _, _ => rfl
 | e :: r, k, h => by
  have ih := Aj (es := r) (k := k + 1) fun e he => h e (List.mem_cons_of_mem _ he)
  unfold aL at ih ⊢
  rw [show sD (cx k (e :: r)) = (.inr (Tx.S e.nm), .int (k : Nat)) :: sD (cx (k + 1) r) from rfl, List.find?_cons]
  rw [decide_eq_false (fun z => by injection z with z; exact h e List.mem_cons_self (Tx.ki z))]
  exact ih
theorem uV {e : En} : ∀ {es : List En} {k j : Nat}, (∀ j' e', es[j']? = some e' → j' < j → e'.nm ≠ e.nm) → es[j]? = some e → aL (sD (cx k es)) (.inr (Tx.S e.nm)) = some (.int ((k + j : Nat) : Int))
 | [], _, _, _, h => by cases h
 | c :: r, k, 0, _, h => by
  simp only [List.getElem?_cons_zero, Option.some.injEq] at h
  subst h
  unfold aL
  rw [show sD (cx k (c :: r)) = (.inr (Tx.S c.nm), .int (k : Nat)) :: sD (cx (k + 1) r) from rfl, List.find?_cons, decide_eq_true rfl]
  rfl
 | c :: r, k, j + 1, hne, h => by
  simp only [List.getElem?_cons_succ] at h
  have ih := uV (es := r) (k := k + 1) (j := j) (fun j' e' h' hj => hne (j' + 1) e' (by simpa using h') (by omega)) h
  unfold aL at ih ⊢
  rw [show sD (cx k (c :: r)) = (.inr (Tx.S c.nm), .int (k : Nat)) :: sD (cx (k + 1) r) from rfl, List.find?_cons]
  rw [decide_eq_false (fun z => by injection z with z; exact hne 0 c rfl (by omega) (Tx.ki z))]
  rw [show k + (j + 1) = k + 1 + j by omega]
  exact ih
theorem zr : ∀ (es : List En) (k : Nat), (cx k es).length = es.length
 | [], _ => rfl
 | e :: r, k => by rw [show cx k (e :: r) = (Tx.S e.nm, k) :: cx (k + 1) r from rfl, List.length_cons, zr r, List.length_cons]
theorem nY : ∀ (es : List En) (k : Nat) (e : En), cx k (es ++ [e]) = cx k es ++ [(Tx.S e.nm, k + es.length)]
 | [], _, _ => rfl
 | c :: r, k, e => by
  rw [List.cons_append, show cx k (c :: (r ++ [e])) = (Tx.S c.nm, k) :: cx (k + 1) (r ++ [e]) from rfl, nY r, show cx k (c :: r) = (Tx.S c.nm, k) :: cx (k + 1) r from rfl, List.length_cons, show k + (r.length + 1) = k + 1 + r.length by omega]
  rfl
theorem FQ (es : List En) (e : En) : ({ Mk es with ts := (Mk es).ts.set 0 { bI es with aX := (bI es).aX ++ [(Tx.S e.nm, (Mk es).ts.length)] } ++ [⟨e.kd, e.ow, e.mi, e.re, e.tx, [], [(0, Tx.S e.nm)]⟩] } : Hs) = Mk (es ++ [e]) := by
 have h : cx 1 (es ++ [e]) = cx 1 es ++ [(Tx.S e.nm, (Mk es).ts.length)] := by
  rw [nY, show (Mk es).ts.length = 1 + es.length by show (bI es :: es.map En.th).length = _; rw [List.length_cons, List.length_map]; omega]
 show Hs.mk _ _ _ _ _ _ = Hs.mk (bI (es ++ [e]) :: (es ++ [e]).map En.th) _ _ _ _ _
 rw [show bI (es ++ [e]) = { bI es with aX := (bI es).aX ++ [(Tx.S e.nm, (Mk es).ts.length)] } by unfold bI; rw [h], List.map_append]
 rfl
theorem pZ {CH CS CT : Addr} {H : Hp} {A : Ad} {L : List Ta} {es : List En} {z : Str} (i : aH CH CS CT H A L (Mk es)) (hz : z ∈ fj) : ∃ a0, eG CH CS CT H A L (Mk es) z a0 (bI es) := by
 have hl : 0 < L.length := by rw [i.len]; exact Nat.succ_pos _
 refine ⟨L[0], i, rfl, rfl, ?_, List.getElem?_eq_getElem hl, rfl, rfl⟩
 simp only [fj, List.mem_cons, List.not_mem_nil, or_false] at hz
 show aL (sD lO) (.inr z) = some (.int 0)
 rcases hz with rfl | rfl | rfl <;> decide +kernel
theorem vN (es : List En) {z r : Str} (hr : dh r "lgw" = true) : dh r (cD (bI es) z) = true := by
 rw [show cD (bI es) z = "lgw" by unfold cD bI; split <;> rfl]
 exact hr
theorem MQ {CH CS CT : Addr} {H : Hp} {A : Ad} {L : List Ta} {es : List En} {z : Str} {m : Nat} (i : aH CH CS CT H A L (Mk es)) (ok : eC es) (hk : es.length < 10) (hz : z ∈ fj) (h1 : 1 ≤ m) (h8 : m ≤ 8) : ∃ a0, gM CH CS CT H A L (Mk es) z a0 (bI es) (List.replicate m (97 + es.length)) := by
 obtain ⟨a0, r⟩ := pZ i hz
 refine ⟨a0, r, uP hk h1 h8, vN es (by decide +kernel), vN es (by decide +kernel), Aj fun e he => ?_, ?_, ?_⟩
 ·obtain ⟨j, hj⟩ := List.getElem?_of_mem he
  obtain ⟨n, n1, n8, hn⟩ := ok.nm j e hj
  rw [hn]
  exact r6 n1 (by have := (List.getElem?_eq_some_iff.mp hj).1; omega)
 ·show (cx 1 es).length ≤ 400
  rw [zr]; omega
 ·rw [i.len]
  show (bI es :: es.map En.th).length ≤ 400
  rw [List.length_cons, List.length_map]; omega
theorem eC.add {es : List En} {e : En} {m : Nat} (ok : eC es) (hk : es.length < 10) (hz : e.ow ∈ fj) (h1 : 1 ≤ m) (h8 : m ≤ 8) (hn : e.nm = List.replicate m (97 + es.length)) : eC (es ++ [e]) where
 len := by rw [List.length_append, List.length_singleton]; omega
 nm := fun j c hj => by
  by_cases h : j < es.length
  ·rw [List.getElem?_append_left h] at hj
   exact ok.nm j c hj
  ·rw [List.getElem?_append_right (by omega)] at hj
   have hj0 : j - es.length = 0 := by
    rcases Nat.eq_zero_or_pos (j - es.length) with h | h
    ·exact h
    ·rw [List.getElem?_eq_none (by simp; omega)] at hj; cases hj
   rw [hj0] at hj
   cases hj
   exact ⟨m, h1, h8, by rw [hn, show j = es.length by omega]⟩
 ow := fun c hc => by
  rcases List.mem_append.mp hc with hc | hc
  ·exact ok.ow c hc
  ·rw [List.mem_singleton.mp hc]; exact hz
theorem Mi {CH CS CT : Addr} {H J : Hp} {A : Ad} {L : List Ta} {a : Ta} {M : Hs} {p : Addr} (i : aH CH CS CT J A (L ++ [a]) M) (k : Kp (A.w ++ L.flatMap Ta.l) H J) (hp : J p = none) : H p = none := by
 cases e : H p with
 | none => rfl
 | some o =>
  by_cases hm : p ∈ A.w ++ L.flatMap Ta.l
  ·obtain ⟨o, h⟩ := i.some p (by
    rw [List.flatMap_append, ← List.append_assoc]
    exact List.mem_append_left _ hm)
   rw [h] at hp; cases hp
  ·rw [k _ _ hm e] at hp; cases hp
theorem AJ {ds : List Int} (h : ds.length = 9) : ∃ d0 d1 d2 d3 d4 d5 d6 d7 d8, ds = [d0, d1, d2, d3, d4, d5, d6, d7, d8] :=
 match ds, h with
 | [d0, d1, d2, d3, d4, d5, d6, d7, d8], _ => ⟨d0, d1, d2, d3, d4, d5, d6, d7, d8, rfl⟩
theorem OE {k : Nat} (h : k < 10) : bu (Str.ofString "abcdefghij").cps.toList (k : Int) = some (97 + k) :=
 AR (P := fun k => bu (Str.ofString "abcdefghij").cps.toList (k : Int) = some (97 + k)) (by decide +kernel) (by decide +kernel) (by decide +kernel) (by decide +kernel) (by decide +kernel) (by decide +kernel) (by decide +kernel) (by decide +kernel) (by decide +kernel) (by decide +kernel) h
theorem Ji (T : Tx K mg) : aD P w K mg base aG 14 T.jc.f T.jc.d ["_law_house", "_law_digits_here", "_law_k"] (uy T.aj T.aB T.aE) := by
 have m4 := yV (P := P) (w := w) (base := base) T
 have G_make_folder := II (P := P) (w := w) (base := base) T
 have G_make_file := FZ (P := P) (w := w) (base := base) T
 have G_make_lead := DH (P := P) (w := w) (base := base) T
 refine T.jc.F.ok kb (fun vs H Q E h => ?_) (fun cdv A outer s H vs Q E hr h => ?_)
 ·unfold uy at h
  split at h
  ·rfl
  ·exact h.elim
 ·unfold uy at h
  split at h
  ·rename_i hh dl k
   obtain ⟨AA, L, es, ds, i, rfl, hd, hdl, rfl, hk, ok, q⟩ := h
   refine bK (b := aU qj) ((Dv.cut (Dv.aP 3 kb.nd (Dv.ix (ba (K := K) rfl) (Dv.lst (Dv.aa Dv.str (Dv.aa Dv.str (Dv.aa Dv.str Dv.ag)))) (Dv.op dF (Dv.ix (ba (K := K) rfl) (Dv.v 1) Dv.int) Dv.int)))
   (Dv.cut (Dv.aP 4 kb.nd (Dv.call m4 (hr.mono (by decide)) T.dq.m T.dq.F.kp T.dq.b .nil az (Dv.aa (Dv.ix (ba (K := K) rfl) (Dv.v 1) Dv.int) Dv.ag)))
   (Dv.cut (Dv.aP 5 kb.nd (Dv.call m4 (hr.mono (by decide)) T.dq.m T.dq.F.kp T.dq.b .nil az (Dv.aa (Dv.ix (ba (K := K) rfl) (Dv.v 1) Dv.int) Dv.ag)))
   (Dv.cut (Dv.aP 6 kb.nd (Dv.op dI Dv.str (Dv.op jI (Dv.ix (ba (K := K) rfl) Dv.str (Dv.v 2)) (Dv.op dI Dv.int (Dv.op dF (Dv.ix (ba (K := K) rfl) (Dv.v 1) Dv.int) Dv.int)))))
   (Dv.cut (Dv.aP 7 kb.nd (Dv.op dF (Dv.ix (ba (K := K) rfl) (Dv.v 1) Dv.int) Dv.int))
   (Dv.cut (Dv.aW (Dv.bc eJ (Dv.v 7) Dv.int) (Dv.cut (Dv.aQ (Dv.call G_make_folder (hr.mono (by decide)) T.Dk T.o1.kp T.qH .nil az (Dv.aa (Dv.v 0) (Dv.aa (Dv.v 3) (Dv.aa (Dv.v 6) (Dv.aa (Dv.v 4) (Dv.aa (Dv.v 5) Dv.ag)))))))
   (Dv.aq (Dv.aK (Dv.lst (Dv.aa Dv.str (Dv.aa (Dv.v 3) (Dv.aa (Dv.v 4) (Dv.aa (Dv.v 5) (Dv.aa Dv.str (Dv.aa (Dv.v 6) Dv.ag)))))))))) Dv.nil)
   (Dv.cut (Dv.aW (Dv.bc eJ (Dv.v 7) Dv.int) (Dv.cut (Dv.aQ (Dv.call G_make_file (hr.mono (by decide)) T.L9 T.oQ.kp T.ve .nil az (Dv.aa (Dv.v 0) (Dv.aa (Dv.v 3) (Dv.aa (Dv.v 6) (Dv.aa Dv.str (Dv.aa (Dv.v 4) (Dv.aa (Dv.v 5) Dv.ag))))))))
   (Dv.aq (Dv.aK (Dv.lst (Dv.aa Dv.str (Dv.aa (Dv.v 3) (Dv.aa (Dv.v 4) (Dv.aa (Dv.v 5) (Dv.aa Dv.str (Dv.aa (Dv.v 6) Dv.ag)))))))))) Dv.nil)
   (Dv.cut (Dv.aQ (Dv.call G_make_lead (hr.mono (by decide)) T.jH.m T.jH.F.kp T.jH.b .nil az (Dv.aa (Dv.v 0) (Dv.aa (Dv.v 3) (Dv.aa (Dv.v 6) (Dv.aa Dv.str Dv.ag))))))
   (Dv.aq (Dv.aK (Dv.lst (Dv.aa Dv.str (Dv.aa (Dv.v 3) (Dv.aa Dv.str (Dv.aa Dv.str (Dv.aa Dv.str (Dv.aa (Dv.v 6) Dv.ag)))))))))))))))))) ?_
   rw [show start ["_law_house", "_law_digits_here", "_law_k", "_law_asker", "_law_mine", "_law_rest", "_law_name", "_law_way"] [V.ref AA.a, V.ref dl, V.int (es.length : Nat)] = [some (V.ref AA.a), some (V.ref dl), some (V.int (es.length : Nat)), none, none, none, none, none] from rfl]
   obtain ⟨d0, d1, d2, d3, d4, d5, d6, d7, d8, rfl⟩ := AJ hdl
   simp only [List.map_cons, List.map_nil] at hd
   refine ai ?_
   walk_at "w"
   refine ⟨fits (by simp), fun p hp => ?_⟩
   have s1 := ao.upd (o := .lst [V.str (Str.ofString "own"), V.str (Str.ofString "bo"), V.str (Str.ofString "carla")]) hp
   have b1 : upd H p (.lst [V.str (Str.ofString "own"), V.str (Str.ofString "bo"), V.str (Str.ofString "carla")]) p = some (.lst (fj.map V.str)) := aw
   generalize upd H p (.lst [V.str (Str.ofString "own"), V.str (Str.ofString "bo"), V.str (Str.ofString "carla")]) = H1 at s1 b1 ⊢
   have hd1 := s1 _ _ hd
   simp only [bt, hd1, b1]
   simp only [yn]
   refine ⟨by decide, ?_⟩
   obtain ⟨v, hv, e⟩ := mD (xs := fj.map V.str) (n := 3) (d := d0) (by decide) rfl
   rw [e]
   obtain ⟨z, hz, rfl⟩ := List.mem_map.mp hv
   dsimp only
   clear hv e
   refine ai ?_
   walk_at "w"
   simp only [bt, hd1]
   rw [show bu [V.int d0, V.int d1, V.int d2, V.int d3, V.int d4, V.int d5, V.int d6, V.int d7, V.int d8] 1 = some (V.int d1) from rfl]
   intro mi H2 hmi s2
   have hd2 := s2 _ _ hd1
   refine ai ?_
   walk_at "w"
   simp only [bt, hd2]
   rw [show bu [V.int d0, V.int d1, V.int d2, V.int d3, V.int d4, V.int d5, V.int d6, V.int d7, V.int d8] 2 = some (V.int d2) from rfl]
   intro re H3 hre s3
   have hd3 := s3 _ _ hd2
   refine ai ?_
   walk_at "w"
   simp only [bt, hd3]
   rw [show bu [V.int d0, V.int d1, V.int d2, V.int d3, V.int d4, V.int d5, V.int d6, V.int d7, V.int d8] 3 = some (V.int d3) from rfl, OE hk]
   dsimp only
   obtain ⟨m, hm⟩ : ∃ m : Nat, 1 + d3 % 8 = (m : Int) := ⟨(1 + d3 % 8).toNat, by have := Int.emod_nonneg d3 (show (8 : Int) ≠ 0 by decide); omega⟩
   have hm1 : 1 ≤ m ∧ m ≤ 8 := by have := Int.emod_nonneg d3 (show (8 : Int) ≠ 0 by decide); have := Int.emod_lt_of_pos d3 (show (0 : Int) < 8 by decide); omega
   rw [hm, show (⟨#[97 + es.length]⟩ : Str) = Tx.S [97 + es.length] from rfl, Tx.mul_one _ _ hm1.1, show Str.ofString "/" = Tx.S [47] by decide +kernel, Tx.Dx, Tx.cw, Tx.cw, List.length_replicate]
   refine ⟨by decide +kernel, by decide, Tx.Dz _ _ (by omega), fits (by simp; omega), ?_⟩
   rw [List.singleton_append]
   have i3 := i.same ((s1.trans s2).trans s3)
   obtain ⟨a0, pr⟩ := MQ i3 ok hk hz hm1.1 hm1.2
   have a0f : a0.nm ∈ L.flatMap Ta.l := fJ pr.r.bR (by simp [Ta.l])
   have kpm : ∀ {J : Hp}, Kp [AA.t, AA.ml, a0.nm] H3 J → Kp (AA.w ++ L.flatMap Ta.l) H J := fun k => (Kp.of ((s1.trans s2).trans s3)).trans (k.more fun b hb => by
    simp only [List.mem_cons, List.not_mem_nil, or_false] at hb
    rcases hb with rfl | rfl | rfl
    ·simp [Ad.w]
    ·simp [Ad.w]
    ·exact List.mem_append_right _ a0f)
   have fin : ∀ (kd mi re tx : Str) (a : Ta) (J : Hp) (p : Addr), aH T.aj T.aB T.aE J AA (L ++ [a]) { Mk es with ts := (Mk es).ts.set 0 { bI es with aX := (bI es).aX ++ [(Tx.S (List.replicate m (97 + es.length)), (Mk es).ts.length)] } ++ [⟨kd, z, mi, re, tx, [], [(0, Tx.S (List.replicate m (97 + es.length)))]⟩] } → Kp [AA.t, AA.ml, a0.nm] H3 J → J p = none →
     Q (.ref p) (upd J p (.lst [.str kd, .str z, .str mi, .str re, .str tx, .str (Tx.S (47 :: List.replicate m (97 + es.length)))])) := fun kd mi re tx a J p iJ kJ hp => by
    refine q ⟨kd, z, mi, re, tx, List.replicate m (97 + es.length)⟩ a p _ (ok.add hk hz hm1.1 hm1.2 rfl) ?_ ((kpm kJ).trans (.of (ao.upd hp))) aw ?_
    ·rw [← FQ]
     exact iJ.same (ao.upd hp)
    ·exact Mi iJ (kpm kJ) hp
   refine ai ?_
   walk_at "w"
   simp only [bt, hd3]
   rw [show bu [V.int d0, V.int d1, V.int d2, V.int d3, V.int d4, V.int d5, V.int d6, V.int d7, V.int d8] 4 = some (V.int d4) from rfl]
   refine ⟨by decide, ai ?_⟩
   walk_at "w"
   refine fS (fun _ => ?_) (fun _ => ai ?_)
   ·refine ai ?_
    walk_at "w"
    refine ⟨AA, L, Mk es, a0, bI es, _, rfl, pr, rfl, hmi, hre, fun a H4 i4 k4 => ?_⟩
    walk_at "w"
    exact ⟨fits (by simp), fun p hp => fin _ _ _ _ a H4 p i4 k4 hp⟩
   ·walk_at "w"
    refine fS (fun _ => ?_) (fun _ => ai ?_)
    ·refine ai ?_
     walk_at "w"
     refine ⟨AA, L, Mk es, a0, bI es, _, rfl, pr, rfl, hmi, hre, by decide +kernel, fun a H4 i4 k4 => ?_⟩
     walk_at "w"
     exact ⟨fits (by simp), fun p hp => fin _ _ _ _ a H4 p i4 k4 hp⟩
    ·walk_at "w"
     refine ⟨AA, L, Mk es, a0, bI es, _, [47, 97, 47, 46, 46, 47, 98, 47], rfl, by decide +kernel, pr, rfl, by decide, by decide, by decide +kernel, fun a H4 i4 k4 => ?_⟩
     walk_at "w"
     exact ⟨fits (by simp), fun p hp => fin _ _ _ _ a H4 p i4 k4 hp⟩
  ·exact h.elim
theorem Kg {b : Bool} {A B : Prop} (h : b = false) (hb : B) : if b = true then A else B := by rw [h]; exact hb
theorem Iq {z : Str} {g : TG} {tb : TS} {D : Ends} {σ : St} {H : Hp} (Pv : Nat → St → Hp → Prop) (h0 : Pv 0 σ H)
  (hs : ∀ i c σ H, z.cps[i]? = some c → Pv i σ H → g (.str ⟨#[c]⟩) σ H fun σ2 H2 => tb { D with nx := Pv (i + 1), ct := Pv (i + 1), bk := D.nx } σ2 H2) (hd : ∀ σ H, Pv z.length σ H → D.nx σ H) : nr (lE z) g tb D σ H := by
 refine ⟨fun i m σ H => m = z.length - i ∧ i ≤ z.length ∧ Pv i σ H, ⟨z.length, by simp, Nat.zero_le _, h0⟩, ?_⟩
 rintro i m σ H ⟨rfl, hi, p⟩
 by_cases h : i < z.length
 ·refine .inr ⟨h, Pv (i + 1), fun σ' H' p' => ⟨_, by show z.length - (i + 1) < z.length - i; omega, rfl, by omega, p'⟩, ?_⟩
  rintro x H' ⟨rfl, c, hc, rfl⟩
  exact hs i c σ H' hc p
 ·exact .inl ⟨Nat.le_of_not_lt h, hd σ H (by rwa [show z.length = i by omega])⟩
def uo (CH CS CT : Addr) : Sp := fun vs H Q _ => match vs with
 | [.ref h, .int n, .ref p] => ∃ A L es, ∃ j : Nat, ∃ e, aH CH CS CT H A L (Mk es) ∧ A.a = h ∧ eC es ∧ es[j]? = some e ∧ n = ((j + 1 : Nat) : Int) ∧ H p = some (.lst (cf e)) ∧ ∀ H', ao H H' → Q (.bl true) H'
 | _ => False
theorem Ft (T : Tx K mg) : aD P w K mg base aG 5 T.jJ.f T.jJ.d ["_law_house", "_law_number", "_law_thing"] (uo T.aj T.aB T.aE) := by
 have iY := n9 (P := P) (w := w) (base := base) T
 have xg := zg (P := P) (w := w) (base := base) T
 have G_House_text_of := LL (P := P) (w := w) (base := base) T
 have G_House_rights_of := FP (P := P) (w := w) (base := base) T
 have w6 := yw (P := P) (w := w) (base := base) T
 have kC := u7 (P := P) (w := w) (base := base) T
 have G_House_names_in := LO (P := P) (w := w) (base := base) T
 have fT := pj (P := P) (w := w) (base := base) T
 refine T.jJ.F.ok fm (fun vs H Q E h => ?_) (fun cdv A outer s H vs Q E hr h => ?_)
 ·unfold uo at h
  split at h
  ·rfl
  ·exact h.elim
 ·unfold uo at h
  split at h
  ·rename_i hh n p
   obtain ⟨AA, L, es, j, e, i, rfl, ok, hj, rfl, hp, q⟩ := h
   refine bK (b := aU rJ) ((Dv.cut (Dv.sP (Dv.v 2) (Dv.LW (K := K) rfl rfl (Dv.fI (Dv.dM 3 fm.nd) (Dv.fI (Dv.dM 4 fm.nd) (Dv.fI (Dv.dM 5 fm.nd) (Dv.fI (Dv.dM 6 fm.nd) (Dv.fI (Dv.dM 7 fm.nd) (Dv.fI (Dv.dM 8 fm.nd) Dv.uG))))))))
   (Dv.cut (Dv.aW (Dv.bc (pf hr.iA) (Dv.lst (Dv.aa (Dv.aZ T.aI T.e9.h iY (hr.mono (by decide)) T.e9.b .nil az (Dv.v 0) (Dv.aa (Dv.v 1) Dv.ag)) (Dv.aa (Dv.aZ T.aI T.il.h xg (hr.mono (by decide)) T.il.b .nil az (Dv.v 0) (Dv.aa (Dv.v 1) Dv.ag)) (Dv.aa (Dv.aZ T.aI T.lN.h G_House_text_of (hr.mono (by decide)) T.lN.b .nil az (Dv.v 0) (Dv.aa (Dv.v 1) Dv.ag)) Dv.ag)))) (Dv.lst (Dv.aa (Dv.v 3) (Dv.aa (Dv.v 4) (Dv.aa (Dv.v 7) Dv.ag))))) (Dv.aq (Dv.aK Dv.bl)) Dv.nil)
   (Dv.cut (Dv.aW (Dv.dS (Dv.w_or (Dv.bc (FC hr.iA) (Dv.aZ T.aI T.lQ.h G_House_rights_of (hr.mono (by decide)) T.lQ.b .nil az (Dv.v 0) (Dv.aa (Dv.v 1) Dv.ag)) (Dv.tup (Dv.aa (Dv.v 5) (Dv.aa (Dv.v 6) Dv.ag)))) (Dv.fN (Dv.bc (Fx hr.iA) (Dv.aZ T.aI T.iE.h w6 (hr.mono (by decide)) T.iE.b .nil az (Dv.v 0) (Dv.aa (Dv.v 1) Dv.ag)) (Dv.tup (Dv.aa Dv.int (Dv.aa (Dv.slice (vA (K := K) rfl) (Dv.v 8) (Dv.sN Dv.int) Dv.qB) Dv.ag))))))) (Dv.aq (Dv.aK Dv.bl)) Dv.nil)
   (Dv.cut (Dv.aW (Dv.dS (Dv.w_or (Dv.bc sJ (Dv.aZ T.aI T.eZ.h kC (hr.mono (by decide)) T.eZ.b .nil az (Dv.v 0) (Dv.aa (Dv.v 1) (Dv.aa Dv.str Dv.ag))) Dv.au) (Dv.fN (Dv.bc (pf hr.iA) (Dv.aZ T.aI T.kX.h G_House_names_in (hr.mono (by decide)) T.kX.b .nil az (Dv.v 0) (Dv.aa (Dv.v 1) Dv.ag)) (Dv.lst Dv.ag))))) (Dv.aq (Dv.aK Dv.bl)) Dv.nil)
   (Dv.cut (Dv.aW (Dv.bc eT (Dv.aZ T.aI T.eZ.h kC (hr.mono (by decide)) T.eZ.b .nil az (Dv.v 0) (Dv.aa Dv.int (Dv.aa (Dv.slice (vA (K := K) rfl) (Dv.v 8) (Dv.sN Dv.int) Dv.qB) Dv.ag))) (Dv.v 1)) (Dv.aq (Dv.aK Dv.bl)) Dv.nil)
   (Dv.cut (Dv.jk PassesOwn.never rfl (Dv.oY (K := K) rfl (Dv.lst (Dv.aa Dv.str (Dv.aa Dv.str (Dv.aa Dv.str Dv.ag))))) (Dv.dM 9 fm.nd) (Dv.aq (Dv.jk PassesOwn.never rfl (Dv.xQ Dv.str) (Dv.dM 10 fm.nd) (Dv.cut (Dv.aP 11 fm.nd (Dv.cmp (oZ (K := K) rfl) (Dv.v 10) (Dv.ix (ba (K := K) rfl) (Dv.lst (Dv.aa (Dv.v 6) (Dv.aa (Dv.v 5) Dv.ag))) (Dv.By GJ T.Ab Ak (Dv.aa (Dv.cmp eJ (Dv.v 9) (Dv.v 4)) Dv.ag)))))
   (Dv.cut (Dv.aP 12 fm.nd (Dv.bU T.aI T.cT.h fT (hr.mono (by decide)) T.cT.b .nil ck (Dv.v 0) (Dv.aa (Dv.v 9) (Dv.aa (Dv.v 1) (Dv.aa (Dv.v 10) Dv.ag)))))
   (Dv.aq (Dv.aW (Dv.dS (Dv.w_or (Dv.cH (Dv.cE (Dv.bB gr T.cy cA (Dv.aa (Dv.v 12) (Dv.aa (Dv.fD (.ty "bool") T.g_bool zW rfl) Dv.ag))))) (Dv.fN (Dv.bc eT (Dv.v 12) (Dv.v 11))))) (Dv.aq (Dv.aK Dv.bl)) Dv.nil)))))))
   (Dv.aq (Dv.aK Dv.bl))))))))) ?_
   rw [show start ["_law_house", "_law_number", "_law_thing", "_law_kind", "_law_owner", "_law_mine", "_law_rest", "_law_text", "_law_name", "_law_asker", "_law_sign", "_law_due", "_law_found"] [V.ref AA.a, V.int ((j + 1 : Nat) : Int), V.ref p] = [some (V.ref AA.a), some (V.int ((j + 1 : Nat) : Int)), some (V.ref p), none, none, none, none, none, none, none, none, none, none] from rfl]
   refine ai ?_
   walk_at "w"
   have ht : (Mk es).ts[j + 1]? = some e.th := by
    show (bI es :: es.map En.th)[j + 1]? = some e.th
    rw [List.getElem?_cons_succ, List.getElem?_map, hj]; rfl
   obtain ⟨a, ha, _⟩ := i.th (j + 1) e.th ht
   refine ⟨p, _, rfl, aJ.of hp, rfl, _, _, rfl, _, _, rfl, _, _, rfl, _, _, rfl, _, _, rfl, _, _, rfl, rfl, ai ?_⟩
   obtain ⟨gfs, gc, gh, ghl, gsf⟩ := i.h
   walk_at "w"
   refine ⟨AA.a, _, _, rfl, gh, (gsf _).trans rfl, AA, L, Mk es, j + 1, a, e.th, i, rfl, rfl, ha, ht, ?_⟩
   refine ⟨AA.a, _, _, rfl, gh, (gsf _).trans rfl, AA, L, Mk es, j + 1, a, e.th, i, rfl, rfl, ha, ht, ?_⟩
   refine ⟨AA.a, _, _, rfl, gh, (gsf _).trans rfl, AA, L, Mk es, j + 1, a, e.th, i, rfl, rfl, ha, ht, ?_⟩
   refine ⟨fits (by simp), fun p1 hp1 => ⟨fits (by simp), fun p2 hp2 => ?_⟩⟩
   have n12 : p1 ≠ p2 := aC aw hp2
   have s1 := (ao.upd hp1).trans (ao.upd (o := .lst [V.str e.kd, V.str e.ow, V.str e.tx]) hp2)
   have b1 : upd (upd H p1 (.lst [V.str e.th.kd, V.str e.th.ow, V.str e.th.tx])) p2 (.lst [V.str e.kd, V.str e.ow, V.str e.tx]) p1 = some (.lst [V.str e.kd, V.str e.ow, V.str e.tx]) := by rw [ah n12, aw]; rfl
   have b2 : upd (upd H p1 (.lst [V.str e.th.kd, V.str e.th.ow, V.str e.th.tx])) p2 (.lst [V.str e.kd, V.str e.ow, V.str e.tx]) p2 = some (.lst [V.str e.kd, V.str e.ow, V.str e.tx]) := aw
   generalize upd (upd H p1 (.lst [V.str e.th.kd, V.str e.th.ow, V.str e.th.tx])) p2 (.lst [V.str e.kd, V.str e.ow, V.str e.tx]) = H1 at s1 b1 b2 ⊢
   refine ⟨[e.kd, e.ow, e.tx], [e.kd, e.ow, e.tx], b1, b2, ?_⟩
   rw [decide_eq_true rfl]
   refine aS (ai ?_)
   clear b1 b2 n12 hp1 hp2
   have i1 := i.same s1
   have gh1 := s1 _ _ gh
   walk_at "w"
   refine ⟨AA.a, _, _, rfl, gh1, (gsf _).trans rfl, AA, L, Mk es, j + 1, a, e.th, i1, rfl, rfl, ha, ht, fun l1 fb => ?_⟩
   refine ⟨fits (by simp), fun p2 hp2 => ?_⟩
   have n12 : l1 ≠ p2 := aC aw hp2
   have s2 := (ao.upd fb).trans (ao.upd (o := .tup [V.str e.mi, V.str e.re]) hp2)
   have b1 : upd (upd H1 l1 (.tup [V.str e.th.mi, V.str e.th.re])) p2 (.tup [V.str e.mi, V.str e.re]) l1 = some (.tup [V.str e.mi, V.str e.re]) := by rw [ah n12, aw]; rfl
   have b2 : upd (upd H1 l1 (.tup [V.str e.th.mi, V.str e.th.re])) p2 (.tup [V.str e.mi, V.str e.re]) p2 = some (.tup [V.str e.mi, V.str e.re]) := aw
   generalize upd (upd H1 l1 (.tup [V.str e.th.mi, V.str e.th.re])) p2 (.tup [V.str e.mi, V.str e.re]) = H2 at s2 b1 b2 ⊢
   refine ⟨[e.mi, e.re], [e.mi, e.re], b1, b2, rfl, ?_⟩
   rw [decide_eq_true rfl]
   refine aS ?_
   clear b1 b2 n12 fb hp2
   have i2 := i1.same s2
   have gh2 := s2 _ _ gh1
   refine ⟨AA.a, _, _, rfl, gh2, (gsf _).trans rfl, AA, L, Mk es, j + 1, a, e.th, i2, rfl, rfl, ha, ht, .inr ⟨0, Tx.S e.nm, rfl, fun p1 hp1 => ?_⟩⟩
   have hjl : j < 10 := by have := (List.getElem?_eq_some_iff.mp hj).1; have := ok.len; omega
   obtain ⟨n, n1, n8, hn⟩ := ok.nm j e hj
   have hnm : isNm e.nm = true := by rw [hn]; exact uP hjl n1 n8
   have hnl : e.nm.length ≤ 8 := by rw [hn, List.length_replicate]; exact n8
   have sl : Txt.slice (Tx.S (47 :: e.nm)) (some 1) none = Tx.S e.nm := Tx.LS (47 :: e.nm) 1 (by simp)
   have kK : (Tx.S (47 :: e.nm)).length ≤ sizeLine := by rw [Tx.cw]; exact fits (by simp; omega)
   refine ⟨kK, ?_⟩
   rw [sl]
   refine ⟨fits (by simp), fun p2 hp2 => ?_⟩
   have s3 := ao.upd (o := .tup [V.int 0, V.str (Tx.S e.nm)]) hp2
   have b2 : upd H2 p2 (.tup [V.int 0, V.str (Tx.S e.nm)]) p2 = some (.tup [V.int 0, V.str (Tx.S e.nm)]) := aw
   generalize upd H2 p2 (.tup [V.int 0, V.str (Tx.S e.nm)]) = H3 at s3 b2 ⊢
   refine ⟨_, _, s3 _ _ hp1, b2, rfl, rfl, rfl, fun i h1 h2 => ?_, aS (ai ?_)⟩
   ·match i, h1 with
    | 0, _ => rfl
    | 1, _ => exact beq_self_eq_true (Tx.S e.nm)
   clear b2 hp1 hp2
   have i3 := i2.same s3
   have gh3 := s3 _ _ gh2
   walk_at "w"
   refine ⟨AA.a, _, _, rfl, gh3, (gsf _).trans rfl, AA, L, Mk es, j + 1, a, e.th, i3, rfl, rfl, ha, ht, by decide +kernel, by decide +kernel, fun H4 s4 => ⟨trivial, aS ?_⟩⟩
   have i4 := i3.same s4
   have gh4 := s4 _ _ gh3
   refine ⟨AA.a, _, _, rfl, gh4, (gsf _).trans rfl, AA, L, Mk es, j + 1, a, e.th, i4, rfl, rfl, ha, ht, Nat.succ_pos _, fun l1 fb => ⟨fits (by simp), fun l2 dE => ?_⟩⟩
   rw [show List.map V.str (d9 (List.map (fun x => x.fst) e.th.aX)) = [] by rw [show e.th.aX = [] from rfl]; unfold d9; simp] at dE ⊢
   have n12 : l1 ≠ l2 := aC aw dE
   have s5 := (ao.upd (o := .lst []) fb).trans (ao.upd (o := .lst []) dE)
   have b1 : upd (upd H4 l1 (.lst [])) l2 (.lst []) l1 = some (.lst []) := by rw [ah n12, aw]
   have b2 : upd (upd H4 l1 (.lst [])) l2 (.lst []) l2 = some (.lst []) := aw
   generalize upd (upd H4 l1 (.lst [])) l2 (.lst []) = H5 at s5 b1 b2 ⊢
   refine ⟨[], [], b1, b2, aS (ai ?_)⟩
   clear b1 b2 n12 fb dE
   have i5 := i4.same s5
   have gh5 := s5 _ _ gh4
   obtain ⟨a0, r0⟩ := pZ i5 (z := "own") (by decide +kernel)
   have pR : aL (sD (bI es).aX) (.inr (Tx.S e.nm)) = some (.int ((j + 1 : Nat) : Int)) := by
    rw [show j + 1 = 1 + j by omega]
    exact uV (fun j' e' h' hlt => by
     obtain ⟨n', n1', n8', hn'⟩ := ok.nm j' e' h'
     rw [hn', hn]
     exact r6 n1' (by omega)) hj
   walk_at "w"
   refine ⟨AA.a, _, _, rfl, gh5, (gsf _).trans rfl, kK, ?_⟩
   rw [sl]
   refine ⟨AA, L, Mk es, 0, a0, bI es, i5, rfl, rfl, r0.bR, r0.bN, pE hnm, by rw [Tx.cw]; omega, fun H6 s6 => ?_⟩
   rw [pR]
   dsimp only [Option.getD]
   rw [decide_eq_true rfl]
   refine aS (ai ?_)
   have i6 := i5.same s6
   have sA := ((((s1.trans s2).trans s3).trans s4).trans s5).trans s6
   clear pR r0 a0 i5 gh5 i4 gh4 i3 gh3 i2 gh2 i1 gh1
   walk_at "w"
   refine ⟨fits (by simp), fun l1 fb => ?_⟩
   have s7 := ao.upd (o := .lst [V.str (Str.ofString "own"), V.str (Str.ofString "bo"), V.str (Str.ofString "carla")]) fb
   have b7 : upd H6 l1 (.lst [V.str (Str.ofString "own"), V.str (Str.ofString "bo"), V.str (Str.ofString "carla")]) l1 = some (.lst (fj.map V.str)) := aw
   generalize upd H6 l1 (.lst [V.str (Str.ofString "own"), V.str (Str.ofString "bo"), V.str (Str.ofString "carla")]) = H7 at s7 b7 ⊢
   have i7 := i6.same s7
   refine ⟨⟨_, aJ.of b7⟩, Av (xs := fj.map V.str) (fun _ σ' H' => ao H7 H' ∧ ∃ t9 t10 t11 t12, σ' = [some (V.ref AA.a), some (V.int ((j + 1 : Nat) : Int)), some (V.ref p), some (V.str e.kd), some (V.str e.ow), some (V.str e.mi), some (V.str e.re), some (V.str e.tx), some (V.str (Tx.S (47 :: e.nm))), t9, t10, t11, t12]) ⟨ao.refl _, _, _, _, _, rfl⟩ (fun _ _ _ _ h => aJ.of (h.1 _ _ b7)) ?_ (fun σ' H' h => ?_)⟩
   ·rintro k x σ' H8 hx ⟨s8, t9, t10, t11, t12, rfl⟩
    obtain ⟨z, hz, rfl⟩ := List.mem_map.mp (List.mem_of_getElem? hx)
    walk_at "w"
    refine Iq (fun _ σ' H' => ao H7 H' ∧ ∃ t10 t11 t12, σ' = [some (V.ref AA.a), some (V.int ((j + 1 : Nat) : Int)), some (V.ref p), some (V.str e.kd), some (V.str e.ow), some (V.str e.mi), some (V.str e.re), some (V.str e.tx), some (V.str (Tx.S (47 :: e.nm))), some (V.str z), t10, t11, t12]) ⟨s8, _, _, _, rfl⟩ ?_ (fun σ' H' ⟨s', a, b, c, e⟩ => ⟨s', _, _, _, _, e⟩)
    rintro m c σ' H9 hc ⟨s9, t10, t11, t12, rfl⟩
    have hs : ei (.str ⟨#[c]⟩) = true := by
     rw [show (Str.ofString "lgw").cps = #[108, 103, 119] by decide +kernel] at hc
     rcases m with _ | _ | _ | m
     ·have : some 108 = some c := hc
      cases this; decide +kernel
     ·have : some 103 = some c := hc
      cases this; decide +kernel
     ·have : some 119 = some c := hc
      cases this; decide +kernel
     ·simp at hc
    walk_at "w"
    refine ai ?_
    walk_at "w"
    refine ⟨fits (by simp), fun p1 hp1 => ?_⟩
    simp only [bt, aw]
    have s10 := ao.upd (o := .lst [V.str e.re, V.str e.mi]) hp1
    generalize upd H9 p1 (.lst [V.str e.re, V.str e.mi]) = H10 at s10 ⊢
    have hat : bu [V.str e.re, V.str e.mi] (if decide (z = e.ow) = true then 1 else 0) = some (V.str (cD e.th z)) := by
     unfold cD
     by_cases h : z = e.ow
     ·rw [if_pos (decide_eq_true h), if_pos (show z = e.th.ow from h)]; rfl
     ·rw [if_neg (by simpa using h), if_neg (show ¬ z = e.th.ow from h)]; rfl
    rw [hat]
    dsimp only
    refine ai ?_
    walk_at "w"
    have i10 := i7.same (s9.trans s10)
    obtain ⟨kfs, kc, kh, khl, ksf⟩ := i10.h
    refine ⟨AA.a, _, _, rfl, kh, (ksf _).trans rfl, vy i10 ?_ hs ht ?_⟩
    ·show (aL (sD lO) (.inr z)).isSome = true
     simp only [fj, List.mem_cons, List.not_mem_nil, or_false] at hz
     rcases hz with rfl | rfl | rfl <;> decide +kernel
    ·refine ⟨by decide, ?_⟩
     refine aS (Kg (by
      show (!decide (dh ⟨#[c]⟩ (cD e.th z) = dh ⟨#[c]⟩ (cD e.th z))) = false
      rw [decide_eq_true rfl]; rfl) ?_)
     exact ⟨s9.trans s10, _, _, _, rfl⟩
   ·obtain ⟨s8, t9, t10, t11, t12, rfl⟩ := h
    walk_at "w"
    exact q H' ((sA.trans s7).trans s8)
  ·exact h.elim
abbrev nJ : List V := [V.str (Str.ofString "asker"), V.str (Str.ofString "deed"), V.str (Str.ofString "hold"), V.str (Str.ofString "name"), V.str (Str.ofString "path"), V.str (Str.ofString "rights"), V.str (Str.ofString "row"), V.str (Str.ofString "text"), V.str (Str.ofString "thing"), V.str (Str.ofString "tree"), V.str (Str.ofString "way")]
structure jx (T : Tx K mg) (C : Addr) (wd : Str) : Prop where
 ex : jC K C
 k : ∃ b0 b1 b2 b3 b4 b5 b6 b7 b8 b9 b10 : Bool, PySem.W.kitOne K (.ref C) (.ref T.bC) = some b0 ∧ PySem.W.kitOne K (.ref C) (.ref T.kq) = some b1 ∧ PySem.W.kitOne K (.ref C) (.ref T.kG) = some b2 ∧ PySem.W.kitOne K (.ref C) (.ref T.kx) = some b3 ∧ PySem.W.kitOne K (.ref C) (.ref T.km) = some b4 ∧ PySem.W.kitOne K (.ref C) (.ref T.bH) = some b5 ∧ PySem.W.kitOne K (.ref C) (.ref T.kI) = some b6 ∧ PySem.W.kitOne K (.ref C) (.ref T.kF) = some b7 ∧ PySem.W.kitOne K (.ref C) (.ref T.bD) = some b8 ∧ PySem.W.kitOne K (.ref C) (.ref T.ko) = some b9 ∧ PySem.W.kitOne K (.ref C) (.ref T.ku) = some b10 ∧ ((([V.bl b0, V.bl b1, V.bl b2, V.bl b3, V.bl b4, V.bl b5, V.bl b6, V.bl b7, V.bl b8, V.bl b9, V.bl b10]).zip nJ).filter fun z => (fun (x _ : V) => match x with | .bl b => b | _ => false) z.1 z.2).map (fun z => (fun (_ y : V) => y) z.1 z.2) = [V.str wd]
 v : PySem.W.kitOne K (.ref C) (.type "ValueError") = some true
 sub : PySem.W.subIn K (.ref C) (.ref T.iZ) = some true
 nd : wd ≠ Str.ofString "deed"
theorem Lf (T : Tx K mg) : jx T T.bC "asker" := ⟨⟨T.NS, T.Fv, T.NO, T.Lr, T.La, T.FO, T.J9⟩, ⟨true, false, false, false, false, false, false, false, false, false, false, T.Nz, T.JY, T.D5, T.NJ, T.Mg, T.Hu, T.Ot, T.LM, T.HZ, T.E4, T.JG, by decide +kernel⟩, T.Di, T.Eu, by decide +kernel⟩
theorem za (T : Tx K mg) : jx T T.bH "rights" := ⟨⟨T.Oh, T.JN, T.MM, T.FN, T.FG, T.DG, T.Ny⟩, ⟨false, false, false, false, false, true, false, false, false, false, false, T.HV, T.Gx, T.Lp, T.K6, T.DL, T.Hk, T.Hw, T.Md, T.M9, T.Fi, T.KG, by decide +kernel⟩, T.IT, T.FF, by decide +kernel⟩
theorem NG (T : Tx K mg) : jx T T.bD "thing" := ⟨⟨T.IS, T.E1, T.MN, T.Ki, T.Lz, T.Ec, T.Jh⟩, ⟨false, false, false, false, false, false, false, false, true, false, false, T.GV, T.Jj, T.EL, T.EM, T.Ms, T.Ig, T.Dj, T.LZ, T.Gb, T.Fd, T.LF, by decide +kernel⟩, T.JF, T.OD, by decide +kernel⟩
def Ju (sk : Addr → Str → Prop) (bA : dj) : dj := fun H Q _ =>
 bA H (fun _ _ => False) fun C od H' => ∃ c wd, C = .ref c ∧ od = none ∧ sk c wd ∧ ∀ H2, ao H' H2 → Q (.str wd) H2
theorem Iz (T : Tx K mg) : mw P w K mg base (bJ P w) 9 T.du.f T.du.d ["_law_deed"] (ra P w K mg base 8 (Ju (jx T))) := by
 refine T.du.F.IK fG (fun outer s vs H Q E h => ?_) (fun cdv A outer s H vs Q E hr h => ?_)
 ·obtain ⟨f, B, bA, rfl, _⟩ := h
  rfl
 ·obtain ⟨fl, B, bA, rfl, D0, hB, hf, hbf, hsp⟩ := h
  have D := D0.m
  refine ⟨_, ((Dv.cut (Dv.aP 1 fG.nd Dv.au)
   (Dv.cut (Dv.D9 2 (K := K) rfl ⟨rfl, rfl, rfl⟩ fG.nd T.JV T.Lq T.OG (fun _ _ => by exact (Dv.aq (Dv.aQ (Dv.Mq 0 D hB hf hbf (hr.mono (by decide)) KU)))) (fun _ => by exact (Dv.aq (Dv.aP 1 fG.nd (Dv.v 2)))))
   (Dv.cut (Dv.aW (Dv.bc nU (Dv.v 1) Dv.au) (Dv.aq (Dv.aK Dv.str)) Dv.nil)
   (Dv.cut (Dv.aP 3 fG.nd (Dv.lst (Dv.aa (Dv.bB (ef (K := K) rfl) T.cy cA (Dv.aa (Dv.v 1) (Dv.aa (Dv.glob (.ref T.bC) T.zo rfl) Dv.ag))) (Dv.aa (Dv.bB (ef (K := K) rfl) T.cy cA (Dv.aa (Dv.v 1) (Dv.aa (Dv.glob (.ref T.kq) T.HY rfl) Dv.ag))) (Dv.aa (Dv.bB (ef (K := K) rfl) T.cy cA (Dv.aa (Dv.v 1) (Dv.aa (Dv.glob (.ref T.kG) T.DN rfl) Dv.ag))) Dv.ag)))))
   (Dv.cut (Dv.aP 3 fG.nd (Dv.op dI (Dv.v 3) (Dv.lst (Dv.aa (Dv.bB (ef (K := K) rfl) T.cy cA (Dv.aa (Dv.v 1) (Dv.aa (Dv.glob (.ref T.kx) T.E3 rfl) Dv.ag))) (Dv.aa (Dv.bB (ef (K := K) rfl) T.cy cA (Dv.aa (Dv.v 1) (Dv.aa (Dv.glob (.ref T.km) T.NM rfl) Dv.ag))) (Dv.aa (Dv.bB (ef (K := K) rfl) T.cy cA (Dv.aa (Dv.v 1) (Dv.aa (Dv.glob (.ref T.bH) T.Bg rfl) Dv.ag))) Dv.ag))))))
   (Dv.cut (Dv.aP 3 fG.nd (Dv.op dI (Dv.v 3) (Dv.lst (Dv.aa (Dv.bB (ef (K := K) rfl) T.cy cA (Dv.aa (Dv.v 1) (Dv.aa (Dv.glob (.ref T.kI) T.Fj rfl) Dv.ag))) (Dv.aa (Dv.bB (ef (K := K) rfl) T.cy cA (Dv.aa (Dv.v 1) (Dv.aa (Dv.glob (.ref T.kF) T.Fq rfl) Dv.ag))) (Dv.aa (Dv.bB (ef (K := K) rfl) T.cy cA (Dv.aa (Dv.v 1) (Dv.aa (Dv.glob (.ref T.bD) T.yZ rfl) Dv.ag))) Dv.ag))))))
   (Dv.cut (Dv.aP 3 fG.nd (Dv.op dI (Dv.v 3) (Dv.lst (Dv.aa (Dv.bB (ef (K := K) rfl) T.cy cA (Dv.aa (Dv.v 1) (Dv.aa (Dv.glob (.ref T.ko) T.Ha rfl) Dv.ag))) (Dv.aa (Dv.bB (ef (K := K) rfl) T.cy cA (Dv.aa (Dv.v 1) (Dv.aa (Dv.glob (.ref T.ku) T.Gw rfl) Dv.ag))) Dv.ag)))))
   (Dv.cut (Dv.aP 4 fG.nd (Dv.lst (Dv.aa Dv.str (Dv.aa Dv.str (Dv.aa Dv.str (Dv.aa Dv.str (Dv.aa Dv.str (Dv.aa Dv.str (Dv.aa Dv.str (Dv.aa Dv.str (Dv.aa Dv.str (Dv.aa Dv.str (Dv.aa Dv.str Dv.ag)))))))))))))
   (Dv.cut (Dv.Dp 5 rfl fG.nd (TN := ["_law_kind", "_law_word"]) (caps := []) (ix := []) (Dv.Jx (K := K) rfl T.Jk (Dv.aa (Dv.v 3) (Dv.aa (Dv.v 4) Dv.ag))) (fun _ _ _ _ => by exact (Dv.BI (Dv.cE (Dv.v 0)))) (fun _ _ _ _ => by exact (Dv.yQ (K := K) (n := 2) rfl rfl (Dv.fI (Dv.dM 0 (show List.Nodup (["_law_kind", "_law_word"] : List Str) by decide)) (Dv.fI (Dv.dM 1 (show List.Nodup (["_law_kind", "_law_word"] : List Str) by decide)) Dv.uG)))) (fun _ _ _ _ => by exact (Dv.v 1)) (.of rfl (by exact trivial) (by (repeat (first | exact trivial | (refine ⟨fun z => (by first | exact ⟨_, rfl⟩ | (rcases z with z | z <;> cases z)), ?_⟩)))) rfl (by exact trivial)))
   (Dv.cut (Dv.aW (Dv.dS (Dv.w_or (Dv.bc eT (Dv.bB (g9 (K := K) rfl) T.fZ PySem.boot_len (Dv.aa (Dv.v 5) Dv.ag)) Dv.int) (Dv.fN (Dv.cH (Dv.cE (Dv.bB (ef (K := K) rfl) T.cy cA (Dv.aa (Dv.v 1) (Dv.aa (Dv.fD (.ty "ValueError") T.NF FH rfl) Dv.ag)))))))) (Dv.aq Dv.bw) Dv.nil)
   (Dv.cut (Dv.aW (Dv.bc eJ (Dv.ix (ba (K := K) rfl) (Dv.v 5) Dv.int) Dv.str) (Dv.aq Dv.bw) Dv.nil)
   (Dv.aq (Dv.aK (Dv.ix (ba (K := K) rfl) (Dv.v 5) Dv.int))))))))))))))).h, ?_⟩
  rw [show start ["_law_deed", "_law_error", "e", "_law_kinds", "_law_words", "_law_found"] [V.ref fl] = [some (.ref fl), none, none, none, none, none] from rfl]
  refine ai ?_
  walk_at "w"
  refine fM (fun σ' H' => ∃ ea t c wd, σ' = [some (.ref fl), some (.ref ea), t, none, none, none] ∧ H' ea = some (gZ ea c none) ∧ jx T c wd ∧ ∀ H2, ao H' H2 → Q (.str wd) H2) ?_ ?_
  ·walk_at "w"
   refine ⟨fun σ' C od H' => σ' = [some (.ref fl), some .au, none, none, none, none] ∧ ∃ c wd, C = .ref c ∧ od = none ∧ jx T c wd ∧ ∀ H2, ao H' H2 → Q (.str wd) H2, ?_, ?_⟩
   ·exact ⟨trivial, _, _, hsp, fun v H' z => z.elim, fun C od H' z => ⟨rfl, z⟩⟩
   ·rintro σ' C od H' ⟨rfl, c, wd, e, rfl, sk, z⟩
    cases e
    refine ⟨sk.sub, fun ea hea => ?_⟩
    walk_at "w"
    exact ⟨ea, _, _, wd, rfl, aw, sk, fun H2 s2 => z H2 ((ao.upd hea).trans s2)⟩
  ·rintro σ' H0 ⟨ea, t, c, wd, rfl, he0, sk, z⟩
   have ty : ∀ {J : Hp}, J ea = some (gZ ea c none) → jf K J (.ref ea) (.ref c) true := fun e => jf.exc e sk.ex
   obtain ⟨b0, b1, b2, b3, b4, b5, b6, b7, b8, b9, b10, k0, k1, k2, k3, k4, k5, k6, k7, k8, k9, k10, hz⟩ := sk.k
   refine ai ?_
   walk_at "w"
   refine ⟨trivial, ?_⟩
   rw [decide_eq_false (by nofun)]
   refine aS ?_
   refine ai ?_
   walk_at "w"
   refine ⟨_, _, _, ty he0, .cls k0, _, _, _, ty he0, .cls k1, _, _, _, ty he0, .cls k2, fits (by simp), fun p0 hp0 => ?_⟩
   have s0 := ao.upd (o := .lst [V.bl b0, V.bl b1, V.bl b2]) hp0
   have l0 : upd H0 p0 (.lst [V.bl b0, V.bl b1, V.bl b2]) p0 = some (.lst [V.bl b0, V.bl b1, V.bl b2]) := aw
   generalize upd H0 p0 (.lst [V.bl b0, V.bl b1, V.bl b2]) = J0 at s0 l0 ⊢
   have he1 := s0 _ _ he0
   refine ai ?_
   walk_at "w"
   refine ⟨_, _, _, ty he1, .cls k3, _, _, _, ty he1, .cls k4, _, _, _, ty he1, .cls k5, fits (by simp), fun p1 hp1 => ?_⟩
   have s1 := ao.upd (o := .lst [V.bl b3, V.bl b4, V.bl b5]) hp1
   have l1 : upd J0 p1 (.lst [V.bl b3, V.bl b4, V.bl b5]) p1 = some (.lst [V.bl b3, V.bl b4, V.bl b5]) := aw
   generalize upd J0 p1 (.lst [V.bl b3, V.bl b4, V.bl b5]) = J1 at s1 l1 ⊢
   simp only [s1 _ _ l0, l1]
   refine ⟨fits (by simp), fun p2 hp2 => ?_⟩
   have s2 := ao.upd (o := .lst [V.bl b0, V.bl b1, V.bl b2, V.bl b3, V.bl b4, V.bl b5]) hp2
   have l2 : upd J1 p2 (.lst [V.bl b0, V.bl b1, V.bl b2, V.bl b3, V.bl b4, V.bl b5]) p2 = some (.lst [V.bl b0, V.bl b1, V.bl b2, V.bl b3, V.bl b4, V.bl b5]) := aw
   simp only [List.cons_append, List.nil_append] at hp2 ⊢
   generalize upd J1 p2 (.lst [V.bl b0, V.bl b1, V.bl b2, V.bl b3, V.bl b4, V.bl b5]) = J2 at s2 l2 ⊢
   have he2 := s2 _ _ (s1 _ _ he1)
   refine ai ?_
   walk_at "w"
   refine ⟨_, _, _, ty he2, .cls k6, _, _, _, ty he2, .cls k7, _, _, _, ty he2, .cls k8, fits (by simp), fun p3 hp3 => ?_⟩
   have s3 := ao.upd (o := .lst [V.bl b6, V.bl b7, V.bl b8]) hp3
   have l3 : upd J2 p3 (.lst [V.bl b6, V.bl b7, V.bl b8]) p3 = some (.lst [V.bl b6, V.bl b7, V.bl b8]) := aw
   generalize upd J2 p3 (.lst [V.bl b6, V.bl b7, V.bl b8]) = J3 at s3 l3 ⊢
   simp only [s3 _ _ l2, l3]
   refine ⟨fits (by simp), fun p4 hp4 => ?_⟩
   have s4 := ao.upd (o := .lst [V.bl b0, V.bl b1, V.bl b2, V.bl b3, V.bl b4, V.bl b5, V.bl b6, V.bl b7, V.bl b8]) hp4
   have l4 : upd J3 p4 (.lst [V.bl b0, V.bl b1, V.bl b2, V.bl b3, V.bl b4, V.bl b5, V.bl b6, V.bl b7, V.bl b8]) p4 = some (.lst [V.bl b0, V.bl b1, V.bl b2, V.bl b3, V.bl b4, V.bl b5, V.bl b6, V.bl b7, V.bl b8]) := aw
   simp only [List.cons_append, List.nil_append] at hp4 ⊢
   generalize upd J3 p4 (.lst [V.bl b0, V.bl b1, V.bl b2, V.bl b3, V.bl b4, V.bl b5, V.bl b6, V.bl b7, V.bl b8]) = J4 at s4 l4 ⊢
   have he3 := s4 _ _ (s3 _ _ he2)
   refine ai ?_
   walk_at "w"
   refine ⟨_, _, _, ty he3, .cls k9, _, _, _, ty he3, .cls k10, fits (by simp), fun p5 hp5 => ?_⟩
   have s5 := ao.upd (o := .lst [V.bl b9, V.bl b10]) hp5
   have l5 : upd J4 p5 (.lst [V.bl b9, V.bl b10]) p5 = some (.lst [V.bl b9, V.bl b10]) := aw
   generalize upd J4 p5 (.lst [V.bl b9, V.bl b10]) = J5 at s5 l5 ⊢
   simp only [s5 _ _ l4, l5]
   refine ⟨fits (by simp), fun p6 hp6 => ?_⟩
   have s6 := ao.upd (o := .lst [V.bl b0, V.bl b1, V.bl b2, V.bl b3, V.bl b4, V.bl b5, V.bl b6, V.bl b7, V.bl b8, V.bl b9, V.bl b10]) hp6
   have l6 : upd J5 p6 (.lst [V.bl b0, V.bl b1, V.bl b2, V.bl b3, V.bl b4, V.bl b5, V.bl b6, V.bl b7, V.bl b8, V.bl b9, V.bl b10]) p6 = some (.lst [V.bl b0, V.bl b1, V.bl b2, V.bl b3, V.bl b4, V.bl b5, V.bl b6, V.bl b7, V.bl b8, V.bl b9, V.bl b10]) := aw
   simp only [List.cons_append, List.nil_append] at hp6 ⊢
   generalize upd J5 p6 (.lst [V.bl b0, V.bl b1, V.bl b2, V.bl b3, V.bl b4, V.bl b5, V.bl b6, V.bl b7, V.bl b8, V.bl b9, V.bl b10]) = J6 at s6 l6 ⊢
   have he4 := s6 _ _ (s5 _ _ he3)
   refine ai ?_
   walk_at "w"
   refine ⟨fits (by simp), fun p7 hp7 => ?_⟩
   have s7 := ao.upd (o := .lst nJ) hp7
   have l7 : upd J6 p7 (.lst nJ) p7 = some (.lst nJ) := aw
   generalize upd J6 p7 (.lst [V.str (Str.ofString "asker"), V.str (Str.ofString "deed"), V.str (Str.ofString "hold"), V.str (Str.ofString "name"), V.str (Str.ofString "path"), V.str (Str.ofString "rights"), V.str (Str.ofString "row"), V.str (Str.ofString "text"), V.str (Str.ofString "thing"), V.str (Str.ofString "tree"), V.str (Str.ofString "way")]) = J7 at s7 l7 ⊢
   have he5 := s7 _ _ he4
   have l6' := s7 _ _ l6
   refine ai ?_
   refine M3 (l1 := p6) (l2 := p7) (fun x _ => match x with | .bl b => b | _ => false) (fun _ y => y) (fun R z => ?_) (aJ.of l6') (aJ.of l7) rfl (fits (by simp)) (fun x y hm J R z => ?_) (fun x y hm J R z => ?_) (fun J s8 p8 hp8 => ?_)
   ·walk_at "w"
    exact z
   ·obtain ⟨b, rfl⟩ : ∃ b, x = V.bl b := by
     have := (List.of_mem_zip hm).1
     simp only [List.mem_cons, List.not_mem_nil, or_false] at this
     rcases this with rfl | rfl | rfl | rfl | rfl | rfl | rfl | rfl | rfl | rfl | rfl <;> exact ⟨_, rfl⟩
    walk_at "w"
    exact z
   ·walk_at "w"
    exact z
   rw [hz]
   have s9 := s8.trans (ao.upd (o := .lst [V.str wd]) hp8)
   have l8 : upd J p8 (.lst [V.str wd]) p8 = some (.lst [V.str wd]) := aw
   generalize upd J p8 (.lst [V.str wd]) = J8 at s9 l8 ⊢
   have he6 := s9 _ _ he5
   have sA : ao H0 J8 := s0.trans (s1.trans (s2.trans (s3.trans (s4.trans (s5.trans (s6.trans (s7.trans s9)))))))
   refine ai ?_
   walk_at "w"
   simp only [bt, l8]
   refine aS ⟨_, _, _, ty he6, .ty sk.v, aS ?_⟩
   refine ai ?_
   walk_at "w"
   simp only [bt, l8, yn]
   rw [decide_eq_false sk.nd]
   refine aS ?_
   walk_at "w"
   exact z J8 sA
abbrev gY : List Str := ["_law_house", "_law_cell", "_law_bad", "_law_odd", "_law_who"]
abbrev cN : Str := "_law_refused.<locals>.<lambda>"
def IA : Stmt → Expr
 | .If (.Compare (.Call _ (e :: _) _ _) _ _ _) _ _ _ => e
 | .Return (some (.Compare (.Call _ (e :: _) _ _) _ _ _)) _ => e
 | _ => .Constant .none 0 ⟨0, 0, 0, 0⟩
def dk : Expr → Scope
 | .Lambda _ _ sc _ => sc
 | _ => ay dW
def o6 : Expr → Arguments
 | .Lambda a _ _ _ => a
 | _ => cR dW
def oj : Expr → Expr
 | .Lambda _ b _ _ => b
 | e => e
abbrev lam (k : Nat) : Expr := IA ((aU dW).getD (3 + k) (.Pass ⟨0, 0, 0, 0⟩))
abbrev mR (n : Nat) : List (Str × Addr) := [("_law_house", n + 1), ("_law_bad", n + 2)]
abbrev mL (n : Nat) : List (Str × Addr) := [("_law_who", n + 4), ("_law_odd", n + 3), ("_law_house", n + 1), ("_law_bad", n + 2)]
abbrev mC (n : Nat) : List (Str × Addr) := [("_law_odd", n + 3), ("_law_house", n + 1), ("_law_bad", n + 2)]
abbrev kU (n : Nat) : List (Str × Addr) := [("_law_odd", n + 3), ("_law_house", n + 1)]
section
variable {f c Pt : Addr} {cdv : Value} {A : Around} {outer : List Env} {s : Shared} {H : Hp} {E : XK}
theorem MU (hc : cdv = .ref c) (C : PySem.W.CodeHd base c Pt) (hb : base.BuiltinsAt mg Pt) : iu (bM (bJ P w) P w K mg base gY "_law_refused" (ay dW) f cdv A outer s H E) Pt (o6 (lam 0)) (dk (lam 0)) (mR s.heap.objs.size) cN where
 dflt := rfl
 dC := rfl
 code := ⟨c, hc, C⟩
 blt := hb
 qual := by kernel_rfl
theorem ET (hc : cdv = .ref c) (C : PySem.W.CodeHd base c Pt) (hb : base.BuiltinsAt mg Pt) : iu (bM (bJ P w) P w K mg base gY "_law_refused" (ay dW) f cdv A outer s H E) Pt (o6 (lam 1)) (dk (lam 1)) (mL s.heap.objs.size) cN where
 dflt := rfl
 dC := rfl
 code := ⟨c, hc, C⟩
 blt := hb
 qual := by kernel_rfl
theorem Kt (hc : cdv = .ref c) (C : PySem.W.CodeHd base c Pt) (hb : base.BuiltinsAt mg Pt) : iu (bM (bJ P w) P w K mg base gY "_law_refused" (ay dW) f cdv A outer s H E) Pt (o6 (lam 2)) (dk (lam 2)) (mC s.heap.objs.size) cN where
 dflt := rfl
 dC := rfl
 code := ⟨c, hc, C⟩
 blt := hb
 qual := by kernel_rfl
theorem JE (hc : cdv = .ref c) (C : PySem.W.CodeHd base c Pt) (hb : base.BuiltinsAt mg Pt) : iu (bM (bJ P w) P w K mg base gY "_law_refused" (ay dW) f cdv A outer s H E) Pt (o6 (lam 3)) (dk (lam 3)) (kU s.heap.objs.size) cN where
 dflt := rfl
 dC := rfl
 code := ⟨c, hc, C⟩
 blt := hb
 qual := by kernel_rfl
theorem NI (n : Nat) : gv ["_law_house", "_law_bad"] (dk (lam 0)) (mR n) :=
 .of rfl rfl rfl (by decide +kernel) (by decide +kernel) ⟨fun _ => ⟨_, rfl⟩, fun _ => ⟨_, rfl⟩, trivial⟩ (by simp)
theorem DR (n : Nat) : gv ["_law_house", "_law_who", "_law_odd", "_law_bad"] (dk (lam 1)) (mL n) :=
 .of rfl rfl rfl (by decide +kernel) (by decide +kernel) ⟨fun _ => ⟨_, rfl⟩, fun _ => ⟨_, rfl⟩, fun _ => ⟨_, rfl⟩, fun _ => ⟨_, rfl⟩, trivial⟩ (by simp)
theorem Mm (n : Nat) : gv ["_law_house", "_law_odd", "_law_bad"] (dk (lam 2)) (mC n) :=
 .of rfl rfl rfl (by decide +kernel) (by decide +kernel) ⟨fun _ => ⟨_, rfl⟩, fun _ => ⟨_, rfl⟩, fun _ => ⟨_, rfl⟩, trivial⟩ (by simp)
theorem Mx (n : Nat) : gv ["_law_house", "_law_odd"] (dk (lam 3)) (kU n) :=
 .of rfl rfl rfl (by decide +kernel) (by decide +kernel) ⟨fun _ => ⟨_, rfl⟩, fun _ => ⟨_, rfl⟩, trivial⟩ (by simp)
theorem Jg : gX (bM (bJ P w) P w K mg base gY "_law_refused" (ay dW) f cdv A outer s H E) ["_law_house", "_law_bad"] [0, 2] (mR s.heap.objs.size) :=
 .of rfl rfl ⟨⟨rfl, rfl, rfl⟩, ⟨rfl, rfl, rfl⟩, trivial⟩ ⟨rfl, rfl, trivial⟩
theorem Ky : gX (bM (bJ P w) P w K mg base gY "_law_refused" (ay dW) f cdv A outer s H E) ["_law_house", "_law_who", "_law_odd", "_law_bad"] [0, 4, 3, 2] (mL s.heap.objs.size) :=
 .of rfl rfl ⟨⟨rfl, rfl, rfl⟩, ⟨rfl, rfl, rfl⟩, ⟨rfl, rfl, rfl⟩, ⟨rfl, rfl, rfl⟩, trivial⟩ ⟨rfl, rfl, rfl, rfl, trivial⟩
theorem Ld : gX (bM (bJ P w) P w K mg base gY "_law_refused" (ay dW) f cdv A outer s H E) ["_law_house", "_law_odd", "_law_bad"] [0, 3, 2] (mC s.heap.objs.size) :=
 .of rfl rfl ⟨⟨rfl, rfl, rfl⟩, ⟨rfl, rfl, rfl⟩, ⟨rfl, rfl, rfl⟩, trivial⟩ ⟨rfl, rfl, rfl, trivial⟩
theorem LD : gX (bM (bJ P w) P w K mg base gY "_law_refused" (ay dW) f cdv A outer s H E) ["_law_house", "_law_odd"] [0, 3] (kU s.heap.objs.size) :=
 .of rfl rfl ⟨⟨rfl, rfl, rfl⟩, ⟨rfl, rfl, rfl⟩, trivial⟩ ⟨rfl, rfl, trivial⟩
end
theorem mI {H H' : Hp} {Pt : Addr} {q : Str} {es : List Ent} (t : eR H Pt q es) (k : ∀ b φ, H b = some (.ext φ) → H' b = some (.ext φ)) : eR H' Pt q es := ⟨k _ _ t.tab, fun e he => k _ _ (t.code e he)⟩
def NX (H H' : Hp) : Prop := ∀ b o, (∀ φ, o ≠ .ext φ) → H b = some o → H' b = some o
theorem NX.cls {H H' : Hp} {x : V} {T : String} (e : NX H H') (h : clsName H x = some T) : clsName H' x = some T := by
 unfold clsName at h ⊢
 split at h
 ·exact h
 ·exact h
 ·exact h
 ·exact h
 ·split at h
  ·rename_i q; simp only [e _ _ (by nofun) q]; exact h
  ·rename_i q; simp only [e _ _ (by nofun) q]; exact h
  ·rename_i q; simp only [e _ _ (by nofun) q]; exact h
  ·cases h
 ·cases h
theorem o8 {Pt : Addr} {q : Str} {c : Addr} {H H1 : Hp} {es : List Ent} (L : l9 Pt q c H H1) (t : eR H Pt q es) : NX H H1 := fun b o no e => L.Hf b o (fun z => by rw [z, t.tab] at e; cases e; exact no _ rfl) e
theorem fF.dP {CT : Addr} {H H' : Hp} {a : Ta} {i : Nat} {t : Th} (h : fF CT H a i t) (k : NX H H') : fF CT H' a i t where
 o := let ⟨fs, e, r⟩ := h.o; ⟨fs, k _ _ (by nofun) e, r⟩
 nm := k _ _ (by nofun) h.nm
 pl := k _ _ (by nofun) h.pl
theorem aH.dP {CH CS CT : Addr} {H H' : Hp} {A : Ad} {L : List Ta} {M : Hs} (i : aH CH CS CT H A L M) (k : NX H H') : aH CH CS CT H' A L M where
 h := let ⟨fs, c, e, r⟩ := i.h; ⟨fs, c, k _ _ (by nofun) e, r⟩
 t := let ⟨fs, c, e, r⟩ := i.t; ⟨fs, c, k _ _ (by nofun) e, r⟩
 ml := k _ _ (by nofun) i.ml
 len := i.len
 th := fun j t e => let ⟨a, e1, h⟩ := i.th j t e; ⟨a, e1, h.dP k⟩
 ro := k _ _ (by nofun) i.ro
 st := k _ _ (by nofun) i.st
 tr := k _ _ (by nofun) i.tr
 ov := k _ _ (by nofun) i.ov
 un := k _ _ (by nofun) i.un
 nd := i.nd
def AL : List V → List V
 | [h, b] => [h, .str "own", .int 0, b]
 | _ => []
def zZ : List V → List V
 | [h, w, o, b] => [h, w, o, b]
 | _ => []
def BE : List V → List V
 | [h, o, b] => [h, .str "own", o, b]
 | _ => []
def xy : List V → List V
 | [h, o] => [h, .str "own", o, .str "l"]
 | _ => []
theorem oM {CH CS CT CA CR CN : Addr} {h x y z : V} {H : Hp} {Q : VK} {E : XK} (s : ej CH CS CT CA CR CN [h, x, y, z] H Q E) : ∃ a dx fs, h = .ref a ∧ H a = some (.ins CH dx fs) ∧ fs.lookup ("may" : Str) = none := by
 unfold ej at s
 split at s
 ·rename_i e
  cases e
  obtain ⟨A, L, M, i, rfl, _⟩ := s
  obtain ⟨fs, c, e1, e2, sf⟩ := i.h
  exact ⟨_, _, _, rfl, e1, (sf _).trans rfl⟩
 ·exact s.elim
def qU (CH CS CT Pe : Addr) : Sp := fun vs H Q _ => match vs with
 | [.ref h, .int _] => ∃ A L M es, aH CH CS CT H A L M ∧ A.a = h ∧ M.ro = lO ∧ 0 < M.ts.length ∧ M.ts.length ≤ 100 ∧ eR H Pe cN es ∧ ∀ es' H', eR H' Pe cN es' → Q (.bl true) H'
 | _ => False
section
variable {CH CS CT CA CR CN : Addr} {H : Hp} {A : Ad} {L : List Ta} {M : Hs} {Q : VK} {E : XK} {w o b : V}
theorem AD (i : aH CH CS CT H A L M) (gy : (aL (sD M.ro) (.inr "own")).isSome = true) (ho : ∃ T, clsName H o = some T) (hb : ∃ T, clsName H b = some T) (kL : ei b = false) (e : E (.ref CR) none H) : ej CH CS CT CA CR CN [.ref A.a, .str "own", o, b] H Q E :=
 ⟨A, L, M, i, rfl, ⟨_, rfl⟩, ho, hb, fun h => (by rw [h _ rfl] at gy; cases gy), fun z ez hz => ⟨fun _ => e, fun s es h1 => by rw [kL] at h1; cases h1⟩⟩
theorem Mp (i : aH CH CS CT H A L M) (hw : ∃ T, clsName H w = some T) (ho : ∃ T, clsName H o = some T) (hb : ∃ T, clsName H b = some T) (hno : ∀ z, w = .str z → aL (sD M.ro) (.inr z) = none) (e : E (.ref CA) none H) : ej CH CS CT CA CR CN [.ref A.a, w, o, b] H Q E :=
 ⟨A, L, M, i, rfl, hw, ho, hb, fun _ => e, fun z ez hz => by rw [hno z ez] at hz; cases hz⟩
theorem KO (i : aH CH CS CT H A L M) (gy : (aL (sD M.ro) (.inr "own")).isSome = true) (ho : ∃ T, clsName H o = some T) (hno : ∀ k : Nat, o = .int k → ¬ k < M.ts.length) (e : E (.ref CN) none H) : ej CH CS CT CA CR CN [.ref A.a, .str "own", o, .str "l"] H Q E :=
 ⟨A, L, M, i, rfl, ⟨_, rfl⟩, ho, ⟨_, rfl⟩, fun h => (by rw [h _ rfl] at gy; cases gy), fun z ez hz => ⟨fun h1 => absurd h1 (by decide +kernel), fun s es h1 => ⟨fun _ => e, fun k t ek ht => absurd (List.getElem?_eq_some_iff.mp ht).1 (hno k ek)⟩⟩⟩
end
theorem EI (T : Tx K mg) {Pe : Addr} (C : PySem.W.CodeHd base T.kD Pe) (hbt : base.BuiltinsAt mg Pe) : aD P w K mg base (bJ P w) 10 T.fw T.pL ["_law_house", "_law_cell"] (qU T.aj T.aB T.aE Pe) := by
 have pN := Iz (P := P) (w := w) (base := base) T
 have G_House_many := Ex (P := P) (w := w) (base := base) T
 have fT := pj (P := P) (w := w) (base := base) T
 refine T.oy.BB om (fun vs H Q E h => ?_) (fun cdv A outer s H vs Q E hcd hr h => ?_)
 ·unfold qU at h
  split at h
  ·rfl
  ·exact h.elim
 ·unfold qU at h
  split at h
  ·rename_i hh cell
   obtain ⟨AA, L, M, es, i, rfl, hro, hM0, hM1, tab, q⟩ := h
   have LA_l_refused0 := MU (P := P) (w := w) (K := K) (f := T.fw) (A := A) (outer := outer) (s := s) (H := H) (E := E) (hcd.symm.trans T.ot) C hbt
   have LA_l_refused1 := ET (P := P) (w := w) (K := K) (f := T.fw) (A := A) (outer := outer) (s := s) (H := H) (E := E) (hcd.symm.trans T.ot) C hbt
   have LA_l_refused2 := Kt (P := P) (w := w) (K := K) (f := T.fw) (A := A) (outer := outer) (s := s) (H := H) (E := E) (hcd.symm.trans T.ot) C hbt
   have LA_l_refused3 := JE (P := P) (w := w) (K := K) (f := T.fw) (A := A) (outer := outer) (s := s) (H := H) (E := E) (hcd.symm.trans T.ot) C hbt
   have LS_l_refused0 := NI s.heap.objs.size
   have LS_l_refused1 := DR s.heap.objs.size
   have LS_l_refused2 := Mm s.heap.objs.size
   have LS_l_refused3 := Mx s.heap.objs.size
   have LC_l_refused0 := Jg (P := P) (w := w) (K := K) (mg := mg) (base := base) (f := T.fw) (cdv := cdv) (A := A) (outer := outer) (s := s) (H := H) (E := E)
   have LC_l_refused1 := Ky (P := P) (w := w) (K := K) (mg := mg) (base := base) (f := T.fw) (cdv := cdv) (A := A) (outer := outer) (s := s) (H := H) (E := E)
   have LC_l_refused2 := Ld (P := P) (w := w) (K := K) (mg := mg) (base := base) (f := T.fw) (cdv := cdv) (A := A) (outer := outer) (s := s) (H := H) (E := E)
   have LC_l_refused3 := LD (P := P) (w := w) (K := K) (mg := mg) (base := base) (f := T.fw) (cdv := cdv) (A := A) (outer := outer) (s := s) (H := H) (E := E)
   have LB_l_refused0 : ∀ (f : Addr) (cdv : Value) (vs : List V) (A : Around) (outer : List Env) (s' : Shared) (H : Hp) (Q : VK) (E : XK), aN 7 (A.deeper (PySem.W.envX cN (dk (lam 0)) s'.heap.objs.size f cdv (mR s.heap.objs.size))) → ej T.aj T.aB T.aE T.bC T.bH T.bD (AL vs) H Q E →
     ∃ t, PE (fg P w K mg base ["_law_house", "_law_bad"] cN (dk (lam 0)) f cdv (mR s.heap.objs.size) A outer s' H E) (oj (lam 0)) t ∧ t (vs.map some) H Q := by
    intro f cdv vs A outer s' H Q E hr hw
    unfold AL at hw
    split at hw
    ·obtain ⟨a, dx, fs, rfl, e1, e2⟩ := oM hw
     refine ⟨_, (Dv.bU T.aI T.cT.h fT (hr.mono (by decide)) T.cT.b .nil oh (Dv.v 0) (Dv.aa Dv.str (Dv.aa Dv.int (Dv.aa (Dv.v 1) Dv.ag)))).h, ?_⟩
     simp only [List.map_cons, List.map_nil]
     walk_at "w"
     exact ⟨_, _, _, rfl, e1, e2, hw⟩
    ·exact hw.elim
   have LB_l_refused1 : ∀ (f : Addr) (cdv : Value) (vs : List V) (A : Around) (outer : List Env) (s' : Shared) (H : Hp) (Q : VK) (E : XK), aN 7 (A.deeper (PySem.W.envX cN (dk (lam 1)) s'.heap.objs.size f cdv (mL s.heap.objs.size))) → ej T.aj T.aB T.aE T.bC T.bH T.bD (zZ vs) H Q E →
     ∃ t, PE (fg P w K mg base ["_law_house", "_law_who", "_law_odd", "_law_bad"] cN (dk (lam 1)) f cdv (mL s.heap.objs.size) A outer s' H E) (oj (lam 1)) t ∧ t (vs.map some) H Q := by
    intro f cdv vs A outer s' H Q E hr hw
    unfold zZ at hw
    split at hw
    ·obtain ⟨a, dx, fs, rfl, e1, e2⟩ := oM hw
     refine ⟨_, (Dv.bU T.aI T.cT.h fT (hr.mono (by decide)) T.cT.b .nil oh (Dv.v 0) (Dv.aa (Dv.v 1) (Dv.aa (Dv.v 2) (Dv.aa (Dv.v 3) Dv.ag)))).h, ?_⟩
     simp only [List.map_cons, List.map_nil]
     walk_at "w"
     exact ⟨_, _, _, rfl, e1, e2, hw⟩
    ·exact hw.elim
   have LB_l_refused2 : ∀ (f : Addr) (cdv : Value) (vs : List V) (A : Around) (outer : List Env) (s' : Shared) (H : Hp) (Q : VK) (E : XK), aN 7 (A.deeper (PySem.W.envX cN (dk (lam 2)) s'.heap.objs.size f cdv (mC s.heap.objs.size))) → ej T.aj T.aB T.aE T.bC T.bH T.bD (BE vs) H Q E →
     ∃ t, PE (fg P w K mg base ["_law_house", "_law_odd", "_law_bad"] cN (dk (lam 2)) f cdv (mC s.heap.objs.size) A outer s' H E) (oj (lam 2)) t ∧ t (vs.map some) H Q := by
    intro f cdv vs A outer s' H Q E hr hw
    unfold BE at hw
    split at hw
    ·obtain ⟨a, dx, fs, rfl, e1, e2⟩ := oM hw
     refine ⟨_, (Dv.bU T.aI T.cT.h fT (hr.mono (by decide)) T.cT.b .nil oh (Dv.v 0) (Dv.aa Dv.str (Dv.aa (Dv.v 1) (Dv.aa (Dv.v 2) Dv.ag)))).h, ?_⟩
     simp only [List.map_cons, List.map_nil]
     walk_at "w"
     exact ⟨_, _, _, rfl, e1, e2, hw⟩
    ·exact hw.elim
   have LB_l_refused3 : ∀ (f : Addr) (cdv : Value) (vs : List V) (A : Around) (outer : List Env) (s' : Shared) (H : Hp) (Q : VK) (E : XK), aN 7 (A.deeper (PySem.W.envX cN (dk (lam 3)) s'.heap.objs.size f cdv (kU s.heap.objs.size))) → ej T.aj T.aB T.aE T.bC T.bH T.bD (xy vs) H Q E →
     ∃ t, PE (fg P w K mg base ["_law_house", "_law_odd"] cN (dk (lam 3)) f cdv (kU s.heap.objs.size) A outer s' H E) (oj (lam 3)) t ∧ t (vs.map some) H Q := by
    intro f cdv vs A outer s' H Q E hr hw
    unfold xy at hw
    split at hw
    ·obtain ⟨a, dx, fs, rfl, e1, e2⟩ := oM hw
     refine ⟨_, (Dv.bU T.aI T.cT.h fT (hr.mono (by decide)) T.cT.b .nil oh (Dv.v 0) (Dv.aa Dv.str (Dv.aa (Dv.v 1) (Dv.aa Dv.str Dv.ag)))).h, ?_⟩
     simp only [List.map_cons, List.map_nil]
     walk_at "w"
     exact ⟨_, _, _, rfl, e1, e2, hw⟩
    ·exact hw.elim
   refine bK (b := aU dW) ((Dv.cut (Dv.aP 2 om.nd (Dv.ix (ba (K := K) rfl) (Dv.lst (Dv.aa Dv.str (Dv.aa Dv.str (Dv.aa Dv.str (Dv.aa Dv.str (Dv.aa Dv.au (Dv.aa Dv.int (Dv.aa (Dv.lst (Dv.aa Dv.str Dv.ag)) Dv.ag)))))))) (Dv.op dF (Dv.v 1) Dv.int)))
   (Dv.cut (Dv.aP 3 om.nd (Dv.ix (ba (K := K) rfl) (Dv.lst (Dv.aa (Dv.un dR Dv.int) (Dv.aa (Dv.ou T.aI T.lZ.h G_House_many (hr.mono (by decide)) T.lZ.b .nil az (Dv.v 0)) (Dv.aa (Dv.op Lk Dv.int Dv.int) (Dv.aa Dv.au (Dv.aa Dv.bl (Dv.aa Dv.str (Dv.aa (Dv.lst (Dv.aa Dv.int Dv.ag)) Dv.ag)))))))) (Dv.op dF (Dv.op jm (Dv.v 1) Dv.int) Dv.int)))
   (Dv.cut (Dv.aP 4 om.nd (Dv.ix (ba (K := K) rfl) (Dv.lst (Dv.aa Dv.str (Dv.aa Dv.str (Dv.aa Dv.au (Dv.aa Dv.int (Dv.aa (Dv.lst (Dv.aa Dv.str Dv.ag)) Dv.ag)))))) (Dv.op dF (Dv.op jm (Dv.v 1) Dv.int) Dv.int)))
   (Dv.cut (Dv.aW (Dv.bc eT (Dv.nX pN (hr.mono (by decide)) T.du.m T.du.F.kp T.du.b ck LB_l_refused0 LA_l_refused0 LS_l_refused0 LC_l_refused0) Dv.str) (Dv.aq (Dv.aK Dv.bl)) Dv.nil)
   (Dv.cut (Dv.aW (Dv.bc eT (Dv.nX pN (hr.mono (by decide)) T.du.m T.du.F.kp T.du.b ck LB_l_refused1 LA_l_refused1 LS_l_refused1 LC_l_refused1) Dv.str) (Dv.aq (Dv.aK Dv.bl)) Dv.nil)
   (Dv.cut (Dv.aW (Dv.bc eT (Dv.nX pN (hr.mono (by decide)) T.du.m T.du.F.kp T.du.b ck LB_l_refused2 LA_l_refused2 LS_l_refused2 LC_l_refused2) Dv.str) (Dv.aq (Dv.aK Dv.bl)) Dv.nil)
   (Dv.aq (Dv.aK (Dv.cmp eJ (Dv.nX pN (hr.mono (by decide)) T.du.m T.du.F.kp T.du.b ck LB_l_refused3 LA_l_refused3 LS_l_refused3 LC_l_refused3) Dv.str)))))))))) ?_
   rw [show start ["_law_house", "_law_cell", "_law_bad", "_law_odd", "_law_who"] [V.ref AA.a, V.int cell] = [some (.ref AA.a), some (.int cell), none, none, none] from rfl]
   refine ai ?_
   walk_at "w"
   refine ⟨fits (by simp), fun p0 hp0 => ⟨fits (by simp), fun p1 hp1 => ⟨by decide, ?_⟩⟩⟩
   have a0 := ao.upd (o := .lst [V.str (Str.ofString "l")]) hp0
   have b0 : upd H p0 (.lst [V.str (Str.ofString "l")]) p0 = some (.lst [V.str (Str.ofString "l")]) := aw
   generalize upd H p0 (.lst [V.str (Str.ofString "l")]) = J0 at a0 b0 hp1 ⊢
   generalize hLb : [V.str (Str.ofString ""), V.str (Str.ofString "lg"), V.str (Str.ofString "x"), V.str (Str.ofString "L"), V.au, V.int 1, V.ref p0] = Lb
   have a1 := ao.upd (o := .lst Lb) hp1
   have b1 : upd J0 p1 (.lst Lb) p1 = some (.lst Lb) := aw
   generalize upd J0 p1 (.lst Lb) = H1 at a1 b1 ⊢
   simp only [bt, b1]
   obtain ⟨bad, hbm, e⟩ := mD (xs := Lb) (n := 7) (d := cell) (by decide) (by rw [← hLb]; rfl)
   rw [e]
   clear e
   have kL : ei bad = false ∧ ∃ T, clsName H1 bad = some T := by
    rw [← hLb] at hbm
    simp only [List.mem_cons, List.not_mem_nil, or_false] at hbm
    rcases hbm with rfl | rfl | rfl | rfl | rfl | rfl | rfl
    ·exact ⟨by decide +kernel, _, rfl⟩
    ·exact ⟨by decide +kernel, _, rfl⟩
    ·exact ⟨by decide +kernel, _, rfl⟩
    ·exact ⟨by decide +kernel, _, rfl⟩
    ·exact ⟨by decide +kernel, _, rfl⟩
    ·exact ⟨by decide +kernel, _, rfl⟩
    ·exact ⟨rfl, _, uO (a1 _ _ b0)⟩
   have s1 : ao H H1 := a0.trans a1
   obtain ⟨kL, tb, htb⟩ := kL
   clear hLb hbm b0 b1 a0 a1 hp0 hp1
   have i1 := i.same s1
   obtain ⟨gfs, gc, gh, ghl, gsf⟩ := i1.h
   refine ai ?_
   walk_at "w"
   refine ⟨AA.a, _, _, rfl, gh, (gsf _).trans rfl, AA, L, M, i1, rfl, ⟨by decide, by decide, by decide⟩, fits (by simp), fun p0 hp0 => ⟨fits (by simp), fun p1 hp1 => ⟨⟨by decide, by decide⟩, by decide, ?_⟩⟩⟩
   have a0 := ao.upd (o := .lst [V.int 0]) hp0
   have b0 : upd H1 p0 (.lst [V.int 0]) p0 = some (.lst [V.int 0]) := aw
   generalize upd H1 p0 (.lst [V.int 0]) = J0 at a0 b0 hp1 ⊢
   generalize hLb : [V.int (-1), V.int (M.ts.length : Nat), V.int (10 ^ Int.toNat 9), V.au, V.bl true, V.str (Str.ofString "0"), V.ref p0] = Lb
   have a1 := ao.upd (o := .lst Lb) hp1
   have b1 : upd J0 p1 (.lst Lb) p1 = some (.lst Lb) := aw
   generalize upd J0 p1 (.lst Lb) = H2 at a1 b1 ⊢
   simp only [bt, b1]
   obtain ⟨odd, hom, e⟩ := mD (xs := Lb) (n := 7) (d := cell / 7) (by decide) (by rw [← hLb]; rfl)
   rw [e]
   clear e
   have v8 : (∀ k : Nat, odd = .int k → ¬ k < M.ts.length) ∧ ∃ T, clsName H2 odd = some T := by
    rw [← hLb] at hom
    simp only [List.mem_cons, List.not_mem_nil, or_false] at hom
    rcases hom with rfl | rfl | rfl | rfl | rfl | rfl | rfl
    ·exact ⟨fun k e => (by injection e with e; omega), _, rfl⟩
    ·exact ⟨fun k e => (by injection e with e; omega), _, rfl⟩
    ·exact ⟨fun k e => (by
      injection e with e
      have : (1000000000 : Int) = (k : Int) := by rw [← e]; decide +kernel
      omega), _, rfl⟩
    ·exact ⟨nofun, _, rfl⟩
    ·exact ⟨nofun, _, rfl⟩
    ·exact ⟨nofun, _, rfl⟩
    ·exact ⟨nofun, _, uO (a1 _ _ b0)⟩
   have s2 : ao H1 H2 := a0.trans a1
   obtain ⟨v8, to, hto⟩ := v8
   clear hLb hom b0 b1 a0 a1 hp0 hp1
   refine ai ?_
   walk_at "w"
   refine ⟨fits (by simp), fun p0 hp0 => ⟨fits (by simp), fun p1 hp1 => ⟨⟨by decide, by decide⟩, by decide, ?_⟩⟩⟩
   have a0 := ao.upd (o := .lst [V.str (Str.ofString "own")]) hp0
   have b0 : upd H2 p0 (.lst [V.str (Str.ofString "own")]) p0 = some (.lst [V.str (Str.ofString "own")]) := aw
   generalize upd H2 p0 (.lst [V.str (Str.ofString "own")]) = J0 at a0 b0 hp1 ⊢
   generalize hLb : [V.str (Str.ofString "nobody"), V.str (Str.ofString ""), V.au, V.int 3, V.ref p0] = Lb
   have a1 := ao.upd (o := .lst Lb) hp1
   have b1 : upd J0 p1 (.lst Lb) p1 = some (.lst Lb) := aw
   generalize upd J0 p1 (.lst Lb) = H3 at a1 b1 ⊢
   simp only [bt, b1]
   obtain ⟨who, hwm, e⟩ := mD (xs := Lb) (n := 5) (d := cell / 49) (by decide) (by rw [← hLb]; rfl)
   rw [e]
   clear e
   have wa : (∀ z, who = .str z → aL (sD M.ro) (.inr z) = none) ∧ ∃ T, clsName H3 who = some T := by
    rw [← hLb] at hwm
    simp only [List.mem_cons, List.not_mem_nil, or_false] at hwm
    rcases hwm with rfl | rfl | rfl | rfl | rfl
    ·exact ⟨fun z e => (by cases e; rw [hro]; decide +kernel), _, rfl⟩
    ·exact ⟨fun z e => (by cases e; rw [hro]; decide +kernel), _, rfl⟩
    ·exact ⟨nofun, _, rfl⟩
    ·exact ⟨nofun, _, rfl⟩
    ·exact ⟨nofun, _, uO (a1 _ _ b0)⟩
   have s3 : ao H2 H3 := a0.trans a1
   obtain ⟨wa, tw, htw⟩ := wa
   clear hLb hwm b0 b1 a0 a1 hp0 hp1
   have gy : (aL (sD M.ro) (.inr "own")).isSome = true := by rw [hro]; decide +kernel
   have i3 := i1.same (s2.trans s3)
   have wI : eR H3 Pe cN es := mI tab fun b φ e => s3 _ _ (s2 _ _ (s1 _ _ e))
   have CY := gF (s2.trans s3) htb
   have hto3 := gF s3 hto
   refine ai ?_
   walk_at "w"
   refine ⟨es, [.ref AA.a, bad], wI, ⟨rfl, fun i j v h1 h2 => ?_⟩, fun c H4 L4 => ?_⟩
   ·match i, h1, h2 with
    | 0, h1, h2 => cases h1; cases h2; rfl
    | 1, h1, h2 => cases h1; cases h2; rfl
   obtain ⟨es4, BZ⟩ := L4.tab
   have nx := o8 L4 wI
   refine ⟨L4.code, AD (i3.dP nx) gy ⟨_, rfl⟩ ⟨_, nx.cls CY⟩ kL ⟨_, _, rfl, rfl, za T, fun H5 s5 => ?_⟩⟩
   have i5 := (i3.dP nx).same s5
   have wZ : eR H5 Pe cN es4 := mI BZ fun b φ e => s5 _ _ e
   have CD := gF s5 (nx.cls CY)
   have C6 := gF s5 (nx.cls hto3)
   have htw5 := gF s5 (nx.cls htw)
   clear nx L4 BZ wI i3
   dsimp only
   rw [decide_eq_true rfl]
   refine aS (ai ?_)
   walk_at "w"
   refine ⟨es4, [.ref AA.a, who, odd, bad], wZ, ⟨rfl, fun i j v h1 h2 => ?_⟩, fun c H6 L6 => ?_⟩
   ·match i, h1, h2 with
    | 0, h1, h2 => cases h1; cases h2; rfl
    | 1, h1, h2 => cases h1; cases h2; rfl
    | 2, h1, h2 => cases h1; cases h2; rfl
    | 3, h1, h2 => cases h1; cases h2; rfl
   obtain ⟨es6, Cg⟩ := L6.tab
   have nx := o8 L6 wZ
   refine ⟨L6.code, Mp (i5.dP nx) ⟨_, nx.cls htw5⟩ ⟨_, nx.cls C6⟩ ⟨_, nx.cls CD⟩ wa ⟨_, _, rfl, rfl, Lf T, fun H7 s7 => ?_⟩⟩
   have i7 := (i5.dP nx).same s7
   have xu : eR H7 Pe cN es6 := mI Cg fun b φ e => s7 _ _ e
   have htb7 := gF s7 (nx.cls CD)
   have Cz := gF s7 (nx.cls C6)
   clear nx L6 Cg wZ i5
   dsimp only
   rw [decide_eq_true rfl]
   refine aS (ai ?_)
   walk_at "w"
   refine ⟨es6, [.ref AA.a, odd, bad], xu, ⟨rfl, fun i j v h1 h2 => ?_⟩, fun c H8 L8 => ?_⟩
   ·match i, h1, h2 with
    | 0, h1, h2 => cases h1; cases h2; rfl
    | 1, h1, h2 => cases h1; cases h2; rfl
    | 2, h1, h2 => cases h1; cases h2; rfl
   obtain ⟨es8, Cw⟩ := L8.tab
   have nx := o8 L8 xu
   refine ⟨L8.code, AD (i7.dP nx) gy ⟨_, nx.cls Cz⟩ ⟨_, nx.cls htb7⟩ kL ⟨_, _, rfl, rfl, za T, fun H9 s9 => ?_⟩⟩
   have i9 := (i7.dP nx).same s9
   have B9 : eR H9 Pe cN es8 := mI Cw fun b φ e => s9 _ _ e
   have hto9 := gF s9 (nx.cls Cz)
   clear nx L8 Cw xu i7
   dsimp only
   rw [decide_eq_true rfl]
   refine aS ?_
   walk_at "w"
   refine ⟨es8, [.ref AA.a, odd], B9, ⟨rfl, fun i j v h1 h2 => ?_⟩, fun c H10 L10 => ?_⟩
   ·match i, h1, h2 with
    | 0, h1, h2 => cases h1; cases h2; rfl
    | 1, h1, h2 => cases h1; cases h2; rfl
   obtain ⟨es10, tab10⟩ := L10.tab
   have nx := o8 L10 B9
   refine ⟨L10.code, KO (i9.dP nx) gy ⟨_, nx.cls hto9⟩ v8 ⟨_, _, rfl, rfl, NG T, fun H11 s11 => ?_⟩⟩
   dsimp only
   rw [decide_eq_true rfl]
   exact q es10 H11 (mI tab10 fun b φ e => s11 _ _ e)
  ·exact h.elim
theorem aH.fY {CH CS CT : Addr} {H : Hp} {A : Ad} {L : List Ta} {M : Hs} {x : Addr} {o : HO} (i : aH CH CS CT H A L M) (hx : H x = Option.some o) (h1 : ∀ c d f, o ≠ .ins c d f) (h2 : ∀ k, o ≠ .dK k) (h3 : ∀ k, o ≠ .dT k) (h4 : x ≠ A.ml) : x ∉ A.w ++ L.flatMap Ta.l := fun hb => by
 rcases List.mem_append.mp hb with h | h
 ·simp only [Ad.w, List.mem_cons, List.not_mem_nil, or_false] at h
  rcases h with rfl | rfl | rfl | rfl | rfl | rfl | rfl | rfl
  ·obtain ⟨_, _, e, _⟩ := i.h; rw [hx] at e; cases e; exact h1 _ _ _ rfl
  ·obtain ⟨_, _, e, _⟩ := i.t; rw [hx] at e; cases e; exact h1 _ _ _ rfl
  ·exact h4 rfl
  ·have e := i.ro; rw [hx] at e; cases e; exact h2 _ rfl
  ·have e := i.st; rw [hx] at e; cases e; exact h2 _ rfl
  ·have e := i.tr; rw [hx] at e; cases e; exact h2 _ rfl
  ·have e := i.ov; rw [hx] at e; cases e; exact h2 _ rfl
  ·have e := i.un; rw [hx] at e; cases e; exact h2 _ rfl
 ·obtain ⟨a, ha, hb⟩ := List.mem_flatMap.mp h
  obtain ⟨k, hk⟩ := List.getElem?_of_mem ha
  have hlt : k < M.ts.length := by rw [← i.len]; exact (List.getElem?_eq_some_iff.mp hk).1
  obtain ⟨a', e1, t⟩ := i.th k _ (List.getElem?_eq_getElem hlt)
  rw [hk] at e1
  cases e1
  simp only [Ta.l, List.mem_cons, List.not_mem_nil, or_false] at hb
  rcases hb with rfl | rfl | rfl
  ·obtain ⟨_, e, _⟩ := t.o; rw [hx] at e; cases e; exact h1 _ _ _ rfl
  ·have e := t.nm; rw [hx] at e; cases e; exact h2 _ rfl
  ·have e := t.pl; rw [hx] at e; cases e; exact h3 _ rfl
def f7 (K : PySem.W.Frag) (H : Hp) (a : Addr) (ns : List Int) : Prop := (∀ J, aJ K J a (ns.map V.int)) ∨ ∃ o, H a = some (.c7 o (.lst (ns.map V.int)))
theorem f7.sq {K : PySem.W.Frag} {H : Hp} {a : Addr} {ns : List Int} (h : f7 K H a ns) : aJ K H a (ns.map V.int) := by
 rcases h with h | ⟨o, h⟩
 ·exact h H
 ·exact .inl (.inr ⟨o, h⟩)
structure LI (K : PySem.W.Frag) (CH CS CT Pe a : Addr) (ns : List Int) (H : Hp) (A : Ad) (L : List Ta) (es fs : List En) (lt : Addr) (ps : List Addr) : Prop where
 i : aH CH CS CT H A L (Mk es)
 ok : eC es
 hl : H lt = some (.lst (ps.map V.ref))
 len : ps.length = fs.length
 hp : ∀ (j : Nat) p e, ps[j]? = some p → fs[j]? = some e → H p = some (.lst (cf e))
 en : lt ≠ A.ml
 eF : ∀ p ∈ ps, p ≠ A.ml ∧ p ≠ lt
 nd : ps.Nodup
 tab : H Pe = some (eL Pe [])
 sc : f7 K H a ns
section
variable {CH CS CT Pe a lt : Addr} {ns : List Int} {H H' : Hp} {A : Ad} {L : List Ta} {es fs : List En} {ps : List Addr}
theorem f7.keep {W : List Addr} (h : f7 K H a ns) (k : Kp W H H') (hw : ∀ o, H a = some (.c7 o (.lst (ns.map V.int))) → a ∉ W) : f7 K H' a ns := by
 rcases h with h | ⟨o, h⟩
 ·exact .inl h
 ·exact .inr ⟨o, k _ _ (hw o h) h⟩
theorem LI.same (l : LI K CH CS CT Pe a ns H A L es fs lt ps) (s : ao H H') : LI K CH CS CT Pe a ns H' A L es fs lt ps :=
 ⟨l.i.same s, l.ok, s _ _ l.hl, l.len, fun j p e h1 h2 => s _ _ (l.hp j p e h1 h2), l.en, l.eF, l.nd, s _ _ l.tab, l.sc.keep (W := []) (.of s) fun _ _ => by simp⟩
theorem LI.at (l : LI K CH CS CT Pe a ns H A L es fs lt ps) {j : Nat} {e : En} (hj : fs[j]? = some e) : ∃ p, ps[j]? = some p ∧ H p = some (.lst (cf e)) := by
 have hlt : j < ps.length := by rw [l.len]; exact (List.getElem?_eq_some_iff.mp hj).1
 exact ⟨_, List.getElem?_eq_getElem hlt, l.hp j _ e (List.getElem?_eq_getElem hlt) hj⟩
theorem LI.pe (l : LI K CH CS CT Pe a ns H A L es fs lt ps) {p : Addr} (hp : p ∈ ps) : ∃ e, H p = some (.lst (cf e)) := by
 obtain ⟨j, hj⟩ := List.getElem?_of_mem hp
 have hlt : j < fs.length := by rw [← l.len]; exact (List.getElem?_eq_some_iff.mp hj).1
 exact ⟨_, l.hp j p _ hj (List.getElem?_eq_getElem hlt)⟩
theorem LI.set {es1 : List En} {b : List Ta} {H1 : Hp} (l : LI K CH CS CT Pe a ns H A L es fs lt ps) (ok : eC es1) (i1 : aH CH CS CT H1 A (L ++ b) (Mk es1)) (k : Kp (A.w ++ L.flatMap Ta.l) H H1) : LI K CH CS CT Pe a ns H1 A (L ++ b) es1 fs lt ps :=
 ⟨i1, ok, k _ _ (l.i.fY l.hl (by nofun) (by nofun) (by nofun) l.en) l.hl, l.len, fun j q c h1 h2 => k _ _ (l.i.fY (l.hp j q c h1 h2) (by nofun) (by nofun) (by nofun) (l.eF q (List.mem_of_getElem? h1)).1) (l.hp j q c h1 h2), l.en, l.eF, l.nd,
  k _ _ (l.i.fY l.tab (by nofun) (by nofun) (by nofun) (bg l.tab l.i.ml (by nofun))) l.tab, l.sc.keep k fun o h => l.i.fY h (by nofun) (by nofun) (by nofun) (bg h l.i.ml (by nofun))⟩
theorem iP {α : Type} {xs : List α} {x : α} {j : Nat} {y : α} (h : (xs ++ [x])[j]? = some y) : (j < xs.length ∧ xs[j]? = some y) ∨ (j = xs.length ∧ y = x) := by
 by_cases hj : j < xs.length
 ·rw [List.getElem?_append_left hj] at h
  exact .inl ⟨hj, h⟩
 ·rw [List.getElem?_append_right (by omega)] at h
  have hj0 : j - xs.length = 0 := by
   rcases Nat.eq_zero_or_pos (j - xs.length) with h' | h'
   ·exact h'
   ·rw [List.getElem?_eq_none (by simp; omega)] at h; cases h
  rw [hj0] at h
  cases h
  exact .inr ⟨by omega, rfl⟩
theorem fE {H : Hp} {x : Addr} {o : HO} : Kp [x] H (upd H x o) := fun c u hc e => by rw [ah (by simpa using hc)]; exact e
theorem LI.more {e : En} {p : Addr} (l : LI K CH CS CT Pe a ns H A L es fs lt ps) (hp : H p = some (.lst (cf e))) (n1 : p ≠ A.ml) (n2 : p ≠ lt) (n3 : p ∉ ps) : LI K CH CS CT Pe a ns (upd H lt (.lst (ps.map V.ref ++ [.ref p]))) A L es (fs ++ [e]) lt (ps ++ [p]) := by
 have off : lt ∉ A.w ++ L.flatMap Ta.l := l.i.fY l.hl (by nofun) (by nofun) (by nofun) l.en
 refine ⟨l.i.keep fE (fun c hc hm => off (by rw [List.mem_singleton] at hm; exact hm ▸ hc)), l.ok, by rw [aw, List.map_append]; rfl, by simp [l.len], fun j q c h1 h2 => ?_, l.en, fun q hq => ?_, ?_, fE _ _ (by rw [List.mem_singleton]; exact bg l.tab l.hl (by nofun)) l.tab, l.sc.keep fE fun o h => by rw [List.mem_singleton]; exact bg h l.hl (by nofun)⟩
 ·rcases iP h1 with ⟨hj, h1⟩ | ⟨hj, rfl⟩
  ·rcases iP h2 with ⟨_, h2⟩ | ⟨hj2, _⟩
   ·exact fE _ _ (by rw [List.mem_singleton]; exact (l.eF q (List.mem_of_getElem? h1)).2) (l.hp j q c h1 h2)
   ·have := l.len; omega
  ·rcases iP h2 with ⟨hj2, _⟩ | ⟨_, rfl⟩
   ·have := l.len; omega
   ·exact fE _ _ (by rw [List.mem_singleton]; exact n2) hp
 ·rcases List.mem_append.mp hq with hq | hq
  ·exact l.eF q hq
  ·rw [List.mem_singleton.mp hq]; exact ⟨n1, n2⟩
 ·rw [List.nodup_append]
  exact ⟨l.nd, by simp, fun c hc d hd e => n3 (by rw [List.mem_singleton] at hd; rw [← hd, ← e]; exact hc)⟩
theorem LI.put {f f' : En} {p : Addr} (l : LI K CH CS CT Pe a ns H A L es (fs ++ [f]) lt (ps ++ [p])) : H p = some (.lst (cf f)) ∧ LI K CH CS CT Pe a ns (upd H p (.lst (cf f'))) A L es (fs ++ [f']) lt (ps ++ [p]) := by
 have len : ps.length = fs.length := by have := l.len; simp at this; exact this
 have hpm : p ∈ ps ++ [p] := by simp
 have hf : H p = some (.lst (cf f)) := l.hp ps.length p f (by rw [List.getElem?_append_right (Nat.le_refl _), Nat.sub_self]; rfl) (by rw [len, List.getElem?_append_right (Nat.le_refl _), Nat.sub_self]; rfl)
 have off : p ∉ A.w ++ L.flatMap Ta.l := l.i.fY hf (by nofun) (by nofun) (by nofun) (l.eF p hpm).1
 have nd := l.nd
 rw [List.nodup_append] at nd
 refine ⟨hf, l.i.keep fE (fun c hc hm => off (by rw [List.mem_singleton] at hm; exact hm ▸ hc)), l.ok, fE _ _ (by rw [List.mem_singleton]; exact Ne.symm (l.eF p hpm).2) l.hl, by simp [len], fun j q c h1 h2 => ?_, l.en, l.eF, l.nd, fE _ _ (by rw [List.mem_singleton]; exact bg l.tab hf (by nofun)) l.tab, l.sc.keep fE fun o h => by rw [List.mem_singleton]; exact bg h hf (by nofun)⟩
 rcases iP h1 with ⟨hj, h1'⟩ | ⟨hj, rfl⟩
 ·rcases iP h2 with ⟨hj2, h2⟩ | ⟨hj2, _⟩
  ·exact fE _ _ (by rw [List.mem_singleton]; exact fun e => nd.2.2 q (List.mem_of_getElem? h1') p (by simp) e) (l.hp j q c h1 (by rw [List.getElem?_append_left hj2]; exact h2))
  ·omega
 ·rcases iP h2 with ⟨hj2, _⟩ | ⟨_, rfl⟩
  ·omega
  ·rw [aw]
end
def kW (K : PySem.W.Frag) (tabs : jX) : Sp := fun vs H Q _ => match vs with
 | [.ref a] => (∃ ns : List Int, aJ K H a (ns.map V.int) ∧ ns.length ≤ 63) ∧ mB tabs H ∧ ∀ H', nj tabs H' → Q (.bl true) H'
 | _ => False
theorem F9 {H J : Hp} {x dx : Addr} {C : Addr} (hx : H x = none) (hdx : H dx = none) (k : Kp [x] (upd (upd H dx (.own x)) x (.ins C dx [])) J) : ao H J := fun b o e => by
 refine k _ _ (by rw [List.mem_singleton]; exact aC e hx) ?_
 rw [ah (aC e hx), ah (aC e hdx)]
 exact e
theorem K2 (es : List En) (e : En) (m r : Str) : ({ Mk (es ++ [e]) with ts := (Mk (es ++ [e])).ts.set (es.length + 1) { e.th with mi := m, re := r } } : Hs) = Mk (es ++ [{ e with mi := m, re := r }]) := by
 show Hs.mk ((bI (es ++ [e]) :: (es ++ [e]).map En.th).set (es.length + 1) _) _ _ _ _ _ = Hs.mk (bI (es ++ [{ e with mi := m, re := r }]) :: (es ++ [{ e with mi := m, re := r }]).map En.th) _ _ _ _ _
 rw [List.set_cons_succ, List.map_append, List.map_append, List.map_cons, List.map_nil, List.map_cons, List.map_nil]
 have h := qd (y := e.th) (b := { e.th with mi := m, re := r }) (es.map En.th)
 rw [List.length_map] at h
 rw [h, show bI (es ++ [{ e with mi := m, re := r }]) = bI (es ++ [e]) by unfold bI; rw [nY, nY]]
 rfl
theorem eC.last {es : List En} {e e' : En} (ok : eC (es ++ [e])) (h1 : e'.nm = e.nm) (h2 : e'.ow = e.ow) : eC (es ++ [e']) where
 len := by have := ok.len; simp only [List.length_append, List.length_singleton] at this ⊢; exact this
 nm := fun j c hj => by
  rcases iP hj with ⟨hl, hj⟩ | ⟨hl, rfl⟩
  ·exact ok.nm j c (by rw [List.getElem?_append_left hl]; exact hj)
  ·obtain ⟨n, a, b, hc⟩ := ok.nm j e (by rw [hl, List.getElem?_append_right (Nat.le_refl _), Nat.sub_self]; rfl)
   exact ⟨n, a, b, h1.trans hc⟩
 ow := fun c hc => by
  rcases List.mem_append.mp hc with hc | hc
  ·exact ok.ow c (List.mem_append_left _ hc)
  ·rw [List.mem_singleton.mp hc, h2]; exact ok.ow e (by simp)
theorem Ho (T : Tx K mg) {Pe : Addr} (C : PySem.W.CodeHd base T.kD Pe) (hbt : base.BuiltinsAt mg Pe) :
  aD P w K mg base (bJ P w) 15 T.wL T.pO ["_law_script"] (kW K [(T.kD, Pe)]) := by
 have Ca := El (P := P) (w := w) (base := base) T
 have G_l_digits := DI (P := P) (w := w) (base := base) T
 have m4 := yV (P := P) (w := w) (base := base) T
 have G_l_made := Ji (P := P) (w := w) (base := base) T
 have G_l_right := Ft (P := P) (w := w) (base := base) T
 have G_l_refused := EI (P := P) (w := w) (base := base) T C hbt
 have G_House___init__ := Lc (P := P) (w := w) (base := base) T
 have C1 := Nw (P := P) (w := w) (base := base) T
 have CV := NU (P := P) (w := w) (base := base) T
 refine T.ny.BB jW (fun vs H Q E h => ?_) (fun cdv A outer s H vs Q E hcd hr h => ?_)
 ·unfold kW at h
  split at h
  ·rfl
  ·exact h.elim
 ·unfold kW at h
  split at h
  ·rename_i a
   obtain ⟨⟨ns, hS, hn63⟩, hO, q⟩ := h
   refine bK (b := aU qT) ((Dv.cut (Dv.aP 1 jW.nd (Dv.make T.MP G_House___init__ (hr.mono (by decide)) T.Ml T.kZ.b .nil az (Dv.aa Dv.str Dv.ag)))
   (Dv.cut (Dv.aQ (Dv.aZ T.aI T.iL.h C1 (hr.mono (by decide)) T.iL.b .nil az (Dv.v 1) (Dv.aa Dv.str Dv.ag)))
   (Dv.cut (Dv.aQ (Dv.aZ T.aI T.iL.h C1 (hr.mono (by decide)) T.iL.b .nil az (Dv.v 1) (Dv.aa Dv.str Dv.ag)))
   (Dv.cut (Dv.aQ (Dv.call CV (hr.mono (by decide)) T.fV.m T.fV.F.kp T.fV.b .nil az (Dv.aa (Dv.v 1) (Dv.aa Dv.str (Dv.aa Dv.str (Dv.aa Dv.str (Dv.aa Dv.str Dv.ag)))))))
   (Dv.cut (Dv.aP 2 jW.nd (Dv.lst Dv.ag))
   (Dv.cut (Dv.jk Bp rfl (Dv.vo T.rX (Dv.aa Dv.int Dv.ag)) (Dv.dM 3 jW.nd) (Dv.cut (Dv.aP 4 jW.nd (Dv.call G_l_digits (hr.mono (by decide)) T.j0.m T.j0.F.kp T.j0.b .nil az (Dv.aa (Dv.call Ca (hr.mono (by decide)) T.gu.m T.gu.F.kp T.gu.b .nil az (Dv.aa (Dv.v 0) (Dv.aa (Dv.op dI Dv.int (Dv.v 3)) Dv.ag))) (Dv.aa Dv.int Dv.ag))))
   (Dv.cut (Dv.aQ (Dv.iw PySem.F.slot_list_append PySem.F.type_list_append iq (Dv.v 2) (Dv.aa (Dv.call G_l_made (hr.mono (by decide)) T.jc.m T.jc.F.kp T.jc.b .nil az (Dv.aa (Dv.v 1) (Dv.aa (Dv.v 4) (Dv.aa (Dv.v 3) Dv.ag)))) Dv.ag)))
   (Dv.aq (Dv.aW (Dv.dS (Dv.w_and (Dv.bc eJ (Dv.op dF (Dv.ix (ba (K := K) rfl) (Dv.v 4) Dv.int) Dv.int) Dv.int) (Dv.nW (Dv.bc eJ (Dv.ix (ba (K := K) rfl) (Dv.ix (ba (K := K) rfl) (Dv.v 2) (Dv.un dR Dv.int)) Dv.int) Dv.str)))) (Dv.cut (Dv.sP (Dv.call m4 (hr.mono (by decide)) T.dq.m T.dq.F.kp T.dq.b .nil az (Dv.aa (Dv.ix (ba (K := K) rfl) (Dv.v 4) Dv.int) Dv.ag)) (Dv.A3 (Dv.ix (ba (K := K) rfl) (Dv.v 2) (Dv.un dR Dv.int)) Dv.int AY))
   (Dv.cut (Dv.sP (Dv.call m4 (hr.mono (by decide)) T.dq.m T.dq.F.kp T.dq.b .nil az (Dv.aa (Dv.ix (ba (K := K) rfl) (Dv.v 4) Dv.int) Dv.ag)) (Dv.A3 (Dv.ix (ba (K := K) rfl) (Dv.v 2) (Dv.un dR Dv.int)) Dv.int AY))
   (Dv.aq (Dv.aQ (Dv.call CV (hr.mono (by decide)) T.fV.m T.fV.F.kp T.fV.b .nil az (Dv.aa (Dv.v 1) (Dv.aa (Dv.ix (ba (K := K) rfl) (Dv.ix (ba (K := K) rfl) (Dv.v 2) (Dv.un dR Dv.int)) Dv.int) (Dv.aa (Dv.ix (ba (K := K) rfl) (Dv.ix (ba (K := K) rfl) (Dv.v 2) (Dv.un dR Dv.int)) Dv.int) (Dv.aa (Dv.ix (ba (K := K) rfl) (Dv.ix (ba (K := K) rfl) (Dv.v 2) (Dv.un dR Dv.int)) Dv.int) (Dv.aa (Dv.ix (ba (K := K) rfl) (Dv.ix (ba (K := K) rfl) (Dv.v 2) (Dv.un dR Dv.int)) Dv.int) Dv.ag)))))))))) Dv.nil)))))
   (Dv.cut (Dv.jk Bp rfl (Dv.vo T.rX (Dv.aa Dv.int Dv.ag)) (Dv.dM 3 jW.nd) (Dv.aq (Dv.aW (Dv.cH (Dv.cE (Dv.call G_l_right (hr.mono (by decide)) T.jJ.m T.jJ.F.kp T.jJ.b .nil az (Dv.aa (Dv.v 1) (Dv.aa (Dv.op dI (Dv.v 3) Dv.int) (Dv.aa (Dv.ix (ba (K := K) rfl) (Dv.v 2) (Dv.v 3)) Dv.ag)))))) (Dv.aq (Dv.aK Dv.bl)) Dv.nil)))
   (Dv.aq (Dv.aK (Dv.AZ G_l_refused (hr.mono (by decide)) T.OH T.oy.kp T.qe .nil oE (Dv.aa (Dv.v 1) (Dv.aa (Dv.call Ca (hr.mono (by decide)) T.gu.m T.gu.F.kp T.gu.b .nil az (Dv.aa (Dv.v 0) (Dv.aa Dv.int Dv.ag))) Dv.ag))))))))))))) ?_
   rw [show start ["_law_script", "_law_house", "_law_things", "_law_k", "_law_digits_here"] [V.ref a] = [some (.ref a), none, none, none, none] from rfl]
   have tl0 : H Pe = some (eL Pe []) := hO.tab (T.kD, Pe) (by simp)
   have sc0 : f7 K H a ns := by
    rcases hS with hS | hS
    ·rcases hS with hS | hS
     ·rcases hO.all a with z | ⟨o, xs, z⟩ | ⟨qq, hq, z⟩
      ·rw [z] at hS; cases hS
      ·rw [z] at hS; cases hS
      ·have z2 := hO.tab qq hq
       rw [← z, hS] at z2; cases z2
     ·exact .inr hS
    ·exact .inl fun J => .inr hS
   refine ai ?_
   walk_at "w"
   intro x dx hx hdx hne
   refine ⟨⟨dx, aw⟩, by decide +kernel, by decide +kernel, fun A1 L1 H2 hA1 i2 fr1 kp1 => ⟨rfl, ?_⟩⟩
   subst hA1
   have s2 : ao H H2 := F9 hx hdx kp1
   obtain ⟨gfs, gc, gh, ghl, gsf⟩ := i2.h
   refine ai ?_
   walk_at "w"
   refine ⟨A1.a, _, _, rfl, gh, (gsf _).trans rfl, A1, L1, _, i2, rfl, by decide +kernel, by decide +kernel, by decide, by decide, by decide +kernel, by decide +kernel, fun H3 i3 k3 => ?_⟩
   obtain ⟨gfs3, gc3, gh3, ghl3, C3⟩ := i3.h
   refine ai ?_
   walk_at "w"
   refine ⟨A1.a, _, _, rfl, gh3, (C3 _).trans rfl, A1, L1, _, i3, rfl, by decide +kernel, by decide +kernel, by decide, by decide, by decide +kernel, by decide +kernel, fun H4 i4 k4 => ?_⟩
   have hL1 : 0 < L1.length := by rw [i2.len]; exact Nat.succ_pos _
   refine ai ?_
   walk_at "w"
   refine ⟨A1, L1, _, L1[0], ⟨"folder", "own", "lgw", "lg", "", [], []⟩, L1[0], ⟨"folder", "own", "lgw", "lg", "", [], []⟩, [47], 0, by decide +kernel, ⟨i4, rfl, rfl, by decide +kernel, List.getElem?_eq_getElem hL1, rfl, rfl⟩, rfl, hU.root ⟨⟨L1[0], ⟨"folder", "own", "lgw", "lg", "", [], []⟩, List.getElem?_eq_getElem hL1, rfl, rfl⟩, ⟨L1[0], ⟨"folder", "own", "lgw", "lg", "", [], []⟩, List.getElem?_eq_getElem hL1, rfl, rfl, fun h => absurd rfl h⟩⟩, by decide +kernel, by decide +kernel, List.getElem?_eq_getElem hL1, rfl, rfl, fun H5 i5 k5 => ?_⟩
   have j5 : aH T.aj T.aB T.aE H5 A1 L1 (Mk []) := i5
   have inA : ∀ b ∈ [A1.a, A1.ro, A1.st], b ∈ A1.w ++ L1.flatMap Ta.l := fun b hb => by
    simp only [List.mem_cons, List.not_mem_nil, or_false] at hb
    rcases hb with rfl | rfl | rfl <;> simp [Ad.w]
   have inB : ∀ b ∈ [A1.t, L1[0].th], b ∈ A1.w ++ L1.flatMap Ta.l := fun b hb => by
    simp only [List.mem_cons, List.not_mem_nil, or_false] at hb
    rcases hb with rfl | rfl
    ·simp [Ad.w]
    ·exact List.mem_append_right _ (fJ (List.getElem?_eq_getElem hL1) (by simp [Ta.l]))
   have kA : Kp (A1.w ++ L1.flatMap Ta.l) H2 H5 := ((k3.more inA).trans (k4.more inA)).trans (k5.more inB)
   have tl2 := s2 _ _ tl0
   have sc2 : f7 K H2 a ns := sc0.keep (W := []) (.of s2) fun _ _ => by simp
   have tl5 : H5 Pe = some (eL Pe []) := kA _ _ (i2.fY tl2 (by nofun) (by nofun) (by nofun) (bg tl2 i2.ml (by nofun))) tl2
   have sc5 : f7 K H5 a ns := sc2.keep kA fun o h => i2.fY h (by nofun) (by nofun) (by nofun) (bg h i2.ml (by nofun))
   clear inA inB kA i5 i4 i3 i2 k3 k4 k5 gh gh3 gsf C3 tl2 sc2 s2 kp1 fr1 hL1 gc gc3 ghl ghl3
   refine ai ?_
   walk_at "w"
   refine ⟨fits (by simp), fun lt hlt => ?_⟩
   have s6 := ao.upd (o := .lst []) hlt
   have b6 : upd H5 lt (.lst []) lt = some (.lst []) := aw
   have en : lt ≠ A1.ml := Ne.symm (aC j5.ml hlt)
   generalize upd H5 lt (.lst []) = H6 at s6 b6 ⊢
   have li6 : LI K T.aj T.aB T.aE Pe a ns H6 A1 L1 [] [] lt [] := ⟨j5.same s6, ⟨by decide, nofun, nofun⟩, b6, rfl, nofun, en, nofun, .nil, s6 _ _ tl5, sc5.keep (W := []) (.of s6) fun _ _ => by simp⟩
   clear b6 s6 en hlt j5 tl5 sc5
   obtain ⟨PV, hPV⟩ : ∃ PV : Nat → St → Hp → Prop, PV = fun j σ' H' => ∃ L es ps t3 t4, σ' = [some (.ref a), some (.ref A1.a), some (.ref lt), t3, t4] ∧ es.length = j ∧ LI K T.aj T.aB T.aE Pe a ns H' A1 L es es lt ps := ⟨_, rfl⟩
   refine fM (PV 10) ?_ ?_
   ·walk_at "w"
    refine ⟨by decide, qf PV (by rw [hPV]; exact ⟨L1, [], [], _, _, rfl, rfl, li6⟩) ?_ (fun σ' H' h => h)⟩
    intro j σ' H7 hj hI
    rw [hPV] at hI
    obtain ⟨L, es, ps, t3, t4, rfl, hes, li7⟩ := hI
    have hj10 : j < 10 := hj
    walk_at "w"
    rw [Int.zero_add]
    refine ai ?_
    walk_at "w"
    refine ⟨⟨ns, li7.sc.sq⟩, by omega, fun c => fun l ds H8 hln hdl hd8 s8 => ?_⟩
    have li8 := li7.same s8
    have nl1 : l ≠ A1.ml := Ne.symm (aC li7.i.ml hln)
    have nl2 : l ≠ lt := Ne.symm (aC li7.hl hln)
    obtain ⟨d0, d1, d2, d3, d4, d5, d6, d7, d8, rfl⟩ := AJ hdl
    simp only [List.map_cons, List.map_nil] at hd8
    refine fM (fun σ' H' => σ' = [some (.ref a), some (.ref A1.a), some (.ref lt), some (.int (j : Int)), some (.ref l)] ∧ ∃ L' e p, LI K T.aj T.aB T.aE Pe a ns H' A1 L' (es ++ [e]) (es ++ [e]) lt (ps ++ [p]) ∧ l ≠ p ∧ H' l = some (.lst [V.int d0, V.int d1, V.int d2, V.int d3, V.int d4, V.int d5, V.int d6, V.int d7, V.int d8])) ?_ ?_
    ·walk_at "w"
     simp only [li8.hl]
     refine ⟨A1, L, es, [d0, d1, d2, d3, d4, d5, d6, d7, d8], li8.i, rfl, hd8, rfl, by rw [hes], by omega, li8.ok, fun e b p H9 ok9 i9 k9 hp9 hn9 => ?_⟩
     have li9 := li8.set ok9 i9 k9
     have eF : p ∉ ps := fun hm => by
      obtain ⟨c, hc⟩ := li8.pe hm
      rw [hn9] at hc; cases hc
     simp only [li9.hl]
     refine ⟨iB (by rw [List.length_map, li8.len]; omega), trivial, _, e, p, li9.more hp9 (Ne.symm (aC li8.i.ml hn9)) (Ne.symm (aC li8.hl hn9)) eF, aC hd8 hn9, ?_⟩
     rw [ah nl2]
     exact k9 _ _ (li8.i.fY hd8 (by nofun) (by nofun) (by nofun) nl1) hd8
    rintro σ' H10 ⟨rfl, L', e, p, i0, nlp, pI⟩
    clear li8 hd8 s8 li7 L
    have wj : H10 lt = some (.lst (ps.map V.ref ++ [.ref p])) := by rw [i0.hl, List.map_append]; rfl
    have hes' : (es ++ [e]).length = j + 1 := by simp [hes]
    have Dc := (i0.put (f' := e)).1
    walk_at "w"
    simp only [bt, pI, wj, Dc, o7]
    rw [show bu [V.int d0, V.int d1, V.int d2, V.int d3, V.int d4, V.int d5, V.int d6, V.int d7, V.int d8] 5 = some (V.int d5) from rfl]
    rw [show bu (cf e) 0 = some (V.str e.kd) from rfl]
    refine ⟨by decide, fS (fun _ => fS (fun hk => ?_) (fun _ => (by rw [hPV]; exact ⟨_, _, _, _, _, rfl, hes', i0⟩))) (fun _ => aS (by rw [hPV]; exact ⟨_, _, _, _, _, rfl, hes', i0⟩))⟩
    have cC : e.kd = ("folder" : Str) := of_decide_eq_true hk
    have en := (i0.eF p (by simp)).2
    refine fM (fun σ' H' => σ' = [some (.ref a), some (.ref A1.a), some (.ref lt), some (.int (j : Int)), some (.ref l)] ∧ ∃ mi, mi ∈ dU ∧ LI K T.aj T.aB T.aE Pe a ns H' A1 L' (es ++ [e]) (es ++ [{ e with mi := mi }]) lt (ps ++ [p]) ∧ H' l = some (.lst [V.int d0, V.int d1, V.int d2, V.int d3, V.int d4, V.int d5, V.int d6, V.int d7, V.int d8]) ∧ H' lt = some (.lst (ps.map V.ref ++ [.ref p]))) ?_ ?_
    ·walk_at "w"
     simp only [bt, pI]
     rw [show bu [V.int d0, V.int d1, V.int d2, V.int d3, V.int d4, V.int d5, V.int d6, V.int d7, V.int d8] 6 = some (V.int d6) from rfl]
     intro mi H11 hmi s11
     have CI := i0.same s11
     have Ci := s11 _ _ wj
     obtain ⟨hp11, mZ⟩ := CI.put (f' := { e with mi := mi })
     have en := (CI.eF p (by simp)).2
     have m9 : upd H11 p (.lst (cf { e with mi := mi })) l = some (.lst [V.int d0, V.int d1, V.int d2, V.int d3, V.int d4, V.int d5, V.int d6, V.int d7, V.int d8]) := by rw [ah nlp]; exact s11 _ _ pI
     have nh : upd H11 p (.lst (cf { e with mi := mi })) lt = some (.lst (ps.map V.ref ++ [.ref p])) := by rw [ah (Ne.symm en)]; exact Ci
     simp only [Ci, o7, hp11]
     rw [show eK (cf e).length 2 = some 2 from rfl]
     dsimp only
     rw [show (cf e).set 2 (V.str mi) = cf { e with mi := mi } from rfl]
     generalize upd H11 p (.lst (cf { e with mi := mi })) = H12 at mZ m9 nh ⊢
     exact ⟨trivial, mi, hmi, mZ, m9, nh⟩
    rintro σ' H12 ⟨rfl, mi, hmi, mZ, m9, nh⟩
    clear i0 wj Dc pI
    refine fM (fun σ' H' => σ' = [some (.ref a), some (.ref A1.a), some (.ref lt), some (.int (j : Int)), some (.ref l)] ∧ ∃ re, re ∈ dU ∧ LI K T.aj T.aB T.aE Pe a ns H' A1 L' (es ++ [e]) (es ++ [{ e with mi := mi, re := re }]) lt (ps ++ [p]) ∧ H' lt = some (.lst (ps.map V.ref ++ [.ref p]))) ?_ ?_
    ·walk_at "w"
     simp only [bt, m9]
     rw [show bu [V.int d0, V.int d1, V.int d2, V.int d3, V.int d4, V.int d5, V.int d6, V.int d7, V.int d8] 7 = some (V.int d7) from rfl]
     intro re H13 hre s13
     have li13 := mZ.same s13
     have Cr := s13 _ _ nh
     obtain ⟨hp13, fq⟩ := li13.put (f' := { e with mi := mi, re := re })
     have pP : upd H13 p (.lst (cf { e with mi := mi, re := re })) lt = some (.lst (ps.map V.ref ++ [.ref p])) := by rw [ah (Ne.symm en)]; exact Cr
     simp only [Cr, o7, hp13]
     rw [show eK (cf { e with mi := mi }).length 3 = some 3 from rfl]
     dsimp only
     rw [show (cf { e with mi := mi }).set 3 (V.str re) = cf { e with mi := mi, re := re } from rfl]
     generalize upd H13 p (.lst (cf { e with mi := mi, re := re })) = H14 at fq pP ⊢
     exact ⟨trivial, re, hre, fq, pP⟩
    rintro σ' H14 ⟨rfl, re, hre, fq, pP⟩
    clear mZ nh m9
    have hp14 := (fq.put (f' := e)).1
    walk_at "w"
    simp only [bt, pP, o7, hp14]
    rw [show bu (cf { e with mi := mi, re := re }) 1 = some (V.str e.ow) from rfl, show bu (cf { e with mi := mi, re := re }) 5 = some (V.str (Tx.S (47 :: e.nm))) from rfl, show bu (cf { e with mi := mi, re := re }) 2 = some (V.str mi) from rfl, show bu (cf { e with mi := mi, re := re }) 3 = some (V.str re) from rfl]
    dsimp only
    have how : e.ow ∈ fj := fq.ok.ow e (by simp)
    obtain ⟨a0, r0⟩ := pZ fq.i how
    have hj' : (es ++ [e])[j]? = some e := by rw [← hes, List.getElem?_append_right (Nat.le_refl _), Nat.sub_self]; rfl
    obtain ⟨n, n1, n8, hn⟩ := fq.ok.nm j e hj'
    have hnm : isNm e.nm = true := by rw [hn]; exact uP hj10 n1 n8
    have ht : (Mk (es ++ [e])).ts[j + 1]? = some e.th := by
     show (bI (es ++ [e]) :: (es ++ [e]).map En.th)[j + 1]? = some e.th
     rw [List.getElem?_cons_succ, List.getElem?_map, hj']; rfl
    obtain ⟨b, hb, _⟩ := fq.i.th (j + 1) e.th ht
    have pR : aL (sD (bI (es ++ [e])).aX) (.inr (Tx.S e.nm)) = some (.int ((j + 1 : Nat) : Int)) := by
     rw [show j + 1 = 1 + j by omega]
     exact uV (fun j' e' h' hlt => by
      obtain ⟨n', n1', n8', hn'⟩ := fq.ok.nm j' e' h'
      rw [hn', hn]
      exact r6 n1' (by omega)) hj'
    refine ⟨A1, L', Mk (es ++ [e]), a0, bI (es ++ [e]), b, e.th, 47 :: e.nm, j + 1, rfl, r0, rfl, hU.name hnm (vN _ (by decide +kernel)) ⟨⟨a0, _, r0.bR, r0.bN, rfl⟩, ⟨b, e.th, hb, ht, cC, fun _ => ⟨_, rfl, by rw [Tx.cw, hn, List.length_replicate]; exact n8⟩⟩⟩ pR, hmi, hre, hb, ht, rfl, fun H15 i15 k15 => ?_⟩
    rw [show j + 1 = es.length + 1 by rw [hes], K2] at i15
    have li15 := fq.set (b := []) (H1 := H15) (fq.ok.last (e' := { e with mi := mi, re := re }) rfl rfl) (by rw [List.append_nil]; exact i15) (k15.more fun c hc => by
     simp only [List.mem_cons, List.not_mem_nil, or_false] at hc
     rcases hc with rfl | rfl
     ·simp [Ad.w]
     ·exact List.mem_append_right _ (fJ hb (by simp [Ta.l])))
    rw [hPV]
    exact ⟨_, _, _, _, _, rfl, by simp [hes], li15⟩
   ·intro σ' H7 hI
    rw [hPV] at hI
    obtain ⟨L, es, ps, t3, t4, rfl, hes, li7⟩ := hI
    refine fM (fun σ' H' => ∃ t3, σ' = [some (.ref a), some (.ref A1.a), some (.ref lt), t3, t4] ∧ LI K T.aj T.aB T.aE Pe a ns H' A1 L es es lt ps) ?_ ?_
    ·walk_at "w"
     refine ⟨by decide, qf (fun _ σ' H' => ∃ t3, σ' = [some (.ref a), some (.ref A1.a), some (.ref lt), t3, t4] ∧ LI K T.aj T.aB T.aE Pe a ns H' A1 L es es lt ps) ⟨_, rfl, li7⟩ ?_ (fun σ' H' h => h)⟩
     rintro j σ' H8 hj ⟨t3, rfl, li8⟩
     have hje : j < es.length := by rw [hes]; exact hj
     obtain ⟨p, hpj, hp⟩ := li8.at (List.getElem?_eq_getElem hje)
     walk_at "w"
     rw [Int.zero_add]
     simp only [bt, li8.hl]
     rw [lX (j := j) (v := V.ref p) (by rw [List.getElem?_map, hpj]; rfl)]
     refine ⟨A1, L, es, j, _, li8.i, rfl, li8.ok, List.getElem?_eq_getElem hje, rfl, hp, fun H9 s9 => aS ⟨_, rfl, li8.same s9⟩⟩
    ·rintro σ' H8 ⟨t3, rfl, li8⟩
     walk_at "w"
     refine ⟨⟨ns, li8.sc.sq⟩, by decide, fun c => ⟨A1, L, Mk es, [], li8.i, rfl, rfl, Nat.succ_pos _, ?_, ⟨li8.tab, fun _ z => nomatch z⟩, fun es' H' tab => q H' fun qq hq => ?_⟩⟩
     ·show (bI es :: es.map En.th).length ≤ 100
      rw [List.length_cons, List.length_map]; omega
     ·simp only [List.mem_cons, List.not_mem_nil, or_false] at hq
      subst hq
      exact ⟨es', tab.tab⟩
  ·exact h.elim
theorem JC {K : PySem.W.Frag} {H : Hp} {a : Addr} {ns : List Int} {tabs : jX} (hl : ns.length ≤ 63) (hO : mB tabs H) (hS : aJ K H a (ns.map V.int)) : kW K tabs [.ref a] H (fun v H' => v = .bl true ∧ nj tabs H') fun _ _ _ => False := ⟨⟨ns, hS, hl⟩, hO, fun H' t => ⟨rfl, t⟩⟩
theorem Ea {P : Program} {w : World} {outer : List Env} {H : Hp} {s s' : Shared} {e : Value} (z : bJ P w outer H s (fun _ _ _ => False) e s') : False := by
 obtain ⟨_, _, _, _, _, _, z⟩ := z
 exact z
theorem He {l : PySem.W.OpenLaw} {q : Program} {loose : List Str} {XP : (Str → Option Value) → Heap → Prop} {YP : World → Heap → Prop} {d : DefRec} {K : Params → PySem.W.Frag} {ce Pe : Addr} (hn : l.most = some 63) (hdf : d.params.defaults = []) (hdn : d.name = "law")
  (hY : ∀ (w : World) (h : Heap), YP w h → (K w.params).In h) (hnt : ∀ w : World, PySem.W.noTabs (K w.params) = true)
  (ht0 : ∀ w : World, ∃ e, (recsOf q).find? (fun e => e.name == ("_law_refused" : Str)) = some e ∧ PySem.W.tabIn (K w.params) "_law_refused" = some (ce, Pe))
  (F : ∀ (w : World) (mg : Str → Option Value) (h : Heap), (K w.params).In h → h.Ns mainGlobals mg → ∃ T : Tx (K w.params) mg, T.kD = ce) :
  PySem.W.WalkO q loose XP YP l.row.toRowW d [] (fun f vs => PySem.call f vs) :=
 L2.MO (n := 63) (k := 15) (x := "_law_script") (CX := fun w => bJ l.prog w) (sp := fun w => kW (K w.params) [(ce, Pe)]) (tabs := [(ce, Pe)]) hn (by decide) hdf ⟨rfl, by decide, by decide⟩ hY hnt
  (fun w t ht => by
   rw [List.mem_singleton] at ht
   subst ht
   obtain ⟨e, h1, h2⟩ := ht0 w
   exact ⟨_, e, h1, h2⟩)
  (fun w mg fa h KX G hfa => by
   obtain ⟨T, rfl⟩ := F w mg h KX G
   rw [hdn] at hfa
   have e := hfa.symm.trans T.Fb
   cases e
   exact ⟨T.pO, fun s u => by obtain ⟨oc, od, kV, doc, pm, an, cdv, ct, osl, e, _⟩ := T.ny.ex; rw [e]; exact .of_eq rfl, fun base _ _ hb => Ho T (hb _ List.mem_cons_self).1 (hb _ List.mem_cons_self).2⟩)
  (fun _ _ a ns hl hO hS => JC hl hO hS) fun _ _ _ _ _ z => Ea z
end
theorem EA {K : PySem.W.Frag} {a : Addr} {od : Option Addr} {tk : Nat} {sl : Array (Option Value)} {t0 t1 : Tok} (l : K.lookup a = some ⟨.type "tuple", od, .seq ([.str "." t0, .str ".." t1] : List Value).toArray tk, sl⟩) (H : Hp) : cn K H a [.str ".", .str ".."] := .inr ⟨_, _, _, l, rfl, rfl, fits (by simp), (.cons ⟨_, rfl⟩ (.cons ⟨_, rfl⟩ .nil))⟩
theorem D2 {K : PySem.W.Frag} {a : Addr} {od : Option Addr} {tk : Nat} {sl : Array (Option Value)} {t0 t1 t2 t3 t4 t5 t6 t7 : Tok} (l : K.lookup a = some ⟨.type "tuple", od, .seq ([.str "" t0, .str "l" t1, .str "g" t2, .str "w" t3, .str "lg" t4, .str "lw" t5, .str "gw" t6, .str "lgw" t7] : List Value).toArray tk, sl⟩) (H : Hp) : cn K H a [.str "", .str "l", .str "g", .str "w", .str "lg", .str "lw", .str "gw", .str "lgw"] := .inr ⟨_, _, _, l, rfl, rfl, fits (by simp), (.cons ⟨_, rfl⟩ (.cons ⟨_, rfl⟩ (.cons ⟨_, rfl⟩ (.cons ⟨_, rfl⟩ (.cons ⟨_, rfl⟩ (.cons ⟨_, rfl⟩ (.cons ⟨_, rfl⟩ (.cons ⟨_, rfl⟩ .nil))))))))⟩
theorem M6 {K : PySem.W.Frag} {a : Addr} {od : Option Addr} {tk : Nat} {sl : Array (Option Value)} {t0 t1 t2 : Tok} (l : K.lookup a = some ⟨.type "tuple", od, .seq ([.str "l" t0, .str "g" t1, .str "w" t2] : List Value).toArray tk, sl⟩) (H : Hp) : cn K H a [.str "l", .str "g", .str "w"] := .inr ⟨_, _, _, l, rfl, rfl, fits (by simp), (.cons ⟨_, rfl⟩ (.cons ⟨_, rfl⟩ (.cons ⟨_, rfl⟩ .nil)))⟩
end L2.bf

open PySem PySem.W PyProof.Rows
local macro_rules | `(tactic| walk_at "fa") => `(tactic| (refine' L2.FA.mk ?n ?l ?c ?k; (case n => k_is); (case l => k_is); (case c => k_is); (case k => k_is)))
local macro_rules | `(tactic| walk_at "ma") => `(tactic| (refine' L2.MA.mk ?n ?l ?c ?k ?t; (case n => k_is); (case l => k_is); (case c => k_is); (case k => k_is); (case t => k_is)))
local macro_rules | `(tactic| walk_at "ar") => `(tactic| (intro _ _ _ _ _ _ us hl; first | exact (match us, hl with | [_], _ => rfl) | exact (match us, hl with | [_, _], _ => rfl) | exact (match us, hl with | [_, _, _], _ => rfl) | exact (match us, hl with | [_, _, _, _], _ => rfl) | exact (match us, hl with | [_, _, _, _, _], _ => rfl) | exact (match us, hl with | [_, _, _, _, _, _], _ => rfl) | exact (match us, hl with | [_, _, _, _, _, _, _], _ => rfl) | exact (match us, hl with | [], _ => rfl)))
local macro_rules | `(tactic| walk_at "mg") => `(tactic| (refine' PySem.W.mg_of (by assumption) (by assumption) ?n; (case n => k_is)))
local macro_rules | `(tactic| walk_at "mn") => `(tactic| (refine' PySem.W.mg_none_of (by assumption) (by assumption) ?n; (case n => k_is)))
local macro_rules | `(tactic| walk_at "ft") => `(tactic| (refine' Classical.choice (L2.FA.gt (by assumption) (by assumption) ?b ?a); (case a => walk_at "fa"); (case b => walk_at "ar")))
local macro_rules | `(tactic| walk_at "mt") => `(tactic| (refine' Classical.choice (L2.MA.gt ?b ?a); (case a => walk_at "ma"); (case b => walk_at "ar")))
local macro_rules | `(tactic| walk_at "mk") => `(tactic| (refine' L2.MI ?a ?b; (case a => k_is); (case b => k_is)))
local macro_rules | `(tactic| walk_at "cl") => `(tactic| (refine' L2.cb.mk ?a ?b ?c ?d; (case a => k_is); (case b => k_is); (case c => k_is); (case d => k_is)))
local macro_rules | `(tactic| walk_at "fu") => `(tactic| (refine' L2.tI ?l ?c ?k; (case l => k_is); (case c => k_is); (case k => k_is)))
local macro_rules | `(tactic| walk_at "fd") => `(tactic| (refine' L2.LH ?l ?c ?k ?d ?h; (case l => k_is); (case c => k_is); (case k => k_is); (case d => k_is); (case h => exact rfl)))
set_option maxRecDepth 100000 in
set_option maxHeartbeats 0 in
theorem PySem.Challenge.cw_leadnames_k12_who_may_holds : PySem.Challenge.rw_leadnames_k12_who_may.Holds := by
 refine L2.bf.hd0 ?_
 unfold L2.bf.ee
 k_fill
 refine L2.bf.He (l := PySem.Challenge.rw_leadnames_k12_who_may) (ce := ?ce) (Pe := ?Pe) rfl rfl rfl (fun w h Y => PySem.W.km_in_of (e := fun _ => by kernel_rfl) Y) ?hnt ?ht0 ?F
 case hnt => intro w; first | kernel_rfl | exact rfl
 case ht0 =>
  intro w
  refine' ⟨_, rfl, L2.Oi ?n0 ?l0 ?c0 ?lc0 ?v0⟩
  (case n0 => k_is)
  (case l0 => k_is)
  (case c0 => exact rfl)
  (case lc0 => k_is)
  (case v0 => exact rfl)
 case F =>
  intro w mg h KX G
  refine' ⟨L2.bf.Tx.mk ?_ ?_ ?_ ?_ ?_ ?_ ?_ ?_ ?_ ?_ ?_ ?_ ?_ ?_ ?_ ?_ ?_ ?_ ?o9 ?_ ?AI ?vD ?_ ?_ ?_ ?_ ?_ ?_ ?_ ?_ ?_ ?_ ?o1 ?_ ?qH ?Ae ?x3 ?oQ ?_ ?ve ?yC ?A5 ?_ ?_ ?_ ?_ ?_ ?_ ?_ ?_ ?_ ?oy ?_ ?qe ?ny ?_ ?yb ?_ ?rW ?_ ?_ ?_ ?_ ?_ ?_ ?_ ?_ ?_ ?_ ?_ ?_ ?_ ?_ ?_ ?_ ?_ ?_ ?_ ?_ ?_ ?_ ?_ ?_ ?uw ?_ ?qF ?_ ?_ ?_ ?_ ?_ ?_ ?_ ?_ ?_ ?_ ?_ ?_ ?_ ?_ ?_ ?_ ?_ ?_ ?_ ?_ ?_ ?_ ?_ ?_ ?_ ?_ ?_ ?_ ?_ ?_ ?_ ?_ ?_ ?_ ?_ ?_ ?_ ?_ ?_ ?_ ?_ ?_ ?_ ?_ ?_ ?_ ?_ ?_ ?_ ?_ ?_ ?_ ?_ ?_ ?_ ?_ ?_ ?_ ?_ ?_ ?_ ?_ ?_ ?_ ?_ ?_ ?_ ?_ ?_ ?_ ?_ ?_ ?_ ?_ ?_ ?_ ?_ ?_ ?_ ?_ ?_ ?_ ?_ ?_ ?_ ?_ ?_ ?_ ?_ ?_ ?_ ?_ ?_ ?_ ?_ ?_ ?_ ?_ ?_ ?_ ?_ ?_ ?_ ?_ ?_ ?_ ?_ ?_ ?_ ?_ ?_ ?_ ?_ ?_ ?_ ?_ ?_ ?_ ?_ ?_ ?_ ?_ ?_ ?_ ?_ ?_ ?_ ?_ ?_ ?_ ?_ ?_ ?_ ?_ ?_ ?_ ?_ ?_ ?_ ?_ ?_ ?_ ?_ ?_ ?_ ?_ ?_ ?_ ?_ ?_ ?_ ?_ ?_ ?_ ?_ ?_ ?_ ?_ ?_ ?_ ?_ ?_ ?_ ?_ ?_ ?_ ?_ ?_ ?_ ?_ ?_ ?_ ?_ ?_ ?_ ?_ ?_ ?_ ?_, rfl⟩

  all_goals try (first | walk_at "mg" | walk_at "ft" | walk_at "mt" | k_is | (show PySem.W.findIn _ _ _ = some none; k_is) | walk_at "mn" | kit_is | k_exc | walk_at "mk" | walk_at "cl" | exact rfl | kernel_rfl)
  (case rW => (refine' L2.bf.EA ?l_DOTS; (case l_DOTS => k_is)))
  (case uw => (refine' L2.bf.D2 ?l_RIGHTS; (case l_RIGHTS => k_is)))
  (case qF => (refine' L2.bf.M6 ?l_SINGLE_RIGHTS; (case l_SINGLE_RIGHTS => k_is)))
  (case o9 => walk_at "fd")
  (case AI => exact L2.gI (x := "walk") (y := "walk") (st := L2.bf.lY) (ds := [.bool true]) 1 (by k_is) (by exact rfl) (fun _ _ _ _ _ _ _ us hl => by (have e : us.length = 4 := (by have h := hl; rw [List.length_append] at h; simp at h; omega)); clear hl; exact (match us, e with | [_, _, _, _], _ => ⟨_, rfl, rfl⟩)))
  (case vD => exact L2.gI (x := "walk") (y := "walk") (st := L2.bf.lY) (ds := [.bool true]) 0 (by k_is) (by exact rfl) (fun _ _ _ _ _ _ _ us hl => by (have e : us.length = 3 := (by have h := hl; rw [List.length_append] at h; simp at h; omega)); clear hl; exact (match us, e with | [_, _, _], _ => ⟨_, rfl, rfl⟩)))
  (case o1 => walk_at "fd")
  (case qH => exact L2.gI (x := "make_folder") (y := "make_folder") (st := L2.bf.jZ) (ds := [.str "lgw" _, .str "" _]) 2 (by k_is) (by exact rfl) (fun _ _ _ _ _ _ _ us hl => by (have e : us.length = 5 := (by have h := hl; rw [List.length_append] at h; simp at h; omega)); clear hl; exact (match us, e with | [_, _, _, _, _], _ => ⟨_, rfl, rfl⟩)))
  (case Ae => exact L2.gI (x := "make_folder") (y := "make_folder") (st := L2.bf.jZ) (ds := [.str "lgw" _, .str "" _]) 1 (by k_is) (by exact rfl) (fun _ _ _ _ _ _ _ us hl => by (have e : us.length = 4 := (by have h := hl; rw [List.length_append] at h; simp at h; omega)); clear hl; exact (match us, e with | [_, _, _, _], _ => ⟨_, rfl, rfl⟩)))
  (case x3 => exact L2.gI (x := "make_folder") (y := "make_folder") (st := L2.bf.jZ) (ds := [.str "lgw" _, .str "" _]) 0 (by k_is) (by exact rfl) (fun _ _ _ _ _ _ _ us hl => by (have e : us.length = 3 := (by have h := hl; rw [List.length_append] at h; simp at h; omega)); clear hl; exact (match us, e with | [_, _, _], _ => ⟨_, rfl, rfl⟩)))
  (case oQ => walk_at "fd")
  (case ve => exact L2.gI (x := "make_file") (y := "make_file") (st := L2.bf.je) (ds := [.str "lgw" _, .str "" _]) 2 (by k_is) (by exact rfl) (fun _ _ _ _ _ _ _ us hl => by (have e : us.length = 6 := (by have h := hl; rw [List.length_append] at h; simp at h; omega)); clear hl; exact (match us, e with | [_, _, _, _, _, _], _ => ⟨_, rfl, rfl⟩)))
  (case yC => exact L2.gI (x := "make_file") (y := "make_file") (st := L2.bf.je) (ds := [.str "lgw" _, .str "" _]) 1 (by k_is) (by exact rfl) (fun _ _ _ _ _ _ _ us hl => by (have e : us.length = 5 := (by have h := hl; rw [List.length_append] at h; simp at h; omega)); clear hl; exact (match us, e with | [_, _, _, _, _], _ => ⟨_, rfl, rfl⟩)))
  (case A5 => exact L2.gI (x := "make_file") (y := "make_file") (st := L2.bf.je) (ds := [.str "lgw" _, .str "" _]) 0 (by k_is) (by exact rfl) (fun _ _ _ _ _ _ _ us hl => by (have e : us.length = 4 := (by have h := hl; rw [List.length_append] at h; simp at h; omega)); clear hl; exact (match us, e with | [_, _, _, _], _ => ⟨_, rfl, rfl⟩)))
  (case oy => walk_at "fu")
  (case qe => exact L2.Binds.all (fun us hl => match us, hl with | [_, _], _ => rfl))
  (case ny => walk_at "fu")
  (case yb => exact L2.Binds.all (fun us hl => match us, hl with | [_], _ => rfl))
  all_goals try (first | walk_at "mg" | walk_at "ft" | walk_at "mt" | k_is | (show PySem.W.findIn _ _ _ = some none; k_is) | walk_at "mn" | kit_is | k_exc | walk_at "mk" | walk_at "cl" | exact rfl | kernel_rfl)

