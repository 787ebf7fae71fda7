import PyProof.Rows.All
import Wide.All
import OpenK.AllK
import Wide.FinOn
import HandS.ForMost
import HandS.Exc
import HandS.ExcOwn
import HandS.WordsExc
import HandS.IsInst
import HandS.Wide
import HandS.Gcd
import PyProof.ReprRoads
import HandS.Dict
import HandS.WideBits
import HandS.WordsList
import HandS.NoneIn
import HandS.Iter
import HandS.Comp
import HandS.ExcSuper
import KE.KExcSuper
import HandS.ExcValue
import KE.KExcIs
import HandS.EndBits
import HandS.SetKeys
import HandS.Conv
import PySem.Challenge.RW_floorwalks_k30_stretches_that_hold
set_option Elab.async false
set_option linter.all false
set_option maxRecDepth 100000
set_option maxHeartbeats 4000000
/-! Fw: what a program does, as plain functions over numbered objects; each construct's function is tied to the hand layer once. -/
namespace Fw
open PySem PySem.Spec L2
/-- a value; objects by their number -/
inductive SV where
  | non | bl (b : Bool) | int (i : Int) | str (x : Str) | ref (i : Nat) | scr (ns : List Int)
  deriving DecidableEq, Inhabited
/-- an object -/
inductive SO where
  | lst (xs : List SV) | tup (xs : List SV) | dK (kvs : List (Key × SV)) | dT (kvs : List (List Key × SV)) | ins (c : Nat) (vs : List SV)
  | exo (c : Nat) (vs : List SV)
  | lk (kvs : List (Key × SV))
  deriving DecidableEq, Inhabited
abbrev SH := List SO
abbrev SS := List (Option SV)
inductive Res (α : Type) where
  | stuck | ok (a : α) (h : SH) | ex (c : Nat) (vs : List SV) (h : SH)
@[inline] def Res.bind {α β : Type} (r : Res α) (k : α → SH → Res β) : Res β := match r with
  | .stuck => .stuck
  | .ok a h => k a h
  | .ex c vs h => .ex c vs h
abbrev EM := SS → SH → Res SV
abbrev BM := SS → SH → Res Bool
abbrev AM := SS → SH → Res (List SV)
/-- what stands behind a statement -/
inductive SR where
  | stuck | nx (ss : SS) (h : SH) | rt (v : SV) (h : SH) | bk (ss : SS) (h : SH) | ct (ss : SS) (h : SH) | ex (c : Nat) (vs : List SV) (ss : SS) (h : SH)
abbrev SM := SS → SH → SR
abbrev FM := List SV → SH → Res SV
/-- the classes' places and fields, the written part, the script -/
structure En where
  cl : List (Addr × List Str)
  K : PySem.W.Frag
  a0 : Addr
  ns : List Int
  fz : List (Addr × Obj × List (Key × V))
/-! ### what is held -/
def RS (en : En) (ρ : List Addr) : SV → V → Prop
  | .non, v => v = .non
  | .bl b, v => v = .bl b
  | .int i, v => v = .int i
  | .str x, v => v = .str x
  | .ref i, v => ∃ a, ρ[i]? = some a ∧ v = .ref a
  | .scr ns, v => v = .ref en.a0 ∧ ns = en.ns
abbrev RSs (en : En) (ρ : List Addr) : List SV → List V → Prop := Paired (RS en ρ)
/-- the fields of an error: in its dict, or none -/
def HasF (ρ : List Addr) (H : Hp) (d : Option Addr) (kvs : List (Str × V)) : Prop := (d = none ∧ kvs = []) ∨ ∃ dx, d = some dx ∧ H dx = some (.xd kvs) ∧ dx ∉ ρ
def exoφ (a : Addr) (cls : Value) (d : Option Addr) : Heap → Prop := fun h => ∃ oe us, h.get? a = some oe ∧ Zc cls d oe ∧ oe.data = .fields us
def RO (en : En) (ρ : List Addr) (H : Hp) (a : Addr) : SO → Prop
  | .lst xs => ∃ vs, H a = some (.lst vs) ∧ RSs en ρ xs vs
  | .tup xs => ∃ vs, H a = some (.tup vs) ∧ RSs en ρ xs vs
  | .dK kvs => ∃ kws, H a = some (.dK kws) ∧ Paired (fun p q => p.1 = q.1 ∧ RS en ρ p.2 q.2) kvs kws
  | .dT kvs => ∃ kws, H a = some (.dT kws) ∧ Paired (fun p q => p.1 = q.1 ∧ RS en ρ p.2 q.2) kvs kws
  | .ins c xs => ∃ C ns dx vs, en.cl[c]? = some (C, ns) ∧ H a = some (.ins C dx (ns.zip vs)) ∧ xs.length ≤ ns.length ∧ RSs en ρ xs vs
  | .exo c xs => ∃ C ns d vs, en.cl[c]? = some (C, ns) ∧ H a = some (.ext (exoφ a (.ref C) d)) ∧ HasF ρ H d (ns.zip vs) ∧ xs.length = ns.length ∧ RSs en ρ xs vs
  | .lk kvs => ∃ o kws, en.fz.lookup a = some (o, kws) ∧ H a = some (.frz o (.dK kws)) ∧ Paired (fun p q => p.1 = q.1 ∧ RS en ρ p.2 q.2) kvs kws
structure Rel (en : En) (ρ : List Addr) (h : SH) (H : Hp) : Prop where
  len : ρ.length = h.length
  nd : ρ.Nodup
  ob : ∀ (i : Nat) (a : Addr) (o : SO), ρ[i]? = some a → h[i]? = some o → RO en ρ H a o
  sc : (∃ o, H en.a0 = some (.frz o (.lst (en.ns.map V.int))) ∧ en.a0 ∉ ρ) ∨ SqL en.K (fun _ => none) en.a0 (en.ns.map V.int)
theorem sqL_none {K : PySem.W.Frag} {a : Addr} {xs : List V} (h : SqL K (fun _ => none) a xs) (H : Hp) : SqL K H a xs := by
  rcases h with (h | ⟨o, h⟩) | h
  · cases h
  · cases h
  · exact .inr h
theorem Rel.scr {en : En} {ρ : List Addr} {h : SH} {H : Hp} (R : Rel en ρ h H) : SqL en.K H en.a0 (en.ns.map V.int) := by
  rcases R.sc with ⟨o, e, _⟩ | z
  · exact .inl (.inr ⟨o, e⟩)
  · exact sqL_none z H
structure RSl (en : En) (ρ : List Addr) (ss : SS) (σ : St) : Prop where
  len : ss.length = σ.length
  at_ : ∀ (i : Nat) (v : SV), ss[i]? = some (some v) → ∃ u, σ[i]? = some (some u) ∧ RS en ρ v u
/-- an error in the air: its class, its fields -/
def RX (en : En) (ρ : List Addr) (H : Hp) (c : Nat) (xs : List SV) (cls : Value) (d : Option Addr) : Prop :=
  ∃ C ns vs, en.cl[c]? = some (C, ns) ∧ cls = .ref C ∧ HasF ρ H d (ns.zip vs) ∧ xs.length = ns.length ∧ RSs en ρ xs vs
def Pre (ρ ρ' : List Addr) : Prop := ∃ e, ρ' = ρ ++ e
theorem Pre.refl (ρ : List Addr) : Pre ρ ρ := ⟨[], by simp⟩
theorem Pre.trans {a b c : List Addr} (h : Pre a b) (k : Pre b c) : Pre a c := by
  obtain ⟨x, rfl⟩ := h; obtain ⟨y, rfl⟩ := k; exact ⟨x ++ y, by simp⟩
theorem Pre.one (ρ : List Addr) (p : Addr) : Pre ρ (ρ ++ [p]) := ⟨[p], rfl⟩
theorem Pre.get {ρ ρ' : List Addr} (h : Pre ρ ρ') {i : Nat} {a : Addr} (e : ρ[i]? = some a) : ρ'[i]? = some a := by
  obtain ⟨x, rfl⟩ := h
  rw [List.getElem?_append_left (List.getElem?_eq_some_iff.mp e).1]; exact e
theorem RS.mono {en : En} {ρ ρ' : List Addr} (h : Pre ρ ρ') {x : SV} {v : V} (r : RS en ρ x v) : RS en ρ' x v := by
  cases x <;> first | exact r | (obtain ⟨a, e, q⟩ := r; exact ⟨a, h.get e, q⟩)
theorem paired_mono {α β : Type} {R R' : α → β → Prop} (f : ∀ a b, R a b → R' a b) : ∀ {xs : List α} {ys : List β}, Paired R xs ys → Paired R' xs ys
  | _, _, .nil => .nil
  | _, _, .cons r t => .cons (f _ _ r) (paired_mono f t)
theorem RSs.mono {en : En} {ρ ρ' : List Addr} (h : Pre ρ ρ') {xs : List SV} {vs : List V} (r : RSs en ρ xs vs) : RSs en ρ' xs vs := paired_mono (fun _ _ q => q.mono h) r
theorem RSl.mono {en : En} {ρ ρ' : List Addr} (h : Pre ρ ρ') {ss : SS} {σ : St} (r : RSl en ρ ss σ) : RSl en ρ' ss σ :=
  ⟨r.len, fun i v e => let ⟨u, e', q⟩ := r.at_ i v e; ⟨u, e', q.mono h⟩⟩
theorem RSl.set {en : En} {ρ : List Addr} {ss : SS} {σ : St} (r : RSl en ρ ss σ) {x : SV} {v : V} (q : RS en ρ x v) (i : Nat) : RSl en ρ (ss.set i (some x)) (σ.set i (some v)) := by
  refine ⟨by simp [r.len], fun j y e => ?_⟩
  by_cases hj : i = j
  · subst hj
    by_cases hl : i < ss.length
    · rw [List.getElem?_set_self hl] at e
      cases e
      exact ⟨v, List.getElem?_set_self (by rw [← r.len]; exact hl), q⟩
    · rw [List.getElem?_eq_none (by simpa using hl)] at e; cases e
  · rw [List.getElem?_set_ne hj] at e ⊢
    exact r.at_ j y e
theorem RSl.clear {en : En} {ρ : List Addr} {ss : SS} {σ : St} (r : RSl en ρ ss σ) (i : Nat) : RSl en ρ (ss.set i none) (σ.set i none) := by
  refine ⟨by simp [r.len], fun j y e => ?_⟩
  by_cases hj : i = j
  · subst hj
    by_cases hl : i < ss.length
    · rw [List.getElem?_set_self hl] at e; cases e
    · rw [List.getElem?_eq_none (by simpa using hl)] at e; cases e
  · rw [List.getElem?_set_ne hj] at e ⊢
    exact r.at_ j y e
theorem Rel.at {en : En} {ρ : List Addr} {h : SH} {H : Hp} (R : Rel en ρ h H) {i : Nat} {o : SO} (e : h[i]? = some o) : ∃ a, ρ[i]? = some a ∧ RO en ρ H a o := by
  have hl : i < ρ.length := by rw [R.len]; exact (List.getElem?_eq_some_iff.mp e).1
  exact ⟨ρ[i], List.getElem?_eq_getElem hl, R.ob i _ o (List.getElem?_eq_getElem hl) e⟩
theorem Rel.at2 {en : En} {ρ : List Addr} {h : SH} {H : Hp} (R : Rel en ρ h H) {i : Nat} {o : SO} {a : Addr} (ea : ρ[i]? = some a) (e : h[i]? = some o) : RO en ρ H a o := R.ob i a o ea e
/-- what a held object is stays so where its own place and its error's dict are as they were -/
theorem RO.keep {en : En} {ρ ρ' : List Addr} {H H' : Hp} {a : Addr} {o : SO} (p : Pre ρ ρ') (r : RO en ρ H a o) (k : H' a = H a) (kx : ∀ d fs, d ∉ ρ → H d = some (.xd fs) → H' d = some (.xd fs) ∧ d ∉ ρ') : RO en ρ' H' a o := by
  cases o with
  | lst xs => obtain ⟨vs, e, q⟩ := r; exact ⟨vs, k.trans e, q.mono p⟩
  | tup xs => obtain ⟨vs, e, q⟩ := r; exact ⟨vs, k.trans e, q.mono p⟩
  | dK kvs => obtain ⟨vs, e, q⟩ := r; exact ⟨vs, k.trans e, paired_mono (fun _ _ z => ⟨z.1, z.2.mono p⟩) q⟩
  | dT kvs => obtain ⟨vs, e, q⟩ := r; exact ⟨vs, k.trans e, paired_mono (fun _ _ z => ⟨z.1, z.2.mono p⟩) q⟩
  | ins c xs => obtain ⟨C, ns, dx, vs, e1, e, l, q⟩ := r; exact ⟨C, ns, dx, vs, e1, k.trans e, l, q.mono p⟩
  | lk kvs => obtain ⟨ob, vs, ef, e, q⟩ := r; exact ⟨ob, vs, ef, k.trans e, paired_mono (fun _ _ z => ⟨z.1, z.2.mono p⟩) q⟩
  | exo c xs =>
    obtain ⟨C, ns, d, vs, e1, e, hf, l, q⟩ := r
    refine ⟨C, ns, d, vs, e1, k.trans e, ?_, l, q.mono p⟩
    rcases hf with z | ⟨dx, ed, hd, nd⟩
    · exact .inl z
    · obtain ⟨kd, nd'⟩ := kx dx _ nd hd
      exact .inr ⟨dx, ed, kd, nd'⟩
/-- a held place is tracked -/
theorem RO.some {en : En} {ρ : List Addr} {H : Hp} {a : Addr} {o : SO} (r : RO en ρ H a o) : ∃ u, H a = some u ∧ ∀ fs, u ≠ .xd fs := by
  cases o with
  | lst xs => obtain ⟨vs, e, q⟩ := r; exact ⟨_, e, fun _ z => by cases z⟩
  | tup xs => obtain ⟨vs, e, q⟩ := r; exact ⟨_, e, fun _ z => by cases z⟩
  | dK kvs => obtain ⟨vs, e, q⟩ := r; exact ⟨_, e, fun _ z => by cases z⟩
  | dT kvs => obtain ⟨vs, e, q⟩ := r; exact ⟨_, e, fun _ z => by cases z⟩
  | ins c xs => obtain ⟨C, ns, dx, vs, e1, e, l, q⟩ := r; exact ⟨_, e, fun _ z => by cases z⟩
  | exo c xs => obtain ⟨C, ns, d, vs, e1, e, hf, l, q⟩ := r; exact ⟨_, e, fun _ z => by cases z⟩
  | lk kvs => obtain ⟨ob, vs, ef, e, q⟩ := r; exact ⟨_, e, fun _ z => by cases z⟩
theorem Rel.mem {en : En} {ρ : List Addr} {h : SH} {H : Hp} (R : Rel en ρ h H) {a : Addr} (m : a ∈ ρ) : ∃ u, H a = some u ∧ ∀ fs, u ≠ .xd fs := by
  obtain ⟨i, hl, e⟩ := List.getElem_of_mem m
  have e2 : h[i]? = some (h[i]'(by rw [← R.len]; exact hl)) := List.getElem?_eq_getElem _
  exact (R.ob i a _ (by rw [List.getElem?_eq_getElem hl, e]) e2).some
/-- one object anew -/
theorem Rel.push {en : En} {ρ : List Addr} {h : SH} {H : Hp} (R : Rel en ρ h H) {p : Addr} {u : HO} {o : SO} (hp : H p = none) (r : RO en (ρ ++ [p]) (upd H p u) p o) : Rel en (ρ ++ [p]) (h ++ [o]) (upd H p u) := by
  have np : p ∉ ρ := fun m => by obtain ⟨u, e, _⟩ := R.mem m; rw [hp] at e; cases e
  refine ⟨by simp [R.len], ?_, fun i a ob ea eo => ?_, ?_⟩
  · rw [List.nodup_append]
    exact ⟨R.nd, by simp, fun a ha b hb => by simp at hb; subst hb; exact fun z => np (z ▸ ha)⟩
  · by_cases hi : i < ρ.length
    · rw [List.getElem?_append_left hi] at ea
      rw [List.getElem?_append_left (by rw [← R.len]; exact hi)] at eo
      have ra := R.ob i a ob ea eo
      obtain ⟨w, ew, _⟩ := ra.some
      refine ra.keep (Pre.one ρ p) (upd_ne (ne_of_none ew hp)) fun d fs nd ed => ⟨by rw [upd_ne (ne_of_none ed hp)]; exact ed, fun m => ?_⟩
      rcases List.mem_append.mp m with m | m
      · exact nd m
      · simp at m; subst m; rw [hp] at ed; cases ed
    · have hi2 : ¬ i < h.length := by rw [← R.len]; exact hi
      rw [List.getElem?_append_right (by omega)] at ea
      rw [List.getElem?_append_right (by omega)] at eo
      have e0 : i - ρ.length = 0 := by
        have := (List.getElem?_eq_some_iff.mp ea).1
        simp at this; omega
      have e1 : i - h.length = 0 := by rw [← R.len]; exact e0
      rw [e0] at ea; rw [e1] at eo
      cases ea; cases eo
      exact r
  · rcases R.sc with ⟨ob, e, n⟩ | z
    · refine .inl ⟨ob, by rw [upd_ne (ne_of_none e hp)]; exact e, fun m => ?_⟩
      rcases List.mem_append.mp m with m | m
      · exact n m
      · simp at m; rw [m, hp] at e; cases e
    · exact .inr z
/-- one object changed -/
theorem Rel.put {en : En} {ρ : List Addr} {h : SH} {H : Hp} (R : Rel en ρ h H) {i : Nat} {p : Addr} {u : HO} {o : SO} (hp : ρ[i]? = some p) (r : RO en ρ (upd H p u) p o) : Rel en ρ (h.set i o) (upd H p u) := by
  refine ⟨by simp [R.len], R.nd, fun j a ob ea eo => ?_, ?_⟩
  by_cases hj : i = j
  · subst hj
    rw [hp] at ea; cases ea
    have hl : i < h.length := by rw [← R.len]; exact (List.getElem?_eq_some_iff.mp hp).1
    rw [List.getElem?_set_self hl] at eo; cases eo
    exact r
  · rw [List.getElem?_set_ne hj] at eo
    have ne : a ≠ p := fun z => by
      subst z
      exact hj (nd_ix R.nd hp ea)
    have mp : p ∈ ρ := List.mem_of_getElem? hp
    have kx : ∀ (d : Addr) (fs : List (Str × V)), d ∉ ρ → H d = some (.xd fs) → upd H p u d = some (.xd fs) ∧ d ∉ ρ := fun d fs nd ed => by
      have nd2 : d ≠ p := fun z => nd (by rw [z]; exact mp)
      exact ⟨by rw [upd_ne nd2]; exact ed, nd⟩
    exact (R.ob j a ob ea eo).keep (Pre.refl ρ) (upd_ne ne) kx
  · rcases R.sc with ⟨ob, e, n⟩ | z
    · have ne : en.a0 ≠ p := fun q => n (by rw [q]; exact List.mem_of_getElem? hp)
      exact .inl ⟨ob, by rw [upd_ne ne]; exact e, n⟩
    · exact .inr z
/-- what is not held may change -/
theorem Rel.keep {en : En} {ρ : List Addr} {h : SH} {H H' : Hp} (R : Rel en ρ h H) (k : ∀ a u, H a = some u → H' a = some u) : Rel en ρ h H' :=
  ⟨R.len, R.nd, fun i a o ea eo => by
    have r := R.ob i a o ea eo
    obtain ⟨w, ew, _⟩ := r.some
    exact r.keep (Pre.refl ρ) ((k a w ew).trans ew.symm) fun d fs nd ed => ⟨k d _ ed, nd⟩,
   R.sc.imp (fun ⟨o, e, n⟩ => ⟨o, k _ _ e, n⟩) id⟩
end Fw
namespace Fw
open PySem PySem.Spec L2
/-- what is wanted behind a run r from the places rho -/
def fin {α β : Type} (en : En) (W : WX) (R : List Addr → α → β → Prop) (σ : L2.St) (ρ : List Addr) (r : Res α) (Q : β → Hp → Prop) : Prop := match r with
  | .stuck => False
  | .ok a h => ∀ ρ' H b, Pre ρ ρ' → Rel en ρ' h H → R ρ' a b → Q b H
  | .ex c xs h => ∀ ρ' H cls d, Pre ρ ρ' → Rel en ρ' h H → RX en ρ' H c xs cls d → W cls d σ H
/-- the reading of a meaning m -/
def tM {α β : Type} (en : En) (W : WX) (R : List Addr → α → β → Prop) (m : SS → SH → Res α) : L2.St → Hp → (β → Hp → Prop) → Prop := fun σ H Q =>
  ∃ ρ ss h, Rel en ρ h H ∧ RSl en ρ ss σ ∧ fin en W R σ ρ (m ss h) Q
abbrev RB : List Addr → Bool → Bool → Prop := fun _ a b => a = b
abbrev tE (en : En) (W : WX) (m : EM) : TE := tM en W (RS en) m
abbrev tT (en : En) (W : WX) (m : BM) : TT := tM en W RB m
abbrev tA (en : En) (W : WX) (m : AM) : TA := tM en W (RSs en) m
theorem fin.mono {α β : Type} {en : En} {W : WX} {R : List Addr → α → β → Prop} {σ : L2.St} {ρ ρ' : List Addr} {r : Res α} {Q : β → Hp → Prop} (p : Pre ρ ρ') (f : fin en W R σ ρ r Q) : fin en W R σ ρ' r Q := by
  cases r with
  | stuck => exact f
  | ok a h => exact fun ρ2 H b p2 => f ρ2 H b (p.trans p2)
  | ex c xs h => exact fun ρ2 H cls d p2 => f ρ2 H cls d (p.trans p2)
theorem tM.bind {α β γ δ : Type} {en : En} {W : WX} {R1 : List Addr → α → β → Prop} {R2 : List Addr → γ → δ → Prop} {ma : SS → SH → Res α} {k : α → SS → SH → Res γ} {σ : L2.St} {H : Hp} {Q : δ → Hp → Prop}
    (t : tM en W R2 (fun ss h => (ma ss h).bind fun a h1 => k a ss h1) σ H Q) :
    tM en W R1 ma σ H fun b H1 => ∃ ρ ss h a, Rel en ρ h H1 ∧ RSl en ρ ss σ ∧ R1 ρ a b ∧ fin en W R2 σ ρ (k a ss h) Q := by
  obtain ⟨ρ, ss, h, rel, rs, f⟩ := t
  refine ⟨ρ, ss, h, rel, rs, ?_⟩
  cases e : ma ss h with
  | stuck => simp only [e, Res.bind, fin] at f
  | ok a h1 =>
    simp only [e, Res.bind] at f
    exact fun ρ' H' b p rel' rb => ⟨ρ', ss, h1, a, rel', rs.mono p, rb, f.mono p⟩
  | ex c xs h1 =>
    simp only [e, Res.bind, fin] at f
    exact f
theorem tM.imp {α β : Type} {en : En} {W : WX} {R : List Addr → α → β → Prop} {m : SS → SH → Res α} {σ : L2.St} {H : Hp} {Q Q' : β → Hp → Prop} (t : tM en W R m σ H Q) (k : ∀ b H, Q b H → Q' b H) : tM en W R m σ H Q' := by
  obtain ⟨ρ, ss, h, rel, rs, f⟩ := t
  refine ⟨ρ, ss, h, rel, rs, ?_⟩
  cases e : m ss h with
  | stuck => rw [e] at f; exact f
  | ok a h1 => rw [e] at f; exact fun ρ' H' b p r q => k _ _ (f ρ' H' b p r q)
  | ex c xs h1 => rw [e] at f; exact f
theorem PEimp {X : Cx} {e : Expr} {t t' : TE} (h : PE X e t) (k : ∀ σ H Q, t' σ H Q → t σ H Q) : PE X e t' := ⟨fun pins s σ H Q I q => h.run pins s σ H Q I (k σ H Q q)⟩
theorem PTimp {X : Cx} {e : Expr} {t t' : TT} (h : PT X e t) (k : ∀ σ H Q, t' σ H Q → t σ H Q) : PT X e t' := ⟨fun pins s σ H Q I q => h.run pins s σ H Q I (k σ H Q q)⟩
theorem PWimp {X : Cx} {e : Expr} {t t' : TT} (h : PW X e t) (k : ∀ σ H Q, t' σ H Q → t σ H Q) : PW X e t' := ⟨fun wh pins s σ H Q I q => h.run wh pins s σ H Q I (k σ H Q q)⟩
theorem PAimp {X : Cx} {e : List Expr} {t t' : TA} (h : PA X e t) (k : ∀ σ H Q, t' σ H Q → t σ H Q) : PA X e t' := ⟨fun ps pins s σ H Q I q => h.run ps pins s σ H Q I (k σ H Q q)⟩
theorem PSimp {X : Cx} {e : Stmt} {t t' : TS} (h : PS X e t) (k : ∀ D σ H, t' D σ H → t D σ H) : PS X e t' := ⟨fun pins s σ H D I q => h.run pins s σ H D I (k D σ H q)⟩
theorem PSsimp {X : Cx} {e : List Stmt} {t t' : TS} (h : PSs X e t) (k : ∀ D σ H, t' D σ H → t D σ H) : PSs X e t' := ⟨fun pins s σ H D I q => h.run pins s σ H D I (k D σ H q)⟩
/-! ### operations by values -/
abbrev O1 := SV → SH → Option (SV × SH)
abbrev O2 := SV → SV → SH → Option (SV × SH)
abbrev OA := List SV → SH → Option (SV × SH)
def lift {α : Type} (o : Option (α × SH)) : Res α := match o with
  | some (a, h) => .ok a h
  | none => .stuck
/-- what is wanted of an operation's answer -/
def finO (en : En) (ρ : List Addr) (o : Option (SV × SH)) (Q : V → Hp → Prop) : Prop := ∃ a h, o = some (a, h) ∧ ∀ ρ' H b, Pre ρ ρ' → Rel en ρ' h H → RS en ρ' a b → Q b H
theorem fin.lift {en : En} {W : WX} {σ : L2.St} {ρ : List Addr} {o : Option (SV × SH)} {Q : V → Hp → Prop} (f : fin en W (RS en) σ ρ (lift o) Q) : finO en ρ o Q := by
  cases o with
  | none => exact f.elim
  | some p => exact ⟨p.1, p.2, rfl, f⟩
def rO2 (en : En) (op : O2) : R2 := fun x y H Q => ∃ ρ h a b, Rel en ρ h H ∧ RS en ρ a x ∧ RS en ρ b y ∧ finO en ρ (op a b h) Q
def rO1 (en : En) (op : O1) : V → Hp → VK → Prop := fun x H Q => ∃ ρ h a, Rel en ρ h H ∧ RS en ρ a x ∧ finO en ρ (op a h) Q
def rOA (en : En) (op : OA) : List V → Hp → VK → Prop := fun xs H Q => ∃ ρ h as, Rel en ρ h H ∧ RSs en ρ as xs ∧ finO en ρ (op as h) Q
def mO2 (op : O2) (ma mb : EM) : EM := fun ss h => (ma ss h).bind fun a h1 => (mb ss h1).bind fun b h2 => lift (op a b h2)
def mO1 (op : O1) (ma : EM) : EM := fun ss h => (ma ss h).bind fun a h1 => lift (op a h1)
def mOA (op : OA) (ma : AM) : EM := fun ss h => (ma ss h).bind fun a h1 => lift (op a h1)
section
variable {X : Cx} {en : En} {W : WX} {a b : Expr} {ma mb : EM} {pos : Pos}
theorem tO2 {op : O2} (σ : L2.St) (H : Hp) (Q : VK) (t : tE en W (mO2 op ma mb) σ H Q) : tOp (rO2 en op) (tE en W ma) (tE en W mb) σ H Q := by
  refine (tM.bind (R1 := RS en) (k := fun a ss h => (mb ss h).bind fun b h2 => lift (op a b h2)) t).imp fun x H1 ⟨ρ, ss, h, a, rel, rs, ra, f⟩ => ?_
  have t2 : tM en W (RS en) (fun ss h => (mb ss h).bind fun b h2 => (fun b (ss : SS) h2 => lift (op a b h2)) b ss h2) σ H1 Q := ⟨ρ, ss, h, rel, rs, f⟩
  obtain ⟨ρ2, ss2, h2, rel2, rs2, f2⟩ := t2
  -- keep a's relation: rebuild with the places at hand
  refine ⟨ρ, ss, h, rel, rs, ?_⟩
  cases e : mb ss h with
  | stuck => simp only [e, Res.bind, fin] at f
  | ok b h1 =>
    simp only [e, Res.bind] at f
    exact fun ρ' H' u p rel' rb => ⟨ρ', h1, a, b, rel', ra.mono p, rb, (f.mono p).lift⟩
  | ex c xs h1 =>
    simp only [e, Res.bind, fin] at f
    exact f
theorem PE.o2 {op : Operator} {o : O2} (ho : OpR X (binaryOp op) (rO2 en o)) (ha : PE X a (tE en W ma)) (hb : PE X b (tE en W mb)) : PE X (.BinOp a op b pos) (tE en W (mO2 o ma mb)) := PEimp (pe_op ho ha hb) fun σ H Q t => tO2 σ H Q t
theorem PE.cmp {op : CmpOp} {o : O2} (ho : OpR X (compareOp op) (rO2 en o)) (ha : PE X a (tE en W ma)) (hb : PE X b (tE en W mb)) (hm : behindInMarks op b = false) : PE X (.Compare a [op] [b] pos) (tE en W (mO2 o ma mb)) := PEimp (pe_cmpR ho ha hb hm) fun σ H Q t => tO2 σ H Q t
/-- a meaning that gives a Bool, as a test -/
def mB (m : EM) : BM := fun ss h => (m ss h).bind fun v h1 => match v with
  | .bl b => .ok b h1
  | _ => .stuck
theorem tBool {m : EM} (σ : L2.St) (H : Hp) (Q : Bool → Hp → Prop) (t : tT en W (mB m) σ H Q) : tB (tE en W m) σ H Q := by
  refine (tM.bind (R1 := RS en) (k := fun v ss h1 => match v with | .bl b => .ok b h1 | _ => .stuck) t).imp fun x H1 ⟨ρ, ss, h, v, rel, rs, rv, f⟩ => ?_
  cases v with
  | bl b =>
    cases rv
    exact ⟨b, rfl, f ρ H1 b (Pre.refl ρ) rel rfl⟩
  | _ => exact f.elim
theorem PT.val {e : Expr} {m : EM} (h : PE X e (tE en W m)) (he : ∀ whole, isTrue e X.env whole = (do let v ← whole; standAt e.pos; holding [v] (truthy v)) := by intro _; rfl) : PT X e (tT en W (mB m)) := PTimp (pt_val h he) fun σ H Q t => tBool σ H Q t
/-! names, constants -/
def mVar (i : Nat) : EM := fun ss h => match ss[i]? with
  | some (some v) => .ok v h
  | _ => .stuck
def mC (v : SV) : EM := fun _ h => .ok v h
theorem PE.var (i : Nat) {x : Str} (hN : X.N[i]? = some x := by rfl) (hv : Vis X.env.scope x := by first | exact Or.inl rfl | exact Or.inr (Or.inl rfl) | exact Or.inr (Or.inr rfl)) (hd : (x == ("__debug__" : Str)) = false := by decide)
    (hcd : (x == ("__classdict__" : Str)) = false := by decide) : PE X (.Name x pos) (tE en W (mVar i)) := by
  refine PEimp (pe_var hN hv hd hcd) fun σ H Q ⟨ρ, ss, h, rel, rs, f⟩ => ?_
  unfold mVar at f
  cases e : ss[i]? with
  | none => rw [e] at f; exact f.elim
  | some o =>
    cases o with
    | none => rw [e] at f; exact f.elim
    | some v =>
      rw [e] at f
      obtain ⟨u, eu, r⟩ := rs.at_ i v e
      exact ⟨u, eu, f ρ H u (Pre.refl ρ) rel r⟩
theorem constOf {v : SV} {u : V} (hr : ∀ ρ, RS en ρ v u) (σ : L2.St) (H : Hp) (Q : VK) (t : tE en W (mC v) σ H Q) : tC u σ H Q := by
  obtain ⟨ρ, ss, h, rel, rs, f⟩ := t
  exact f ρ H u (Pre.refl ρ) rel (hr ρ)
theorem PE.int {i : Int} {j : Nat} : PE X (.Constant (.int i) j pos) (tE en W (mC (.int i))) := PEimp pe_int (constOf fun _ => rfl)
theorem PE.bl {i : Bool} {j : Nat} : PE X (.Constant (.bool i) j pos) (tE en W (mC (.bl i))) := PEimp pe_bl (constOf fun _ => rfl)
theorem PE.non {j : Nat} : PE X (.Constant .none j pos) (tE en W (mC .non)) := PEimp pe_non (constOf fun _ => rfl)
theorem PE.str {x : Str} {j : Nat} : PE X (.Constant (.str x) j pos) (tE en W (mC (.str x))) := PEimp pe_str (constOf fun _ => rfl)
end
end Fw
namespace Fw
open PySem PySem.Spec L2
theorem OpRimp {X : Cx} {f : Value → Value → Sem Value} {r r' : R2} (h : OpR X f r) (k : ∀ x y H Q, r' x y H Q → r x y H Q) : OpR X f r' := fun pins s σ H x y v u Q I rx ry q => h pins s σ H x y v u Q I rx ry (k _ _ _ _ q)
theorem CallRimp {X : Cx} {f : Value} {r r' : List V → Hp → VK → Prop} (h : CallR X f r) (k : ∀ xs H Q, r' xs H Q → r xs H Q) : CallR X f r' := fun pins s σ H xs us Q I r q => h pins s σ H xs us Q I r (k _ _ _ q)
def big : Nat := 16777216
theorem big_eq : (sizeLine : Nat) = big := by rw [sizeLine_eq]; rfl
/-- a new object -/
def alloc (o : SO) : SH → Option (SV × SH) := fun h => some (.ref h.length, h ++ [o])
section
variable {X : Cx} {en : En}
/-- what stays: the places at hand, the answer without objects -/
theorem finO.here {ρ : List Addr} {h : SH} {H : Hp} {a : SV} {b : V} {Q : V → Hp → Prop} (f : finO en ρ (some (a, h)) Q) (rel : Rel en ρ h H) (r : RS en ρ a b) : Q b H := by
  obtain ⟨a', h', e, k⟩ := f
  cases e
  exact k ρ H b (Pre.refl ρ) rel r
theorem finO.new {ρ : List Addr} {h : SH} {H : Hp} {o : SO} {Q : V → Hp → Prop} (f : finO en ρ (alloc o h) Q) (rel : Rel en ρ h H) {p : Addr} {u : HO} (hp : H p = none) (r : RO en (ρ ++ [p]) (upd H p u) p o) : Q (.ref p) (upd H p u) := by
  obtain ⟨a', h', e, k⟩ := f
  cases e
  exact k (ρ ++ [p]) _ _ (Pre.one ρ p) (rel.push hp r) ⟨p, by rw [← rel.len, List.getElem?_append_right (Nat.le_refl _)]; simp, rfl⟩
theorem finO.newLst {ρ : List Addr} {h : SH} {H : Hp} {xs : List SV} {vs : List V} {Q : V → Hp → Prop} (f : finO en ρ (alloc (.lst xs) h) Q) (rel : Rel en ρ h H) (r : RSs en ρ xs vs) : ∀ p, H p = none → Q (.ref p) (upd H p (.lst vs)) :=
  fun p hp => f.new rel hp ⟨vs, upd_same, r.mono (Pre.one ρ p)⟩
theorem finO.newTup {ρ : List Addr} {h : SH} {H : Hp} {xs : List SV} {vs : List V} {Q : V → Hp → Prop} (f : finO en ρ (alloc (.tup xs) h) Q) (rel : Rel en ρ h H) (r : RSs en ρ xs vs) : ∀ p, H p = none → Q (.ref p) (upd H p (.tup vs)) :=
  fun p hp => f.new rel hp ⟨vs, upd_same, r.mono (Pre.one ρ p)⟩
theorem finO.put {ρ : List Addr} {h : SH} {H : Hp} {a : SV} {b : V} {i : Nat} {o : SO} {Q : V → Hp → Prop} (f : finO en ρ (some (a, h.set i o)) Q) (rel : Rel en ρ h H) {p : Addr} {u : HO} (hp : ρ[i]? = some p) (r : RO en ρ (upd H p u) p o) (rb : RS en ρ a b) : Q b (upd H p u) := by
  obtain ⟨a', h', e, k⟩ := f
  cases e
  exact k ρ _ _ (Pre.refl ρ) (rel.put hp r) rb
theorem RSs.len {en : En} {ρ : List Addr} : ∀ {xs : List SV} {vs : List V}, RSs en ρ xs vs → xs.length = vs.length := fun r => Paired.length r
theorem RSs.app {en : En} {ρ : List Addr} : ∀ {xs ys : List SV} {vs ws : List V}, RSs en ρ xs vs → RSs en ρ ys ws → RSs en ρ (xs ++ ys) (vs ++ ws)
  | _, _, _, _, .nil, s => s
  | _, _, _, _, .cons r t, s => .cons r (RSs.app t s)
theorem RSs.get {en : En} {ρ : List Addr} : ∀ {xs : List SV} {vs : List V} {i : Nat} {x : SV}, RSs en ρ xs vs → xs[i]? = some x → ∃ v, vs[i]? = some v ∧ RS en ρ x v
  | _, _, _, _, .nil, e => by simp at e
  | _, _, 0, _, .cons r _, e => by simp at e; subst e; exact ⟨_, rfl, r⟩
  | _, _, i + 1, x, .cons _ t, e => by
    obtain ⟨u, h1, h2⟩ := RSs.get (i := i) (x := x) t (by simpa using e)
    exact ⟨u, by simpa using h1, h2⟩
theorem RSs.set {en : En} {ρ : List Addr} {x : SV} {v : V} (r : RS en ρ x v) : ∀ {xs : List SV} {vs : List V} (i : Nat), RSs en ρ xs vs → RSs en ρ (xs.set i x) (vs.set i v)
  | _, _, _, .nil => .nil
  | _, _, 0, .cons _ t => .cons r t
  | _, _, i + 1, .cons q t => .cons q (RSs.set r i t)
theorem RSs.take {en : En} {ρ : List Addr} : ∀ {xs : List SV} {vs : List V} (n : Nat), RSs en ρ xs vs → RSs en ρ (xs.take n) (vs.take n)
  | _, _, 0, _ => .nil
  | _, _, _ + 1, .nil => .nil
  | _, _, n + 1, .cons r t => .cons r (RSs.take n t)
theorem RSs.drop {en : En} {ρ : List Addr} : ∀ {xs : List SV} {vs : List V} (n : Nat), RSs en ρ xs vs → RSs en ρ (xs.drop n) (vs.drop n)
  | _, _, 0, r => r
  | _, _, _ + 1, .nil => .nil
  | _, _, n + 1, .cons _ t => RSs.drop n t
/-- a list's object -/
theorem Rel.lst {ρ : List Addr} {h : SH} {H : Hp} (R : Rel en ρ h H) {i : Nat} {xs : List SV} {v : V} (e : h[i]? = some (.lst xs)) (r : RS en ρ (.ref i) v) : ∃ p vs, v = .ref p ∧ ρ[i]? = some p ∧ H p = some (.lst vs) ∧ RSs en ρ xs vs := by
  obtain ⟨p, ep, rfl⟩ := r
  obtain ⟨vs, e1, q⟩ := R.at2 ep e
  exact ⟨p, vs, rfl, ep, e1, q⟩
theorem Rel.tup {ρ : List Addr} {h : SH} {H : Hp} (R : Rel en ρ h H) {i : Nat} {xs : List SV} {v : V} (e : h[i]? = some (.tup xs)) (r : RS en ρ (.ref i) v) : ∃ p vs, v = .ref p ∧ ρ[i]? = some p ∧ H p = some (.tup vs) ∧ RSs en ρ xs vs := by
  obtain ⟨p, ep, rfl⟩ := r
  obtain ⟨vs, e1, q⟩ := R.at2 ep e
  exact ⟨p, vs, rfl, ep, e1, q⟩
/-! ### + - * // % ** -/
def opAdd : O2 := fun a b h => match a, b with
  | .int i, .int j => some (.int (i + j), h)
  | .str x, .str y => if x.length + y.length ≤ big then some (.str (x ++ y), h) else none
  | .ref i, .ref j => match h[i]?, h[j]? with
    | some (.lst xs), some (.lst ys) => if xs.length + ys.length ≤ big then alloc (.lst (xs ++ ys)) h else none
    | _, _ => none
  | _, _ => none
theorem op_addM : OpR X (binaryOp .Add) (rO2 en opAdd) := by
  refine OpRimp (op_add.or (op_add_str.or op_cat)) fun x y H Q ⟨ρ, h, a, b, rel, ra, rb, v, h', e, k⟩ => ?_
  unfold opAdd at e
  split at e
  · cases ra; cases rb
    exact .inl ⟨_, _, rfl, rfl, finO.here ⟨_, _, e, k⟩ rel rfl⟩
  · cases ra; cases rb
    split at e
    · exact .inr (.inl ⟨_, _, rfl, rfl, by rw [big_eq]; assumption, finO.here ⟨_, _, e, k⟩ rel rfl⟩)
    · cases e
  · split at e
    · rename_i ei ej
      split at e
      · obtain ⟨p, vs, rfl, ep, e1, r1⟩ := rel.lst ei ra
        obtain ⟨q, ws, rfl, eq, e2, r2⟩ := rel.lst ej rb
        exact .inr (.inr ⟨p, q, vs, ws, rfl, rfl, e1, e2, by rw [big_eq, ← r1.len, ← r2.len]; assumption, finO.newLst ⟨_, _, e, k⟩ rel (r1.app r2)⟩)
      · cases e
    · cases e
  · cases e
end
end Fw
namespace Fw
open PySem PySem.Spec L2
section
variable {X : Cx} {en : En}
def opSub : O2 := fun a b h => match a, b with
  | .int i, .int j => some (.int (i - j), h)
  | _, _ => none
theorem op_subM : OpR X (binaryOp .Sub) (rO2 en opSub) := by
  refine OpRimp op_sub fun x y H Q ⟨ρ, h, a, b, rel, ra, rb, v, h', e, k⟩ => ?_
  unfold opSub at e
  split at e
  · cases ra; cases rb
    exact ⟨_, _, rfl, rfl, finO.here ⟨_, _, e, k⟩ rel rfl⟩
  · cases e
def okMul (i j : Int) : Bool := decide ((-18446744073709551616 < i ∧ i < 18446744073709551616) ∨ (-18446744073709551616 < j ∧ j < 18446744073709551616))
theorem okMul_of {i j : Int} (h : okMul i j = true) : CMul i j := by
  have e : (2 : Int) ^ 64 = 18446744073709551616 := by decide
  unfold CMul
  rw [e]
  exact of_decide_eq_true h
/-- k times the items -/
def repS : Nat → List SV → List SV
  | 0, _ => []
  | n + 1, xs => xs ++ repS n xs
theorem repS_rel {ρ : List Addr} {xs : List SV} {vs : List V} (r : RSs en ρ xs vs) : ∀ n, RSs en ρ (repS n xs) (List.replicate n vs).flatten
  | 0 => .nil
  | n + 1 => by
    rw [List.replicate_succ, List.flatten_cons]
    exact r.app (repS_rel r n)
def opMul : O2 := fun a b h => match a, b with
  | .int i, .int j => if okMul i j = true then some (.int (i * j), h) else none
  | .ref i, .int k => match h[i]? with
    | some (.lst xs) => if k ≤ 16777216 ∧ -16777216 ≤ k ∧ xs.length * k.toNat ≤ big then alloc (.lst (repS k.toNat xs)) h else none
    | _ => none
  | _, _ => none
theorem op_mulM : OpR X (binaryOp .Mult) (rO2 en opMul) := by
  refine OpRimp (op_mul.or op_rep) fun x y H Q ⟨ρ, h, a, b, rel, ra, rb, v, h', e, k⟩ => ?_
  unfold opMul at e
  split at e
  · cases ra; cases rb
    split at e
    · rename_i hk
      exact .inl ⟨_, _, rfl, rfl, okMul_of hk, finO.here ⟨_, _, e, k⟩ rel rfl⟩
    · cases e
  · split at e
    · rename_i ei
      split at e
      · rename_i hk
        cases rb
        obtain ⟨p, vs, rfl, ep, e1, r1⟩ := rel.lst ei ra
        exact .inr ⟨p, _, vs, rfl, rfl, e1, by omega, by omega, by rw [big_eq, ← r1.len]; exact hk.2.2, finO.newLst ⟨_, _, e, k⟩ rel (repS_rel r1 _)⟩
      · cases e
    · cases e
  · cases e
def opFdiv : O2 := fun a b h => match a, b with
  | .int i, .int j => if 0 < j ∧ j.natAbs.log2 < 9000 then some (.int (i / j), h) else none
  | _, _ => none
theorem op_fdivM : OpR X (binaryOp .FloorDiv) (rO2 en opFdiv) := by
  refine OpRimp op_fdivW fun x y H Q ⟨ρ, h, a, b, rel, ra, rb, v, h', e, k⟩ => ?_
  unfold opFdiv at e
  split at e
  · cases ra; cases rb
    split at e
    · rename_i hk
      exact ⟨_, _, rfl, rfl, hk, finO.here ⟨_, _, e, k⟩ rel rfl⟩
    · cases e
  · cases e
def opMod : O2 := fun a b h => match a, b with
  | .int i, .int j => if 0 < j then some (.int (i % j), h) else none
  | _, _ => none
theorem op_modM : OpR X (binaryOp .Mod) (rO2 en opMod) := by
  refine OpRimp op_mod fun x y H Q ⟨ρ, h, a, b, rel, ra, rb, v, h', e, k⟩ => ?_
  unfold opMod at e
  split at e
  · cases ra; cases rb
    split at e
    · rename_i hk
      exact ⟨_, _, rfl, rfl, hk, finO.here ⟨_, _, e, k⟩ rel rfl⟩
    · cases e
  · cases e
def opPow : O2 := fun a b h => match a, b with
  | .int i, .int j => if 0 ≤ j ∧ (Builtin.Int.intBits i : Int) * j ≤ 134217728 then some (.int (i ^ j.toNat), h) else none
  | _, _ => none
theorem op_powW : OpR X (binaryOp .Pow) (rI (fun i j => 0 ≤ j ∧ (Builtin.Int.intBits i : Int) * j ≤ 134217728) fun i j => .int (i ^ j.toNat)) := opI fun i j _ _ _ _ _ hc q => PyProof.Rows.pow_int hc.1 hc.2 q
theorem op_powM : OpR X (binaryOp .Pow) (rO2 en opPow) := by
  refine OpRimp op_powW fun x y H Q ⟨ρ, h, a, b, rel, ra, rb, v, h', e, k⟩ => ?_
  unfold opPow at e
  split at e
  · cases ra; cases rb
    split at e
    · rename_i hk
      exact ⟨_, _, rfl, rfl, hk, finO.here ⟨_, _, e, k⟩ rel rfl⟩
    · cases e
  · cases e
def opNeg : O1 := fun a h => match a with
  | .int i => some (.int (-i), h)
  | _ => none
theorem op_negM : UnR X (unaryOp .USub) (rO1 en opNeg) := fun pins s σ H x v Q I rx ⟨ρ, h, a, rel, ra, w, h', e, k⟩ => by
  unfold opNeg at e
  split at e
  · cases ra
    exact un_neg pins s σ H _ v Q I rx ⟨_, rfl, finO.here ⟨_, _, e, k⟩ rel rfl⟩
  · cases e
theorem PE.un {W : WX} {a : Expr} {ma : EM} {pos : Pos} {op : UnaryOp} {o : O1} (ho : UnR X (unaryOp op) (rO1 en o)) (ha : PE X a (tE en W ma)) : PE X (.UnaryOp op a pos) (tE en W (mO1 o ma)) :=
  PEimp (pe_un ho ha) fun σ H Q t => (tM.bind (R1 := RS en) (k := fun a ss h => lift (o a h)) t).imp fun x H1 ⟨ρ, ss, h, a, rel, rs, ra, f⟩ => ⟨ρ, h, a, rel, ra, f.lift⟩
/-! ### < <= > >= of ints (and <= of one-sign texts), is None -/
def opLt : O2 := fun a b h => match a, b with
  | .int i, .int j => some (.bl (decide (i < j)), h)
  | _, _ => none
def opLe : O2 := fun a b h => match a, b with
  | .int i, .int j => some (.bl (decide (i ≤ j)), h)
  | .str x, .str y => some (.bl (!decide (y.cps.toList < x.cps.toList)), h)
  | _, _ => none
def opGt : O2 := fun a b h => match a, b with
  | .int i, .int j => some (.bl (decide (j < i)), h)
  | _, _ => none
def opGe : O2 := fun a b h => match a, b with
  | .int i, .int j => some (.bl (decide (j ≤ i)), h)
  | _, _ => none
theorem op_ltM : OpR X (compareOp .Lt) (rO2 en opLt) := by
  refine OpRimp op_lt fun x y H Q ⟨ρ, h, a, b, rel, ra, rb, v, h', e, k⟩ => ?_
  unfold opLt at e
  split at e
  · cases ra; cases rb
    exact ⟨_, _, rfl, rfl, finO.here ⟨_, _, e, k⟩ rel rfl⟩
  · cases e
theorem op_gtM : OpR X (compareOp .Gt) (rO2 en opGt) := by
  refine OpRimp op_gt fun x y H Q ⟨ρ, h, a, b, rel, ra, rb, v, h', e, k⟩ => ?_
  unfold opGt at e
  split at e
  · cases ra; cases rb
    exact ⟨_, _, rfl, rfl, finO.here ⟨_, _, e, k⟩ rel rfl⟩
  · cases e
theorem op_geM : OpR X (compareOp .GtE) (rO2 en opGe) := by
  refine OpRimp op_ge fun x y H Q ⟨ρ, h, a, b, rel, ra, rb, v, h', e, k⟩ => ?_
  unfold opGe at e
  split at e
  · cases ra; cases rb
    exact ⟨_, _, rfl, rfl, finO.here ⟨_, _, e, k⟩ rel rfl⟩
  · cases e
theorem op_leM : OpR X (compareOp .LtE) (rO2 en opLe) := by
  refine OpRimp (op_le.or op_le_str) fun x y H Q ⟨ρ, h, a, b, rel, ra, rb, v, h', e, k⟩ => ?_
  unfold opLe at e
  split at e
  · cases ra; cases rb
    exact .inl ⟨_, _, rfl, rfl, finO.here ⟨_, _, e, k⟩ rel rfl⟩
  · cases ra; cases rb
    exact .inr ⟨_, _, rfl, rfl, finO.here ⟨_, _, e, k⟩ rel rfl⟩
  · cases e
def opIsN : O2 := fun a b h => match b with
  | .non => some (.bl (decide (a = .non)), h)
  | _ => none
def opNotN : O2 := fun a b h => match b with
  | .non => some (.bl (!decide (a = .non)), h)
  | _ => none
theorem RS.non_iff {en : En} {ρ : List Addr} {a : SV} {x : V} (r : RS en ρ a x) : decide (a = .non) = decide (x = .non) := by
  cases a with
  | ref i => obtain ⟨p, _, rfl⟩ := r; rfl
  | scr ns => obtain ⟨rfl, _⟩ := r; rfl
  | _ => cases r; rfl
theorem op_isNM : OpR X (compareOp .Is) (rO2 en opIsN) := by
  refine OpRimp op_isN fun x y H Q ⟨ρ, h, a, b, rel, ra, rb, v, h', e, k⟩ => ?_
  unfold opIsN at e
  split at e
  · cases rb
    refine ⟨rfl, ?_⟩
    rw [← ra.non_iff]
    exact finO.here ⟨_, _, e, k⟩ rel rfl
  · cases e
theorem op_notNM : OpR X (compareOp .IsNot) (rO2 en opNotN) := by
  refine OpRimp op_notN fun x y H Q ⟨ρ, h, a, b, rel, ra, rb, v, h', e, k⟩ => ?_
  unfold opNotN at e
  split at e
  · cases rb
    refine ⟨rfl, ?_⟩
    rw [← ra.non_iff]
    exact finO.here ⟨_, _, e, k⟩ rel rfl
  · cases e
end
end Fw
namespace Fw
open PySem PySem.Spec L2
/-- an object's places read as data -/
def dataAll (f : SV → Option PyData) : List SV → Option (List PyData)
  | [] => some []
  | x :: xs => match f x with
    | none => none
    | some d => match dataAll f xs with
      | none => none
      | some ds => some (d :: ds)
def keyD : Key → PyData
  | .inl i => .int i
  | .inr x => .str x
def dataOf : Nat → SH → SV → Option PyData
  | 0, _, _ => none
  | n + 1, h, v => match v with
    | .non => some .none
    | .bl b => some (.bool b)
    | .int i => some (.int i)
    | .str x => some (.str x)
    | .scr _ => none
    | .ref i => match h[i]? with
      | some (.lst xs) => (dataAll (dataOf n h) xs).map .list
      | some (.tup xs) => (dataAll (dataOf n h) xs).map .tuple
      | some (.dK kvs) => (dataAll (dataOf n h) (kvs.map (·.2))).map fun ds => .dict ((kvs.map fun p => keyD p.1).zip ds)
      | _ => none
theorem paired_map {α β γ δ : Type} {R : α → β → Prop} {R' : γ → δ → Prop} {f : α → γ} {g : β → δ} (k : ∀ a b, R a b → R' (f a) (g b)) : ∀ {xs : List α} {ys : List β}, Paired R xs ys → Paired R' (xs.map f) (ys.map g)
  | _, _, .nil => .nil
  | _, _, .cons r t => .cons (k _ _ r) (paired_map k t)
theorem paired_eq {α : Type} : ∀ {xs ys : List α}, Paired Eq xs ys → xs = ys
  | _, _, .nil => rfl
  | _, _, .cons r t => by rw [r, paired_eq t]
theorem readsAll_len {h : Heap} : ∀ {vs : List Value} {ds : List PyData} {as : List Addr}, ReadsAll h vs ds as → vs.length = ds.length
  | _, _, _, .nil => rfl
  | _, _, _, .cons _ t => by rw [List.length_cons, List.length_cons, readsAll_len t]
section
variable {X : Cx} {en : En} {pins : List (Addr × Obj)} {σ : L2.St} {H : Hp} {s : Shared} {ρ : List Addr} {h : SH}
theorem pairs_keys {P : Program} {w : World} : ∀ {es : List DictEntry} {kvs : List (Key × Value)}, Pairs (mixKind P w) es kvs → ReadsAll s.heap (es.map (·.key)) (kvs.map fun p => keyD p.1) []
  | _, _, .nil => .nil
  | e :: es, (k, v) :: kvs, .cons hk hv t => by
    have r : Reads s.heap e.key (keyD k) [] := by
      have hk' : keyIs k e.key = true := hk
      rcases keyIs_shape hk' with ⟨i, u, e1, e2⟩ | ⟨x, u, e1, e2⟩
      · have e1' : k = .inl i := e1
        subst e1'; rw [e2]; exact Reads.int i u
      · have e1' : k = .inr x := e1
        subst e1'; rw [e2]; exact Reads.str x u
    exact ReadsAll.cons r (pairs_keys t)
theorem pairs_vals {P : Program} {w : World} : ∀ {es : List DictEntry} {kvs : List (Key × Value)}, Pairs (mixKind P w) es kvs → es.map (·.val) = kvs.map (·.2)
  | _, _, .nil => rfl
  | e :: es, (k, v) :: kvs, .cons hk hv t => by
    show e.val :: es.map (·.val) = v :: kvs.map (·.2)
    rw [pairs_vals t, hv]
/-- the trackable places of data are not sys.modules -/
theorem reads_of (I : Inv X pins σ H s) (hsm : ∃ o, X.base.get? sysModules = some o) (rel : Rel en ρ h H) : ∀ (n : Nat) (v : SV) (d : PyData) (x : V) (u : Value), dataOf n h v = some d → RS en ρ v x → RelV x u → ∃ as, Reads s.heap u d as ∧ sysModules ∉ as := by
  have ns : ∀ a o, H a = some o → a ≠ sysModules := fun a o e z => by
    obtain ⟨ob, eb⟩ := hsm
    have := (I.bs _ _ eb).2
    rw [← z, e] at this; cases this
  intro n
  induction n with
  | zero => intro v d x u e; cases e
  | succ n ih =>
    have all : ∀ (vs : List SV) (ds : List PyData) (xs : List V) (us : List Value), dataAll (dataOf n h) vs = some ds → RSs en ρ vs xs → Vals xs us → ∃ as, ReadsAll s.heap us ds as ∧ sysModules ∉ as := by
      intro vs
      induction vs with
      | nil => intro ds xs us e r r2; cases r; cases r2; cases e; exact ⟨_, .nil, by simp⟩
      | cons v vs ihv =>
        intro ds xs us e r r2
        cases r with
        | cons r rt =>
          cases r2 with
          | cons r2 rt2 =>
            unfold dataAll at e
            split at e
            · cases e
            · rename_i d ed
              split at e
              · cases e
              · rename_i ds' eds
                cases e
                obtain ⟨as, q1, n1⟩ := ih _ _ _ _ ed r r2
                obtain ⟨bs, q2, n2⟩ := ihv _ _ _ eds rt rt2
                exact ⟨_, .cons q1 q2, by simp [n1, n2]⟩
    intro v d x u e r r2
    unfold dataOf at e
    split at e
    · cases e; cases r; cases r2; exact ⟨_, Reads.none, by simp⟩
    · cases e; cases r; cases r2; exact ⟨_, Reads.bool _, by simp⟩
    · cases e; cases r; obtain ⟨t, rfl⟩ := r2; exact ⟨_, Reads.int _ t, by simp⟩
    · cases e; cases r; obtain ⟨t, rfl⟩ := r2; exact ⟨_, Reads.str _ t, by simp⟩
    · cases e
    · split at e
      · rename_i xs ei
        obtain ⟨p, vs, rfl, ep, e1, r1⟩ := rel.lst ei r
        cases r2
        cases eds : dataAll (dataOf n h) xs with
        | none => rw [eds] at e; cases e
        | some ds =>
          rw [eds] at e; cases e
          obtain ⟨its, rv, ⟨o, n', ho, hc, _, hd⟩, _⟩ := I.list (SqL.of (K := X.K) e1)
          obtain ⟨as, hr, hn⟩ := all _ _ _ _ eds r1 rv
          exact ⟨_, Reads.list ho hc hd hr, by simp [hn]; exact fun z => ns _ _ e1 z.symm⟩
      · rename_i xs ei
        obtain ⟨p, vs, rfl, ep, e1, r1⟩ := rel.tup ei r
        cases r2
        cases eds : dataAll (dataOf n h) xs with
        | none => rw [eds] at e; cases e
        | some ds =>
          rw [eds] at e; cases e
          obtain ⟨its, rv, ⟨o, ho, hc, n', hd⟩, _⟩ := I.tuple (SqT.of (K := X.K) e1)
          obtain ⟨as, hr, hn⟩ := all _ _ _ _ eds r1 rv
          exact ⟨_, Reads.tuple ho hc hd hr, hn⟩
      · rename_i kvs ei
        obtain ⟨p, ep, rfl⟩ := r
        obtain ⟨kws, e1, r1⟩ := rel.at2 ep ei
        cases r2
        cases eds : dataAll (dataOf n h) (kvs.map (·.2)) with
        | none => rw [eds] at e; cases e
        | some ds =>
          rw [eds] at e; cases e
          obtain ⟨_, hsm', vs, rv, o, es, epp, ho, hx, hd, _, hp, _⟩ := dk_of I.hok e1
          have rs : RSs en ρ (kvs.map (·.2)) (kws.map (·.2)) := paired_map (fun _ _ q => q.2) r1
          have rvs : Vals (kws.map (·.2)) (vs.map (·.2)) := paired_map (fun _ _ q => q.2) rv
          have ks : (kvs.map fun p => keyD p.1) = vs.map fun p => keyD p.1 := by
            have k1 : kvs.map (·.1) = kws.map (·.1) := paired_eq (paired_map (fun _ _ q => q.1) r1)
            have k2 : kws.map (·.1) = vs.map (·.1) := paired_eq (paired_map (fun _ _ q => q.1) rv)
            have k3 := congrArg (List.map keyD) (k1.trans k2)
            rw [List.map_map, List.map_map] at k3
            exact k3
          obtain ⟨as, hr, hn⟩ := all _ _ _ _ eds rs rvs
          have hl : ds.length = (vs.map fun p => keyD p.1).length := by
            have l1 := readsAll_len hr
            rw [List.length_map] at l1 ⊢
            exact l1.symm
          refine ⟨_, Reads.dict (kvs := (kvs.map fun p => keyD p.1).zip ds) (as := []) (bs := as) ho hx.1 hd ?_ ?_, ?_⟩
          · rw [ks, List.map_fst_zip (by omega)]
            exact pairs_keys hp
          · rw [ks, List.map_snd_zip (by omega), pairs_vals hp]
            exact hr
          · simp [hn]; exact fun z => ns _ _ e1 z.symm
      · cases e
/-! ### ==, !=, repr of data -/
def eqD (neg : Bool) : O2 := fun a b h => match dataOf 64 h a, dataOf 64 h b with
  | some d, some e => if (SeqAt.shaped d && SeqAt.shaped e) = true then some (.bl (if neg = true then !PyData.eqv d e else PyData.eqv d e), h) else none
  | _, _ => none
theorem op_eqM (hsm : ∃ o, X.base.get? sysModules = some o) (hu : X.A.units + 64 < cLine) : OpR X (compareOp .Eq) (rO2 en (eqD false)) := by
  intro pins s σ H x y v u Q I rx ry ⟨ρ, h, a, b, rel, ra, rb, w, h', e, k⟩
  unfold eqD at e
  split at e
  · rename_i d e' ed ee
    split at e
    · rename_i hs
      obtain ⟨as, r1, _⟩ := reads_of I hsm rel _ _ _ _ _ ed ra rx
      obtain ⟨bs, r2, _⟩ := reads_of I hsm rel _ _ _ _ _ ee rb ry
      have z := Bool.and_eq_true_iff.mp hs
      exact SeqAt.compareEq_shaped r1 r2 z.1 z.2 hu ⟨.bl _, H, I, rfl, finO.here ⟨_, _, e, k⟩ rel rfl⟩
    · cases e
  · cases e
theorem op_neM (hsm : ∃ o, X.base.get? sysModules = some o) (hu : X.A.units + 64 < cLine) : OpR X (compareOp .NotEq) (rO2 en (eqD true)) := by
  intro pins s σ H x y v u Q I rx ry ⟨ρ, h, a, b, rel, ra, rb, w, h', e, k⟩
  unfold eqD at e
  split at e
  · rename_i d e' ed ee
    split at e
    · rename_i hs
      obtain ⟨as, r1, _⟩ := reads_of I hsm rel _ _ _ _ _ ed ra rx
      obtain ⟨bs, r2, _⟩ := reads_of I hsm rel _ _ _ _ _ ee rb ry
      have z := Bool.and_eq_true_iff.mp hs
      exact SeqAt.compareNe_shaped r1 r2 z.1 z.2 hu ⟨.bl _, H, I, rfl, finO.here ⟨_, _, e, k⟩ rel rfl⟩
    · cases e
  · cases e
def opRepr : O1 := fun a h => match dataOf 64 h a with
  | some d => if d.showable = true ∧ d.depth ≤ 64 ∧ d.shown.length ≤ big then some (.str d.shown, h) else none
  | none => none
def un1 (o : O1) : OA := fun as h => match as with
  | [a] => o a h
  | _ => none
def bin2 (o : O2) : OA := fun as h => match as with
  | [a, b] => o a b h
  | _ => none
theorem vals1' {en : En} {ρ : List Addr} {a : SV} {xs : List V} {us : List Value} (r : RSs en ρ [a] xs) (r2 : Vals xs us) : ∃ x u, xs = [x] ∧ us = [u] ∧ RS en ρ a x ∧ RelV x u := by
  cases r with
  | cons r t =>
    cases t
    cases r2 with
    | cons r2 t2 =>
      cases t2
      exact ⟨_, _, rfl, rfl, r, r2⟩
theorem call_reprM (hsm : ∃ o, X.base.get? sysModules = some o) (hg : X.A.guards = some []) (hu : X.A.units + 66 < cLine) : CallR X (.builtin "repr") (rOA en (un1 opRepr)) := by
  intro pins s σ H xs us Q I r ⟨ρ, h, as, rel, ra, w, h', e, k⟩
  unfold un1 at e
  split at e
  · rename_i a
    obtain ⟨x, u, rfl, rfl, rx, ru⟩ := vals1' ra r
    unfold opRepr at e
    split at e
    · rename_i d ed
      split at e
      · rename_i hs
        obtain ⟨hs1, hs2, hs3⟩ := hs
        have hsz : d.shown.length ≤ sizeLine := by rw [big_eq]; exact hs3
        obtain ⟨bs, r1, n1⟩ := reads_of I hsm rel _ _ _ _ _ ed rx ru
        have fin : ∀ (u : Tok) (s' : Shared), Inv X pins σ H s' → EP X pins σ Q (.str d.shown u) s' := fun u s' I' => ⟨.str _, H, I', ⟨u, rfl⟩, finO.here ⟨_, _, e, k⟩ rel rfl⟩
        cases r1 with
        | none => exact PySem.P.repr_of_none (fin _ _ (I.tok _))
        | bool b => exact PySem.P.repr_of_bool (fin _ _ (I.tok _))
        | int i t => exact PySem.P.repr_of_int (by simpa [PyData.showable] using hs1) (fin _ _ (I.tok _))
        | str z t => exact PySem.P.repr_of_str (fin _ _ (I.tok _)) 
        | list h1 h2 h3 h4 => exact PySem.repr_of_reads' (Reads.list h1 h2 h3 h4) hs1 (fun _ => n1) hg (by omega) (fun _ _ z => z) (fun h' u tk hk => fin u _ (I.kept (t' := tk) hk)) hsz
        | tuple h1 h2 h3 h4 => exact PySem.repr_of_reads' (Reads.tuple h1 h2 h3 h4) hs1 (fun _ => n1) hg (by omega) (fun _ _ z => z) (fun h' u tk hk => fin u _ (I.kept (t' := tk) hk)) hsz
        | dict h1 h2 h3 h4 h5 => exact PySem.repr_of_reads' (Reads.dict h1 h2 h3 h4 h5) hs1 (fun _ => n1) hg (by omega) (fun _ _ z => z) (fun h' u tk hk => fin u _ (I.kept (t' := tk) hk)) hsz
      · cases e
    · cases e
  · cases e
end
end Fw
namespace Fw
open PySem PySem.Spec L2
section
variable {X : Cx} {en : En} {W : WX} {a b c : Expr} {ma mb mc : EM} {ta tb : BM} {pos : Pos} {rest : List Expr}
/-- from a meaning's reading to the reading of its first part, the places kept -/
theorem tM.bind2 {α β γ δ : Type} {R1 : List Addr → α → β → Prop} {R2 : List Addr → γ → δ → Prop} {m1 : SS → SH → Res α} {k : α → SS → SH → Res γ} {σ : L2.St} {H : Hp} {Q : δ → Hp → Prop} {Q' : β → Hp → Prop}
    (t : tM en W R2 (fun ss h => (m1 ss h).bind fun a h1 => k a ss h1) σ H Q)
    (f : ∀ ρ ss h a b H1, Rel en ρ h H1 → RSl en ρ ss σ → R1 ρ a b → fin en W R2 σ ρ (k a ss h) Q → Q' b H1) : tM en W R1 m1 σ H Q' :=
  (tM.bind (R1 := R1) t).imp fun b H1 ⟨ρ, ss, h, a, rel, rs, ra, q⟩ => f ρ ss h a b H1 rel rs ra q
/-! ### and, or, not, if else, as values and as tests -/
def mAnd (ma mb : EM) : EM := fun ss h => (ma ss h).bind fun v h1 => match v with
  | .bl true => mb ss h1
  | .bl false => .ok (.bl false) h1
  | _ => .stuck
def mOr (ma mb : EM) : EM := fun ss h => (ma ss h).bind fun v h1 => match v with
  | .bl true => .ok (.bl true) h1
  | .bl false => mb ss h1
  | _ => .stuck
def mNot (ma : EM) : EM := fun ss h => (ma ss h).bind fun v h1 => match v with
  | .bl b => .ok (.bl (!b)) h1
  | _ => .stuck
def mIf (ta : BM) (ma mb : EM) : EM := fun ss h => (ta ss h).bind fun b h1 => if b = true then ma ss h1 else mb ss h1
def bAnd (ta tb : BM) : BM := fun ss h => (ta ss h).bind fun b h1 => if b = true then tb ss h1 else .ok false h1
def bOr (ta tb : BM) : BM := fun ss h => (ta ss h).bind fun b h1 => if b = true then .ok true h1 else tb ss h1
def bNot (ta : BM) : BM := fun ss h => (ta ss h).bind fun b h1 => .ok (!b) h1
theorem PE.and1 {op : PySem.BoolOp} (h : PE X a (tE en W ma)) : PE X (.BoolOp op [a] pos) (tE en W ma) := pe_one h
theorem PE.and (ha : PE X a (tE en W ma)) (hb : PE X (.BoolOp .And (b :: rest) pos) (tE en W mb)) : PE X (.BoolOp .And (a :: b :: rest) pos) (tE en W (mAnd ma mb)) :=
  PEimp (pe_and ha hb) fun σ H Q t => tM.bind2 (R1 := RS en) (k := fun v ss h1 => match v with | .bl true => mb ss h1 | .bl false => .ok (.bl false) h1 | _ => .stuck) t fun ρ ss h v x H1 rel rs r f => by
    cases v with
    | bl b =>
      cases r
      cases b with
      | true => exact ⟨true, rfl, ρ, ss, h, rel, rs, f⟩
      | false => exact ⟨false, rfl, f ρ H1 _ (Pre.refl ρ) rel rfl⟩
    | _ => exact f.elim
theorem PE.or (ha : PE X a (tE en W ma)) (hb : PE X (.BoolOp .Or (b :: rest) pos) (tE en W mb)) : PE X (.BoolOp .Or (a :: b :: rest) pos) (tE en W (mOr ma mb)) :=
  PEimp (pe_or ha hb) fun σ H Q t => tM.bind2 (R1 := RS en) (k := fun v ss h1 => match v with | .bl true => .ok (.bl true) h1 | .bl false => mb ss h1 | _ => .stuck) t fun ρ ss h v x H1 rel rs r f => by
    cases v with
    | bl b =>
      cases r
      cases b with
      | true => exact ⟨true, rfl, f ρ H1 _ (Pre.refl ρ) rel rfl⟩
      | false => exact ⟨false, rfl, ρ, ss, h, rel, rs, f⟩
    | _ => exact f.elim
theorem PE.not (ha : PE X a (tE en W ma)) : PE X (.UnaryOp .Not a pos) (tE en W (mNot ma)) :=
  PEimp (pe_not ha) fun σ H Q t => tM.bind2 (R1 := RS en) (R2 := RS en) (k := fun v (ss : SS) h1 => match v with | .bl b => (Res.ok (SV.bl (!b)) h1 : Res SV) | _ => .stuck) t fun ρ ss h v x H1 rel rs r f => by
    cases v with
    | bl b => cases r; exact ⟨b, rfl, f ρ H1 _ (Pre.refl ρ) rel rfl⟩
    | _ => exact f.elim
theorem PE.ifx (hc : PT X c (tT en W ta)) (ha : PE X a (tE en W ma)) (hb : PE X b (tE en W mb)) : PE X (.IfExp c a b pos) (tE en W (mIf ta ma mb)) :=
  PEimp (pe_ifExp hc ha hb) fun σ H Q t => tM.bind2 (R1 := RB) (k := fun b ss h1 => if b = true then ma ss h1 else mb ss h1) t fun ρ ss h v x H1 rel rs r f => by
    cases r
    cases v with
    | true => exact ⟨ρ, ss, h, rel, rs, f⟩
    | false => exact ⟨ρ, ss, h, rel, rs, f⟩
theorem PW.and1 (ha : PT X a (tT en W ta)) : PW X (.BoolOp .And [a] pos) (tT en W ta) := pw_and1 ha
theorem PW.or1 (ha : PT X a (tT en W ta)) : PW X (.BoolOp .Or [a] pos) (tT en W ta) := pw_or1 ha
theorem PW.and (ha : PT X a (tT en W ta)) (hb : PW X (.BoolOp .And (b :: rest) pos) (tT en W tb)) : PW X (.BoolOp .And (a :: b :: rest) pos) (tT en W (bAnd ta tb)) :=
  PWimp (pw_and ha hb) fun σ H Q t => tM.bind2 (R1 := RB) (k := fun b ss h1 => if b = true then tb ss h1 else .ok false h1) t fun ρ ss h v x H1 rel rs r f => by
    cases r
    cases v with
    | true => exact ⟨ρ, ss, h, rel, rs, f⟩
    | false => exact f ρ H1 _ (Pre.refl ρ) rel rfl
theorem PW.or (ha : PT X a (tT en W ta)) (hb : PW X (.BoolOp .Or (b :: rest) pos) (tT en W tb)) : PW X (.BoolOp .Or (a :: b :: rest) pos) (tT en W (bOr ta tb)) :=
  PWimp (pw_or ha hb) fun σ H Q t => tM.bind2 (R1 := RB) (k := fun b ss h1 => if b = true then .ok true h1 else tb ss h1) t fun ρ ss h v x H1 rel rs r f => by
    cases r
    cases v with
    | true => exact f ρ H1 _ (Pre.refl ρ) rel rfl
    | false => exact ⟨ρ, ss, h, rel, rs, f⟩
theorem PT.not (ha : PT X a (tT en W ta)) : PT X (.UnaryOp .Not a pos) (tT en W (bNot ta)) :=
  PTimp (pt_not ha) fun σ H Q t => tM.bind2 (R1 := RB) (k := fun b ss h1 => .ok (!b) h1) t fun ρ ss h v x H1 rel rs r f => by
    cases r
    exact f ρ H1 _ (Pre.refl ρ) rel rfl
/-! ### a < b < c -/
def mChain (o1 o2 : O2) (ma mb mc : EM) : EM := fun ss h => (ma ss h).bind fun x h1 => (mb ss h1).bind fun y h2 => (lift (o1 x y h2)).bind fun z h3 => match z with
  | .bl true => (mc ss h3).bind fun w h4 => lift (o2 y w h4)
  | .bl false => .ok (.bl false) h3
  | _ => .stuck
theorem chain_read {o1 o2 : O2} (σ : L2.St) (H : Hp) (Q : VK) (t : tE en W (mChain o1 o2 ma mb mc) σ H Q) : tChain (rO2 en o1) (rO2 en o2) (tE en W ma) (tE en W mb) (tE en W mc) σ H Q := by
    obtain ⟨ρ, ss, h, rel, rs, f⟩ := t
    refine ⟨ρ, ss, h, rel, rs, ?_⟩
    unfold mChain at f
    cases e : ma ss h with
    | stuck => simp only [e, Res.bind, fin] at f
    | ex cc xs h1 => simp only [e, Res.bind, fin] at f; exact f
    | ok x h1 =>
      simp only [e, Res.bind] at f
      intro ρ1 H1 u p1 rel1 ru
      refine ⟨ρ1, ss, h1, rel1, rs.mono p1, ?_⟩
      cases e2 : mb ss h1 with
      | stuck => simp only [e2, fin] at f
      | ex cc xs h1 => simp only [e2, fin] at f ⊢; exact fun ρ' H cls d p => f ρ' H cls d (p1.trans p)
      | ok y h2 =>
        simp only [e2] at f
        intro ρ2 H2 v p2 rel2 rv
        refine ⟨ρ2, h2, x, y, rel2, ru.mono p2, rv, ?_⟩
        cases e3 : o1 x y h2 with
        | none => simp only [e3, lift, fin] at f
        | some q =>
          obtain ⟨z, h3⟩ := q
          simp only [e3, lift] at f
          refine ⟨z, h3, rfl, fun ρ3 H3 w p3 rel3 rw' => ?_⟩
          cases z with
          | bl k =>
            cases rw'
            cases k with
            | false => exact ⟨false, rfl, f ρ3 H3 _ ((p1.trans p2).trans p3) rel3 rfl⟩
            | true =>
              refine ⟨true, rfl, ρ3, ss, h3, rel3, ((rs.mono p1).mono p2).mono p3, ?_⟩
              have f' := (f : fin en W (RS en) σ ρ ((mc ss h3).bind fun w h4 => lift (o2 y w h4)) Q)
              cases e4 : mc ss h3 with
              | stuck => simp only [e4, Res.bind, fin] at f'
              | ex cc xs h1 => simp only [e4, Res.bind, fin] at f' ⊢; exact fun ρ' H cls d p => f' ρ' H cls d (((p1.trans p2).trans p3).trans p)
              | ok w' h4 =>
                simp only [e4, Res.bind] at f'
                intro ρ4 H4 uu p4 rel4 ruu
                exact ⟨ρ4, h4, y, w', rel4, (rv.mono p3).mono p4, ruu, ((f'.mono (((p1.trans p2).trans p3).trans p4))).lift⟩
          | _ => exact (f : False).elim
theorem PE.chain {op op' : CmpOp} {o1 o2 : O2} (h1 : OpR X (compareOp op) (rO2 en o1)) (h2 : OpR X (compareOp op') (rO2 en o2)) (ha : PE X a (tE en W ma)) (hb : PE X b (tE en W mb)) (hc : PE X c (tE en W mc))
    (hm : lastMarks [op, op'] [b, c] = false := by with_unfolding_all rfl) : PE X (.Compare a [op, op'] [b, c] pos) (tE en W (mChain o1 o2 ma mb mc)) :=
  PEimp (pe_chain h1 h2 ha hb hc hm) fun σ H Q t => chain_read σ H Q t
theorem PT.chain {op op' : CmpOp} {o1 o2 : O2} (h1 : OpR X (compareOp op) (rO2 en o1)) (h2 : OpR X (compareOp op') (rO2 en o2)) (ha : PE X a (tE en W ma)) (hb : PE X b (tE en W mb)) (hc : PE X c (tE en W mc))
    (hm : lastMarks [op, op'] [b, c] = false := by with_unfolding_all rfl) : PT X (.Compare a [op, op'] [b, c] pos) (tT en W (mB (mChain o1 o2 ma mb mc))) :=
  PTimp (pt_chain h1 h2 ha hb hc hm) fun σ H Q t => chain_read σ H _ (tBool σ H Q t)
theorem PT.cmp {op : CmpOp} {o : O2} (ho : OpR X (compareOp op) (rO2 en o)) (ha : PE X a (tE en W ma)) (hb : PE X b (tE en W mb)) (hm : behindInMarks op b = false) : PT X (.Compare a [op] [b] pos) (tT en W (mB (mO2 o ma mb))) :=
  PTimp (pt_cmpR ho ha hb hm) fun σ H Q t => tO2 σ H _ (tBool σ H Q t)
/-! ### arguments -/
def aNil : AM := fun _ h => .ok [] h
def aCons (ma : EM) (mr : AM) : AM := fun ss h => (ma ss h).bind fun x h1 => (mr ss h1).bind fun xs h2 => .ok (x :: xs) h2
theorem PA.nil : PA X [] (tA en W aNil) := PAimp pa_nil fun σ H Q ⟨ρ, ss, h, rel, rs, f⟩ => f ρ H [] (Pre.refl ρ) rel .nil
theorem PA.cons {es : List Expr} {mr : AM} (ha : PE X a (tE en W ma)) (hr : PA X es (tA en W mr)) (hs : starEach (a :: es) X.env = (false, eval a X.env) :: starEach es X.env := by rfl) : PA X (a :: es) (tA en W (aCons ma mr)) :=
  PAimp (pa_cons ha hr hs) fun σ H Q t => by
    obtain ⟨ρ, ss, h, rel, rs, f⟩ := t
    refine ⟨ρ, ss, h, rel, rs, ?_⟩
    unfold aCons at f
    cases e : ma ss h with
    | stuck => simp only [e, Res.bind, fin] at f
    | ex cc xs h1 => simp only [e, Res.bind, fin] at f; exact f
    | ok x h1 =>
      simp only [e, Res.bind] at f
      intro ρ1 H1 u p1 rel1 ru
      refine ⟨ρ1, ss, h1, rel1, rs.mono p1, ?_⟩
      cases e2 : mr ss h1 with
      | stuck => simp only [e2, fin] at f
      | ex cc xs h1 => simp only [e2, fin] at f ⊢; exact fun ρ' H cls d p => f ρ' H cls d (p1.trans p)
      | ok ys h2 =>
        simp only [e2] at f
        exact fun ρ2 H2 v p2 rel2 rv => f ρ2 H2 _ (p1.trans p2) rel2 (.cons (ru.mono p2) rv)
/-- an operation on an argument list -/
theorem tOA {op : OA} {m : AM} (σ : L2.St) (H : Hp) (Q : VK) (t : tE en W (mOA op m) σ H Q) : tA en W m σ H fun xs H1 => rOA en op xs H1 Q :=
  tM.bind2 (R1 := RSs en) (k := fun as ss h1 => lift (op as h1)) t fun ρ ss h as xs H1 rel rs r f => ⟨ρ, h, as, rel, r, f.lift⟩
theorem PE.callB {x : Str} {id : String} {op : OA} {e : Expr} {es : List Expr} {m : AM} {p : Pos} (hc : CallR X (.builtin id) (rOA en op)) (hg : Gl X x) (hm : X.mg x = none) (hv : bootBuiltins x = some (.builtin id)) (ha : PA X (e :: es) (tA en W m)) (hn : x ≠ "__name__" := by decide) (hdb : (x == ("__debug__" : Str)) = false := by decide)
    (he : starEach (e :: es) X.env = (false, eval e X.env) :: starEach es X.env := by rfl) (hpl : (backTo pos (starEach es X.env)).any (·.1) = false := by rfl) : PE X (.Call (.Name x p) (e :: es) [] pos) (tE en W (mOA op m)) :=
  PEimp (pe_callB hc hg hm hv ha hn hdb he hpl) fun σ H Q t => tOA σ H Q t
theorem PE.callTy {x : Str} {T : String} {op : OA} {e : Expr} {es : List Expr} {m : AM} {p : Pos} (hc : CallR X (.type T) (rOA en op)) (hg : Gl X x) (hm : X.mg x = none) (hv : bootBuiltins x = some (.type T)) (ha : PA X (e :: es) (tA en W m)) (hn : x ≠ "__name__" := by decide) (hdb : (x == ("__debug__" : Str)) = false := by decide)
    (he : starEach (e :: es) X.env = (false, eval e X.env) :: starEach es X.env := by rfl) (hpl : (backTo pos (starEach es X.env)).any (·.1) = false := by rfl) : PE X (.Call (.Name x p) (e :: es) [] pos) (tE en W (mOA op m)) :=
  PEimp (pe_callTy hc hg hm hv ha hn hdb he hpl) fun σ H Q t => tOA σ H Q t
/-- displays -/
def opLst : OA := fun as h => if as.length ≤ big then alloc (.lst as) h else none
def opTup : OA := fun as h => if as.length ≤ big then alloc (.tup as) h else none
theorem PE.lst {es : List Expr} {m : AM} (ha : PA X es (tA en W m)) : PE X (.List es pos) (tE en W (mOA opLst m)) :=
  PEimp (pe_lst ha) fun σ H Q t => tM.imp (tOA σ H Q t) fun xs H1 ⟨ρ, h, as, rel, r, v, h', e, k⟩ => by
    unfold opLst at e
    split at e
    · exact ⟨by rw [big_eq, ← r.len]; assumption, finO.newLst ⟨_, _, e, k⟩ rel r⟩
    · cases e
theorem PE.tup {es : List Expr} {m : AM} {x1 : Nat} (ha : PA X es (tA en W m)) : PE X (.Tuple es x1 pos) (tE en W (mOA opTup m)) :=
  PEimp (pe_tup ha) fun σ H Q t => tM.imp (tOA σ H Q t) fun xs H1 ⟨ρ, h, as, rel, r, v, h', e, k⟩ => by
    unfold opTup at e
    split at e
    · exact ⟨by rw [big_eq, ← r.len]; assumption, finO.newTup ⟨_, _, e, k⟩ rel r⟩
    · cases e
end
end Fw
namespace Fw
open PySem PySem.Spec L2
/-! ### dicts -/
section
variable {κ : Type} [DecidableEq κ]
def getS (kvs : List (κ × SV)) (k : κ) : Option SV := (kvs.find? fun kv => decide (kv.1 = k)).map (·.2)
def putS (kvs : List (κ × SV)) (k : κ) (v : SV) : List (κ × SV) :=
  if (kvs.any fun kv => decide (kv.1 = k)) = true then kvs.map (fun kv => if kv.1 = k then (kv.1, v) else kv) else kvs ++ [(k, v)]
abbrev RK (en : En) (ρ : List Addr) : List (κ × SV) → List (κ × V) → Prop := Paired (fun p q => p.1 = q.1 ∧ RS en ρ p.2 q.2)
theorem RK.get {en : En} {ρ : List Addr} {k : κ} : ∀ {kvs : List (κ × SV)} {kws : List (κ × V)}, RK en ρ kvs kws → (∀ x, getS kvs k = some x → ∃ v, valV kws k = some v ∧ RS en ρ x v) ∧ (getS kvs k = none → valV kws k = none)
  | _, _, .nil => ⟨fun x e => by simp [getS] at e, fun _ => rfl⟩
  | p :: kvs, q :: kws, .cons r t => by
    by_cases h : p.1 = k
    · have h2 : q.1 = k := by rw [← r.1]; exact h
      refine ⟨fun x e => ?_, fun e => ?_⟩
      · simp [getS, List.find?_cons, h] at e
        exact ⟨q.2, valV_pos h2, e ▸ r.2⟩
      · simp [getS, List.find?_cons, h] at e
    · have h2 : ¬ q.1 = k := by rw [← r.1]; exact h
      have e1 : getS (p :: kvs) k = getS kvs k := by simp [getS, List.find?_cons, h]
      rw [e1, valV_neg h2]
      exact RK.get t
theorem RK.any {en : En} {ρ : List Addr} {k : κ} : ∀ {kvs : List (κ × SV)} {kws : List (κ × V)}, RK en ρ kvs kws → (kvs.any fun kv => decide (kv.1 = k)) = (kws.any fun kv => decide (kv.1 = k))
  | _, _, .nil => rfl
  | p :: kvs, q :: kws, .cons r t => by rw [List.any_cons, List.any_cons, r.1, RK.any t]
theorem RK.app {en : En} {ρ : List Addr} {k : κ} {x : SV} {v : V} (h : RS en ρ x v) : ∀ {kvs : List (κ × SV)} {kws : List (κ × V)}, RK en ρ kvs kws → RK en ρ (kvs ++ [(k, x)]) (kws ++ [(k, v)])
  | _, _, .nil => .cons ⟨rfl, h⟩ .nil
  | _, _, .cons r t => .cons r (RK.app h t)
theorem RK.put {en : En} {ρ : List Addr} {k : κ} {x : SV} {v : V} (h : RS en ρ x v) {kvs : List (κ × SV)} {kws : List (κ × V)} (r : RK en ρ kvs kws) : RK en ρ (putS kvs k x) (putK kws k v) := by
  unfold putS putK
  rw [r.any]
  split
  · refine paired_map (fun p q z => ?_) r
    by_cases e : p.1 = k
    · have e2 : q.1 = k := by rw [← z.1]; exact e
      rw [if_pos e, if_pos e2]; exact ⟨z.1, h⟩
    · have e2 : ¬ q.1 = k := by rw [← z.1]; exact e
      rw [if_neg e, if_neg e2]; exact z
  · exact RK.app h r
end
def keyOf : SV → Option Key
  | .int i => some (.inl i)
  | .str x => some (.inr x)
  | _ => none
def keysOf : List SV → Option (List Key)
  | [] => some []
  | x :: xs => match keyOf x with
    | none => none
    | some k => match keysOf xs with
      | none => none
      | some ks => some (k :: ks)
theorem keyOf_rel {en : En} {ρ : List Addr} {a : SV} {v : V} {k : Key} (e : keyOf a = some k) (r : RS en ρ a v) : v = kV k := by
  cases a with
  | int i => cases e; cases r; rfl
  | str x => cases e; cases r; rfl
  | _ => cases e
theorem keysOf_rel {en : En} {ρ : List Addr} : ∀ {xs : List SV} {vs : List V} {ks : List Key}, keysOf xs = some ks → RSs en ρ xs vs → vs = ks.map kV
  | [], _, _, e, r => by cases r; cases e; rfl
  | x :: xs, _, _, e, r => by
    cases r with
    | cons r t =>
      unfold keysOf at e
      split at e
      · cases e
      · rename_i k ek
        split at e
        · cases e
        · rename_i ks eks
          cases e
          rw [List.map_cons, keyOf_rel ek r, keysOf_rel eks t]
/-- what a dict's object holds at a key; none: that can't be asked here -/
def dictGet (h : SH) (o : SO) (k : SV) : Option (Option SV) := match o with
  | .dK kvs => (keyOf k).map fun k => getS kvs k
  | .dT kvs => match k with
    | .ref j => match h[j]? with
      | some (.tup xs) => (keysOf xs).map fun ks => getS kvs ks
      | _ => none
    | _ => none
  | _ => none
section
variable {X : Cx} {en : En} {W : WX} {ρ : List Addr} {h : SH} {H : Hp}
theorem dictGet_rel (rel : Rel en ρ h H) {i : Nat} {o : SO} {a : Addr} {k : SV} {y : V} {r : Option SV} (eo : h[i]? = some o) (ea : ρ[i]? = some a) (e : dictGet h o k = some r) (ry : RS en ρ k y) :
    (∀ x, r = some x → ∃ v, DGet H a y (some v) ∧ RS en ρ x v) ∧ (r = none → DGet H a y none) := by
  unfold dictGet at e
  split at e
  · rename_i kvs
    obtain ⟨kws, e1, rk⟩ := rel.at2 ea eo
    cases ek : keyOf k with
    | none => rw [ek] at e; cases e
    | some kk =>
      rw [ek] at e
      cases e
      obtain rfl := keyOf_rel ek ry
      refine ⟨fun x hx => ?_, fun hn => ?_⟩
      · obtain ⟨v, ev, rv⟩ := (RK.get rk).1 x hx
        exact ⟨v, by rw [← ev]; exact DGet.k e1, rv⟩
      · rw [← (RK.get rk).2 hn]; exact DGet.k e1
  · rename_i kvs
    obtain ⟨kws, e1, rk⟩ := rel.at2 ea eo
    split at e
    · rename_i j
      split at e
      · rename_i xs ej
        cases ek : keysOf xs with
        | none => rw [ek] at e; cases e
        | some ks =>
          rw [ek] at e
          cases e
          obtain ⟨b, vs, rfl, eb, e2, rvs⟩ := rel.tup ej ry
          obtain rfl := keysOf_rel ek rvs
          refine ⟨fun x hx => ?_, fun hn => ?_⟩
          · obtain ⟨v, ev, rv⟩ := (RK.get rk).1 x hx
            exact ⟨v, by rw [← ev]; exact DGet.t e1 e2, rv⟩
          · rw [← (RK.get rk).2 hn]; exact DGet.t e1 e2
      · cases e
    · cases e
  · cases e
/-! ### a[b] -/
def atS {α : Type} (xs : List α) (i : Int) : Option α := atI xs i
theorem RSs.atI {xs : List SV} {vs : List V} (r : RSs en ρ xs vs) {i : Int} {x : SV} (e : L2.atI xs i = some x) : ∃ v, L2.atI vs i = some v ∧ RS en ρ x v := by
  unfold L2.atI at e ⊢
  rw [← r.len]
  cases q : L2.ixN xs.length i with
  | none => rw [q] at e; cases e
  | some j => rw [q] at e; exact r.get e
def opIx : O2 := fun a b h => match a with
  | .scr ns => match b with
    | .int i => match L2.atI ns i with
      | some n => some (.int n, h)
      | none => none
    | _ => none
  | .str z => match b with
    | .int i => if z.length ≤ big then match L2.atI z.cps.toList i with
      | some c => some (.str ⟨#[c]⟩, h)
      | none => none
      else none
    | _ => none
  | .ref i => match h[i]? with
    | some (.lst xs) => match b with
      | .int i => match L2.atI xs i with
        | some x => some (x, h)
        | none => none
      | _ => none
    | some (.tup xs) => match b with
      | .int i => match L2.atI xs i with
        | some x => some (x, h)
        | none => none
      | _ => none
    | some o => match dictGet h o b with
      | some (some x) => some (x, h)
      | _ => none
    | none => none
  | _ => none
theorem atI_map {α β : Type} (f : α → β) (xs : List α) (i : Int) : L2.atI (xs.map f) i = (L2.atI xs i).map f := by
  unfold L2.atI
  rw [List.length_map]
  cases L2.ixN xs.length i with
  | none => rfl
  | some j => simp
theorem subTail {A : Around} {E : Value → Shared → Prop} {s : Shared} {prog : Program} {w : World} {value slice : Expr} {o i : Value} {T id : String} {Q : Value → Shared → Prop} (hT : s.TypeIs o T) (hl : typeLookup (.type T) "__getitem__" = pure (some (.builtin id)))
    (hg : wpAny (model prog w) A (getItem o i) Q E s) (hs : subscripted slice false o i = operate [o, i] (getItem o i)) : wpAny (model prog w) A (PyProof.Rows.subscriptTail value slice o i) Q E s := by
  unfold PyProof.Rows.subscriptTail
  refine wpAny_bind ?_
  rw [getitemInPython_of_ne hT.not_modules]
  refine wpAny_bind (wpAny_specialOf hT hl ?_)
  have z : wpAny (model prog w) A (subscripted slice false o i) (fun r s2 => wpAny (model prog w) A (letTemporaryGo value o r >>= fun _ => pure r) Q E s2) E s := by
    rw [hs]
    exact wpAny_operating (wpAny_mono hg (fun r s2 hq => wpAny_bind (wpAny_letTemporaryGo (wpAny_pure hq))) fun _ _ x => x)
  first
    | exact wpAny_pure (wpAny_bind z)
    | exact wpAny_bind (wpAny_pure (wpAny_bind z))
    | exact wpAny_bind z
theorem ix_dict (hu : X.A.units + 1 < cLine) : IxR X (fun x y H Q => ∃ a v, x = .ref a ∧ DGet H a y (some v) ∧ Q v H) := by
  intro value slice pins s σ H x y v u Q I rx ry ⟨a, w, e, g, q⟩ hs
  subst e
  obtain rfl : v = Value.ref a := rx
  exact subTail (dict_typeIs I g) PySem.F.slot_dict_getitem.lookup (d_getItem hu I g ry fun w' s3 I3 rw' => ⟨w, H, I3, rw', q⟩) hs
theorem IxRimp {r r' : R2} (h : IxR X r) (k : ∀ x y H Q, r' x y H Q → r x y H Q) : IxR X r' := fun value slice pins s σ H x y v u Q I rx ry q hs => h value slice pins s σ H x y v u Q I rx ry (k _ _ _ _ q) hs
theorem ixM (hK : X.K = en.K) (hu : X.A.units + 1 < cLine) : IxR X (rO2 en opIx) := by
  refine IxRimp (ix_list.or (ix_tup.or (ix_str.or (ix_dict hu)))) fun x y H Q ⟨ρ, h, a, b, rel, ra, rb, v, h', e, k⟩ => ?_
  unfold opIx at e
  split at e
  · split at e
    · split at e
      · rename_i en'
        cases rb
        obtain ⟨rfl, rfl⟩ := ra
        refine .inl ⟨_, _, _, _, rfl, rfl, by rw [hK]; exact rel.scr, by rw [atI_map, en']; rfl, finO.here ⟨_, _, e, k⟩ rel rfl⟩
      · cases e
    · cases e
  · split at e
    · split at e
      · rename_i hz
        split at e
        · rename_i ec
          cases ra; cases rb
          exact .inr (.inr (.inl ⟨_, _, _, rfl, rfl, by rw [big_eq]; exact hz, ec, finO.here ⟨_, _, e, k⟩ rel rfl⟩))
        · cases e
      · cases e
    · cases e
  · split at e
    · rename_i xs ei
      split at e
      · split at e
        · rename_i ex
          obtain ⟨p, vs, rfl, ep, e1, r1⟩ := rel.lst ei ra
          cases rb
          obtain ⟨w, ew, rw'⟩ := r1.atI ex
          exact .inl ⟨_, _, _, w, rfl, rfl, SqL.of e1, ew, finO.here ⟨_, _, e, k⟩ rel rw'⟩
        · cases e
      · cases e
    · rename_i xs ei
      split at e
      · split at e
        · rename_i ex
          obtain ⟨p, vs, rfl, ep, e1, r1⟩ := rel.tup ei ra
          cases rb
          obtain ⟨w, ew, rw'⟩ := r1.atI ex
          exact .inr (.inl ⟨_, _, _, w, rfl, rfl, SqT.of e1, ew, finO.here ⟨_, _, e, k⟩ rel rw'⟩)
        · cases e
      · cases e
    · rename_i o _ _ ei
      split at e
      · rename_i ex
        obtain ⟨p, ep, rfl⟩ := ra
        obtain ⟨w, ew, rw'⟩ := (dictGet_rel rel ei ep ex rb).1 _ rfl
        exact .inr (.inr (.inr ⟨p, w, rfl, ew, finO.here ⟨_, _, e, k⟩ rel rw'⟩))
      · cases e
    · cases e
  · cases e
theorem PE.ix {a b : Expr} {ma mb : EM} {pos : Pos} (hK : X.K = en.K) (hu : X.A.units + 1 < cLine) (ha : PE X a (tE en W ma)) (hb : PE X b (tE en W mb)) (hs : PlainIx b) : PE X (.Subscript a b pos) (tE en W (mO2 opIx ma mb)) :=
  PEimp (pe_ix (ixM hK hu) ha hb hs) fun σ H Q t => tO2 σ H Q t
end
end Fw
namespace Fw
open PySem PySem.Spec L2
section
variable {X : Cx} {en : En} {W : WX} {ρ : List Addr} {h : SH} {H : Hp}
/-! ### slices -/
abbrev PM := SS → SH → Res (Option Int)
abbrev RP : List Addr → Option Int → Option Int → Prop := fun _ a b => a = b
def pNone : PM := fun _ h => .ok none h
def pSome (ma : EM) : PM := fun ss h => (ma ss h).bind fun v h1 => match v with
  | .int i => .ok (some i) h1
  | _ => .stuck
abbrev tP (en : En) (W : WX) (m : PM) : TO := tM en W RP m
theorem POimp {e : Option Expr} {t t' : TO} (h : PO X e t) (k : ∀ σ H Q, t' σ H Q → t σ H Q) : PO X e t' := ⟨fun pins s σ H Q I q => h.run pins s σ H Q I (k σ H Q q)⟩
theorem PO.non : PO X none (tP en W pNone) := POimp po_none fun σ H Q ⟨ρ, ss, h, rel, rs, f⟩ => f ρ H none (Pre.refl ρ) rel rfl
theorem PO.som {e : Expr} {ma : EM} (ha : PE X e (tE en W ma)) : PO X (some e) (tP en W (pSome ma)) :=
  POimp (po_some ha) fun σ H Q t => tM.bind2 (R1 := RS en) (R2 := RP) (k := fun v (ss : SS) h1 => match v with | .int i => (Res.ok (some i) h1 : Res (Option Int)) | _ => .stuck) t fun ρ ss h v x H1 rel rs r f => by
    cases v with
    | int i => cases r; exact ⟨i, rfl, f ρ H1 _ (Pre.refl ρ) rel rfl⟩
    | _ => exact f.elim
def cutS {α : Type} (xs : List α) (lo hi : Option Int) : List α := (xs.drop (HT.sIx xs.length 0 lo)).take (HT.sIx xs.length xs.length hi - HT.sIx xs.length 0 lo)
theorem RSs.cut {xs : List SV} {vs : List V} (r : RSs en ρ xs vs) (lo hi : Option Int) : RSs en ρ (cutS xs lo hi) (cutV vs lo hi) := by
  unfold cutS cutV
  rw [r.len]
  exact (r.drop _).take _
def opCut (a : SV) (lo hi : Option Int) (h : SH) : Option (SV × SH) := match a with
  | .ref i => match h[i]? with
    | some (.lst xs) => alloc (.lst (cutS xs lo hi)) h
    | _ => none
  | _ => none
def mCut (ma : EM) (pl pu : PM) : EM := fun ss h => (ma ss h).bind fun a h1 => (pl ss h1).bind fun lo h2 => (pu ss h2).bind fun hi h3 => lift (opCut a lo hi h3)
theorem PE.cut {e : Expr} {lo hi : Option Expr} {ma : EM} {pl pu : PM} {p2 pos : Pos} (ha : PE X e (tE en W ma)) (hl : PO X lo (tP en W pl)) (hu : PO X hi (tP en W pu)) : PE X (.Subscript e (.Slice lo hi none p2) pos) (tE en W (mCut ma pl pu)) :=
  PEimp (pe_slice sl_list ha hl hu) fun σ H Q t => by
    obtain ⟨ρ, ss, h, rel, rs, f⟩ := t
    refine ⟨ρ, ss, h, rel, rs, ?_⟩
    unfold mCut at f
    cases e : ma ss h with
    | stuck => simp only [e, Res.bind, fin] at f
    | ex cc xs h1 => simp only [e, Res.bind, fin] at f; exact f
    | ok x h1 =>
      simp only [e, Res.bind] at f
      intro ρ1 H1 u p1 rel1 ru
      refine ⟨ρ1, ss, h1, rel1, rs.mono p1, ?_⟩
      cases e2 : pl ss h1 with
      | stuck => simp only [e2, fin] at f
      | ex cc xs h1 => simp only [e2, fin] at f ⊢; exact fun ρ' H cls d p => f ρ' H cls d (p1.trans p)
      | ok y h2 =>
        simp only [e2] at f
        intro ρ2 H2 v p2 rel2 rv
        refine ⟨ρ2, ss, h2, rel2, (rs.mono p1).mono p2, ?_⟩
        cases e3 : pu ss h2 with
        | stuck => simp only [e3, fin] at f
        | ex cc xs h1 => simp only [e3, fin] at f ⊢; exact fun ρ' H cls d p => f ρ' H cls d ((p1.trans p2).trans p)
        | ok z h3 =>
          simp only [e3] at f
          intro ρ3 H3 w p3 rel3 rw'
          obtain ⟨a', h', e4, k⟩ := (f.mono ((p1.trans p2).trans p3)).lift
          unfold opCut at e4
          cases rv; cases rw'
          split at e4
          · split at e4
            · rename_i ei
              obtain ⟨p, vs, rfl, ep, ee, r1⟩ := rel3.lst ei ((ru.mono p2).mono p3)
              exact ⟨p, vs, rfl, SqL.of ee, finO.newLst ⟨_, _, e4, k⟩ rel3 (r1.cut _ _)⟩
            · cases e4
          · cases e4
/-! ### in, not in -/
def flatS : SV → Bool
  | .non => true
  | .bl _ => true
  | .int _ => true
  | .str _ => true
  | _ => false
def eqS : SV → SV → Bool
  | .non, .non => true
  | .bl a, .bl b => a == b
  | .bl a, .int b => (if a then 1 else 0) == b
  | .int a, .bl b => a == (if b then 1 else 0)
  | .int a, .int b => a == b
  | .str a, .str b => a == b
  | _, _ => false
theorem flatS_rel {a : SV} {v : V} (r : RS en ρ a v) (f : flatS a = true) : flatV v = true := by
  cases a <;> first | (cases r; rfl) | cases f
theorem flatS_all : ∀ {xs : List SV} {vs : List V}, RSs en ρ xs vs → xs.all flatS = true → vs.all flatV = true
  | _, _, .nil, _ => rfl
  | _, _, .cons r t, f => by
    rw [List.all_cons, Bool.and_eq_true] at f ⊢
    exact ⟨flatS_rel r f.1, flatS_all t f.2⟩
theorem eqS_rel {a b : SV} {v u : V} (ra : RS en ρ a v) (rb : RS en ρ b u) (fa : flatS a = true) (fb : flatS b = true) : eqV v u = eqS a b := by
  cases a <;> cases b <;> first | (cases ra; cases rb; rfl) | exact absurd fa Bool.false_ne_true | exact absurd fb Bool.false_ne_true
theorem anyS_rel {x : SV} {v : V} (rx : RS en ρ x v) (fx : flatS x = true) : ∀ {xs : List SV} {vs : List V}, RSs en ρ xs vs → xs.all flatS = true → inV v vs = xs.any fun y => eqS y x
  | _, _, .nil, _ => rfl
  | _, _, .cons r t, f => by
    rw [List.all_cons, Bool.and_eq_true] at f
    have z := anyS_rel rx fx t f.2
    unfold inV at z ⊢
    rw [List.any_cons, List.any_cons, eqS_rel r rx f.1 fx, z]
def opIn (neg : Bool) : O2 := fun a b h => match b with
  | .ref i => match h[i]? with
    | some (.lst xs) => if (flatS a && xs.all flatS) = true then some (.bl (if neg then !(xs.any fun y => eqS y a) else (xs.any fun y => eqS y a)), h) else none
    | some (.tup xs) => if (flatS a && xs.all flatS) = true then some (.bl (if neg then !(xs.any fun y => eqS y a) else (xs.any fun y => eqS y a)), h) else none
    | some o => match dictGet h o a with
      | some r => some (.bl (if neg then !r.isSome else r.isSome), h)
      | none => none
    | none => none
  | _ => none
theorem op_in_dict (hu : X.A.units + 1 < cLine) : OpR X (compareOp .In) (fun y x H Q => ∃ a o, x = .ref a ∧ DGet H a y o ∧ Q (.bl o.isSome) H) := by
  intro pins s σ H y x u v Q I ry rx ⟨a, o, e, g, q⟩
  subst e
  obtain rfl : v = Value.ref a := rx
  exact d_in hu I g ry fun s3 I3 => ⟨.bl o.isSome, H, I3, rfl, q⟩
theorem op_notin_dict (hu : X.A.units + 1 < cLine) : OpR X (compareOp .NotIn) (fun y x H Q => ∃ a o, x = .ref a ∧ DGet H a y o ∧ Q (.bl (!o.isSome)) H) := by
  intro pins s σ H y x u v Q I ry rx ⟨a, o, e, g, q⟩
  subst e
  obtain rfl : v = Value.ref a := rx
  exact d_notIn hu I g ry fun s3 I3 => ⟨.bl (!o.isSome), H, I3, rfl, q⟩
theorem inCore {neg : Bool} {x y : V} {a b : SV} {Q : VK} (rel : Rel en ρ h H) (ra : RS en ρ a x) (rb : RS en ρ b y) (f : finO en ρ (opIn neg a b h) Q) :
    (∃ p xs, y = .ref p ∧ (SqL X.K H p xs ∨ SqT X.K H p xs) ∧ flatV x = true ∧ xs.all flatV = true ∧ Q (.bl (if neg then !inV x xs else inV x xs)) H) ∨ (∃ a o, y = .ref a ∧ DGet H a x o ∧ Q (.bl (if neg then !o.isSome else o.isSome)) H) := by
  obtain ⟨v, h', e, k⟩ := f
  unfold opIn at e
  split at e
  · split at e
    · rename_i ei
      split at e
      · rename_i hf
        obtain ⟨p, vs, rfl, ep, e1, r1⟩ := rel.lst ei rb
        have z := Bool.and_eq_true_iff.mp hf
        refine .inl ⟨p, vs, rfl, .inl (SqL.of e1), flatS_rel ra z.1, flatS_all r1 z.2, ?_⟩
        rw [anyS_rel ra z.1 r1 z.2]
        exact finO.here ⟨_, _, e, k⟩ rel rfl
      · cases e
    · rename_i ei
      split at e
      · rename_i hf
        obtain ⟨p, vs, rfl, ep, e1, r1⟩ := rel.tup ei rb
        have z := Bool.and_eq_true_iff.mp hf
        refine .inl ⟨p, vs, rfl, .inr (SqT.of e1), flatS_rel ra z.1, flatS_all r1 z.2, ?_⟩
        rw [anyS_rel ra z.1 r1 z.2]
        exact finO.here ⟨_, _, e, k⟩ rel rfl
      · cases e
    · rename_i o _ _ ei
      split at e
      · rename_i r er
        obtain ⟨p, ep, rfl⟩ := rb
        obtain ⟨g1, g2⟩ := dictGet_rel rel ei ep er ra
        cases r with
        | none => exact .inr ⟨p, none, rfl, g2 rfl, finO.here ⟨_, _, e, k⟩ rel rfl⟩
        | some w =>
          obtain ⟨u, ug, _⟩ := g1 w rfl
          exact .inr ⟨p, some u, rfl, ug, finO.here ⟨_, _, e, k⟩ rel rfl⟩
      · cases e
    · cases e
  · cases e
theorem op_inM (hu : X.A.units + 1 < cLine) : OpR X (compareOp .In) (rO2 en (opIn false)) := by
  refine OpRimp (op_in_seq.or (op_in_dict hu)) fun x y H Q ⟨ρ, h, a, b, rel, ra, rb, f⟩ => ?_
  exact (inCore (X := X) rel ra rb f).imp (fun z => by simpa [rIn] using z) fun z => by simpa using z
theorem op_notInM (hu : X.A.units + 1 < cLine) : OpR X (compareOp .NotIn) (rO2 en (opIn true)) := by
  refine OpRimp (op_notIn_seq.or (op_notin_dict hu)) fun x y H Q ⟨ρ, h, a, b, rel, ra, rb, f⟩ => ?_
  exact (inCore (X := X) rel ra rb f).imp (fun z => by simpa [rIn] using z) fun z => by simpa using z
/-! ### len, int, bool, max, min, abs, list, tuple -/
def opLen : O1 := fun a h => match a with
  | .scr ns => some (.int ns.length, h)
  | .str z => if z.length ≤ big then some (.int z.length, h) else none
  | .ref i => match h[i]? with
    | some (.lst xs) => some (.int xs.length, h)
    | some (.tup xs) => some (.int xs.length, h)
    | some (.dK kvs) => some (.int kvs.length, h)
    | _ => none
  | _ => none
theorem CallRor {f : Value} {r r' : List V → Hp → VK → Prop} (h : CallR X f r) (h' : CallR X f r') : CallR X f (fun xs H Q => r xs H Q ∨ r' xs H Q) := fun pins s σ H xs us Q I r2 q => q.elim (h pins s σ H xs us Q I r2) (h' pins s σ H xs us Q I r2)
theorem RSs.one {a : SV} {xs : List V} (r : RSs en ρ [a] xs) : ∃ x, xs = [x] ∧ RS en ρ a x := by
  cases r with
  | cons r t => cases t; exact ⟨_, rfl, r⟩
theorem RSs.two {a b : SV} {xs : List V} (r : RSs en ρ [a, b] xs) : ∃ x y, xs = [x, y] ∧ RS en ρ a x ∧ RS en ρ b y := by
  cases r with
  | cons r t =>
    obtain ⟨y, rfl, ry⟩ := RSs.one t
    exact ⟨_, _, rfl, r, ry⟩
theorem un1_of {o : O1} {xs : List V} {H : Hp} {Q : VK} (q : rOA en (un1 o) xs H Q) : ∃ ρ h a x, xs = [x] ∧ Rel en ρ h H ∧ RS en ρ a x ∧ finO en ρ (o a h) Q := by
  obtain ⟨ρ, h, as, rel, r, v, h', e, k⟩ := q
  unfold un1 at e
  split at e
  · obtain ⟨x, rfl, rx⟩ := RSs.one r
    exact ⟨ρ, h, _, x, rfl, rel, rx, v, h', e, k⟩
  · cases e
theorem bin2_of {o : O2} {xs : List V} {H : Hp} {Q : VK} (q : rOA en (bin2 o) xs H Q) : ∃ ρ h a b x y, xs = [x, y] ∧ Rel en ρ h H ∧ RS en ρ a x ∧ RS en ρ b y ∧ finO en ρ (o a b h) Q := by
  obtain ⟨ρ, h, as, rel, r, v, h', e, k⟩ := q
  unfold bin2 at e
  split at e
  · obtain ⟨x, y, rfl, rx, ry⟩ := RSs.two r
    exact ⟨ρ, h, _, _, x, y, rfl, rel, rx, ry, v, h', e, k⟩
  · cases e
theorem call_lenM (hK : X.K = en.K) : CallR X (.builtin "len") (rOA en (un1 opLen)) := by
  refine CallRimp (CallRor call_len_seq (CallRor call_len_str call_lenD)) fun xs H Q q => ?_
  obtain ⟨ρ, h, a, x, rfl, rel, ra, v, h', e, k⟩ := un1_of q
  unfold opLen at e
  split at e
  · obtain ⟨rfl, rfl⟩ := ra
    refine .inl ⟨_, _, rfl, .inl (by rw [hK]; exact rel.scr), ?_⟩
    rw [List.length_map]
    exact finO.here ⟨_, _, e, k⟩ rel rfl
  · split at e
    · cases ra
      exact .inr (.inl ⟨_, rfl, by rw [big_eq]; assumption, finO.here ⟨_, _, e, k⟩ rel rfl⟩)
    · cases e
  · split at e
    · rename_i ei
      obtain ⟨p, vs, rfl, ep, e1, r1⟩ := rel.lst ei ra
      refine .inl ⟨_, _, rfl, .inl (SqL.of e1), ?_⟩
      rw [← r1.len]
      exact finO.here ⟨_, _, e, k⟩ rel rfl
    · rename_i ei
      obtain ⟨p, vs, rfl, ep, e1, r1⟩ := rel.tup ei ra
      refine .inl ⟨_, _, rfl, .inr (SqT.of e1), ?_⟩
      rw [← r1.len]
      exact finO.here ⟨_, _, e, k⟩ rel rfl
    · rename_i kvs ei
      obtain ⟨p, ep, rfl⟩ := ra
      obtain ⟨kws, e1, r1⟩ := rel.at2 ep ei
      refine .inr (.inr ⟨p, kws, rfl, e1, ?_⟩)
      rw [← Paired.length r1]
      exact finO.here ⟨_, _, e, k⟩ rel rfl
    · cases e
  · cases e
def opInt : O1 := fun a h => match a with
  | .int i => some (.int i, h)
  | .bl b => some (.int (if b then 1 else 0), h)
  | _ => none
theorem call_intM : CallR X (.type "int") (rOA en (un1 opInt)) := by
  refine CallRimp call_int1 fun xs H Q q => ?_
  obtain ⟨ρ, h, a, x, rfl, rel, ra, v, h', e, k⟩ := un1_of q
  unfold opInt at e
  split at e
  · cases ra; exact .inl ⟨_, rfl, finO.here ⟨_, _, e, k⟩ rel rfl⟩
  · cases ra; exact .inr ⟨_, rfl, finO.here ⟨_, _, e, k⟩ rel rfl⟩
  · cases e
def opMax : O2 := fun a b h => match a, b with
  | .int i, .int j => some (.int (if j > i then j else i), h)
  | _, _ => none
def opMin : O2 := fun a b h => match a, b with
  | .int i, .int j => some (.int (if j < i then j else i), h)
  | _, _ => none
def opAbs : O1 := fun a h => match a with
  | .int i => some (.int (if i < 0 then -i else i), h)
  | _ => none
theorem call_maxM (hc : X.calm = true) : CallR X (.builtin "max") (rOA en (bin2 opMax)) := by
  refine CallRimp (call_max2 hc) fun xs H Q q => ?_
  obtain ⟨ρ, h, a, b, x, y, rfl, rel, ra, rb, v, h', e, k⟩ := bin2_of q
  unfold opMax at e
  split at e
  · cases ra; cases rb; exact ⟨_, _, rfl, finO.here ⟨_, _, e, k⟩ rel rfl⟩
  · cases e
theorem call_minM (hc : X.calm = true) : CallR X (.builtin "min") (rOA en (bin2 opMin)) := by
  refine CallRimp (call_min2 hc) fun xs H Q q => ?_
  obtain ⟨ρ, h, a, b, x, y, rfl, rel, ra, rb, v, h', e, k⟩ := bin2_of q
  unfold opMin at e
  split at e
  · cases ra; cases rb; exact ⟨_, _, rfl, finO.here ⟨_, _, e, k⟩ rel rfl⟩
  · cases e
theorem call_absM : CallR X (.builtin "abs") (rOA en (un1 opAbs)) := by
  refine CallRimp call_abs fun xs H Q q => ?_
  obtain ⟨ρ, h, a, x, rfl, rel, ra, v, h', e, k⟩ := un1_of q
  unfold opAbs at e
  split at e
  · cases ra; exact ⟨_, rfl, finO.here ⟨_, _, e, k⟩ rel rfl⟩
  · cases e
def opList : O1 := fun a h => match a with
  | .ref i => match h[i]? with
    | some (.lst xs) => alloc (.lst xs) h
    | some (.tup xs) => alloc (.lst xs) h
    | _ => none
  | _ => none
theorem call_listM : CallR X (.type "list") (rOA en (un1 opList)) := by
  refine CallRimp call_list_of fun xs H Q q => ?_
  obtain ⟨ρ, h, a, x, rfl, rel, ra, v, h', e, k⟩ := un1_of q
  unfold opList at e
  split at e
  · split at e
    · rename_i ei
      obtain ⟨p, vs, rfl, ep, e1, r1⟩ := rel.lst ei ra
      exact ⟨_, _, rfl, .inl (SqL.of e1), finO.newLst ⟨_, _, e, k⟩ rel r1⟩
    · rename_i ei
      obtain ⟨p, vs, rfl, ep, e1, r1⟩ := rel.tup ei ra
      exact ⟨_, _, rfl, .inr (SqT.of e1), finO.newLst ⟨_, _, e, k⟩ rel r1⟩
    · cases e
  · cases e
def opTuple : O1 := fun a h => match a with
  | .ref i => match h[i]? with
    | some (.lst xs) => alloc (.tup xs) h
    | some (.tup xs) => some (a, h)
    | _ => none
  | _ => none
theorem call_tupleM : CallR X (.type "tuple") (rOA en (un1 opTuple)) := by
  refine CallRimp call_tuple_of fun xs H Q q => ?_
  obtain ⟨ρ, h, a, x, rfl, rel, ra, v, h', e, k⟩ := un1_of q
  unfold opTuple at e
  split at e
  · split at e
    · rename_i ei
      obtain ⟨p, vs, rfl, ep, e1, r1⟩ := rel.lst ei ra
      exact ⟨_, _, rfl, .inl ⟨SqL.of e1, finO.newTup ⟨_, _, e, k⟩ rel r1⟩⟩
    · rename_i ei
      obtain ⟨p, vs, rfl, ep, e1, r1⟩ := rel.tup ei ra
      exact ⟨_, _, rfl, .inr ⟨SqT.of e1, finO.here ⟨_, _, e, k⟩ rel ⟨p, ep, rfl⟩⟩⟩
    · cases e
  · cases e
end
end Fw
namespace Fw
open PySem PySem.Spec L2
def finS (en : En) (W : WX) (ρ : List Addr) (r : SR) (D : Ends) : Prop := match r with
  | .stuck => False
  | .nx ss h => ∀ ρ' σ H, Pre ρ ρ' → Rel en ρ' h H → RSl en ρ' ss σ → D.nx σ H
  | .rt v h => ∀ ρ' H u, Pre ρ ρ' → Rel en ρ' h H → RS en ρ' v u → D.rt u H
  | .bk ss h => ∀ ρ' σ H, Pre ρ ρ' → Rel en ρ' h H → RSl en ρ' ss σ → D.bk σ H
  | .ct ss h => ∀ ρ' σ H, Pre ρ ρ' → Rel en ρ' h H → RSl en ρ' ss σ → D.ct σ H
  | .ex c xs ss h => ∀ ρ' σ H cls d, Pre ρ ρ' → Rel en ρ' h H → RSl en ρ' ss σ → RX en ρ' H c xs cls d → W cls d σ H
def tS (en : En) (W : WX) (m : SM) : TS := fun D σ H => ∃ ρ ss h, Rel en ρ h H ∧ RSl en ρ ss σ ∧ finS en W ρ (m ss h) D
theorem finS.mono {en : En} {W : WX} {ρ ρ' : List Addr} {r : SR} {D : Ends} (p : Pre ρ ρ') (f : finS en W ρ r D) : finS en W ρ' r D := by
  cases r with
  | stuck => exact f
  | nx ss h => exact fun ρ2 σ H p2 => f ρ2 σ H (p.trans p2)
  | rt v h => exact fun ρ2 σ H p2 => f ρ2 σ H (p.trans p2)
  | bk ss h => exact fun ρ2 σ H p2 => f ρ2 σ H (p.trans p2)
  | ct ss h => exact fun ρ2 σ H p2 => f ρ2 σ H (p.trans p2)
  | ex c xs ss h => exact fun ρ2 σ H cls d p2 => f ρ2 σ H cls d (p.trans p2)
/-- an expression's run goes on as a statement's -/
def thenS {α : Type} (r : Res α) (ss : SS) (k : α → SH → SR) : SR := match r with
  | .stuck => .stuck
  | .ok a h => k a h
  | .ex c xs h => .ex c xs ss h
section
variable {X : Cx} {en : En} {W : WX} {pos : Pos}
theorem tS.bind {α β : Type} {R1 : List Addr → α → β → Prop} {m1 : SS → SH → Res α} {k : SS → α → SH → SR} {D : Ends} {σ : L2.St} {H : Hp} {Q' : β → Hp → Prop}
    (t : tS en W (fun ss h => thenS (m1 ss h) ss (k ss)) D σ H)
    (f : ∀ ρ ss h a b H1, Rel en ρ h H1 → RSl en ρ ss σ → R1 ρ a b → finS en W ρ (k ss a h) D → Q' b H1) : tM en W R1 m1 σ H Q' := by
  obtain ⟨ρ, ss, h, rel, rs, q⟩ := t
  refine ⟨ρ, ss, h, rel, rs, ?_⟩
  cases e : m1 ss h with
  | stuck => simp only [e, thenS, finS] at q
  | ok a h1 =>
    simp only [e, thenS] at q
    exact fun ρ' H' b p rel' rb => f ρ' ss h1 a b H' rel' (rs.mono p) rb (q.mono p)
  | ex c xs h1 =>
    simp only [e, thenS, finS] at q
    exact fun ρ' H' cls d p rel' rx => q ρ' σ H' cls d p rel' (rs.mono p) rx
/-! ### one after the other, if, return, an expression -/
def mNil : SM := fun ss h => .nx ss h
def mSeq (m1 m2 : SM) : SM := fun ss h => match m1 ss h with
  | .nx ss h => m2 ss h
  | r => r
def mIfS (t : BM) (m1 m2 : SM) : SM := fun ss h => thenS (t ss h) ss fun b h1 => if b = true then m1 ss h1 else m2 ss h1
def mRet (m : EM) : SM := fun ss h => thenS (m ss h) ss fun v h1 => .rt v h1
def mRetN : SM := fun _ h => .rt .non h
def mDrop (m : EM) : SM := fun ss h => thenS (m ss h) ss fun _ h1 => .nx ss h1
def mBrk : SM := fun ss h => .bk ss h
def mCnt : SM := fun ss h => .ct ss h
theorem PSs.nil : PSs X [] (tS en W mNil) := PSsimp pss_nil fun D σ H ⟨ρ, ss, h, rel, rs, f⟩ => f ρ σ H (Pre.refl ρ) rel rs
theorem tS.seq {m1 m2 : SM} (D : Ends) (σ : L2.St) (H : Hp) (t : tS en W (mSeq m1 m2) D σ H) : tSeq (tS en W m1) (tS en W m2) D σ H := by
  obtain ⟨ρ, ss, h, rel, rs, f⟩ := t
  refine ⟨ρ, ss, h, rel, rs, ?_⟩
  unfold mSeq at f
  cases e : m1 ss h with
  | nx ss' h' => simp only [e] at f; exact fun ρ' σ' H' p rel' rs' => ⟨ρ', ss', h', rel', rs', f.mono p⟩
  | stuck => simp only [e] at f; exact f
  | rt v h => simp only [e] at f; exact f
  | bk v h => simp only [e] at f; exact f
  | ct v h => simp only [e] at f; exact f
  | ex c xs v h => simp only [e] at f; exact f
theorem PSs.cons {st : Stmt} {rest : List Stmt} {m1 m2 : SM} (h1 : PS X st (tS en W m1)) (h2 : PSs X rest (tS en W m2)) : PSs X (st :: rest) (tS en W (mSeq m1 m2)) := PSsimp (pss_cons h1 h2) tS.seq
theorem PSs.one {st : Stmt} {m1 : SM} (h1 : PS X st (tS en W m1)) : PSs X [st] (tS en W m1) := pss_one h1
theorem PS.pass : PS X (.Pass pos) (tS en W mNil) := PSimp ps_pass fun D σ H ⟨ρ, ss, h, rel, rs, f⟩ => f ρ σ H (Pre.refl ρ) rel rs
theorem PS.doc {x : Str} {j : Nat} {pos' : Pos} : PS X (.Expr (.Constant (.str x) j pos) pos') (tS en W mNil) := PSimp ps_doc fun D σ H ⟨ρ, ss, h, rel, rs, f⟩ => f ρ σ H (Pre.refl ρ) rel rs
theorem PS.brk : PS X (.Break pos) (tS en W mBrk) := PSimp ps_break fun D σ H ⟨ρ, ss, h, rel, rs, f⟩ => f ρ σ H (Pre.refl ρ) rel rs
theorem PS.cnt : PS X (.Continue pos) (tS en W mCnt) := PSimp ps_continue fun D σ H ⟨ρ, ss, h, rel, rs, f⟩ => f ρ σ H (Pre.refl ρ) rel rs
theorem PS.retN : PS X (.Return none pos) (tS en W mRetN) := PSimp ps_retN fun D σ H ⟨ρ, ss, h, rel, rs, f⟩ => f ρ H .non (Pre.refl ρ) rel rfl
theorem PS.ret {e : Expr} {m : EM} (he : PE X e (tE en W m)) : PS X (.Return (some e) pos) (tS en W (mRet m)) :=
  PSimp (ps_ret he) fun D σ H t => tS.bind (R1 := RS en) (k := fun _ v h1 => .rt v h1) t fun ρ ss h a b H1 rel rs r f => f ρ H1 b (Pre.refl ρ) rel r
theorem PS.expr {e : Expr} {m : EM} (he : PE X e (tE en W m)) (hs : swapsWith e none pos.line X.env = pure false := by rfl) : PS X (.Expr e pos) (tS en W (mDrop m)) :=
  PSimp (ps_expr he hs) fun D σ H t => tS.bind (R1 := RS en) (k := fun ss _ h1 => .nx ss h1) t fun ρ ss h a b H1 rel rs r f => f ρ σ H1 (Pre.refl ρ) rel rs
theorem PS.if {c : Expr} {a b : List Stmt} {t : BM} {m1 m2 : SM} (hc : PT X c (tT en W t)) (ha : PSs X a (tS en W m1)) (hb : PSs X b (tS en W m2)) : PS X (.If c a b pos) (tS en W (mIfS t m1 m2)) :=
  PSimp (ps_if hc ha hb) fun D σ H q => tS.bind (R1 := RB) (k := fun ss b h1 => if b = true then m1 ss h1 else m2 ss h1) q fun ρ ss h a b H1 rel rs r f => by
    cases r
    cases a with
    | true => exact ⟨ρ, ss, h, rel, rs, f⟩
    | false => exact ⟨ρ, ss, h, rel, rs, f⟩
/-! ### truth of any value -/
def opTru (v : SV) (h : SH) : Res Bool := match v with
  | .non => .ok false h
  | .bl b => .ok b h
  | .int i => .ok (i != 0) h
  | .str y => if y.length ≤ big then .ok ((y.length : Int) != 0) h else .stuck
  | .scr ns => .ok (!ns.isEmpty) h
  | .ref i => match h[i]? with
    | some (.lst xs) => .ok (!xs.isEmpty) h
    | some (.tup xs) => .ok (!xs.isEmpty) h
    | some (.dK kvs) => .ok (!kvs.isEmpty) h
    | _ => .stuck
def mTru (m : EM) : BM := fun ss h => (m ss h).bind fun v h1 => opTru v h1
theorem Paired.isEmpty {α β : Type} {R : α → β → Prop} : ∀ {xs : List α} {ys : List β}, Paired R xs ys → xs.isEmpty = ys.isEmpty
  | _, _, .nil => rfl
  | _, _, .cons _ _ => rfl
theorem PT.tru {e : Expr} {m : EM} (hK : X.K = en.K) (he : PE X e (tE en W m)) (hi : ∀ whole, isTrue e X.env whole = (do let v ← whole; standAt e.pos; holding [v] (truthy v)) := by intro _; rfl) : PT X e (tT en W (mTru m)) :=
  PTimp (pt_truth he hi) fun σ H Q t => tM.bind2 (R1 := RS en) (R2 := RB) (k := fun v (ss : SS) h1 => opTru v h1) t fun ρ ss h v x H1 rel rs r f => by
    have go : ∀ k : Bool, opTru v h = .ok k h → TruV X.K x H1 k → ∃ k, TruV X.K x H1 k ∧ Q k H1 := fun k e z => by
      rw [e] at f
      exact ⟨k, z, f ρ H1 k (Pre.refl ρ) rel rfl⟩
    have nostuck : opTru v h ≠ .stuck := fun e => by rw [e] at f; exact f
    cases v with
    | non => cases r; exact go _ rfl rfl
    | bl b => cases r; exact go _ rfl rfl
    | int i => cases r; exact go _ rfl rfl
    | str y =>
      cases r
      by_cases hl : y.length ≤ big
      · exact go ((y.length : Int) != 0) (by simp only [opTru, if_pos hl]) ⟨by rw [big_eq]; exact hl, rfl⟩
      · exact (nostuck (by simp only [opTru, if_neg hl])).elim
    | scr ns =>
      obtain ⟨rfl, rfl⟩ := r
      refine go (!en.ns.isEmpty) rfl (.inl ⟨_, by rw [hK]; exact rel.scr, by cases en.ns <;> rfl⟩)
    | ref i =>
      cases ei : h[i]? with
      | none => exact (nostuck (by simp only [opTru, ei])).elim
      | some o =>
        cases o with
        | lst xs =>
          obtain ⟨p, vs, rfl, ep, e1, r1⟩ := rel.lst ei r
          exact go (!xs.isEmpty) (by simp only [opTru, ei]) (.inl ⟨vs, SqL.of e1, by rw [Paired.isEmpty r1]⟩)
        | tup xs =>
          obtain ⟨p, vs, rfl, ep, e1, r1⟩ := rel.tup ei r
          exact go (!xs.isEmpty) (by simp only [opTru, ei]) (.inr (.inl ⟨vs, SqT.of e1, by rw [Paired.isEmpty r1]⟩))
        | dK kvs =>
          obtain ⟨p, ep, rfl⟩ := r
          obtain ⟨kws, e1, r1⟩ := rel.at2 ep ei
          exact go (!kvs.isEmpty) (by simp only [opTru, ei]) (.inr (.inr ⟨kws, e1, by rw [Paired.isEmpty r1]⟩))
        | _ => exact (nostuck (by simp only [opTru, ei])).elim
/-! ### targets -/
abbrev GM := SV → SS → SH → Option SS
abbrev GMs := List SV → SS → SH → Option SS
/-- two slots' lists that differ at the places is alone -/
structure SameOut (is : List Nat) (σ σ' : L2.St) : Prop where
  len : σ'.length = σ.length
  out : ∀ j, j ∉ is → σ'[j]? = σ[j]?
theorem SameOut.refl (is : List Nat) (σ : L2.St) : SameOut is σ σ := ⟨rfl, fun _ _ => rfl⟩
theorem SameOut.set {is : List Nat} {σ : L2.St} {i : Nat} {v : Option V} : SameOut (i :: is) σ (σ.set i v) := ⟨by simp, fun j h => by
  have : i ≠ j := fun e => h (by rw [e]; exact List.mem_cons_self)
  rw [List.getElem?_set_ne this]⟩
theorem SameOut.trans {is js : List Nat} {a b c : L2.St} (h : SameOut is a b) (k : SameOut js b c) : SameOut (is ++ js) a c := ⟨k.len.trans h.len, fun j m => (k.out j fun z => m (List.mem_append_right _ z)).trans (h.out j fun z => m (List.mem_append_left _ z))⟩
def tG (en : En) (is : List Nat) (g : GM) : TG := fun v σ H Q => ∃ ρ ss h x ss', Rel en ρ h H ∧ RSl en ρ ss σ ∧ RS en ρ x v ∧ g x ss h = some ss' ∧ ∀ σ', RSl en ρ ss' σ' → SameOut is σ σ' → Q σ' H
def tGs (en : En) (is : List Nat) (g : GMs) : TGs := fun vs σ H Q => ∃ ρ ss h xs ss', Rel en ρ h H ∧ RSl en ρ ss σ ∧ RSs en ρ xs vs ∧ g xs ss h = some ss' ∧ ∀ σ', RSl en ρ ss' σ' → SameOut is σ σ' → Q σ' H
theorem PGimp {e : Expr} {t t' : TG} (h : PG X e t) (k : ∀ v σ H Q, t' v σ H Q → t v σ H Q) : PG X e t' := ⟨fun pins s σ H v u Q I r q => h.run pins s σ H v u Q I r (k v σ H Q q)⟩
theorem PGsimp {e : List Expr} {t t' : TGs} (h : PGs X e t) (k : ∀ v σ H Q, t' v σ H Q → t v σ H Q) : PGs X e t' := ⟨fun pins s σ H v u Q I r q => h.run pins s σ H v u Q I r (k v σ H Q q)⟩
theorem PGor {e : Expr} {t t' : TG} (h : PG X e t) (h' : PG X e t') : PG X e (fun v σ H Q => t v σ H Q ∨ t' v σ H Q) := ⟨fun pins s σ H v u Q I r q => q.elim (h.run pins s σ H v u Q I r) (h'.run pins s σ H v u Q I r)⟩
def gVar (i : Nat) : GM := fun v ss _ => some (ss.set i (some v))
def gsNil : GMs := fun vs ss _ => match vs with
  | [] => some ss
  | _ => none
def gsCons (g : GM) (gs : GMs) : GMs := fun vs ss h => match vs with
  | v :: r => match g v ss h with
    | some ss' => gs r ss' h
    | none => none
  | [] => none
def gTupM (n : Nat) (g : GMs) : GM := fun v ss h => match v with
  | .ref i => match h[i]? with
    | some (.tup xs) => if xs.length = n then g xs ss h else none
    | some (.lst xs) => if xs.length = n then g xs ss h else none
    | _ => none
  | _ => none
theorem PG.var {i : Nat} {x : Str} (hN : X.N.Nodup) (hi : X.N[i]? = some x) (hx : Loc X.env.scope x) (hf : X.fn x = true ∨ X.env.scope.names.lookup x = some .local := by first | exact .inl rfl | exact .inr rfl | assumption) : PG X (.Name x pos) (tG en [i] (gVar i)) :=
  PGimp (pg_name hN hi hx hf) fun v σ H Q ⟨ρ, ss, h, x, ss', rel, rs, r, e, f⟩ => by
    cases e
    exact f _ (rs.set r i) SameOut.set
theorem PGs.nil : PGs X [] (tGs en [] gsNil) := PGsimp pgs_nil fun vs σ H Q ⟨ρ, ss, h, xs, ss', rel, rs, r, e, f⟩ => by
  cases r with
  | nil => cases e; exact ⟨rfl, f _ rs (SameOut.refl _ _)⟩
  | cons _ _ => cases e
theorem PGs.cons {e : Expr} {es : List Expr} {g : GM} {gs : GMs} {is js : List Nat} (h1 : PG X e (tG en is g)) (h2 : PGs X es (tGs en js gs))
    (hs : (assignEach (e :: es) X.env).map (·.2) = assign e X.env :: (assignEach es X.env).map (·.2) := by rfl) : PGs X (e :: es) (tGs en (is ++ js) (gsCons g gs)) :=
  PGsimp (pgs_cons h1 h2 hs) fun vs σ H Q ⟨ρ, ss, h, xs, ss', rel, rs, r, e, f⟩ => by
    cases r with
    | nil => cases e
    | cons r t =>
      unfold gsCons at e
      split at e
      · rename_i ez
        cases ez
        split at e
        · rename_i ss1 e1
          exact ⟨_, _, rfl, ρ, ss, h, _, ss1, rel, rs, r, e1, fun σ' rs' o => ⟨ρ, ss1, h, _, ss', rel, rs', t, e, fun σ2 rs2 o2 => f σ2 rs2 (o.trans o2)⟩⟩
        · cases e
      · cases e
theorem PG.tup {es : List Expr} {k n : Nat} {g : GMs} {is : List Nat} (hc : X.calm = true) (h : PGs X es (tGs en is g)) (hn : (assignEach es X.env).length = n := by rfl) (hst : (assignEach es X.env).findIdx? (·.1) = none := by rfl) : PG X (.Tuple es k pos) (tG en is (gTupM n g)) :=
  PGimp (PGor (pg_tup hc h hn hst) (pg_unl hc h hn hst)) fun v σ H Q ⟨ρ, ss, h, x, ss', rel, rs, r, e, f⟩ => by
    unfold gTupM at e
    split at e
    · split at e
      · rename_i ei
        split at e
        · obtain ⟨p, vs, rfl, ep, e1, r1⟩ := rel.tup ei r
          exact .inl ⟨p, vs, rfl, SqT.of e1, by rw [← r1.len]; assumption, ρ, ss, h, _, ss', rel, rs, r1, e, f⟩
        · cases e
      · rename_i ei
        split at e
        · obtain ⟨p, vs, rfl, ep, e1, r1⟩ := rel.lst ei r
          exact .inr ⟨p, vs, rfl, SqL.of e1, by rw [← r1.len]; assumption, ρ, ss, h, _, ss', rel, rs, r1, e, f⟩
        · cases e
      · cases e
    · cases e
/-! ### assignments -/
def mSet (i : Nat) (m : EM) : SM := fun ss h => thenS (m ss h) ss fun v h1 => .nx (ss.set i (some v)) h1
def mAsg (g : GM) (m : EM) : SM := fun ss h => thenS (m ss h) ss fun v h1 => match g v ss h1 with
  | some ss' => .nx ss' h1
  | none => .stuck
theorem PS.set {i : Nat} {x : Str} {e : Expr} {m : EM} {pos' : Pos} (hN : X.N.Nodup) (hi : X.N[i]? = some x) (hx : Loc X.env.scope x) (he : PE X e (tE en W m)) (hs : swapsWith e (some (.Name x pos')) pos.line X.env = pure false := by rfl)
    (hf : X.fn x = true ∨ X.env.scope.names.lookup x = some .local := by first | exact .inl rfl | exact .inr rfl | assumption) : PS X (.Assign [.Name x pos'] e pos) (tS en W (mSet i m)) :=
  PSimp (ps_set hN hi hx he hs hf) fun D σ H t => tS.bind (R1 := RS en) (k := fun ss v h1 => .nx (ss.set i (some v)) h1) t fun ρ ss h a b H1 rel rs r f => f ρ _ H1 (Pre.refl ρ) rel (rs.set r i)
theorem PS.asg {tg e : Expr} {g : GM} {m : EM} {is : List Nat} (he : PE X e (tE en W m)) (hg : PG X tg (tG en is g)) (hs : swapsWithSole [tg] e pos.line X.env = pure false := by rfl) (hw : swappedStores [tg] e X.env = pure none := by rfl)
    (h1 : (assignEach [tg] X.env).map (·.2) = [assign tg X.env] := by rfl) : PS X (.Assign [tg] e pos) (tS en W (mAsg g m)) :=
  PSimp (ps_asg he hg hs hw h1) fun D σ H t => tS.bind (R1 := RS en) (k := fun ss v h1 => match g v ss h1 with | some ss' => .nx ss' h1 | none => .stuck) t fun ρ ss h a b H1 rel rs r f => by
    cases e : g a ss h with
    | none => simp only [e, finS] at f
    | some ss' =>
      simp only [e] at f
      exact ⟨ρ, ss, h, a, ss', rel, rs, r, e, fun σ' rs' _ => f ρ σ' H1 (Pre.refl ρ) rel rs'⟩
def mPar (i j : Nat) (m : AM) : SM := fun ss h => thenS (m ss h) ss fun vs h1 => match vs with
  | [v, w] => .nx ((ss.set i (some v)).set j (some w)) h1
  | _ => .stuck
theorem PS.par {i j : Nat} {x y : Str} {a b : Expr} {m : AM} {px py pt pos : Pos} {kt k2 : Nat} {pt2 : Pos} (hc : X.calm = true) (hN : X.N.Nodup) (hi : X.N[i]? = some x) (hj : X.N[j]? = some y) (hij : i ≠ j)
    (hx : X.env.scope.names.lookup x = some .local) (hy : X.env.scope.names.lookup y = some .local) (ha : PA X [a, b] (tA en W m))
    (hw : swappedStores [.Tuple [.Name x px, .Name y py] kt pt] (.Tuple [a, b] k2 pt2) X.env = pure (some [x, y]))
    (hs : swapsWithSole [.Tuple [.Name x px, .Name y py] kt pt] (.Tuple [a, b] k2 pt2) pos.line X.env = pure false := by rfl) :
    PS X (.Assign [.Tuple [.Name x px, .Name y py] kt pt] (.Tuple [a, b] k2 pt2) pos) (tS en W (mPar i j m)) :=
  PSimp (ps_par hc hN hi hj hij hx hy ha hw hs) fun D σ H t => tS.bind (R1 := RSs en) (k := fun ss vs h1 => match vs with | [v, w] => .nx ((ss.set i (some v)).set j (some w)) h1 | _ => .stuck) t fun ρ ss h as bs H1 rel rs r f => by
    split at f
    · obtain ⟨x, y, rfl, rx, ry⟩ := RSs.two r
      exact ⟨x, y, rfl, f ρ _ H1 (Pre.refl ρ) rel ((rs.set rx i).set ry j)⟩
    · exact f.elim
/-- x += e, x -= e -/
def mAug (i : Nat) (o : O2) (m : EM) : SM := fun ss h => match ss[i]? with
  | some (some x) => thenS (m ss h) ss fun v h1 => thenS (lift (o x v h1)) ss fun w h2 => .nx (ss.set i (some w)) h2
  | _ => .stuck
end
end Fw
namespace Fw
open PySem PySem.Spec L2
section
variable {X : Cx} {en : En} {W : WX} {pos : Pos}
def opAddI : O2 := fun a b h => match a, b with
  | .int i, .int j => some (.int (i + j), h)
  | .str x, .str y => if x.length + y.length ≤ big then some (.str (x ++ y), h) else none
  | _, _ => none
theorem ip_addM : PIp X .Add (rO2 en opAddI) := by
  intro pins s σ H x y v u Q I rx ry ⟨ρ, h, a, b, rel, ra, rb, w, h', e, k⟩
  unfold opAddI at e
  split at e
  · cases ra; cases rb
    exact iop_add pins s σ H _ _ v u Q I rx ry ⟨_, _, rfl, rfl, finO.here ⟨_, _, e, k⟩ rel rfl⟩
  · cases ra; cases rb
    split at e
    · exact iop_add_str pins s σ H _ _ v u Q I rx ry ⟨_, _, rfl, rfl, by rw [big_eq]; assumption, finO.here ⟨_, _, e, k⟩ rel rfl⟩
    · cases e
  · cases e
theorem ip_subM : PIp X .Sub (rO2 en opSub) := by
  intro pins s σ H x y v u Q I rx ry ⟨ρ, h, a, b, rel, ra, rb, w, h', e, k⟩
  unfold opSub at e
  split at e
  · cases ra; cases rb
    exact iop_sub pins s σ H _ _ v u Q I rx ry ⟨_, _, rfl, rfl, finO.here ⟨_, _, e, k⟩ rel rfl⟩
  · cases e
theorem PS.aug {i : Nat} {x : Str} {e : Expr} {m : EM} {op : Operator} {o : O2} {pos' : Pos} (hN : X.N.Nodup) (hi : X.N[i]? = some x) (hx : Loc X.env.scope x) (he : PE X e (tE en W m)) (ho : PIp X op (rO2 en o))
    (hf : X.fn x = true ∨ X.env.scope.names.lookup x = some .local := by first | exact .inl rfl | exact .inr rfl | assumption) : PS X (.AugAssign (.Name x pos') op e pos) (tS en W (mAug i o m)) :=
  PSimp (ps_aug hN hi hx he ho hf) fun D σ H ⟨ρ, ss, h, rel, rs, f⟩ => by
    unfold mAug at f
    split at f
    · rename_i x ex
      obtain ⟨u, eu, ru⟩ := rs.at_ i x ex
      refine ⟨u, eu, ρ, ss, h, rel, rs, ?_⟩
      cases e1 : m ss h with
      | stuck => simp only [e1, thenS, finS] at f
      | ex c xs h1 => simp only [e1, thenS, finS] at f; exact fun ρ' H' cls d p rel' rx => f ρ' σ H' cls d p rel' (rs.mono p) rx
      | ok v h1 =>
        simp only [e1, thenS] at f
        intro ρ1 H1 w p1 rel1 rw1
        refine ⟨ρ1, h1, x, v, rel1, ru.mono p1, rw1, ?_⟩
        cases e2 : o x v h1 with
        | none => simp only [e2, lift, finS] at f
        | some q =>
          obtain ⟨z, h2⟩ := q
          simp only [e2, lift] at f
          exact ⟨z, h2, rfl, fun ρ2 H2 b p2 rel2 rb => f ρ2 _ H2 (p1.trans p2) rel2 (((rs.mono p1).mono p2).set rb i)⟩
    · exact f.elim
/-! ### o[i] = e, o.f = e -/
def opSt (o i v : SV) (h : SH) : Option SH := match o with
  | .ref a => match h[a]? with
    | some (.lst xs) => match i with
      | .int k => match L2.ixN xs.length k with
        | some j => some (h.set a (.lst (xs.set j v)))
        | none => none
      | _ => none
    | some (.dK kvs) => match keyOf i with
      | some k => if kvs.length < big then some (h.set a (.dK (putS kvs k v))) else none
      | none => none
    | some (.dT kvs) => match i with
      | .ref b => match h[b]? with
        | some (.tup xs) => match keysOf xs with
          | some ks => if kvs.length < big then some (h.set a (.dT (putS kvs ks v))) else none
          | none => none
        | _ => none
      | _ => none
    | _ => none
  | _ => none
def mSt (me mo mi : EM) : SM := fun ss h => thenS (me ss h) ss fun v h1 => thenS (mo ss h1) ss fun o h2 => thenS (mi ss h2) ss fun i h3 => match opSt o i v h3 with
  | some h4 => .nx ss h4
  | none => .stuck
def rSt (en : En) : TSet := fun o i v H Q => ∃ ρ h a b c h', Rel en ρ h H ∧ RS en ρ a o ∧ RS en ρ b i ∧ RS en ρ c v ∧ opSt a b c h = some h' ∧ ∀ H', Rel en ρ h' H' → Q H'
theorem PSetOr {t t' : TSet} (h : PSet X t) (h' : PSet X t') : PSet X (fun o i v H Q => t o i v H Q ∨ t' o i v H Q) := fun pins s σ H o i v ov iv u Q I ro ri rv q => q.elim (h pins s σ H o i v ov iv u Q I ro ri rv) (h' pins s σ H o i v ov iv u Q I ro ri rv)
theorem set_dict (hu : X.A.units + 1 < cLine) : PSet X (fun o i v H Q => ∃ a H', o = .ref a ∧ DPut H a i v H' ∧ Q H') := by
  intro pins s σ H o i v ov iv u Q I ro ri rv ⟨a, H', e, g, q⟩
  subst e
  obtain rfl : ov = Value.ref a := ro
  exact d_setItem hu I g ri rv fun s4 I4 => ⟨H', I4, q⟩
theorem setM (hu : X.A.units + 1 < cLine) : PSet X (rSt en) := by
  have base := PSetOr (X := X) set_list (set_dict hu)
  intro pins s σ H o i v ov iv u Q I ro ri rv ⟨ρ, h, a, b, c, h', rel, ra, rb, rc, e, k⟩
  refine base pins s σ H o i v ov iv u Q I ro ri rv ?_
  unfold opSt at e
  split at e
  · split at e
    · rename_i ei
      split at e
      · split at e
        · rename_i ej
          cases e
          obtain ⟨p, vs, rfl, ep, e1, r1⟩ := rel.lst ei ra
          cases rb
          refine .inl ⟨p, vs, _, _, rfl, rfl, e1, by rw [← r1.len]; exact ej, k _ (rel.put ep ⟨_, upd_same, r1.set rc _⟩)⟩
        · cases e
      · cases e
    · rename_i ei
      split at e
      · rename_i kk ek
        split at e
        · rename_i hl
          cases e
          obtain ⟨p, ep, rfl⟩ := ra
          obtain ⟨kws, e1, r1⟩ := rel.at2 ep ei
          obtain rfl := keyOf_rel ek rb
          exact .inr ⟨p, _, rfl, DPut.k e1 (by rw [big_eq, ← Paired.length r1]; exact hl), k _ (rel.put ep ⟨_, upd_same, RK.put rc r1⟩)⟩
        · cases e
      · cases e
    · rename_i ei
      split at e
      · split at e
        · rename_i ej
          split at e
          · rename_i ks ek
            split at e
            · rename_i hl
              cases e
              obtain ⟨p, ep, rfl⟩ := ra
              obtain ⟨kws, e1, r1⟩ := rel.at2 ep ei
              obtain ⟨q, ws, rfl, eq, e2, r2⟩ := rel.tup ej rb
              obtain rfl := keysOf_rel ek r2
              exact .inr ⟨p, _, rfl, DPut.t e1 e2 (by rw [big_eq, ← Paired.length r1]; exact hl), k _ (rel.put ep ⟨_, upd_same, RK.put rc r1⟩)⟩
            · cases e
          · cases e
        · cases e
      · cases e
    · cases e
  · cases e
theorem PS.st {o i e : Expr} {me mo mi : EM} {pos' : Pos} (hu : X.A.units + 1 < cLine) (he : PE X e (tE en W me)) (ho : PE X o (tE en W mo)) (hi : PE X i (tE en W mi)) (hs : swapsWithSole [.Subscript o i pos'] e pos.line X.env = pure false := by rfl) (hw : swappedStores [.Subscript o i pos'] e X.env = pure none := by rfl)
    (h1 : (assignEach [.Subscript o i pos'] X.env).map (·.2) = [assign (.Subscript o i pos') X.env] := by rfl)
    (ha : ∀ v, assign (.Subscript o i pos') X.env v = (do
      let ov ← holding [v] (eval o X.env)
      let iv ← holding [v, ov] (eval i X.env)
      standAt pos'
      holding [v, ov, iv] (setItem ov iv v)
      release [v, ov, iv] []) := by intro _; rfl) : PS X (.Assign [.Subscript o i pos'] e pos) (tS en W (mSt me mo mi)) :=
  PSimp (ps_asg he (pg_sub ho hi (setM hu) ha) hs hw h1) fun D σ H t => tS.bind (R1 := RS en) (k := fun ss v h1 => thenS (mo ss h1) ss fun o h2 => thenS (mi ss h2) ss fun i h3 => match opSt o i v h3 with | some h4 => .nx ss h4 | none => .stuck) t fun ρ ss h v x H1 rel rs rv f => by
    refine ⟨ρ, ss, h, rel, rs, ?_⟩
    cases e1 : mo ss h with
    | stuck => simp only [e1, thenS, finS] at f
    | ex c xs h1 => simp only [e1, thenS, finS] at f; exact fun ρ' H' cls d p rel' rx => f ρ' σ H' cls d p rel' (rs.mono p) rx
    | ok o h1 =>
      simp only [e1, thenS] at f
      intro ρ1 H2 y p1 rel1 ro
      refine ⟨ρ1, ss, h1, rel1, rs.mono p1, ?_⟩
      cases e2 : mi ss h1 with
      | stuck => simp only [e2, thenS, finS] at f
      | ex c xs h1 => simp only [e2, thenS, finS] at f; exact fun ρ' H' cls d p rel' rx => f ρ' σ H' cls d (p1.trans p) rel' ((rs.mono p1).mono p) rx
      | ok i h2 =>
        simp only [e2, thenS] at f
        intro ρ2 H3 z p2 rel2 ri
        cases e3 : opSt o i v h2 with
        | none => simp only [e3, finS] at f
        | some h4 =>
          simp only [e3] at f
          exact ⟨ρ2, h2, o, i, v, h4, rel2, ro.mono p2, ri, (rv.mono p1).mono p2, e3, fun H' rel' => f ρ2 σ H' (p1.trans p2) rel' ((rs.mono p1).mono p2)⟩
end
end Fw
namespace Fw
open PySem PySem.Spec L2
/-- what the written part says of the class with the number c: its place, its fields' names in order -/
structure ClsF (en : En) (c : Nat) (C : Addr) (ns : List Str) : Prop where
  at_ : en.cl[c]? = some (C, ns)
  cls : L2.Cls en.K C
  no : ∀ f ∈ ns, NoAttr en.K C f
  nd : ns.Nodup
  few : ns.length ≤ 900
/-- the place of the field f by the class's number: right for the classes that it names -/
def FldOk (en : En) (f : Str) (ix : List (Option Nat)) : Prop := ∀ (c k : Nat), ix[c]? = some (some k) → ∃ C ns, ClsF en c C ns ∧ ns[k]? = some f
theorem zip_lookup {f : Str} : ∀ {ns : List Str} {vs : List V} {k : Nat} {v : V}, ns.Nodup → ns[k]? = some f → vs[k]? = some v → (ns.zip vs).lookup f = some v
  | [], _, _, _, _, h, _ => by simp at h
  | _ :: _, [], _, _, _, _, h => by simp at h
  | n :: ns, w :: vs, 0, v, nd, h1, h2 => by
    simp at h1 h2; subst h1; subst h2
    simp [List.lookup]
  | n :: ns, w :: vs, k + 1, v, nd, h1, h2 => by
    have h1' : ns[k]? = some f := by simpa using h1
    have hn : n ≠ f := fun e => (List.nodup_cons.mp nd).1 (by rw [e]; exact List.mem_of_getElem? h1')
    have hb : (f == n) = false := by simpa using fun e : f = n => hn e.symm
    rw [List.zip_cons_cons, List.lookup_cons, hb]
    exact zip_lookup (List.nodup_cons.mp nd).2 h1' (by simpa using h2)
theorem zip_put {f : Str} {y : V} : ∀ {ns : List Str} {vs : List V} {k : Nat}, ns.Nodup → ns[k]? = some f → k < vs.length → putF f y (ns.zip vs) = ns.zip (vs.set k y)
  | [], _, _, _, h, _ => by simp at h
  | _ :: _, [], _, _, _, h => by simp at h
  | n :: ns, w :: vs, 0, nd, h1, h2 => by
    simp at h1; subst h1
    simp [putF]
  | n :: ns, w :: vs, k + 1, nd, h1, h2 => by
    have h1' : ns[k]? = some f := by simpa using h1
    have hn : n ≠ f := fun e => (List.nodup_cons.mp nd).1 (by rw [e]; exact List.mem_of_getElem? h1')
    rw [List.zip_cons_cons, List.set_cons_succ, List.zip_cons_cons]
    unfold putF
    rw [if_neg hn, zip_put (List.nodup_cons.mp nd).2 h1' (by simpa using h2)]
theorem zip_new {f : Str} {y : V} : ∀ {ns : List Str} {vs : List V}, ns.Nodup → ns[vs.length]? = some f → putF f y (ns.zip vs) = ns.zip (vs ++ [y])
  | [], _, _, h => by simp at h
  | n :: ns, [], nd, h1 => by
    simp at h1; subst h1
    simp [putF]
  | n :: ns, w :: vs, nd, h1 => by
    have h1' : ns[vs.length]? = some f := by simpa using h1
    have hn : n ≠ f := fun e => (List.nodup_cons.mp nd).1 (by rw [e]; exact List.mem_of_getElem? h1')
    rw [List.zip_cons_cons, List.cons_append, List.zip_cons_cons]
    unfold putF
    rw [if_neg hn, zip_new (List.nodup_cons.mp nd).2 h1']
section
variable {X : Cx} {en : En} {W : WX} {pos : Pos}
def opFld (ix : List (Option Nat)) : O1 := fun a h => match a with
  | .ref i => match h[i]? with
    | some (.ins c vs) => match ix[c]? with
      | some (some k) => match vs[k]? with
        | some v => some (v, h)
        | none => none
      | _ => none
    | _ => none
  | _ => none
theorem PE.fld {e : Expr} {f : Str} {m : EM} {ix : List (Option Nat)} (hK : X.K = en.K) (hf : FldOk en f ix) (he : PE X e (tE en W m)) (hb : attributeBase e f X.env (eval e X.env) = eval e X.env := by rfl) : PE X (.Attribute e f pos) (tE en W (mO1 (opFld ix) m)) :=
  PEimp (pe_fld he hb) fun σ H Q t => tM.bind2 (R1 := RS en) (R2 := RS en) (k := fun a (ss : SS) h => lift (opFld ix a h)) t fun ρ ss h a x H1 rel rs ra fn => by
    obtain ⟨v, h', e, k⟩ := fn.lift
    unfold opFld at e
    split at e
    · split at e
      · rename_i ei
        split at e
        · rename_i kk ek
          split at e
          · rename_i ev
            obtain ⟨C, ns, F, en'⟩ := hf _ _ ek
            obtain ⟨p, ep, rfl⟩ := ra
            obtain ⟨C', ns', dx, ws, e1, e2, l, r⟩ := rel.at2 ep ei
            rw [F.at_] at e1; cases e1
            obtain ⟨w, ew, rw'⟩ := r.get ev
            exact ⟨p, C, dx, _, w, rfl, e2, by rw [hK]; exact F.cls, by rw [hK]; exact F.no _ (List.mem_of_getElem? en'), zip_lookup F.nd en' ew, finO.here ⟨_, _, e, k⟩ rel rw'⟩
          · cases e
        · cases e
      · cases e
    · cases e
def opFst (ix : List (Option Nat)) (o v : SV) (h : SH) : Option SH := match o with
  | .ref i => match h[i]? with
    | some (.ins c vs) => match ix[c]? with
      | some (some k) => if k < vs.length then some (h.set i (.ins c (vs.set k v))) else if k = vs.length then some (h.set i (.ins c (vs ++ [v]))) else none
      | _ => none
    | _ => none
  | _ => none
def mFst (ix : List (Option Nat)) (me mo : EM) : SM := fun ss h => thenS (me ss h) ss fun v h1 => thenS (mo ss h1) ss fun o h2 => match opFst ix o v h2 with
  | some h3 => .nx ss h3
  | none => .stuck
theorem PS.fst {o e : Expr} {f : Str} {me mo : EM} {ix : List (Option Nat)} {pos' : Pos} (hK : X.K = en.K) (hf : FldOk en f ix) (ho : PE X o (tE en W mo)) (he : PE X e (tE en W me)) (hs : swapsWith e (some (.Attribute o f pos')) pos.line X.env = pure false := by rfl) :
    PS X (.Assign [.Attribute o f pos'] e pos) (tS en W (mFst ix me mo)) :=
  PSimp (ps_fld ho he hs) fun D σ H t => tS.bind (R1 := RS en) (k := fun ss v h1 => thenS (mo ss h1) ss fun o h2 => match opFst ix o v h2 with | some h3 => .nx ss h3 | none => .stuck) t fun ρ ss h v x H1 rel rs rv fn => by
    refine ⟨ρ, ss, h, rel, rs, ?_⟩
    cases e1 : mo ss h with
    | stuck => simp only [e1, thenS, finS] at fn
    | ex c xs h1 => simp only [e1, thenS, finS] at fn; exact fun ρ' H' cls d p rel' rx => fn ρ' σ H' cls d p rel' (rs.mono p) rx
    | ok o h1 =>
      simp only [e1, thenS] at fn
      intro ρ1 H2 y p1 rel1 ro
      cases e2 : opFst ix o v h1 with
      | none => simp only [e2, finS] at fn
      | some h3 =>
        simp only [e2] at fn
        unfold opFst at e2
        split at e2
        · split at e2
          · rename_i ei
            split at e2
            · rename_i kk ek
              obtain ⟨C, ns, F, en'⟩ := hf _ _ ek
              obtain ⟨p, ep, rfl⟩ := ro
              obtain ⟨C', ns', dx, ws, e1', e2', l, r⟩ := rel1.at2 ep ei
              rw [F.at_] at e1'; cases e1'
              have few : (ns.zip ws).length < 1000 := by
                have := F.few
                rw [List.length_zip]; omega
              refine ⟨p, C, dx, _, rfl, e2', by rw [hK]; exact F.cls, by rw [hK]; exact F.no _ (List.mem_of_getElem? en'), few, ?_⟩
              split at e2
              · rename_i hk
                cases e2
                rw [zip_put F.nd en' (by rw [← r.len]; exact hk)]
                exact fn ρ1 σ _ p1 (rel1.put ep ⟨C, ns, dx, _, F.at_, upd_same, by simpa using l, RSs.set (rv.mono p1) _ r⟩) (rs.mono p1)
              · split at e2
                · rename_i hk
                  cases e2
                  have hl : kk = ws.length := by rw [← r.len]; exact hk
                  rw [zip_new F.nd (by rw [← hl]; exact en')]
                  have hlt : kk < ns.length := (List.getElem?_eq_some_iff.mp en').1
                  exact fn ρ1 σ _ p1 (rel1.put ep ⟨C, ns, dx, _, F.at_, upd_same, by rw [List.length_append, List.length_singleton]; omega, RSs.app r (.cons (rv.mono p1) .nil)⟩) (rs.mono p1)
                · cases e2
            · cases e2
          · cases e2
        · cases e2
end
end Fw
namespace Fw
open PySem PySem.Spec L2
/-- what a loop walks: at turn i an item, or the end -/
abbrev Wk := SH → Nat → Option (Option (SV × SH))
abbrev IM := SS → SH → Res Wk
def ItOk (en : En) (ρ : List Addr) (J : It) (wk : Wk) : Prop := ∀ ρ2 h2 H2 i, Pre ρ ρ2 → Rel en ρ2 h2 H2 →
  (wk h2 i = some none → J.stop i H2) ∧ ∀ x h3, wk h2 i = some (some (x, h3)) → J.go i H2 ∧ ∀ v H3, J.yld i H2 v H3 → ∃ ρ3, Pre ρ2 ρ3 ∧ Rel en ρ3 h3 H3 ∧ RS en ρ3 x v
def tI (en : En) (W : WX) (m : IM) : TI := fun σ H R => ∃ ρ ss h, Rel en ρ h H ∧ RSl en ρ ss σ ∧ match m ss h with
  | .stuck => False
  | .ok wk h1 => ∀ ρ' H' J, Pre ρ ρ' → Rel en ρ' h1 H' → ItOk en ρ' J wk → R J H'
  | .ex c xs h1 => ∀ ρ' H' cls d, Pre ρ ρ' → Rel en ρ' h1 H' → RX en ρ' H' c xs cls d → W cls d σ H'
theorem PIimp {X : Cx} {tg e : Expr} {t t' : TI} (h : PI X tg e t) (k : ∀ σ H R, t' σ H R → t σ H R) : PI X tg e t' := ⟨fun pins s σ H R I q => h.run pins s σ H R I (k σ H R q)⟩
theorem PIor {X : Cx} {tg e : Expr} {t t' : TI} (h : PI X tg e t) (h' : PI X tg e t') : PI X tg e (fun σ H R => t σ H R ∨ t' σ H R) := ⟨fun pins s σ H R I q => q.elim (h.run pins s σ H R I) (h'.run pins s σ H R I)⟩
/-- the walk of a list, of a tuple, as it stands at each turn -/
def wkL (r : Nat) : Wk := fun h i => match h[r]? with
  | some (.lst xs) => match xs[i]? with
    | some x => some (some (x, h))
    | none => some none
  | _ => none
def wkT (r : Nat) : Wk := fun h i => match h[r]? with
  | some (.tup xs) => match xs[i]? with
    | some x => some (some (x, h))
    | none => some none
  | _ => none
def wkScr (ns : List Int) : Wk := fun h i => match ns[i]? with
  | some n => some (some (.int n, h))
  | none => some none
def wkStr (z : Str) : Wk := fun h i => match z.cps[i]? with
  | some c => some (some (.str ⟨#[c]⟩, h))
  | none => some none
def wkRng (lo : Int) (n : Nat) : Wk := fun h i => if i < n then some (some (.int (lo + i), h)) else some none
/-- the walk of enumerate over a list -/
def wkEnum (r : Nat) : Wk := fun h i => match h[r]? with
  | some (.lst xs) => match xs[i]? with
    | some x => some (some (.ref h.length, h ++ [.tup [.int (i : Nat), x]]))
    | none => some none
  | _ => none
def mWalk (m : EM) : IM := fun ss h => (m ss h).bind fun v h1 => match v with
  | .scr ns => .ok (wkScr ns) h1
  | .str z => .ok (wkStr z) h1
  | .ref r => match h1[r]? with
    | some (.lst _) => .ok (wkL r) h1
    | some (.tup _) => .ok (wkT r) h1
    | _ => .stuck
  | _ => .stuck
def mEnum (m : AM) : IM := fun ss h => (m ss h).bind fun vs h1 => match vs with
  | [.ref r] => match h1[r]? with
    | some (.lst _) => .ok (wkEnum r) h1
    | _ => .stuck
  | _ => .stuck
def rngB (i : Int) : Bool := decide (-4611686018427387904 ≤ i ∧ i < 4611686018427387904)
def mRng1 (m : AM) : IM := fun ss h => (m ss h).bind fun vs h1 => match vs with
  | [.int j] => if rngB j = true then .ok (wkRng 0 j.toNat) h1 else .stuck
  | _ => .stuck
def mRng2 (m : AM) : IM := fun ss h => (m ss h).bind fun vs h1 => match vs with
  | [.int i, .int j] => if (rngB i && rngB j) = true then .ok (wkRng i (j - i).toNat) h1 else .stuck
  | _ => .stuck
section
variable {X : Cx} {en : En} {W : WX} {pos : Pos}
theorem rngB_of {i : Int} (h : rngB i = true) : -(2 ^ 62) ≤ i ∧ i < 2 ^ 62 := by
  have e : (2 : Int) ^ 62 = 4611686018427387904 := by decide
  rw [e]
  exact of_decide_eq_true h
theorem itL {ρ : List Addr} {r : Nat} {p : Addr} (K : PySem.W.Frag) (ep : ρ[r]? = some p) : ItOk en ρ (Itl K p) (wkL r) := fun ρ2 h2 H2 i pr rel => by
  have ep2 := pr.get ep
  unfold wkL
  refine ⟨fun e => ?_, fun x h3 e => ?_⟩
  · split at e
    · rename_i ei
      obtain ⟨p', vs, e0, ep', e1, r1⟩ := rel.lst ei ⟨p, ep2, rfl⟩
      cases e0
      split at e
      · cases e
      · rename_i en'
        exact ⟨vs, SqL.of e1, by rw [← r1.len]; exact List.getElem?_eq_none_iff.mp en'⟩
    · cases e
  · split at e
    · rename_i ei
      obtain ⟨p', vs, e0, ep', e1, r1⟩ := rel.lst ei ⟨p, ep2, rfl⟩
      cases e0
      split at e
      · rename_i ex
        cases e
        obtain ⟨w, ew, rw'⟩ := r1.get ex
        refine ⟨⟨vs, w, SqL.of e1, ew⟩, fun v H3 ⟨eh, q⟩ => ?_⟩
        have z := q vs (SqL.of e1)
        rw [ew] at z; cases z; subst eh
        exact ⟨ρ2, Pre.refl ρ2, rel, rw'⟩
      · cases e
    · cases e
theorem itT {ρ : List Addr} {r : Nat} {p : Addr} (K : PySem.W.Frag) (ep : ρ[r]? = some p) : ItOk en ρ (Itt K p) (wkT r) := fun ρ2 h2 H2 i pr rel => by
  have ep2 := pr.get ep
  unfold wkT
  refine ⟨fun e => ?_, fun x h3 e => ?_⟩
  · split at e
    · rename_i ei
      obtain ⟨p', vs, e0, ep', e1, r1⟩ := rel.tup ei ⟨p, ep2, rfl⟩
      cases e0
      split at e
      · cases e
      · rename_i en'
        exact ⟨vs, SqT.of e1, by rw [← r1.len]; exact List.getElem?_eq_none_iff.mp en'⟩
    · cases e
  · split at e
    · rename_i ei
      obtain ⟨p', vs, e0, ep', e1, r1⟩ := rel.tup ei ⟨p, ep2, rfl⟩
      cases e0
      split at e
      · rename_i ex
        cases e
        obtain ⟨w, ew, rw'⟩ := r1.get ex
        refine ⟨⟨vs, w, SqT.of e1, ew⟩, fun v H3 ⟨eh, q⟩ => ?_⟩
        have z := q vs (SqT.of e1)
        rw [ew] at z; cases z; subst eh
        exact ⟨ρ2, Pre.refl ρ2, rel, rw'⟩
      · cases e
    · cases e
theorem itScr {ρ : List Addr} : ItOk en ρ (Itl en.K en.a0) (wkScr en.ns) := fun ρ2 h2 H2 i pr rel => by
  unfold wkScr
  have s := rel.scr
  have m : (en.ns.map V.int)[i]? = (en.ns[i]?).map V.int := List.getElem?_map
  refine ⟨fun e => ?_, fun x h3 e => ?_⟩
  · split at e
    · cases e
    · rename_i en'
      exact ⟨_, s, by rw [List.length_map]; exact List.getElem?_eq_none_iff.mp en'⟩
  · split at e
    · rename_i ex
      cases e
      rw [ex] at m
      refine ⟨⟨_, _, s, m⟩, fun v H3 ⟨eh, q⟩ => ?_⟩
      have z := q _ s
      rw [m] at z; cases z; subst eh
      exact ⟨ρ2, Pre.refl ρ2, rel, rfl⟩
    · cases e
theorem itStr {ρ : List Addr} (z : Str) : ItOk en ρ (Its z) (wkStr z) := fun ρ2 h2 H2 i pr rel => by
  unfold wkStr
  refine ⟨fun e => ?_, fun x h3 e => ?_⟩
  · split at e
    · cases e
    · rename_i en'
      exact Array.getElem?_eq_none_iff.mp en'
  · split at e
    · rename_i ex
      cases e
      refine ⟨(Array.getElem?_eq_some_iff.mp ex).1, fun v H3 ⟨eh, c, ec, q⟩ => ?_⟩
      rw [ex] at ec; cases ec; subst eh; subst q
      exact ⟨ρ2, Pre.refl ρ2, rel, rfl⟩
    · cases e
theorem itRng {ρ : List Addr} (lo : Int) (n : Nat) : ItOk en ρ (Itr lo n) (wkRng lo n) := fun ρ2 h2 H2 i pr rel => by
  unfold wkRng
  refine ⟨fun e => ?_, fun x h3 e => ?_⟩
  · split at e
    · cases e
    · exact Nat.le_of_not_lt (by assumption)
  · split at e
    · cases e
      refine ⟨by assumption, fun v H3 ⟨eh, q⟩ => ?_⟩
      subst eh; subst q
      exact ⟨ρ2, Pre.refl ρ2, rel, rfl⟩
    · cases e
theorem itEnum {ρ : List Addr} {r : Nat} {p : Addr} (K : PySem.W.Frag) (ep : ρ[r]? = some p) : ItOk en ρ (Ite K p) (wkEnum r) := fun ρ2 h2 H2 i pr rel => by
  have ep2 := pr.get ep
  unfold wkEnum
  refine ⟨fun e => ?_, fun x h3 e => ?_⟩
  · split at e
    · rename_i ei
      obtain ⟨p', vs, e0, ep', e1, r1⟩ := rel.lst ei ⟨p, ep2, rfl⟩
      cases e0
      split at e
      · cases e
      · rename_i en'
        exact ⟨vs, SqL.of e1, by rw [← r1.len]; exact List.getElem?_eq_none_iff.mp en'⟩
    · cases e
  · split at e
    · rename_i ei
      obtain ⟨p', vs, e0, ep', e1, r1⟩ := rel.lst ei ⟨p, ep2, rfl⟩
      cases e0
      split at e
      · rename_i ex
        cases e
        obtain ⟨w, ew, rw'⟩ := r1.get ex
        refine ⟨⟨vs, w, SqL.of e1, ew⟩, fun v H3 ⟨T, x, ev, nT, eh, q⟩ => ?_⟩
        have z := q vs (SqL.of e1)
        rw [ew] at z; cases z; subst eh; subst ev
        exact ⟨ρ2 ++ [T], Pre.one ρ2 T, rel.push nT ⟨_, upd_same, .cons rfl (.cons (rw'.mono (Pre.one ρ2 T)) .nil)⟩, ⟨T, by rw [← rel.len, List.getElem?_append_right (Nat.le_refl _)]; simp, rfl⟩⟩
      · cases e
    · cases e
theorem tI.bind {α β : Type} {R1 : List Addr → α → β → Prop} {m1 : SS → SH → Res α} {k : α → SH → Res Wk} {σ : L2.St} {H : Hp} {R : It → Hp → Prop} {Q' : β → Hp → Prop} (t : tI en W (fun ss h => (m1 ss h).bind k) σ H R)
    (f : ∀ ρ h a b H1, Rel en ρ h H1 → R1 ρ a b → (match k a h with | .stuck => False | .ok wk h1 => ∀ ρ' H' J, Pre ρ ρ' → Rel en ρ' h1 H' → ItOk en ρ' J wk → R J H' | .ex c xs h1 => ∀ ρ' H' cls d, Pre ρ ρ' → Rel en ρ' h1 H' → RX en ρ' H' c xs cls d → W cls d σ H') → Q' b H1) : tM en W R1 m1 σ H Q' := by
  obtain ⟨ρ, ss, h, rel, rs, q⟩ := t
  refine ⟨ρ, ss, h, rel, rs, ?_⟩
  cases e : m1 ss h with
  | stuck => simp only [e, Res.bind] at q
  | ex c xs h1 => simp only [e, Res.bind] at q; exact q
  | ok a h1 =>
    simp only [e, Res.bind] at q
    intro ρ1 H1 b p rel1 r
    refine f ρ1 h1 a b H1 rel1 r ?_
    cases e2 : k a h1 with
    | stuck => simp only [e2] at q
    | ok wk h2 => simp only [e2] at q ⊢; exact fun ρ' H' J p' => q ρ' H' J (p.trans p')
    | ex c xs h2 => simp only [e2] at q ⊢; exact fun ρ' H' cls d p' => q ρ' H' cls d (p.trans p')
theorem PI.walk {tg e : Expr} {m : EM} (hK : X.K = en.K) (he : PE X e (tE en W m)) : PI X tg e (tI en W (mWalk m)) := by
  refine PIimp (PIor (pi_list he) (PIor (pi_tup he) (pi_str he))) fun σ H R t => ?_
  have t' := t
  obtain ⟨ρ, ss, h, rel, rs, q⟩ := t
  unfold mWalk at q
  cases e1 : m ss h with
  | stuck => simp only [e1, Res.bind] at q
  | ex c xs h1 => simp only [e1, Res.bind] at q; exact .inl ⟨ρ, ss, h, rel, rs, by rw [e1]; exact q⟩
  | ok v h1 =>
    simp only [e1, Res.bind] at q
    cases v with
    | scr ns =>
      refine .inl ⟨ρ, ss, h, rel, rs, ?_⟩
      rw [e1]
      intro ρ1 H1 b p rel1 ⟨eb, en'⟩
      subst eb; subst en'
      exact ⟨en.a0, rfl, ⟨_, by rw [hK]; exact rel1.scr⟩, q ρ1 H1 _ p rel1 (by rw [hK]; exact itScr)⟩
    | str z =>
      refine .inr (.inr ⟨ρ, ss, h, rel, rs, ?_⟩)
      rw [e1]
      intro ρ1 H1 b p rel1 r
      cases r
      exact ⟨z, rfl, q ρ1 H1 _ p rel1 (itStr z)⟩
    | ref r =>
      cases ei : h1[r]? with
      | none => simp only [ei] at q
      | some o =>
        cases o with
        | lst xs =>
          simp only [ei] at q
          refine .inl ⟨ρ, ss, h, rel, rs, ?_⟩
          rw [e1]
          intro ρ1 H1 b p rel1 ⟨a, ea, eb⟩
          subst eb
          obtain ⟨p', vs, e0, ep', e3, r1⟩ := rel1.lst ei ⟨a, ea, rfl⟩
          cases e0
          exact ⟨a, rfl, ⟨_, SqL.of e3⟩, q ρ1 H1 _ p rel1 (itL _ ea)⟩
        | tup xs =>
          simp only [ei] at q
          refine .inr (.inl ⟨ρ, ss, h, rel, rs, ?_⟩)
          rw [e1]
          intro ρ1 H1 b p rel1 ⟨a, ea, eb⟩
          subst eb
          obtain ⟨p', vs, e0, ep', e3, r1⟩ := rel1.tup ei ⟨a, ea, rfl⟩
          cases e0
          exact ⟨a, rfl, ⟨_, SqT.of e3⟩, q ρ1 H1 _ p rel1 (itT _ ea)⟩
        | _ => simp only [ei] at q
    | _ => exact q.elim
theorem PI.rng1 {tg a : Expr} {m : AM} {p : Pos} (hg : Gl X "range") (hm : X.mg "range" = none) (ha : PA X [a] (tA en W m)) (hs : starEach [a] X.env = [(false, eval a X.env)] := by rfl) : PI X tg (.Call (.Name "range" p) [a] [] pos) (tI en W (mRng1 m)) :=
  PIimp (pi_range1 hg hm ha hs) fun σ H R t => tI.bind (R1 := RSs en) t fun ρ h as bs H1 rel r q => by
    split at q
    · exact q.elim
    · rename_i e2
      split at e2
      · split at e2
        · rename_i hb
          cases e2
          obtain ⟨x, rfl, rx⟩ := RSs.one r
          cases rx
          exact ⟨_, rfl, (rngB_of hb).1, (rngB_of hb).2, q ρ H1 _ (Pre.refl ρ) rel (itRng 0 _)⟩
        · cases e2
      · cases e2
    · rename_i e2
      split at e2
      · split at e2 <;> cases e2
      · cases e2
theorem PI.rng2 {tg a b : Expr} {m : AM} {p : Pos} (hg : Gl X "range") (hm : X.mg "range" = none) (ha : PA X [a, b] (tA en W m)) (hs : starEach [a, b] X.env = [(false, eval a X.env), (false, eval b X.env)] := by rfl) (hs2 : starEach [b] X.env = [(false, eval b X.env)] := by rfl) : PI X tg (.Call (.Name "range" p) [a, b] [] pos) (tI en W (mRng2 m)) :=
  PIimp (pi_range2 hg hm ha hs hs2) fun σ H R t => tI.bind (R1 := RSs en) t fun ρ h as bs H1 rel r q => by
    split at q
    · exact q.elim
    · rename_i e2
      split at e2
      · split at e2
        · rename_i hb
          cases e2
          obtain ⟨x, y, rfl, rx, ry⟩ := RSs.two r
          cases rx; cases ry
          have z := Bool.and_eq_true_iff.mp hb
          exact ⟨_, _, rfl, ⟨(rngB_of z.1).1, (rngB_of z.1).2, (rngB_of z.2).1, (rngB_of z.2).2⟩, q ρ H1 _ (Pre.refl ρ) rel (itRng _ _)⟩
        · cases e2
      · cases e2
    · rename_i e2
      split at e2
      · split at e2 <;> cases e2
      · cases e2
theorem PI.enm {e : Expr} {m : AM} {p tpos : Pos} {elts : List Expr} {kk : Nat} (hg : Gl X "enumerate") (hm : X.mg "enumerate" = none) (ha : PA X [e] (tA en W m)) (hs : starEach [e] X.env = [(false, eval e X.env)] := by rfl) : PI X (.Tuple elts kk tpos) (.Call (.Name "enumerate" p) [e] [] pos) (tI en W (mEnum m)) :=
  PIimp (pi_enum hg hm ha hs) fun σ H R t => tI.bind (R1 := RSs en) t fun ρ h as bs H1 rel r q => by
    split at q
    · exact q.elim
    · rename_i e2
      split at e2
      · split at e2
        · rename_i ei
          cases e2
          obtain ⟨x, rfl, rx⟩ := RSs.one r
          obtain ⟨p', vs, rfl, ep', e3, r1⟩ := rel.lst ei rx
          exact ⟨p', vs, rfl, SqL.of e3, q ρ H1 _ (Pre.refl ρ) rel (itEnum _ ep')⟩
        · cases e2
      · cases e2
    · rename_i e2
      split at e2
      · split at e2 <;> cases e2
      · cases e2
end
end Fw
namespace Fw
open PySem PySem.Spec L2
/-- the turns of a for -/
def forM (g : GM) (wk : Wk) (body : SM) : Nat → Nat → SM
  | 0, _ => fun _ _ => .stuck
  | n + 1, i => fun ss h => match wk h i with
    | none => .stuck
    | some none => .nx ss h
    | some (some (x, h1)) => match g x ss h1 with
      | none => .stuck
      | some ss1 => match body ss1 h1 with
        | .nx ss2 h2 => forM g wk body n (i + 1) ss2 h2
        | .ct ss2 h2 => forM g wk body n (i + 1) ss2 h2
        | .bk ss2 h2 => .nx ss2 h2
        | r => r
/-- more turns than there are -/
def many : Nat := 18446744073709551616
def mFor (m : IM) (g : GM) (body : SM) : SM := fun ss h => match m ss h with
  | .stuck => .stuck
  | .ex c xs h1 => .ex c xs ss h1
  | .ok wk h1 => forM g wk body many 0 ss h1
/-- the turns of a while -/
def whileM (t : BM) (body : SM) : Nat → SM
  | 0 => fun _ _ => .stuck
  | n + 1 => fun ss h => thenS (t ss h) ss fun b h1 => if b = true then (match body ss h1 with
    | .nx ss2 h2 => whileM t body n ss2 h2
    | .ct ss2 h2 => whileM t body n ss2 h2
    | .bk ss2 h2 => .nx ss2 h2
    | r => r) else .nx ss h1
def mWhile (t : BM) (body : SM) : SM := whileM t body many
section
variable {X : Cx} {en : En} {W : WX} {pos : Pos}
theorem PS.for {tg iter : Expr} {body : List Stmt} {m : IM} {g : GM} {mb : SM} {is : List Nat} (hp : PassesOwn (model X.prog X.w) X.A X.env X.xe) (hc : X.calm = true) (hi : PI X tg iter (tI en W m)) (hg : PG X tg (tG en is g)) (hb : PSs X body (tS en W mb))
    (hs : ∀ x, foldedSetIterable iter X.env x = pure x := by intro _; rfl) : PS X (.For tg iter body [] pos) (tS en W (mFor m g mb)) :=
  PSimp (ps_for hp hc hi hg hb hs) fun D σ H t => by
    obtain ⟨ρ, ss, h, rel, rs, f⟩ := t
    refine ⟨ρ, ss, h, rel, rs, ?_⟩
    unfold mFor at f
    cases e : m ss h with
    | stuck => simp only [e, finS] at f
    | ex c xs h1 => simp only [e, finS] at f ⊢; exact fun ρ' H' cls d p rel' rx => f ρ' σ H' cls d p rel' (rs.mono p) rx
    | ok wk h1 =>
      simp only [e] at f ⊢
      intro ρ1 H1 J p1 rel1 ok
      refine ⟨fun i n σ2 H2 => ∃ ρ2 ss2 h2, Pre ρ1 ρ2 ∧ Rel en ρ2 h2 H2 ∧ RSl en ρ2 ss2 σ2 ∧ finS en W ρ2 (forM g wk mb n i ss2 h2) D, ⟨many, ρ1, ss, h1, Pre.refl ρ1, rel1, rs.mono p1, f.mono p1⟩, ?_⟩
      rintro i n σ2 H2 ⟨ρ2, ss2, h2, p2, rel2, rs2, f2⟩
      cases n with
      | zero => exact f2.elim
      | succ n =>
        unfold forM at f2
        obtain ⟨k1, k2⟩ := ok ρ2 h2 H2 i p2 rel2
        cases e2 : wk h2 i with
        | none => simp only [e2, finS] at f2
        | some o =>
          cases o with
          | none =>
            simp only [e2] at f2
            exact .inl ⟨k1 e2, f2 ρ2 σ2 H2 (Pre.refl ρ2) rel2 rs2⟩
          | some q =>
            obtain ⟨x, h3⟩ := q
            simp only [e2] at f2
            obtain ⟨go, yl⟩ := k2 x h3 e2
            refine .inr ⟨go, fun σ' H' => ∃ ρ4 ss4 h4, Pre ρ2 ρ4 ∧ Rel en ρ4 h4 H' ∧ RSl en ρ4 ss4 σ' ∧ finS en W ρ4 (forM g wk mb n (i + 1) ss4 h4) D, fun σ' H' ⟨ρ4, ss4, h4, p4, rel4, rs4, f4⟩ => ⟨n, Nat.lt_succ_self n, ρ4, ss4, h4, p2.trans p4, rel4, rs4, f4⟩, fun v H3 yv => ?_⟩
            obtain ⟨ρ3, p3, rel3, rv⟩ := yl v H3 yv
            cases e3 : g x ss2 h3 with
            | none => simp only [e3, finS] at f2
            | some ss1 =>
              simp only [e3] at f2
              refine ⟨ρ3, ss2, h3, x, ss1, rel3, rs2.mono p3, rv, e3, fun σ' rs' _ => ⟨ρ3, ss1, h3, rel3, rs', ?_⟩⟩
              cases e4 : mb ss1 h3 with
              | stuck => simp only [e4] at f2; exact f2
              | nx ss5 h5 => simp only [e4] at f2; exact fun ρ5 σ5 H5 p5 rel5 rs5 => ⟨ρ5, ss5, h5, p3.trans p5, rel5, rs5, f2.mono (p3.trans p5)⟩
              | ct ss5 h5 => simp only [e4] at f2; exact fun ρ5 σ5 H5 p5 rel5 rs5 => ⟨ρ5, ss5, h5, p3.trans p5, rel5, rs5, f2.mono (p3.trans p5)⟩
              | bk ss5 h5 => simp only [e4] at f2; exact fun ρ5 σ5 H5 p5 rel5 rs5 => f2 ρ5 σ5 H5 (p3.trans p5) rel5 rs5
              | rt v h5 => simp only [e4] at f2; exact f2.mono p3
              | ex c xs ss5 h5 => simp only [e4] at f2; exact f2.mono p3
theorem PS.while {c : Expr} {body : List Stmt} {t : BM} {mb : SM} (hp : PassesOwn (model X.prog X.w) X.A X.env X.xe) (hc : PT X c (tT en W t)) (hb : PSs X body (tS en W mb)) : PS X (.While c body [] pos) (tS en W (mWhile t mb)) :=
  PSimp (ps_while hp hc hb) fun D σ H q => by
    obtain ⟨ρ, ss, h, rel, rs, f⟩ := q
    refine ⟨fun n σ2 H2 => ∃ ρ2 ss2 h2, Rel en ρ2 h2 H2 ∧ RSl en ρ2 ss2 σ2 ∧ finS en W ρ2 (whileM t mb n ss2 h2) D, ⟨many, ρ, ss, h, rel, rs, f⟩, ?_⟩
    rintro n σ2 H2 ⟨ρ2, ss2, h2, rel2, rs2, f2⟩
    cases n with
    | zero => exact f2.elim
    | succ n =>
      unfold whileM at f2
      refine tS.bind (D := D) (R1 := RB) (k := fun ss b h1 => if b = true then (match mb ss h1 with
        | .nx ss2 h2 => whileM t mb n ss2 h2
        | .ct ss2 h2 => whileM t mb n ss2 h2
        | .bk ss2 h2 => .nx ss2 h2
        | r => r) else .nx ss h1) ⟨ρ2, ss2, h2, rel2, rs2, f2⟩ fun ρ3 ss3 h3 a b H3 rel3 rs3 r f3 => ?_
      cases r
      cases a with
      | false => exact f3 ρ3 σ2 H3 (Pre.refl ρ3) rel3 rs3
      | true =>
        rw [if_pos rfl] at f3
        refine ⟨fun σ' H' => ∃ ρ4 ss4 h4, Rel en ρ4 h4 H' ∧ RSl en ρ4 ss4 σ' ∧ finS en W ρ4 (whileM t mb n ss4 h4) D, fun σ' H' z => ⟨n, Nat.lt_succ_self n, z⟩, ρ3, ss3, h3, rel3, rs3, ?_⟩
        cases e4 : mb ss3 h3 with
        | stuck => simp only [e4] at f3; exact f3
        | nx ss5 h5 => simp only [e4] at f3; exact fun ρ5 σ5 H5 p5 rel5 rs5 => ⟨ρ5, ss5, h5, rel5, rs5, f3.mono p5⟩
        | ct ss5 h5 => simp only [e4] at f3; exact fun ρ5 σ5 H5 p5 rel5 rs5 => ⟨ρ5, ss5, h5, rel5, rs5, f3.mono p5⟩
        | bk ss5 h5 => simp only [e4] at f3; exact fun ρ5 σ5 H5 p5 rel5 rs5 => f3 ρ5 σ5 H5 p5 rel5 rs5
        | rt v h5 => simp only [e4] at f3; exact f3
        | ex c xs ss5 h5 => simp only [e4] at f3; exact f3
end
end Fw
namespace Fw
open PySem PySem.Spec L2
/-- what a run of a def's meaning is to bring -/
def finF (en : En) (ρ : List Addr) (r : Res SV) (Q : VK) (E : XK) : Prop := match r with
  | .stuck => False
  | .ok v h => ∀ ρ' H u, Pre ρ ρ' → Rel en ρ' h H → RS en ρ' v u → Q u H
  | .ex c xs h => ∀ ρ' H cls d, Pre ρ ρ' → Rel en ρ' h H → RX en ρ' H c xs cls d → E cls d H
def spM (en : En) (n : Nat) (m : FM) : Sp := fun vs H Q E => vs.length = n ∧ ∃ ρ svs h, Rel en ρ h H ∧ RSs en ρ svs vs ∧ finF en ρ (m svs h) Q E
/-- a def keeps a promise wherever no text is being shown and sys.modules stands -/
structure FnG (P : Program) (w : World) (K : PySem.W.Frag) (mg : Str → Option Value) (base : Heap) (k : Nat) (f : Addr) (fd : FuncData) (ps : List Str) (sp : Sp) : Prop where
  len : ∀ vs H Q E, sp vs H Q E → vs.length = ps.length
  run : ∀ (A : Around) (outer : List Env) (s : Shared) (H : Hp) (args : Args) (us : List Value) (vs : List V) (Q : VK) (E : XK), Room k A → A.guards = some [] → Env0 P w K mg base A outer s H → BindsTo s fd args (ps.zip us) → Vals vs us → sp vs H Q E →
    codeAny (model P w) A (.call (.ref f) args) (CR (L2.CX P w) outer P w H s Q E) s
theorem FnG.mono {P : Program} {w : World} {K : PySem.W.Frag} {mg : Str → Option Value} {base : Heap} {j k : Nat} {f : Addr} {fd : FuncData} {ps : List Str} {sp : Sp} (F : FnG P w K mg base j f fd ps sp) (h : j ≤ k) : FnG P w K mg base k f fd ps sp :=
  ⟨F.len, fun A outer s H args us vs Q E hr => F.run A outer s H args us vs Q E (hr.mono h)⟩
/-- a def's body, at its entry -/
structure Good (en : En) (X : Cx) (W : WX) (k : Nat) : Prop where
  tk : Takes X W
  pass : PassesOwn (model X.prog X.w) X.A X.env X.xe
  room : Room k X.A
  gd : X.A.guards = some []
  sm : ∃ o, X.base.get? sysModules = some o
  calm : X.calm = true
  K : X.K = en.K
theorem Good.u64 {en : En} {X : Cx} {W : WX} {k : Nat} (G : Good en X W k) : X.A.units + 64 < cLine := G.room.units
theorem Good.u1 {en : En} {X : Cx} {W : WX} {k : Nat} (G : Good en X W k) : X.A.units + 1 < cLine := by have := G.room.un; omega
theorem Good.u66 {en : En} {X : Cx} {W : WX} {k : Nat} (G : Good en X W k) : X.A.units + 66 < cLine := by have := G.room.un; omega
def endF (r : SR) : Res SV := match r with
  | .stuck => .stuck
  | .nx _ h => .ok .non h
  | .rt v h => .ok v h
  | .bk _ _ => .stuck
  | .ct _ _ => .stuck
  | .ex c xs _ h => .ex c xs h
/-- what is wanted behind a body -/
theorem finS.body {en : En} {ρ : List Addr} {m : SM} {ss : SS} {h : SH} {Q : VK} {E : XK} (f : finF en ρ (endF (m ss h)) Q E) :
    finS en (fun cls d _ H => E cls d H) ρ (m ss h) { nx := fun _ H' => Q .non H', rt := Q } := by
  cases e : m ss h with
  | stuck => rw [e] at f; exact f
  | nx ss' h' => rw [e] at f; exact fun ρ' σ H p rel rs => f ρ' H .non p rel rfl
  | rt v h' => rw [e] at f; exact f
  | bk ss' h' => rw [e] at f; exact f.elim
  | ct ss' h' => rw [e] at f; exact f.elim
  | ex c xs ss' h' => rw [e] at f; exact fun ρ' σ H cls d p rel rs rx => f ρ' H cls d p rel rx
/-- a def's meaning by its body's: n slots, the first for the arguments -/
def mFn (np n : Nat) (m : SM) : FM := fun vs h => if vs.length = np then endF (m (vs.map some ++ List.replicate (n - vs.length) none) h) else .stuck
theorem mFn_fin {en : En} {ρ : List Addr} {np n : Nat} {m : SM} {svs : List SV} {vs : List V} {h : SH} {Q : VK} {E : XK} (hl : vs.length = np) (r : RSs en ρ svs vs) (f : finF en ρ (mFn np n m svs h) Q E) : finF en ρ (endF (m (svs.map some ++ List.replicate (n - svs.length) none) h)) Q E := by
  unfold mFn at f
  rw [if_pos (by rw [r.len]; exact hl)] at f
  exact f
theorem mFn_len {np n : Nat} {m : SM} {vs : List SV} {h : SH} (e : mFn np n m vs h ≠ .stuck) : vs.length = np := by
  unfold mFn at e
  split at e
  · assumption
  · exact absurd rfl e
theorem start_rel {en : En} {ρ : List Addr} {svs : List SV} {vs : List V} {N : List Str} (r : RSs en ρ svs vs) : RSl en ρ (svs.map some ++ List.replicate (N.length - svs.length) none) (L2.start N vs) := by
  unfold L2.start
  rw [r.len]
  refine ⟨by simp [r.len], fun i v e => ?_⟩
  by_cases hi : i < svs.length
  · rw [List.getElem?_append_left (by simpa using hi), List.getElem?_map] at e
    cases q : svs[i]? with
    | none => rw [q] at e; cases e
    | some x =>
      rw [q] at e; cases e
      obtain ⟨u, eu, ru⟩ := r.get q
      exact ⟨u, by rw [List.getElem?_append_left (by rw [List.length_map, ← r.len]; exact hi), List.getElem?_map, eu]; rfl, ru⟩
  · rw [List.getElem?_append_right (by simpa using hi), List.getElem?_replicate] at e
    split at e <;> cases e
section
variable {P : Program} {w : World} {K : PySem.W.Frag} {mg : Str → Option Value} {base : Heap} {en : En}
/-- THE RULE for a def -/
theorem fnG_of {k : Nat} {f : Addr} {name qual : Str} {params : Arguments} {body : List Stmt} {scope : Scope} {dV kV doc pm cdv ct oc : Value} {an od : Option Addr} {osl : Array (Option Value)} {N ps : List Str} {m : SM}
    (lk : K.lookup f = some ⟨oc, od, .func (PySem.W.fnOf name qual params body scope dV kV doc pm an cdv ct), osl⟩) (hcd : PySem.W.codeIn K cdv qual = true) (S : FnScope N ps scope) (hK : K = en.K) (hsm : ∃ o, base.get? sysModules = some o)
    (hb : ∀ (A : Around) (outer : List Env) (s : Shared) (H : Hp) (E : XK), Good en (cxOf (L2.CX P w) P w K mg base N qual scope f cdv A outer s H E) (fun cls d _ H => E cls d H) k → PSs (cxOf (L2.CX P w) P w K mg base N qual scope f cdv A outer s H E) body (tS en (fun cls d _ H => E cls d H) m)) :
    FnG P w K mg base (k + 1) f (PySem.W.fnOf name qual params body scope dV kV doc pm an cdv ct) ps (spM en ps.length (mFn ps.length N.length m)) := by
  refine ⟨fun vs H Q E h => h.1, fun A outer s H args us vs Q E hr hgd e0 hbd r hsp => ?_⟩
  obtain ⟨hl, ρ, svs, h, rel, rvs, fq⟩ := hsp
  have inK : K.In s.heap := e0.mod.kin.keeps fun b o e => (e0.bs b o e).1
  have noL : s.heap.NoLimit := e0.mod.nolimit.keeps fun b o e => (e0.bs b o e).1
  have kinds : ∀ y ∈ ps.zip us, scope.names.lookup y.1 = some .local ∨ (scope.names.lookup y.1 = some .cell ∧ ((cellsFrom (s.heap.objs.size + 1) scope.names []).lookup y.1).isSome = true) := by
    intro y hy
    rcases S.par y.1 (List.of_mem_zip (show (y.1, y.2) ∈ ps.zip us from hy)).1 with q | q
    · exact .inl q
    · exact .inr ⟨q, PySem.W.cellsFrom_some _ _ _ (.inl q)⟩
  refine codeAny_call_function hr.depth (inK _ _ lk) rfl S.co S.gen rfl (PySem.W.codeRec_of inK hcd) (hbd _ _ _ _ ?_)
  refine wpAny_newFunctionEnv_cells S.kind kinds fun env he s1 x => ?_
  subst he
  refine ⟨noL.keeps x.toInCall.keep, codeAny_func ?_⟩
  obtain ⟨X, hX⟩ : ∃ X, X = cxOf (L2.CX P w) P w K mg base N qual scope f cdv A outer s H E := ⟨_, rfl⟩
  have body : PSs X body (tS en (fun cls d _ H => E cls d H) m) := by
    subst hX
    exact hb A outer s H E ⟨takes_of rfl rfl rfl rfl, passes_of (K := fun e s'' => L2.CX P w outer H s E e s'') rfl, hr.deeper _, hgd, hsm, rfl, hK⟩
  have I : Inv X [] (L2.start N vs) H s1 := by
    subst hX
    exact inv_start S hr.hd e0 hl r x
  have t : tS en (fun cls d _ H => E cls d H) m { nx := fun _ H' => Q .non H', rt := Q } (L2.start N vs) H := ⟨ρ, _, h, rel, start_rel rvs, finS.body (mFn_fin hl rvs fq)⟩
  have run := body.run [] s1 (L2.start N vs) H _ I t
  subst hX
  refine wpAny_mono run (fun fl s' hs => ?_) fun e s' hs => hs
  cases fl with
  | ret u =>
    obtain ⟨v, σ', H', J, rv, q⟩ := hs
    exact ⟨v, H', J.os, J.bare, J.base, J.hok, rv, q⟩
  | next =>
    obtain ⟨σ', H', J, q⟩ := hs
    exact ⟨.non, H', J.os, J.bare, J.base, J.hok, rfl, q⟩
  | brk =>
    obtain ⟨_, _, _, q⟩ := hs
    exact False.elim q
  | cont =>
    obtain ⟨_, _, _, q⟩ := hs
    exact False.elim q
end
/-! ### calls -/
def mCall (f : FM) (ma : AM) : EM := fun ss h => (ma ss h).bind fun vs h1 => f vs h1
theorem finF.call {en : En} {W : WX} {σ : L2.St} {ρ : List Addr} {r : Res SV} {Q : VK} (f : fin en W (RS en) σ ρ r Q) : finF en ρ r Q (fun cls d H => W cls d σ H) := by
  cases r with
  | stuck => exact f
  | ok v h => exact f
  | ex c xs h => exact f
section
variable {X : Cx} {en : En} {W : WX} {k j : Nat} {f : Addr} {fd : FuncData} {ps : List Str} {sp : Sp} {x mn : Str} {p pos apos : Pos} {e o : Expr} {es : List Expr} {ma : AM} {mo : EM} {m : FM}
theorem run_fnG {pins : List (Addr × Obj)} {σ : L2.St} {H : Hp} {s : Shared} {Q : VK} {us : List Value} {vs : List V} (F : FnG X.prog X.w X.K X.mg X.base k f fd ps sp) (hr : Room k X.A) (hg : X.A.guards = some []) (hb : Binds X.K fd ps []) (tk : Takes X W)
    (I : Inv X pins σ H s) (r : Vals vs us) (h : sp vs H Q (fun cls d H => W cls d σ H)) : wpAny (model X.prog X.w) X.A (call (.ref f) us) (EP X pins σ Q) X.xe s := by
  have hl : us.length = ps.length := by rw [← r.length]; exact F.len _ _ _ _ h
  have b := hb s us I.kIn (by rw [List.append_nil]; exact hl)
  rw [List.append_nil] at b
  refine wpAny_call (codeAny_mono (F.run X.A X.stack s H ⟨us, []⟩ us vs Q _ hr hg I.env0 b r h) fun rr s' hq => ?_)
  match rr, hq with
  | .error e, hq => exact tk e s' (XE.of_call I (fun _ _ _ z => z) hq)
  | .ok (.ret u), hq => exact I.after hq
  | .ok .next, hq => exact False.elim hq
  | .ok .brk, hq => exact False.elim hq
  | .ok .cont, hq => exact False.elim hq
/-- a def that is called by its name -/
structure DefAt (P : Program) (w : World) (K : PySem.W.Frag) (mg : Str → Option Value) (base : Heap) (en : En) (k : Nat) (x : Str) (n : Nat) (m : FM) : Prop where
  ex : ∃ f fd ps, mg x = some (.ref f) ∧ PySem.W.keepIn K (.ref f) = true ∧ FnG P w K mg base k f fd ps (spM en n m) ∧ Binds K fd ps []
  len : ∀ vs h, m vs h ≠ .stuck → vs.length = n
theorem PE.call (D : DefAt X.prog X.w X.K X.mg X.base en j x n m) (G : Good en X W k) (hj : j ≤ k) (hg : Gl X x) (ha : PA X (e :: es) (tA en W ma))
    (hdb : (x == ("__debug__" : Str)) = false := by decide) (he : starEach (e :: es) X.env = (false, eval e X.env) :: starEach es X.env := by rfl) (hpl : (backTo pos (starEach es X.env)).any (·.1) = false := by rfl) : PE X (.Call (.Name x p) (e :: es) [] pos) (tE en W (mCall m ma)) := by
  obtain ⟨f, fd, ps, hm, hk, F, hb⟩ := D.ex
  refine ⟨fun pins s σ H Q I t => ?_⟩
  refine wpAny_Call_Name_kw (ld_glob I hg hm ?_ hdb)
  have t2 : tA en W ma σ H fun vs H1 => spM en n m vs H1 Q (fun cls d H => W cls d σ H) := by
    obtain ⟨ρ, ss, h, rel, rs, q⟩ := t
    refine ⟨ρ, ss, h, rel, rs, ?_⟩
    unfold mCall at q
    cases e1 : ma ss h with
    | stuck => simp only [e1, Res.bind, fin] at q
    | ex c xs h1 => simp only [e1, Res.bind, fin] at q; exact q
    | ok vs h1 =>
      simp only [e1, Res.bind] at q
      exact fun ρ1 H1 b p1 rel1 rb => ⟨by rw [← rb.len]; exact D.len vs h1 (fun z => by rw [z] at q; exact q), ρ1, vs, h1, rel1, rb, finF.call (q.mono p1)⟩
  refine PySem.W.callWith_K (h₀ := X.base) I.ok.mod.kin hk (thn (ha.run pos pins s σ H _ I t2) fun us s1 ⟨vs, H1, I1, r, q⟩ => ⟨I1.kIn, ?_⟩) he hpl
  exact run_fnG F (G.room.mono hj) G.gd hb G.tk I1 r q
theorem PE.call0 (D : DefAt X.prog X.w X.K X.mg X.base en j x 0 m) (G : Good en X W k) (hj : j ≤ k) (hg : Gl X x) (hdb : (x == ("__debug__" : Str)) = false := by decide) : PE X (.Call (.Name x p) [] [] pos) (tE en W (mCall m aNil)) := by
  obtain ⟨f, fd, ps, hm, hk, F, hb⟩ := D.ex
  refine ⟨fun pins s σ H Q I t => ?_⟩
  refine wpAny_Call_Name_kw (ld_glob I hg hm ?_ hdb)
  obtain ⟨ρ, ss, h, rel, rs, q⟩ := t
  exact PySem.W.callWith_K0 I.kIn hk (run_fnG (us := []) F (G.room.mono hj) G.gd hb G.tk I .nil ⟨rfl, ρ, [], h, rel, .nil, finF.call q⟩)
/-! ### o.m(..) -/
/-- a method of the classes with the numbers that cs names -/
structure MethAt (P : Program) (w : World) (K : PySem.W.Frag) (mg : Str → Option Value) (base : Heap) (en : En) (k : Nat) (c : Nat) (mn : Str) (n : Nat) (m : FM) : Prop where
  ex : ∃ f fd ps C ns, ClsF en c C ns ∧ mn ∉ ns ∧ Meth K C mn f ∧ FnG P w K mg base k f fd ps (spM en n m) ∧ Binds K fd ps []
  len : ∀ vs h, m vs h ≠ .stuck → vs.length = n
def insOf (h : SH) (v : SV) : Option Nat := match v with
  | .ref i => match h[i]? with
    | some (.ins c _) => some c
    | _ => none
  | _ => none
def mMeth (c : Nat) (f : FM) (mo : EM) (ma : AM) : EM := fun ss h => (mo ss h).bind fun o h1 => if insOf h1 o = some c then (ma ss h1).bind fun vs h2 => f (o :: vs) h2 else .stuck
theorem insOf_rel {ρ : List Addr} {h : SH} {H : Hp} {o : SV} {v : V} {c : Nat} (rel : Rel en ρ h H) (ro : RS en ρ o v) (e : insOf h o = some c) : ∃ a C ns dx vs, v = .ref a ∧ en.cl[c]? = some (C, ns) ∧ H a = some (.ins C dx (ns.zip vs)) := by
  unfold insOf at e
  split at e
  · split at e
    · rename_i ei
      cases e
      obtain ⟨p, ep, rfl⟩ := ro
      obtain ⟨C, ns, dx, vs, e1, e2, l, r⟩ := rel.at2 ep ei
      exact ⟨p, C, ns, dx, vs, rfl, e1, e2⟩
    · cases e
  · cases e
theorem zip_none {f : Str} : ∀ {ns : List Str} {vs : List V}, f ∉ ns → (ns.zip vs).lookup f = none
  | [], _, _ => rfl
  | _ :: _, [], _ => rfl
  | n :: ns, v :: vs, h => by
    have hb : (f == n) = false := by simpa using fun e : f = n => h (by rw [e]; exact List.mem_cons_self)
    rw [List.zip_cons_cons, List.lookup_cons, hb]
    exact zip_none fun m => h (List.mem_cons_of_mem _ m)
theorem PE.meth {c : Nat} {pl : Sem Bool} (D : MethAt X.prog X.w X.K X.mg X.base en j c mn n m) (G : Good en X W k) (hj : j ≤ k) (ho : PE X o (tE en W mo)) (ha : PA X (e :: es) (tA en W ma))
    (hst : starEach (e :: es) X.env = (false, eval e X.env) :: starEach es X.env := by rfl) (hpl : (backTo pos (starEach es X.env)).any (·.1) = false := by rfl)
    (ht : eval (.Call (.Attribute o mn apos) (e :: es) [] pos) X.env = (do
      let ov ← eval o X.env
      standAt apos.atName
      let (f, first) ← holding [ov] (getMethod ov mn pl)
      callWith pos f first (backTo pos (starEach (e :: es) X.env)) (backToKw pos (keywordEach [] X.env))) := by rfl) :
    PE X (.Call (.Attribute o mn apos) (e :: es) [] pos) (tE en W (mMeth c m mo ma)) := by
  obtain ⟨f, fd, ps, C, ns, cf, hnn, hm, F, hb⟩ := D.ex
  refine ⟨fun pins s σ H Q I t => ?_⟩
  have t1 : tE en W mo σ H fun x H1 => ∃ a dx fs, x = .ref a ∧ H1 a = some (.ins C dx fs) ∧ fs.lookup mn = none ∧ tA en W ma σ H1 fun vs H2 => spM en n m (x :: vs) H2 Q (fun cls d H => W cls d σ H) := by
    obtain ⟨ρ, ss, h, rel, rs, q⟩ := t
    refine ⟨ρ, ss, h, rel, rs, ?_⟩
    unfold mMeth at q
    cases e1 : mo ss h with
    | stuck => simp only [e1, Res.bind, fin] at q
    | ex c xs h1 => simp only [e1, Res.bind, fin] at q; exact q
    | ok ov h1 =>
      simp only [e1, Res.bind] at q
      intro ρ1 H1 b p1 rel1 rb
      split at q
      · rename_i hc
        obtain ⟨a, C', ns', dx, vs0, rfl, ec, eh⟩ := insOf_rel rel1 rb hc
        rw [cf.at_] at ec; cases ec
        refine ⟨a, dx, _, rfl, eh, zip_none hnn, ρ1, ss, h1, rel1, rs.mono p1, ?_⟩
        cases e2 : ma ss h1 with
        | stuck => simp only [e2, fin] at q
        | ex c xs h1 => simp only [e2, fin] at q ⊢; exact fun ρ' H' cls d p => q ρ' H' cls d (p1.trans p)
        | ok vs h2 =>
          simp only [e2] at q
          exact fun ρ2 H2 bs p2 rel2 rbs => ⟨by rw [List.length_cons, ← rbs.len]; exact D.len (ov :: vs) h2 (fun z => by rw [z] at q; exact q), ρ2, ov :: vs, h2, rel2, .cons (rb.mono p2) rbs, finF.call (q.mono (p1.trans p2))⟩
      · exact q.elim
  refine PySem.W.methodCall_KW (pl := pl) (thn (ho.run pins s σ H _ I t1) fun u s1 ⟨x, H1, I1, rx, a, dx, fs, ex, ea, l, q⟩ => ?_) ht
  subst ex
  obtain rfl : u = Value.ref a := rx
  refine getmeth_ok I1 ea (by rw [G.K]; exact cf.cls) hm l ?_
  refine PySem.W.callWith_K (first := [.ref a]) (h₀ := X.base) I.ok.mod.kin hm.kp (thn (ha.run pos pins s1 σ H1 _ I1 q) fun us s2 ⟨vs, H2, I2, r, q2⟩ => ⟨I2.kIn, ?_⟩) hst hpl
  exact run_fnG (us := .ref a :: us) (vs := .ref a :: vs) F (G.room.mono hj) G.gd hb G.tk I2 (.cons rfl r) q2
theorem PE.meth0 {c : Nat} {pl : Sem Bool} (D : MethAt X.prog X.w X.K X.mg X.base en j c mn 1 m) (G : Good en X W k) (hj : j ≤ k) (ho : PE X o (tE en W mo))
    (ht : eval (.Call (.Attribute o mn apos) [] [] pos) X.env = (do
      let ov ← eval o X.env
      standAt apos.atName
      let (f, first) ← holding [ov] (getMethod ov mn pl)
      callWith pos f first (backTo pos (starEach [] X.env)) (backToKw pos (keywordEach [] X.env))) := by rfl) :
    PE X (.Call (.Attribute o mn apos) [] [] pos) (tE en W (mMeth c m mo aNil)) := by
  obtain ⟨f, fd, ps, C, ns, cf, hnn, hm, F, hb⟩ := D.ex
  refine ⟨fun pins s σ H Q I t => ?_⟩
  have t1 : tE en W mo σ H fun x H1 => ∃ a dx fs, x = .ref a ∧ H1 a = some (.ins C dx fs) ∧ fs.lookup mn = none ∧ spM en 1 m [x] H1 Q (fun cls d H => W cls d σ H) := by
    obtain ⟨ρ, ss, h, rel, rs, q⟩ := t
    refine ⟨ρ, ss, h, rel, rs, ?_⟩
    unfold mMeth at q
    cases e1 : mo ss h with
    | stuck => simp only [e1, Res.bind, fin] at q
    | ex c xs h1 => simp only [e1, Res.bind, fin] at q; exact q
    | ok ov h1 =>
      simp only [e1, Res.bind] at q
      intro ρ1 H1 b p1 rel1 rb
      split at q
      · rename_i hc
        obtain ⟨a, C', ns', dx, vs0, rfl, ec, eh⟩ := insOf_rel rel1 rb hc
        rw [cf.at_] at ec; cases ec
        exact ⟨a, dx, _, rfl, eh, zip_none hnn, rfl, ρ1, [ov], h1, rel1, .cons rb .nil, finF.call (q.mono p1)⟩
      · exact q.elim
  refine PySem.W.methodCall_KW (pl := pl) (thn (ho.run pins s σ H _ I t1) fun u s1 ⟨x, H1, I1, rx, a, dx, fs, ex, ea, l, q⟩ => ?_) ht
  subst ex
  obtain rfl : u = Value.ref a := rx
  refine getmeth_ok I1 ea (by rw [G.K]; exact cf.cls) hm l ?_
  exact PySem.W.callWith_K0 (first := [.ref a]) I1.kIn hm.kp (run_fnG (us := [.ref a]) (vs := [.ref a]) F (G.room.mono hj) G.gd hb G.tk I1 (.cons rfl .nil) q)
/-! ### C(..) -/
structure MakeAt (P : Program) (w : World) (K : PySem.W.Frag) (mg : Str → Option Value) (base : Heap) (en : En) (k : Nat) (x : Str) (c : Nat) (n : Nat) (m : FM) : Prop where
  ex : ∃ f fd ps C ns, ClsF en c C ns ∧ mg x = some (.ref C) ∧ Mk K C f ∧ FnG P w K mg base k f fd ps (spM en n m) ∧ Binds K fd ps []
  len : ∀ vs h, m vs h ≠ .stuck → vs.length = n
def mMake (c : Nat) (f : FM) (ma : AM) : EM := fun ss h => (ma ss h).bind fun vs h1 => (f (.ref h1.length :: vs) (h1 ++ [.ins c []])).bind fun v h2 => match v with
  | .non => .ok (.ref h1.length) h2
  | _ => .stuck
theorem guards_make {A : Around} {C : Addr} {us : List Value} {kw : List (Str × Value)} (h : A.guards = some []) : (A.under (.builtin "type.__call__" ⟨.ref C :: us, kw⟩)).guards = some [] := by
  first | exact h | simp [Around.under, Code.guards, Code.isGuard, guardIds, pushGuards, h]
theorem run_makeG {pins : List (Addr × Obj)} {σ : L2.St} {H : Hp} {s : Shared} {Q : VK} {us : List Value} {vs : List V} {C : Addr} (M : Mk X.K C f) (F : FnG X.prog X.w X.K X.mg X.base j f fd ps sp) (hr : Room (j + 1) X.A) (hg : X.A.guards = some []) (hb : Binds X.K fd ps []) (tk : Takes X W) (I : Inv X pins σ H s) (r : Vals vs us)
    (h : ∀ x dx, H x = none → H dx = none → dx ≠ x → sp (.ref x :: vs) (upd (upd H dx (.own x)) x (.ins C dx [])) (fun v H2 => v = .non ∧ Q (.ref x) H2) (fun cls d H => W cls d σ H)) :
    wpAny (model X.prog X.w) X.A (call (.ref C) us) (EP X pins σ Q) X.xe s := by
  obtain ⟨n, hn⟩ : ∃ n, n = s.heap.objs.size := ⟨_, rfl⟩
  have q := h (n + 1) n (I.hok.fresh (by omega)) (I.hok.fresh (by omega)) (Nat.ne_of_lt (Nat.lt_succ_self n))
  subst hn
  have I2 := Inv.made (C := C) I
  have r2 : Vals (V.ref (s.heap.objs.size + 1) :: vs) (Value.ref (s.heap.objs.size + 1) :: us) := .cons rfl r
  have hl : (Value.ref (s.heap.objs.size + 1) :: us).length = ps.length := by rw [← r2.length]; exact F.len _ _ _ _ q
  have b := hb _ (Value.ref (s.heap.objs.size + 1) :: us) I2.kIn (by rw [List.append_nil]; exact hl)
  rw [List.append_nil] at b
  refine wpAny_call (make_map (f := f) I.kIn M.makes M.init (beq_iff_eq.mp M.fn) (codeAny_mono (F.run _ X.stack _ _ ⟨Value.ref (s.heap.objs.size + 1) :: us, []⟩ _ _ _ _ (hr.make C us []) (guards_make hg) (I2.env0.make C us []) b r2 q) fun rr s' hq => ?_))
  match rr, hq with
  | .error e, hq => exact tk e s' (XE.of_call I2 (fun _ _ _ z => z) hq)
  | .ok (.ret u), hq =>
    obtain ⟨v, H', I3, rv, ev, q3⟩ := I2.after hq
    subst ev
    exact ⟨rv, .ref (s.heap.objs.size + 1), H', I3, rfl, q3⟩
  | .ok .next, hq => exact False.elim hq
  | .ok .brk, hq => exact False.elim hq
  | .ok .cont, hq => exact False.elim hq
/-- the new instance is held -/
theorem made_rel {ρ : List Addr} {h : SH} {H : Hp} {c : Nat} {C : Addr} {ns : List Str} {x dx : Addr} (rel : Rel en ρ h H) (cf : ClsF en c C ns) (nx : H x = none) (nd : H dx = none) (ne : dx ≠ x) : Rel en (ρ ++ [x]) (h ++ [.ins c []]) (upd (upd H dx (.own x)) x (.ins C dx [])) := by
  have rel1 : Rel en ρ h (upd H dx (.own x)) := rel.keep fun a u e => by rw [upd_ne (ne_of_none e nd)]; exact e
  refine rel1.push (by rw [upd_ne (Ne.symm ne)]; exact nx) ⟨C, ns, dx, [], cf.at_, ?_, Nat.zero_le _, .nil⟩
  rw [upd_same]
  cases ns <;> rfl
theorem PE.make {c : Nat} (D : MakeAt X.prog X.w X.K X.mg X.base en j x c n m) (G : Good en X W k) (hj : j + 1 ≤ k) (hg : Gl X x) (ha : PA X (e :: es) (tA en W ma))
    (hdb : (x == ("__debug__" : Str)) = false := by decide) (he : starEach (e :: es) X.env = (false, eval e X.env) :: starEach es X.env := by rfl) (hpl : (backTo pos (starEach es X.env)).any (·.1) = false := by rfl) : PE X (.Call (.Name x p) (e :: es) [] pos) (tE en W (mMake c m ma)) := by
  obtain ⟨f, fd, ps, C, ns, cf, hm, M, F, hb⟩ := D.ex
  refine ⟨fun pins s σ H Q I t => ?_⟩
  refine wpAny_Call_Name_kw (ld_glob I hg hm ?_ hdb)
  have t2 : tA en W ma σ H fun vs H1 => ∀ x dx, H1 x = none → H1 dx = none → dx ≠ x → spM en n m (.ref x :: vs) (upd (upd H1 dx (.own x)) x (.ins C dx [])) (fun v H2 => v = .non ∧ Q (.ref x) H2) (fun cls d H => W cls d σ H) := by
    obtain ⟨ρ, ss, h, rel, rs, q⟩ := t
    refine ⟨ρ, ss, h, rel, rs, ?_⟩
    unfold mMake at q
    cases e1 : ma ss h with
    | stuck => simp only [e1, Res.bind, fin] at q
    | ex c xs h1 => simp only [e1, Res.bind, fin] at q; exact q
    | ok vs h1 =>
      simp only [e1, Res.bind] at q
      intro ρ1 H1 b p1 rel1 rb x dx nx nd ne
      have rel2 := made_rel rel1 cf nx nd ne
      have rx : RS en (ρ1 ++ [x]) (.ref h1.length) (.ref x) := ⟨x, by rw [← rel1.len, List.getElem?_append_right (Nat.le_refl _)]; simp, rfl⟩
      refine ⟨?_, ρ1 ++ [x], .ref h1.length :: vs, h1 ++ [.ins c []], rel2, .cons rx (rb.mono (Pre.one ρ1 x)), ?_⟩
      · rw [List.length_cons, ← rb.len]
        exact D.len (.ref h1.length :: vs) _ fun z => by rw [z] at q; exact q
      · cases e2 : m (.ref h1.length :: vs) (h1 ++ [.ins c []]) with
        | stuck => rw [e2] at q; exact q
        | ex c xs h2 => rw [e2] at q; exact fun ρ' H' cls d p => q ρ' H' cls d ((p1.trans (Pre.one ρ1 x)).trans p)
        | ok v h2 =>
          rw [e2] at q
          intro ρ2 H2 u p2 rel3 ru
          cases v with
          | non => cases ru; exact ⟨rfl, q ρ2 H2 _ ((p1.trans (Pre.one ρ1 x)).trans p2) rel3 (rx.mono p2)⟩
          | _ => exact (q : False).elim
  refine PySem.W.callWith_K (h₀ := X.base) I.ok.mod.kin M.kp (thn (ha.run pos pins s σ H _ I t2) fun us s1 ⟨vs, H1, I1, r, q⟩ => ⟨I1.kIn, ?_⟩) he hpl
  exact run_makeG M F (G.room.mono hj) G.gd hb G.tk I1 r q
end
end Fw
namespace Fw
open PySem PySem.Spec L2
section
variable {X : Cx} {en : En} {W : WX} {pos apos cpos : Pos} {o e : Expr} {es : List Expr} {mo : EM} {ma : AM}
/-! ### methods of lists -/
def isLst (h : SH) (v : SV) : Bool := match v with
  | .ref i => match h[i]? with
    | some (.lst _) => true
    | _ => false
  | _ => false
def mBm (f : SV → OA) (mo : EM) (ma : AM) : EM := fun ss h => (mo ss h).bind fun o h1 => if isLst h1 o = true then (ma ss h1).bind fun vs h2 => lift (f o vs h2) else .stuck
def rBm (en : En) (f : SV → OA) : V → List V → Hp → VK → Prop := fun x xs H Q => ∃ ρ h a as, Rel en ρ h H ∧ RS en ρ a x ∧ RSs en ρ as xs ∧ finO en ρ (f a as h) Q
theorem isLst_ty {ρ : List Addr} {h : SH} {H : Hp} {a : SV} {x : V} {K : PySem.W.Frag} (rel : Rel en ρ h H) (r : RS en ρ a x) (e : isLst h a = true) : tyV K "list" x H := by
  unfold isLst at e
  split at e
  · split at e
    · rename_i ei
      obtain ⟨p, vs, rfl, ep, e1, r1⟩ := rel.lst ei r
      exact .inl ⟨rfl, _, SqL.of e1⟩
    · cases e
  · cases e
theorem tBmM {f : SV → OA} (σ : L2.St) (H : Hp) (Q : VK) (t : tE en W (mBm f mo ma) σ H Q) : tBM X.K "list" (rBm en f) (tE en W mo) (tA en W ma) σ H Q := by
  obtain ⟨ρ, ss, h, rel, rs, q⟩ := t
  refine ⟨ρ, ss, h, rel, rs, ?_⟩
  unfold mBm at q
  cases e1 : mo ss h with
  | stuck => simp only [e1, Res.bind, fin] at q
  | ex c xs h1 => simp only [e1, Res.bind, fin] at q; exact q
  | ok ov h1 =>
    simp only [e1, Res.bind] at q
    intro ρ1 H1 b p1 rel1 rb
    split at q
    · rename_i hc
      refine ⟨isLst_ty rel1 rb hc, ρ1, ss, h1, rel1, rs.mono p1, ?_⟩
      cases e2 : ma ss h1 with
      | stuck => simp only [e2, fin] at q
      | ex c xs h1 => simp only [e2, fin] at q ⊢; exact fun ρ' H' cls d p => q ρ' H' cls d (p1.trans p)
      | ok vs h2 =>
        simp only [e2] at q
        exact fun ρ2 H2 bs p2 rel2 rbs => ⟨ρ2, h2, ov, vs, rel2, rb.mono p2, rbs, (q.mono (p1.trans p2)).lift⟩
    · exact q.elim
theorem tBmM0 {f : SV → OA} (σ : L2.St) (H : Hp) (Q : VK) (t : tE en W (mBm f mo aNil) σ H Q) : tBM0 X.K "list" (rBm en f) (tE en W mo) σ H Q := by
  obtain ⟨ρ, ss, h, rel, rs, q⟩ := t
  refine ⟨ρ, ss, h, rel, rs, ?_⟩
  unfold mBm at q
  cases e1 : mo ss h with
  | stuck => simp only [e1, Res.bind, fin] at q
  | ex c xs h1 => simp only [e1, Res.bind, fin] at q; exact q
  | ok ov h1 =>
    simp only [e1, Res.bind] at q
    intro ρ1 H1 b p1 rel1 rb
    split at q
    · rename_i hc
      exact ⟨isLst_ty rel1 rb hc, ρ1, h1, ov, [], rel1, rb, .nil, ((show fin en W (RS en) σ ρ (lift (f ov [] h1)) Q from q).mono p1).lift⟩
    · exact q.elim
theorem MtRimp {id : String} {r r' : V → List V → Hp → VK → Prop} (h : MtR X id r) (k : ∀ x xs H Q, r' x xs H Q → r x xs H Q) : MtR X id r' := fun pins s σ H x xs v us Q I rx rs q => h pins s σ H x xs v us Q I rx rs (k _ _ _ _ q)
def opAppend (a : SV) : OA := fun as h => match a, as with
  | .ref i, [y] => match h[i]? with
    | some (.lst xs) => if xs.length < big then some (.non, h.set i (.lst (xs ++ [y]))) else none
    | _ => none
  | _, _ => none
theorem mt_appendM : MtR X "list.append" (rBm en opAppend) := by
  refine MtRimp mt_append fun x xs H Q ⟨ρ, h, a, as, rel, ra, ras, v, h', e, k⟩ => ?_
  unfold opAppend at e
  split at e
  · split at e
    · rename_i ei
      split at e
      · obtain ⟨p, vs, rfl, ep, e1, r1⟩ := rel.lst ei ra
        obtain ⟨y, rfl, ry⟩ := RSs.one ras
        exact ⟨p, vs, y, rfl, rfl, e1, by rw [big_eq, ← r1.len]; assumption, finO.put ⟨_, _, e, k⟩ rel ep ⟨_, upd_same, r1.app (.cons ry .nil)⟩ rfl⟩
      · cases e
    · cases e
  · cases e
theorem dropLast_rel {ρ : List Addr} {xs : List SV} {vs : List V} (r : RSs en ρ xs vs) : RSs en ρ xs.dropLast vs.dropLast := by
  rw [List.dropLast_eq_take, List.dropLast_eq_take, r.len]
  exact r.take _
def opPop (a : SV) : OA := fun as h => match a, as with
  | .ref i, [] => match h[i]? with
    | some (.lst xs) => match xs[xs.length - 1]? with
      | some y => some (y, h.set i (.lst xs.dropLast))
      | none => none
    | _ => none
  | .ref i, [.int 0] => match h[i]? with
    | some (.lst (y :: xs)) => some (y, h.set i (.lst xs))
    | _ => none
  | _, _ => none
theorem mt_popM : MtR X "list.pop" (rBm en opPop) := by
  refine MtRimp (MtR.or mt_pop mt_popAt) fun x xs H Q ⟨ρ, h, a, as, rel, ra, ras, v, h', e, k⟩ => ?_
  unfold opPop at e
  split at e
  · split at e
    · rename_i ei
      split at e
      · rename_i ey
        obtain ⟨p, vs, rfl, ep, e1, r1⟩ := rel.lst ei ra
        cases ras
        obtain ⟨w, ew, rw'⟩ := r1.get ey
        rw [r1.len] at ew
        refine .inl ⟨p, vs, w, rfl, rfl, e1, ew, finO.put ⟨_, _, e, k⟩ rel ep ⟨_, upd_same, dropLast_rel r1⟩ rw'⟩
      · cases e
    · cases e
  · split at e
    · rename_i ei
      obtain ⟨p, vs, rfl, ep, e1, r1⟩ := rel.lst ei ra
      obtain ⟨z, rfl, rz⟩ := RSs.one ras
      cases rz
      cases r1 with
      | cons r0 rt =>
        refine .inr ⟨p, _, 0, 0, _, rfl, rfl, e1, by decide, by decide, ?_, rfl, finO.put ⟨_, _, e, k⟩ rel ep ⟨_, upd_same, rt⟩ r0⟩
        rw [seqIndex_of (by decide) (by rw [List.length_cons]; omega)]
        rfl
    · cases e
  · cases e
/-- the first place of y -/
def findS (y : SV) : List SV → Option Nat
  | [] => none
  | x :: xs => if eqS x y = true then some 0 else (findS y xs).map (· + 1)
theorem findS_spec {ρ : List Addr} {y : SV} {u : V} (ry : RS en ρ y u) (fy : flatS y = true) : ∀ {xs : List SV} {vs : List V} {j : Nat}, RSs en ρ xs vs → xs.all flatS = true → findS y xs = some j →
    ∃ z, vs[j]? = some z ∧ eqV z u = true ∧ ∀ (m : Nat) (z' : V), m < j → vs[m]? = some z' → eqV z' u = false
  | [], _, _, _, _, e => by cases e
  | x :: xs, _, j, .cons r t, f, e => by
    rw [List.all_cons, Bool.and_eq_true] at f
    unfold findS at e
    have q := eqS_rel r ry f.1 fy
    by_cases hx : eqS x y = true
    · rw [if_pos hx] at e
      cases e
      exact ⟨_, rfl, by rw [q]; exact hx, fun m z' hm => by omega⟩
    · rw [if_neg hx] at e
      cases ej : findS y xs with
      | none => rw [ej] at e; cases e
      | some i =>
        rw [ej] at e
        cases e
        obtain ⟨z, h1, h2, h3⟩ := findS_spec ry fy t f.2 ej
        refine ⟨z, by simpa using h1, h2, fun m z' hm hz => ?_⟩
        cases m with
        | zero => simp at hz; subst hz; rw [q]; simpa using hx
        | succ m =>
          have hm' : m + 1 < i + 1 := hm
          exact h3 m z' (by omega) (by simpa using hz)
def opIndex (a : SV) : OA := fun as h => match a, as with
  | .ref i, [y] => match h[i]? with
    | some (.lst xs) => if (flatS y && xs.all flatS) = true then match findS y xs with
      | some j => some (.int (j : Nat), h)
      | none => none
      else none
    | _ => none
  | _, _ => none
theorem mt_indexM : MtR X "list.index" (rBm en opIndex) := by
  refine MtRimp mt_index fun x xs H Q ⟨ρ, h, a, as, rel, ra, ras, v, h', e, k⟩ => ?_
  unfold opIndex at e
  split at e
  · split at e
    · rename_i ei
      split at e
      · rename_i hf
        split at e
        · rename_i ej
          obtain ⟨p, vs, rfl, ep, e1, r1⟩ := rel.lst ei ra
          obtain ⟨y, rfl, ry⟩ := RSs.one ras
          have z := Bool.and_eq_true_iff.mp hf
          obtain ⟨w, h1, h2, h3⟩ := findS_spec ry z.1 r1 z.2 ej
          exact ⟨p, vs, y, _, w, rfl, rfl, SqL.of e1, flatS_rel ry z.1, flatS_all r1 z.2, h1, h2, h3, finO.here ⟨_, _, e, k⟩ rel rfl⟩
        · cases e
      · cases e
    · cases e
  · cases e
theorem PE.append (ho : PE X o (tE en W mo)) (ha : PA X [e] (tA en W ma)) (hbase : attributeBase o "append" X.env (eval o X.env) = eval o X.env := by rfl)
    (hfew : ((backTo cpos (starEach [e] X.env)).all (fun x => !x.1) && (backToKw cpos (keywordEach [] X.env)).all (fun x => x.1.isSome) && decide ([e].length + ([] : List Keyword).length + (if ([] : List Keyword).isEmpty then 0 else 1) < 30)) = true := by rfl)
    (hline : (apos.endLine == cpos.line) = true := by rfl) (hs : starEach [e] X.env = (false, eval e X.env) :: starEach [] X.env := by rfl) (hplain : (backTo cpos (starEach [] X.env)).any (·.1) = false := by rfl) :
    PE X (.Call (.Attribute o "append" apos) [e] [] cpos) (tE en W (mBm opAppend mo ma)) :=
  PEimp (pe_bm PySem.F.plainAttrs_list PySem.F.slot_list_append PySem.F.type_list_append mt_appendM ho ha hbase hfew hline hs hplain) fun σ H Q t => tBmM σ H Q t
theorem PE.pop1 (ho : PE X o (tE en W mo)) (ha : PA X [e] (tA en W ma)) (hbase : attributeBase o "pop" X.env (eval o X.env) = eval o X.env := by rfl)
    (hfew : ((backTo cpos (starEach [e] X.env)).all (fun x => !x.1) && (backToKw cpos (keywordEach [] X.env)).all (fun x => x.1.isSome) && decide ([e].length + ([] : List Keyword).length + (if ([] : List Keyword).isEmpty then 0 else 1) < 30)) = true := by rfl)
    (hline : (apos.endLine == cpos.line) = true := by rfl) (hs : starEach [e] X.env = (false, eval e X.env) :: starEach [] X.env := by rfl) (hplain : (backTo cpos (starEach [] X.env)).any (·.1) = false := by rfl) :
    PE X (.Call (.Attribute o "pop" apos) [e] [] cpos) (tE en W (mBm opPop mo ma)) :=
  PEimp (pe_bm PySem.F.plainAttrs_list PySem.F.slot_list_pop PySem.F.type_list_pop mt_popM ho ha hbase hfew hline hs hplain) fun σ H Q t => tBmM σ H Q t
theorem PE.pop0 (ho : PE X o (tE en W mo)) (hbase : attributeBase o "pop" X.env (eval o X.env) = eval o X.env := by rfl) (hline : (apos.endLine == cpos.line) = true := by rfl) :
    PE X (.Call (.Attribute o "pop" apos) [] [] cpos) (tE en W (mBm opPop mo aNil)) :=
  PEimp (pe_bm0 PySem.F.plainAttrs_list PySem.F.slot_list_pop PySem.F.type_list_pop mt_popM ho hbase hline) fun σ H Q t => tBmM0 σ H Q t
theorem PE.index (ho : PE X o (tE en W mo)) (ha : PA X [e] (tA en W ma)) (hbase : attributeBase o "index" X.env (eval o X.env) = eval o X.env := by rfl)
    (hfew : ((backTo cpos (starEach [e] X.env)).all (fun x => !x.1) && (backToKw cpos (keywordEach [] X.env)).all (fun x => x.1.isSome) && decide ([e].length + ([] : List Keyword).length + (if ([] : List Keyword).isEmpty then 0 else 1) < 30)) = true := by rfl)
    (hline : (apos.endLine == cpos.line) = true := by rfl) (hs : starEach [e] X.env = (false, eval e X.env) :: starEach [] X.env := by rfl) (hplain : (backTo cpos (starEach [] X.env)).any (·.1) = false := by rfl) :
    PE X (.Call (.Attribute o "index" apos) [e] [] cpos) (tE en W (mBm opIndex mo ma)) :=
  PEimp (pe_bm PySem.F.plainAttrs_list PySem.F.slot_list_index PySem.F.type_list_index mt_indexM ho ha hbase hfew hline hs hplain) fun σ H Q t => tBmM σ H Q t
/-! ### n.bit_length() -/
def opBits : O1 := fun a h => match a with
  | .int i => some (.int (Builtin.Int.intBits i : Nat), h)
  | _ => none
theorem PE.bits (ho : PE X o (tE en W mo)) (hbase : attributeBase o "bit_length" X.env (eval o X.env) = eval o X.env := by rfl) (hline : (apos.endLine == pos.line) = true := by rfl) : PE X (.Call (.Attribute o "bit_length" apos) [] [] pos) (tE en W (mO1 opBits mo)) :=
  PEimp (pe_bits ho hbase hline) fun σ H Q t => tM.bind2 (R1 := RS en) (R2 := RS en) (k := fun a (ss : SS) h => lift (opBits a h)) t fun ρ ss h a x H1 rel rs ra f => by
    obtain ⟨v, h', e, k⟩ := f.lift
    unfold opBits at e
    split at e
    · cases ra; exact ⟨_, rfl, finO.here ⟨_, _, e, k⟩ rel rfl⟩
    · cases e
/-! ### sum, all of a list -/
def intsOf : List SV → Option (List Int)
  | [] => some []
  | x :: xs => match x with
    | .int i => match intsOf xs with
      | some is => some (i :: is)
      | none => none
    | _ => none
theorem intsOf_rel {ρ : List Addr} : ∀ {xs : List SV} {vs : List V} {is : List Int}, intsOf xs = some is → RSs en ρ xs vs → vs = is.map V.int
  | [], _, _, e, r => by cases r; cases e; rfl
  | x :: xs, _, _, e, r => by
    cases r with
    | cons r t =>
      unfold intsOf at e
      split at e
      · split at e
        · rename_i ei
          cases e
          cases r
          rw [List.map_cons, intsOf_rel ei t]
        · cases e
      · cases e
def opSum : O1 := fun a h => match a with
  | .ref i => match h[i]? with
    | some (.lst xs) => match intsOf xs with
      | some is => some (.int is.sum, h)
      | none => none
    | _ => none
  | _ => none
theorem call_sumM (hc : X.calm = true) : CallR X (.builtin "sum") (rOA en (un1 opSum)) := by
  refine CallRimp (cr_sum hc) fun xs H Q q => ?_
  obtain ⟨ρ, h, a, x, rfl, rel, ra, v, h', e, k⟩ := un1_of q
  unfold opSum at e
  split at e
  · split at e
    · rename_i ei
      split at e
      · rename_i es
        obtain ⟨p, vs, rfl, ep, e1, r1⟩ := rel.lst ei ra
        obtain rfl := intsOf_rel es r1
        exact ⟨p, _, rfl, SqL.of e1, finO.here ⟨_, _, e, k⟩ rel rfl⟩
      · cases e
    · cases e
  · cases e
def boolsOf : List SV → Option (List Bool)
  | [] => some []
  | x :: xs => match x with
    | .bl i => match boolsOf xs with
      | some is => some (i :: is)
      | none => none
    | _ => none
theorem boolsOf_rel {ρ : List Addr} : ∀ {xs : List SV} {vs : List V} {is : List Bool}, boolsOf xs = some is → RSs en ρ xs vs → vs = is.map V.bl
  | [], _, _, e, r => by cases r; cases e; rfl
  | x :: xs, _, _, e, r => by
    cases r with
    | cons r t =>
      unfold boolsOf at e
      split at e
      · split at e
        · rename_i ei
          cases e
          cases r
          rw [List.map_cons, boolsOf_rel ei t]
        · cases e
      · cases e
def opAll : O1 := fun a h => match a with
  | .ref i => match h[i]? with
    | some (.lst xs) => match boolsOf xs with
      | some bs => some (.bl (bs.all id), h)
      | none => none
    | _ => none
  | _ => none
theorem call_allM (hc : X.calm = true) : CallR X (.builtin "all") (rOA en (un1 opAll)) := by
  refine CallRimp (cr_all hc) fun xs H Q q => ?_
  obtain ⟨ρ, h, a, x, rfl, rel, ra, v, h', e, k⟩ := un1_of q
  unfold opAll at e
  split at e
  · split at e
    · rename_i ei
      split at e
      · rename_i es
        obtain ⟨p, vs, rfl, ep, e1, r1⟩ := rel.lst ei ra
        obtain rfl := boolsOf_rel es r1
        exact ⟨p, _, rfl, SqL.of e1, finO.here ⟨_, _, e, k⟩ rel rfl⟩
      · cases e
    · cases e
  · cases e
end
end Fw
namespace Fw
open PySem PySem.Spec L2
def wipeS (ss : SS) : List Nat → SS
  | [] => ss
  | i :: is => (wipeS ss is).set i none
theorem wipe_rel {en : En} {ρ : List Addr} {ss : SS} {σ : L2.St} (r : RSl en ρ ss σ) : ∀ is : List Nat, RSl en ρ (wipeS ss is) (wipe σ is)
  | [] => r
  | i :: is => (wipe_rel r is).clear i
/-- the turns of a list comprehension, D its list's number -/
def lcM (g : GM) (wk : Wk) (t : BM) (e : EM) (is : List Nat) (D : Nat) (ss : SS) : Nat → Nat → SH → Res SV
  | 0, _ => fun _ => .stuck
  | n + 1, i => fun h => match wk h i with
    | none => .stuck
    | some none => .ok (.ref D) h
    | some (some (x, h1)) => match g x (wipeS ss is) h1 with
      | none => .stuck
      | some ss1 => match t ss1 h1 with
        | .ok b h2 => if b = true then (match e ss1 h2 with
          | .ok y h3 => match h3[D]? with
            | some (.lst acc) => if acc.length < big then lcM g wk t e is D ss n (i + 1) (h3.set D (.lst (acc ++ [y]))) else .stuck
            | _ => .stuck
          | _ => .stuck) else lcM g wk t e is D ss n (i + 1) h2
        | _ => .stuck
def mLc (m : IM) (g : GM) (t : BM) (e : EM) (is : List Nat) : EM := fun ss h => match m ss h with
  | .stuck => .stuck
  | .ex c xs h1 => .ex c xs h1
  | .ok wk h1 => lcM g wk t e is h1.length ss many 0 (h1 ++ [.lst []])
def bYes : BM := fun _ h => .ok true h
abbrev W0 : WX := fun _ _ _ _ => False
theorem wipe_get {σ : L2.St} {i : Nat} : ∀ {vs : List Nat}, i ∉ vs → (wipe σ vs)[i]? = σ[i]?
  | [], _ => rfl
  | v :: vs, h => by
    unfold wipe
    have : v ≠ i := fun e => h (by rw [e]; exact List.mem_cons_self)
    rw [List.getElem?_set_ne this]
    exact wipe_get fun m => h (List.mem_cons_of_mem _ m)
theorem wipe_in {σ : L2.St} {i : Nat} (hi : i < σ.length) : ∀ {vs : List Nat}, i ∈ vs → (wipe σ vs)[i]? = some none
  | v :: vs, h => by
    unfold wipe
    by_cases e : v = i
    · subst e
      rw [List.getElem?_set_self (by rw [wipe_length]; exact hi)]
    · rw [List.getElem?_set_ne e]
      rcases List.mem_cons.mp h with z | z
      · exact absurd z.symm e
      · exact wipe_in hi z
theorem wipe_same {σ σ2 : L2.St} {vs : List Nat} (o : SameOut vs (wipe σ vs) σ2) : wipe σ2 vs = wipe σ vs := by
  have hl : σ2.length = σ.length := by rw [o.len, wipe_length]
  apply List.ext_getElem?
  intro i
  by_cases hi : i ∈ vs
  · by_cases hlt : i < σ.length
    · rw [wipe_in (by rw [hl]; exact hlt) hi, wipe_in hlt hi]
    · rw [List.getElem?_eq_none (by rw [wipe_length, hl]; omega), List.getElem?_eq_none (by rw [wipe_length]; omega)]
  · rw [wipe_get hi, o.out i hi]
section
variable {X : Cx} {en : En} {W : WX} {pos : Pos}
theorem Good.blk {k : Nat} (G : Good en X W k) (s : Shared) (H : Hp) (sc : Scope) (ce : Env) (fp : List Addr) : Good en (X.blk s H sc ce fp) W0 k :=
  ⟨takes0, PassesOwn.never, G.room, G.gd, G.sm, G.calm, G.K⟩
theorem PTs.nil : PTs X [] (tT en W bYes) := ⟨fun pins s σ H Q I ⟨ρ, ss, h, rel, rs, f⟩ => pts_nil.run pins s σ H Q I (f ρ H true (Pre.refl ρ) rel rfl)⟩
theorem PTs.one {c : Expr} {t : BM} (h : PT X c (tT en W t)) : PTs X [c] (tT en W t) := pts_one h
/-- the reading of a comprehension from its meaning -/
theorem tLcM {m : IM} {g : GM} {t : BM} {e : EM} {is : List Nat} (σ : L2.St) (H : Hp) (Q : VK) (q : tE en W (mLc m g t e is) σ H Q) : tLc (tI en W m) (tG en is g) (tT en W0 t) (tE en W0 e) is σ H Q := by
  obtain ⟨ρ, ss, h, rel, rs, f⟩ := q
  refine ⟨ρ, ss, h, rel, rs, ?_⟩
  unfold mLc at f
  cases e1 : m ss h with
  | stuck => simp only [e1, fin] at f
  | ex c xs h1 => simp only [e1, fin] at f ⊢; exact f
  | ok wk h1 =>
    simp only [e1] at f ⊢
    intro ρ1 H1 J p1 rel1 ok D nD
    have relD : Rel en (ρ1 ++ [D]) (h1 ++ [.lst []]) (upd H1 D (.lst [])) := rel1.push nD ⟨[], upd_same, .nil⟩
    have eD : (ρ1 ++ [D])[h1.length]? = some D := by rw [← rel1.len, List.getElem?_append_right (Nat.le_refl _)]; simp
    refine ⟨fun i n H2 => ∃ ρ2 h2, Pre (ρ1 ++ [D]) ρ2 ∧ Rel en ρ2 h2 H2 ∧ fin en W (RS en) σ ρ2 (lcM g wk t e is h1.length ss n i h2) Q, ⟨many, ρ1 ++ [D], h1 ++ [.lst []], Pre.refl _, relD, f.mono (p1.trans (Pre.one ρ1 D))⟩, ?_⟩
    rintro i n H2 ⟨ρ2, h2, p2, rel2, f2⟩
    have pr : Pre ρ1 ρ2 := (Pre.one ρ1 D).trans p2
    cases n with
    | zero => exact f2.elim
    | succ n =>
      unfold lcM at f2
      obtain ⟨k1, k2⟩ := ok ρ2 h2 H2 i pr rel2
      cases e2 : wk h2 i with
      | none => simp only [e2, fin] at f2
      | some o =>
        cases o with
        | none =>
          simp only [e2] at f2
          exact .inl ⟨k1 e2, f2 ρ2 H2 _ (Pre.refl ρ2) rel2 ⟨D, p2.get eD, rfl⟩⟩
        | some qq =>
          obtain ⟨x, h3⟩ := qq
          simp only [e2] at f2
          obtain ⟨go, yl⟩ := k2 x h3 e2
          refine .inr ⟨go, fun H' => ∃ ρ4 h4, Pre (ρ1 ++ [D]) ρ4 ∧ Rel en ρ4 h4 H' ∧ fin en W (RS en) σ ρ4 (lcM g wk t e is h1.length ss n (i + 1) h4) Q, fun H' z => ⟨n, Nat.lt_succ_self n, z⟩, fun v H3 yv => ?_⟩
          obtain ⟨ρ3, p3, rel3, rv⟩ := yl v H3 yv
          have rsw : RSl en ρ3 (wipeS ss is) (wipe σ is) := wipe_rel (rs.mono (p1.trans (pr.trans p3))) is
          cases e3 : g x (wipeS ss is) h3 with
          | none => simp only [e3, fin] at f2
          | some ss1 =>
            simp only [e3] at f2
            refine ⟨ρ3, _, h3, x, ss1, rel3, rsw, rv, e3, fun σ2 rs2 so => ⟨wipe_same so, ρ3, ss1, h3, rel3, rs2, ?_⟩⟩
            cases e4 : t ss1 h3 with
            | stuck => simp only [e4, fin] at f2
            | ex c xs h4 => simp only [e4, fin] at f2
            | ok b h4 =>
              simp only [e4] at f2
              intro ρ4 H4 b' p4 rel4 rb
              cases rb
              cases b with
              | false =>
                have f3 : fin en W (RS en) σ ρ2 (lcM g wk t e is h1.length ss n (i + 1) h4) Q := f2
                exact ⟨ρ4, h4, (p2.trans p3).trans p4, rel4, f3.mono (p3.trans p4)⟩
              | true =>
                rw [if_pos rfl] at f2
                refine ⟨ρ4, ss1, h4, rel4, rs2.mono p4, ?_⟩
                cases e5 : e ss1 h4 with
                | stuck => simp only [e5, fin] at f2
                | ex c xs h5 => simp only [e5, fin] at f2
                | ok y h5 =>
                  simp only [e5] at f2
                  intro ρ5 H5 u p5 rel5 ru
                  cases e6 : h5[h1.length]? with
                  | none => simp only [e6, fin] at f2
                  | some o6 =>
                    cases o6 with
                    | lst acc =>
                      simp only [e6] at f2
                      split at f2
                      · rename_i hz
                        have p25 : Pre (ρ1 ++ [D]) ρ5 := ((p2.trans p3).trans p4).trans p5
                        obtain ⟨D', vs, e0, ep, e7, r7⟩ := rel5.lst e6 ⟨D, p25.get eD, rfl⟩
                        cases e0
                        exact ⟨vs, e7, by rw [big_eq, ← r7.len]; exact hz, ρ5, _, p25, rel5.put (o := .lst (acc ++ [y])) (p25.get eD) ⟨_, upd_same, r7.app (.cons ru .nil)⟩, f2.mono ((p3.trans p4).trans p5)⟩
                      · exact f2.elim
                    | _ => simp only [e6, fin] at f2
theorem PE.lc {elt tg iter : Expr} {ifs : List Expr} {scope : Scope} {own : List (Str × Nat)} {m : IM} {g : GM} {t : BM} {e : EM} (hc : X.calm = true) (hN : X.N.Nodup) (hi : PI X tg iter (tI en W m)) (ok : BlkOk X.N X.env.scope scope own)
    (hg : ∀ (s : Shared) (H : Hp) (C : Addr) (cl : List (Str × Addr)) (fp : List Addr), PG (X.blk s H scope (compEnvC scope cl C X.env) fp) tg (tG en (own.map (·.2)) g)) (ht : ∀ (s : Shared) (H : Hp) (C : Addr) (cl : List (Str × Addr)) (fp : List Addr), PTs (X.blk s H scope (compEnvC scope cl C X.env) fp) ifs (tT en W0 t))
    (he : ∀ (s : Shared) (H : Hp) (C : Addr) (cl : List (Str × Addr)) (fp : List Addr), PE (X.blk s H scope (compEnvC scope cl C X.env) fp) elt (tE en W0 e)) (hs : ∀ x, foldedSetIterable iter X.env x = pure x := by intro _; rfl) :
    PE X (.ListComp elt [⟨tg, iter, ifs, 0⟩] scope pos) (tE en W (mLc m g t e (own.map (·.2)))) :=
  PEimp (pe_lc hc hN hi ok hg ht he hs) fun σ H Q q => tLcM σ H Q q
theorem PS.setLc {i : Nat} {y : Str} {py : Pos} {elt tg iter : Expr} {ifs : List Expr} {scope : Scope} {own : List (Str × Nat)} {spos : Pos} {m : IM} {g : GM} {t : BM} {e : EM} (hc : X.calm = true) (hN : X.N.Nodup) (hy : X.N[i]? = some y) (hyl : X.env.scope.names.lookup y = some .local)
    (hsw : swapsWith (.ListComp elt [⟨tg, iter, ifs, 0⟩] scope pos) (some (.Name y py)) spos.line X.env = pure true) (hi : PI X tg iter (tI en W m)) (ok : BlkOk X.N X.env.scope scope own)
    (hg : ∀ (s : Shared) (H : Hp) (C : Addr) (cl : List (Str × Addr)) (fp : List Addr), PG (X.blk s H scope (compEnvC scope cl C X.env) fp) tg (tG en (own.map (·.2)) g)) (ht : ∀ (s : Shared) (H : Hp) (C : Addr) (cl : List (Str × Addr)) (fp : List Addr), PTs (X.blk s H scope (compEnvC scope cl C X.env) fp) ifs (tT en W0 t))
    (he : ∀ (s : Shared) (H : Hp) (C : Addr) (cl : List (Str × Addr)) (fp : List Addr), PE (X.blk s H scope (compEnvC scope cl C X.env) fp) elt (tE en W0 e)) (hs : ∀ x, foldedSetIterable iter X.env x = pure x := by intro _; rfl) :
    PS X (.Assign [.Name y py] (.ListComp elt [⟨tg, iter, ifs, 0⟩] scope pos) spos) (tS en W (mSet i (mLc m g t e (own.map (·.2))))) :=
  PSimp (ps_setLc hc hN hy hyl hsw hi ok hg ht he hs) fun D σ H q => tLcM σ H _ (tS.bind (R1 := RS en) (k := fun ss v h1 => .nx (ss.set i (some v)) h1) q fun ρ ss h a b H1 rel rs r f => f ρ _ H1 (Pre.refl ρ) rel (rs.set r i))
end
end Fw
namespace Er
open PySem PySem.W PySem.Calls PyProof.Rows PySem.HandSPX
/-! an own error: class X(Base): def __init__(self, f=None): super().__init__('..'); self.f = f -/
def eA (f : Str) (p1 p2 p3 : Pos) (k : Nat) : Arguments := { posonlyargs := [], args := [{ arg := "self", annotation := none, pos := p1 }, { arg := f, annotation := none, pos := p2 }], vararg := none, kwonlyargs := [], kw_defaults := [], kwarg := none, defaults := [.Constant .none k p3] }
def eB (f txt : Str) (q1 q2 q3 q4 q5 q6 q7 q8 q9 q10 : Pos) (k : Nat) : List Stmt :=
  [.Expr (.Call (.Attribute (.Call (.Name "super" q1) [] [] q2) "__init__" q3) [.Constant (.str txt) k q4] [] q5) q6, .Assign [.Attribute (.Name "self" q7) f q8] (.Name f q9) q10]
def eS (f : Str) : Scope := { kind := .function, names := [(PySem.Str.ofString "self", .local), (f, .local), (PySem.Str.ofString "__class__", .free), (PySem.Str.ofString "super", .globalImplicit)], isGenerator := false, isCoroutine := false, more := [] }
/-- what the written part says of the error class at C, its __init__ at fI, its cell, its code -/
structure ErrTxt (P : Program) (K : Frag) (f : Str) (C fI : Addr) : Prop where
  cls : ∃ nm q N bs bm sn sub ab col dd k0 k1 k2 k3 k5, K.lookup C = some (excClassObj nm q C N bs bm true sn sub ab col dd k0 k1 k2 k3 k5 "ValueError.__new__") ∧ refsVE bm = true ∧ alongIn K "__init__" bm = some (some (.builtin "ValueError.__init__"))
  sa : findIn K (.ref C) "__setattr__" = some (some (.builtin "object.__setattr__"))
  ga : findIn K (.ref C) "__getattribute__" = some (some (.builtin "BaseException.__getattribute__"))
  gg : findIn K (.ref C) "__getattr__" = some none
  noN : findIn K (.ref C) f = some none
  iC : findIn K (.ref C) "__init__" = some (some (.ref fI))
  tC : typeIn K (.ref fI) = some (.type "function")
  kC : keepIn K (.ref C) = true
  exC : subIn K (.ref C) (.type "BaseException") = some true
  veC : subIn K (.ref C) (.type "ValueError") = some true
  tyC : typeIn K (.ref C) = some (.type "type")
  hdC : hasDictIn K C = true
  mrC : mroIn K C (.ref C) = some true
  opq : nsIn K cStatics "thirdparty.any" = some none
  fn : ∃ (qual txt : Str) (oc ccl cl : Value) (od cdd cld : Option Addr) (kV doc pm : Value) (dv : Value) (an : Option Addr) (cda cc : Addr) (ct : Value) (osl ccs csl : Array (Option Value)) (vs : Array Value) (file : Str) (tf : Tok) (p1 p2 p3 q1 q2 q3 q4 q5 q6 q7 q8 q9 q10 : Pos) (k k' : Nat),
    K.lookup fI = some ⟨oc, od, .func (fnX "__init__" qual (eA f p1 p2 p3 k) (eB f txt q1 q2 q3 q4 q5 q6 q7 q8 q9 q10 k') (eS f) [("__class__", cc)] dv kV doc pm an (.ref cda) ct), osl⟩ ∧ codeIn K (.ref cda) qual = true ∧
    K.lookup cda = some ⟨ccl, cdd, .fields vs, ccs⟩ ∧ vs[2]? = some (.str file tf) ∧ ((P.main.file : Str) == file) = true ∧ K.lookup cc = some ⟨cl, cld, .cell (some (.ref C)), csl⟩ ∧ txt.length ≤ sizeLine ∧ (q3.endLine == q5.line) = true
  b0 : ∀ oc od fd osl, K.lookup fI = some ⟨oc, od, .func fd, osl⟩ → L2.Binds K fd ["self", f] [] ∧ L2.Binds K fd ["self", f] [.none]
  bK : ∀ oc od fd osl, K.lookup fI = some ⟨oc, od, .func fd, osl⟩ → ∀ (s : Shared) (x v : Value), K.In s.heap → BindsTo s fd ⟨[x], [(f, v)]⟩ [("self", x), (f, v)]
  htop : (P.main.scope.names.lookup ("super" : Str)).isSome = false
  fgood : (f == ("self" : Str)) = false ∧ (f == ("__class__" : Str)) = false ∧ (f == ("super" : Str)) = false ∧ (f == ("__debug__" : Str)) = false
/-- what ValueError.__init__ bound to a fresh error does -/
theorem call_mw {prog : Program} {w : World} {A : Around} {E : Value → Shared → Prop} {h : Heap} {g : Array GenState} {d : Drawn} {t : Nat} {os : OsState} {nm q : Str} {C N : Addr} {bs bm : List Value} {hdct : Bool} {sn : List Str} {sub : List Value} {ab : Bool} {col : Option Bool} {dd : Option Addr} {k0 k1 k2 k3 k5 : Option Value}
    {u e t0 : Addr} {rest : List Value} {Q : Value → Shared → Prop}
    (hC : h.get? C = some (excClassObj nm q C N bs bm hdct sn sub ab col dd k0 k1 k2 k3 k5 "ValueError.__new__")) (he : h.get? e = some (excO C t0)) (hu : h.get? u = some (kxs_mw "ValueError.__init__" e)) (hrest : rest.length ≤ sizeLine)
    (hq : ∀ h' t1, (∀ b o, b ≠ e → h.get? b = some o → h'.get? b = some o) → h'.get? e = some (excO C t1) → Q .none ⟨h', g, d, t, os⟩) :
    wpAny (model prog w) A (call (.ref u) rest) Q E ⟨h, g, d, t, os⟩ := by
  refine wpAny_call (codeAny_of_tree ?_)
  show wpAny _ A.in1 (callAny (.ref u) ⟨rest, []⟩) _ _ _
  simp only [callAny]
  refine wpAny_bind (wpAny_load hu ?_)
  have e1 : (Value.type "method-wrapper" == Value.type "method" || Value.type "method-wrapper" == Value.type "builtin_function_or_method" || Value.type "method-wrapper" == Value.type "method-wrapper") = true := by decide
  simp only [kxs_mw, e1, if_true]
  refine KFB.if_so (by decide) ?_
  refine wpAny_bind (check_bound_init PySem.F.excBase_ValueError.toExcCallFacts hC he rfl ?_)
  refine wpAny_bind (wpAny_pure (wpAny_pure ?_))
  refine ⟨Code.quiet_builtin _ (by decide +kernel), codeAny_builtin PySem.F.excBase_ValueError.initEntry ?_⟩
  rw [Around.under_plainId PySem.F.excBase_ValueError.init.plain _]
  wp_walk
  refine hq _ h.objs.size (fun b o hb ho => ?_) ?_
  · rw [Heap.get?_update_other _ _ (Ne.symm hb)]
    exact Heap.get?_push_of_some _ ho
  · rw [Heap.get?_update_self _ (Heap.get?_push_of_some _ he) rfl]
    rfl
/-- a call of an attribute of what is no name: the place it stands at -/
theorem mcall {o : Expr} {name : Str} {q3 q5 : Pos} {a : Expr} {env : Env} (hpos : (q3.endLine == q5.line) = true) (hf : methodCallForm 1 (backTo q5 (starEach [a] env)) [] = true) :
    eval (.Call (.Attribute o name q3) [a] [] q5) env = (do
      let ov ← attributeBase o name env (eval o env)
      standAt q3.atName
      let (f, first) ← holding [ov] (getMethod ov name (do return (← importBound o env).getD true))
      callWith q5 f first (backTo q5 (starEach [a] env)) []) := by
  have e : methodCallPos (methodCallForm 1 (backTo q5 (starEach [a] env)) []) o env q3 q5 = pure q5 := by
    unfold methodCallPos
    rw [hpos, Bool.or_true]; rfl
  have e2 : ∀ ov, calleeOf (methodCallForm 1 (backTo q5 (starEach [a] env)) []) o env ov name = getMethod ov name (do return (← importBound o env).getD true) := by
    intro ov
    unfold calleeOf
    rw [hf]; rfl
  show (do
    let ov ← attributeBase o name env (eval o env)
    standAt q3.atName
    methodCall o name q3 q5 env ov 1 (backTo q5 (starEach [a] env)) []) = _
  unfold methodCall
  rw [e]
  simp only [e2, pure_bind]
/-- what __init__ leaves of a fresh error at x -/
structure InitEnd (h h' : Heap) (x C dx : Addr) (f : Str) (v : Value) : Prop where
  keep : ∀ b o, b ≠ x → h.get? b = some o → h'.get? b = some o
  obj : ∃ t1, h'.get? x = some { cls := .ref C, dict := some dx, data := .fields #[.ref t1, .none, .none, .none, .bool false, .none] }
  dbig : h.objs.size ≤ dx
  dne : dx ≠ x
  ns : h'.Ns1 dx (fun y => if y = f then some v else none)
theorem lookup_eS (f : Str) (g : (f == ("self" : Str)) = false ∧ (f == ("__class__" : Str)) = false ∧ (f == ("super" : Str)) = false ∧ (f == ("__debug__" : Str)) = false) : (eS f).names.lookup f = some .local := by
  show List.lookup f [(PySem.Str.ofString "self", NameKind.local), (f, .local), (PySem.Str.ofString "__class__", .free), (PySem.Str.ofString "super", .globalImplicit)] = _
  rw [List.lookup_cons, show (f == PySem.Str.ofString "self") = false from g.1, List.lookup_cons, show (f == f) = true from by simp]
theorem neS {a b : Str} (h : (a == b) = false) : (b == a) = false := by
  have : a ≠ b := by simpa using h
  simpa using Ne.symm this
theorem lookup_super (f : Str) (g : (f == ("self" : Str)) = false ∧ (f == ("__class__" : Str)) = false ∧ (f == ("super" : Str)) = false ∧ (f == ("__debug__" : Str)) = false) : (eS f).names.lookup ("super" : Str) = some .globalImplicit := by
  show List.lookup (PySem.Str.ofString "super") [(PySem.Str.ofString "self", NameKind.local), (f, .local), (PySem.Str.ofString "__class__", .free), (PySem.Str.ofString "super", .globalImplicit)] = _
  rw [List.lookup_cons, show (PySem.Str.ofString "super" == PySem.Str.ofString "self") = false from by decide, List.lookup_cons, show (PySem.Str.ofString "super" == f) = false from neS g.2.2.1]
  rfl
theorem lookup_class (f : Str) (g : (f == ("self" : Str)) = false ∧ (f == ("__class__" : Str)) = false ∧ (f == ("super" : Str)) = false ∧ (f == ("__debug__" : Str)) = false) : (eS f).names.lookup ("__class__" : Str) = some .free := by
  show List.lookup (PySem.Str.ofString "__class__") [(PySem.Str.ofString "self", NameKind.local), (f, .local), (PySem.Str.ofString "__class__", .free), (PySem.Str.ofString "super", .globalImplicit)] = _
  rw [List.lookup_cons, show (PySem.Str.ofString "__class__" == PySem.Str.ofString "self") = false from by decide, List.lookup_cons, show (PySem.Str.ofString "__class__" == f) = false from neS g.2.1]
  rfl
theorem _root_.PySem.LowY.one_size (v : Value) : [v].length ≤ sizeLine := by
  rw [sizeLine_eq]
  exact (by decide : 1 ≤ 16777216)
section
variable {prog : Program} {w : World} {A : Around} {R : Result → Shared → Prop} {s : Shared} {K : Frag} {C fI : Addr} {f : Str} {mg mb : Str → Option Value}
theorem err_init (T : ErrTxt prog K f C fI) {x t0 : Addr} {v : Value} (X : K.In s.heap) (hG : s.heap.Ns mainGlobals mg) (hB : s.heap.Ns builtinsNs mb) (hs1 : mg "super" = none) (hs2 : mb "super" = some (.type "super")) (hlim : s.heap.NoLimit) (hx : s.heap.get? x = some (excO C t0)) (hnx : K.lookup x = none) (hroom : A.depth < recursionLimit)
    {args : Args} (hbd : ∀ oc od fd osl, K.lookup fI = some ⟨oc, od, .func fd, osl⟩ → BindsTo s fd args [("self", .ref x), (f, v)])
    (hq : ∀ h' tk dx, InitEnd s.heap h' x C dx f v → R (.ok (.ret .none)) { s with heap := h', toks := tk }) :
    codeAny (model prog w) A (.call (.ref fI) args) R s := by
  obtain ⟨qual, txt, oc, ccl, cl, od, cdd, cld, kV, doc, pm, dv, an, cda, cc, ct, osl, ccs, csl, vs, file, tf, p1, p2, p3, q1, q2, q3, q4, q5, q6, q7, q8, q9, q10, k, k', ho, hcd, hcda, hvs, hfile, hcc, htxt, hpos⟩ := T.fn
  obtain ⟨nm, q, N, bs, bm, sn, sub, ab, col, dd, k0, k1, k2, k3, k5, hC, hbm, hal⟩ := T.cls
  have g := T.fgood
  have hcl : clsIn K C = some { name := nm, bases := bs, mro := .ref C :: bm, ns := N, qualname := q, hasDict := true, slotNames := sn, subclasses := sub, abstract := ab, collection := col, hasDel := false } := by unfold clsIn; rw [hC] <;> rfl
  have lf := lookup_eS f g
  refine ks_codeAny_call_defAt (fd := fnX "__init__" qual (eA f p1 p2 p3 k) (eB f txt q1 q2 q3 q4 q5 q6 q7 q8 q9 q10 k') (eS f) [("__class__", cc)] dv kV doc pm an (.ref cda) ct) (binds := [("self", .ref x), (f, v)]) hroom (X _ _ ho) rfl hlim (codeRec_of X hcd) rfl
    (hbd _ _ _ _ ho) (fun y hy => ?_) (fun y hy => ?_) (fun h1 hns hk1 => ?_)
  · have : y ∈ [(PySem.Str.ofString "self", NameKind.local), (f, .local), (PySem.Str.ofString "__class__", .free), (PySem.Str.ofString "super", .globalImplicit)] := hy
    simp at this
    rcases this with rfl | rfl | rfl | rfl <;> simp
  · have : y = (PySem.Str.ofString "self", .ref x) ∨ y = (f, v) := by simpa using hy
    rcases this with rfl | rfl
    · rfl
    · exact lf
  · have X1 : K.In h1 := X.keeps hk1
    have hx1 := hk1 _ _ hx
    have mself : (fun y => ([(("self" : Str), Value.ref x), (f, v)] : List (Str × Value)).reverse.lookup y) ("self" : Str) = some (.ref x) := by
      show List.lookup (PySem.Str.ofString "self") [(f, v), (PySem.Str.ofString "self", .ref x)] = _
      rw [List.lookup_cons, show (PySem.Str.ofString "self" == f) = false from neS g.1]
      rfl
    have mval : (fun y => ([(("self" : Str), Value.ref x), (f, v)] : List (Str × Value)).reverse.lookup y) f = some v := by
      show List.lookup f [(f, v), (PySem.Str.ofString "self", .ref x)] = _
      rw [List.lookup_cons, show (f == f) = true from by simp]
    have I1 : InstAt h1 x (excO C t0) C none := ⟨hx1, rfl, rfl, trivial⟩
    have lk2 := lookup_super f g
    have lk3 := lookup_class f g
    obtain ⟨hp, gn, dr, tk, os⟩ := s
    refine ks_wpAt_execs_cons (ks_wpAt_Expr_any (ks_wpAt_MethodCall ?_ (mcall hpos (by rfl))))
    refine ks_wpAt_super_base (f := fI) (cc := cda) lk2 lk3 rfl rfl (X1 _ _ ho) rfl rfl rfl (X1 _ _ hcda) rfl hvs hfile T.htop ?_
    refine ks_loadName_global rfl lk2 (loadGlobal_builtin (hG.keeps hk1) hs1 (hB.keeps hk1) hs2 ⟨rfl, ?_⟩)
    refine wpAny_loadName_free (c := cc) rfl lk3 rfl ⟨_, X1 _ _ hcc, rfl⟩ ?_
    refine wpAny_loadName_local rfl rfl hns mself ?_
    refine ks_wpAny_isType_cls (X1 _ _ hC) rfl ⟨rfl, ?_⟩
    refine ks_wpAny_call_super (X1 _ _ hC) rfl hx1 rfl (fun c e => by cases e) (looks_mroIn X1 T.mrC) (fun h2 e2 k2 => ?_)
    have X2 : K.In h2 := X1.keeps k2
    have hx2 := k2 _ _ hx1
    have I2 : InstAt h2 x (excO C t0) C none := ⟨hx2, rfl, rfl, trivial⟩
    have hI2 : Looks (model prog w) h2 (isInstance (.ref x) (.type "ValueError")) true := I2.type.andThen (looks_subIn X2 T.veC)
    refine kxs_getMethod kxs_ValueError e2 (looks_opaque X2 T.opq) (l₀ := .ref C :: bm) ?_ (ESX.drop_own C bm) X2 hal hI2 (ks_ne X2 I2 hcl) (by decide) ?_
    · exact fun A Q E s kk qq => wpAny_bind ((looks_clsIn X2 hcl) A _ E s kk (wpAny_pure qq))
    · have hu : (h2.push (kxs_mw "ValueError.__init__" x)).get? h2.objs.size = some (kxs_mw "ValueError.__init__" x) := Heap.get?_push_at rfl rfl
      refine kxs_callWith (i := "ValueError.__init__") (x := x) (by rfl) (evalArgs_plain ?_)
      refine Calls.spliced_cons (Calls.Constant_str (pos := q4) (k := k') (Calls.spliced_nil ?_))
      refine ⟨hu, call_mw (h := h2.push (kxs_mw "ValueError.__init__" x)) (Heap.get?_push_of_some _ (X2 _ _ hC)) (Heap.get?_push_of_some _ hx2) hu (PySem.LowY.one_size _) ?_⟩
      intro h3 t1 k3 hx3
      show PyProof.Rows.wpAt _ _ _ (execs _ _) _ _ _
      have old : ∀ b o, b ≠ x → h1.get? b = some o → h3.get? b = some o := fun b o hb e => k3 b o hb (Heap.get?_push_of_some _ (k2 b o e))
      have X3 : K.In h3 := fun a o e => old a o (fun z => by rw [z, hnx] at e; cases e) (X1 a o e)
      have hxL : hp.objs.size ≠ x := Nat.ne_of_gt (Heap.lt_size hx)
      have hns3 := hns.at (fun o e => old _ o hxL e)
      refine wpAt_of_wpAny (wpAny_execs_cons (plainObj_wpAny_Assign_Attribute ?_ ?_))
      · refine wpAny_Name (wpAny_loadName_local rfl lf hns3 mval ?_) g.2.2.2
        refine wpAny_Name (wpAny_loadName_local rfl rfl hns3 mself ?_) (by decide)
        refine W.set_plain X3 (ox := excO C t1) (od := none) ⟨hx3, rfl, rfl, trivial⟩ T.sa ?_
        refine exc_osa X3 hx3 hcl (show refsVE (.ref C :: bm) = true from hbm) rfl T.noN (fun h₃ tk₃ dx k₃ dn dne hx₃ hn₃ => ?_)
        show wpAny _ _ (execs _ _) _ _ _
        refine wpAny_execs_nil (hq h₃ tk₃ dx ⟨fun b o hb e => k₃ b o hb (old b o hb (hk1 b o e)), ⟨t1, hx₃⟩, Nat.le_of_lt (Nat.lt_of_lt_of_le hns3.lt dn), dne, hn₃⟩)
      · rfl
end
end Er
namespace Er
open PySem PySem.W PySem.Calls PyProof.Rows PySem.HandSPX
/-- a made error at e, its dict d -/
structure MadeE (h h' : Heap) (e C : Addr) (d : Option Addr) (kvs : List (Str × Value)) : Prop where
  keep : ∀ b o, h.get? b = some o → h'.get? b = some o
  new : h.get? e = none
  obj : ∃ oe vs, h'.get? e = some oe ∧ L2.Zc (.ref C) d oe ∧ oe.data = .fields vs ∧ vs[1]? = some .none
  dict : (d = none ∧ kvs = []) ∨ ∃ dx f v, d = some dx ∧ kvs = [(f, v)] ∧ h.objs.size ≤ dx ∧ dx ≠ e ∧ h'.Ns1 dx (fun y => if y = f then some v else none)
/-- what a call of an own error class does -/
def Makes (P : Program) (w : World) (K : Frag) (mg : Str → Option Value) (C : Addr) (fs : List Str) : Prop :=
  ∀ (A : Around) (mb : Str → Option Value) (s : Shared) (us : List Value) (v : Value) (R : Value → Shared → Prop) (E : Value → Shared → Prop), K.In s.heap → s.heap.Ns mainGlobals mg → s.heap.Ns builtinsNs mb → mb "super" = some (.type "super") → s.heap.NoLimit → A.depth + 1 < recursionLimit →
    (us = [v] ∨ (us = [] ∧ v = .none)) → (∀ h' tk e d, MadeE s.heap h' e C d (fs.zip [v]) → R (.ref e) { s with heap := h', toks := tk }) → wpAny (model P w) A (call (.ref C) us) R E s
theorem err_made {P : Program} {w : World} {K : Frag} {mg : Str → Option Value} {C fI : Addr} {f : Str} (T : ErrTxt P K f C fI) (hs1 : mg "super" = none) : Makes P w K mg C [f] := by
  intro A mb s us v R E X hG hB hs2 hlim hroom hus hq
  obtain ⟨nm, q, N, bs, bm, sn, sub, ab, col, dd, k0, k1, k2, k3, k5, hC, hbm, hal⟩ := T.cls
  obtain ⟨hp, g, dr, tk, os⟩ := s
  have hlen : us.length ≤ sizeLine := by
    rcases hus with rfl | ⟨rfl, _⟩
    · exact PySem.LowY.one_size v
    · exact Nat.zero_le _
  have k : ∀ b o, hp.get? b = some o → ((hp.push (kdv_tup us)).push (excO C hp.objs.size)).get? b = some o := fun b o e => Heap.get?_push_of_some _ (Heap.get?_push_of_some _ e)
  have hget : ((hp.push (kdv_tup us)).push (excO C hp.objs.size)).get? (hp.objs.size + 1) = some (excO C hp.objs.size) := by heap_get
  have hnx : K.lookup (hp.objs.size + 1) = none := by
    cases e : K.lookup (hp.objs.size + 1) with
    | none => rfl
    | some o =>
      have z : hp.get? (hp.objs.size + 1) = some o := X _ _ e
      have z2 : hp.objs.size + 1 < hp.objs.size := Heap.lt_size z
      omega
  refine wpAny_call (call_own PySem.F.excBase_ValueError (fun X => refsVE_contains X bm hbm) (X _ _ hC) (looks_findIn X T.iC) (fun self => bind_fn X self T.tC) hlen ?_)
  refine err_init (s := ⟨(hp.push (kdv_tup us)).push (excO C hp.objs.size), g, dr, tk, os⟩) (mg := mg) (mb := mb) (v := v) T (X.keeps k) (hG.keeps k) (hB.keeps k) hs1 hs2 (hlim.keeps k) hget hnx ?_ (fun oc od fd osl e => ?_) fun h' tk' dx ie => ?_
  · show A.depth + 1 < recursionLimit
    exact hroom
  · obtain ⟨b0, b1⟩ := T.b0 oc od fd osl e
    rcases hus with rfl | ⟨rfl, rfl⟩
    · exact b0 _ [.ref (hp.objs.size + 1), v] (X.keeps k) rfl
    · exact b1 _ [.ref (hp.objs.size + 1)] (X.keeps k) rfl
  · have k' := ie.keep
    have old : ∀ b o, hp.get? b = some o → h'.get? b = some o := fun b o e => k' b o (Nat.ne_of_lt (Nat.lt_succ_of_lt (Heap.lt_size e))) (k b o e)
    have dn := ie.dbig
    have z : hp.objs.size + 1 + 1 ≤ dx := by
      first
        | (simpa only [Heap.size_push] using dn)
        | exact dn
        | (have q := dn; rw [Heap.size_push, Heap.size_push] at q; exact q)
    obtain ⟨t1, ho⟩ := ie.obj
    have z3 : hp.objs.size ≤ dx := by omega
    have z4 : hp.get? (hp.objs.size + 1) = none := by
      cases e : hp.get? (hp.objs.size + 1) with
      | none => rfl
      | some o => have z2 : hp.objs.size + 1 < hp.objs.size := Heap.lt_size e; omega
    exact ⟨rfl, hq h' tk' (hp.objs.size + 1) (some dx) ⟨old, z4, ⟨_, _, ho, ⟨rfl, rfl⟩, rfl, rfl⟩, .inr ⟨dx, f, v, rfl, rfl, z3, ie.dne, ie.ns⟩⟩⟩
/-- a class without an own __init__ -/
theorem err_made0 {P : Program} {w : World} {K : Frag} {mg : Str → Option Value} {C : Addr} {bmB : List Value} {B newId initId : String} (F : ExcBaseFacts B newId initId bmB) (q : PySem.W.excIn K C bmB newId = true) : Makes P w K mg C [] := by
  intro A mb s us v R E X hG hB hs2 hlim hroom hus hq
  obtain ⟨hp, g, dr, tk, os⟩ := s
  obtain ⟨bm, N, nm, qn, bs, hdct, sn, sub, ab, col, dd, k0, k1, k2, k3, k5, mN, hC, hN, hni, T⟩ := L2.exc_obj X q
  refine wpAny_call_exc_subT F T hC hN hni (fun h' e hm => ?_) ?_
  · obtain ⟨t, he, _, _⟩ := hm.there
    exact hq h' tk e none ⟨hm.keeps, hm.new, ⟨_, _, he, ⟨rfl, rfl⟩, rfl, rfl⟩, .inl ⟨rfl, rfl⟩⟩
  · rcases hus with rfl | ⟨rfl, _⟩
    · exact PySem.LowY.one_size v
    · exact Nat.zero_le _
end Er
namespace Fw
open PySem PySem.Spec PyProof.Rows L2
/-- an own error class with the number c, called x -/
structure ErrAt (P : Program) (w : World) (K : PySem.W.Frag) (mg : Str → Option Value) (en : En) (c : Nat) (n : Nat) (x : Str) : Prop where
  n1 : n ≤ 1
  ex : ∃ C ns, en.cl[c]? = some (C, ns) ∧ ns.length = n ∧ mg x = some (.ref C) ∧ PySem.W.keepIn K (.ref C) = true ∧ Er.Makes P w K mg C ns ∧ PySem.W.subIn K (.ref C) (.type "BaseException") = some true ∧ PySem.W.typeIn K (.ref C) = some (.type "type")
/-- how the tracked heap grows where an error is made -/
def Grown (ns : List Str) (v : V) (d : Option Addr) (H H' : Hp) : Prop := (d = none ∧ ns = [] ∧ H' = H) ∨ ∃ dx f, d = some dx ∧ ns = [f] ∧ H dx = none ∧ H' = upd H dx (.xd [(f, v)])
section
variable {X : Cx} {en : En} {W : WX} {k c n : Nat} {x : Str} {p pos : Pos} {e : Expr} {ma : AM} {pins : List (Addr × Obj)} {σ : L2.St}
theorem made_inv {H1 : Hp} {s1 : Shared} {h' : Heap} {tk' : Nat} {a C : Addr} {d : Option Addr} {ns : List Str} {v : V} {v' : Value} (I1 : Inv X pins σ H1 s1) (M : Er.MadeE s1.heap h' a C d (ns.zip [v'])) (hn : ns.length ≤ 1) (rv : RelV v v') :
    ∃ G H2, Inv X pins σ H2 { s1 with heap := G, toks := tk' } ∧ G.get? a = none ∧ (∀ b o, G.get? b = some o → h'.get? b = some o) ∧ H2 a = none ∧ Grown ns v d H1 H2 := by
  have hna : H1 a = none := I1.hok.gone M.new
  rcases M.dict with ⟨hd, hk⟩ | ⟨dx, f, w', hd, hk, dbig, dne, hns⟩
  · have hns : ns = [] := by
      cases ns with
      | nil => rfl
      | cons _ _ => cases hk
    exact ⟨s1.heap, H1, I1.tok tk', M.new, M.keep, hna, .inl ⟨hd, hns, rfl⟩⟩
  · obtain ⟨rfl, rfl⟩ : ns = [f] ∧ w' = v' := by
      cases ns with
      | nil => cases hk
      | cons g l =>
        cases l with
        | nil => cases hk; exact ⟨rfl, rfl⟩
        | cons _ _ => simp at hn
    obtain ⟨G', g1, g2⟩ := restrict h' fun b => decide (b ≠ a)
    have gk : ∀ b, b ≠ a → G'.get? b = h'.get? b := fun b hb => g1 b (decide_eq_true hb)
    have ge : G'.get? a = none := g2 a (by simp)
    have old : ∀ b o, s1.heap.get? b = some o → G'.get? b = some o := fun b o q => (gk b (fun z => by rw [z, M.new] at q; cases q)).trans (M.keep b o q)
    have ob : ObjOk X.prog X.w (upd H1 dx (.xd [(f, v)])) G' dx (.xd [(f, v)]) := by
      refine ⟨_, hns.at (fun o q => (gk dx dne).trans q), fun y => ?_⟩
      by_cases hw : y = f
      · subst hw
        rw [if_pos rfl]
        have q : List.lookup y [(y, v)] = some v := by simp [List.lookup]
        rw [q]; exact rv
      · rw [if_neg hw]
        have qw : (y == f) = false := by simpa using hw
        have q2 : List.lookup y [(f, v)] = none := by simp [List.lookup, qw]
        rw [q2]; trivial
    refine ⟨G', _, I1.laid (t' := tk') old dbig ob, ge, fun b o q => ?_, ?_, .inr ⟨dx, f, hd, rfl, I1.hok.fresh dbig, rfl⟩⟩
    · by_cases hb : b = a
      · rw [hb, ge] at q; cases q
      · exact (gk b hb).symm.trans q
    · rw [upd_ne (Ne.symm dne)]; exact hna
/-- x(e) or x(), made: what comes -/
theorem run_err (D : ErrAt X.prog X.w X.K X.mg en c n x) (G : Good en X W k) {H1 : Hp} {s1 : Shared} {us : List Value} {v : V} {v' : Value} {Q : Value → Shared → Prop} (I1 : Inv X pins σ H1 s1) (rv : RelV v v') (hus : us = [v'] ∨ (us = [] ∧ v' = .none)) {C : Addr} {ns : List Str} (hc : en.cl[c]? = some (C, ns))
    (hq : ∀ h' tk a d G H2, Inv X pins σ H2 { s1 with heap := G, toks := tk } → G.get? a = none → (∀ b o, G.get? b = some o → h'.get? b = some o) → H2 a = none → Grown ns v d H1 H2 →
      (∃ oe vs, h'.get? a = some oe ∧ Zc (.ref C) d oe ∧ oe.data = .fields vs ∧ vs[1]? = some .none) → Q (.ref a) { s1 with heap := h', toks := tk }) :
    wpAny (model X.prog X.w) X.A (call (.ref C) us) Q X.xe s1 := by
  obtain ⟨C', ns', hc', hl, hm, hkp, hmk, _, _⟩ := D.ex
  rw [hc] at hc'; cases hc'
  have hnn : ns.length ≤ 1 := hl ▸ D.n1
  obtain ⟨mb, h1, h2⟩ := I1.ok.mod.blt
  refine hmk X.A mb s1 us v' _ _ I1.kIn (I1.ok.mod.glob.keeps I1.bk) (h1.keeps I1.bk) ((h2 _ (by decide)).trans rfl) I1.nolimit (by have := G.room.dp; omega) hus fun h' tk a d M => ?_
  obtain ⟨G', H2, J, g1, g2, g3, g4⟩ := made_inv (tk' := tk) I1 M hnn rv
  exact hq h' tk a d G' H2 J g1 g2 g3 g4 M.obj
end
end Fw
namespace Fw
open PySem PySem.Spec PyProof.Rows L2
/-- the fields that an error gets: n of them, from what is written -/
def errV (n : Nat) (vs : List SV) : Option (List SV) := match vs with
  | [] => some (List.replicate n .non)
  | [v] => some (List.replicate n v)
  | _ => none
def mRaise (c n : Nat) (ma : AM) : SM := fun ss h => match ma ss h with
  | .stuck => .stuck
  | .ex c' xs h1 => .ex c' xs ss h1
  | .ok vs h1 => match errV n vs with
    | some xs => .ex c xs ss h1
    | none => .stuck
def mErr (c n : Nat) (ma : AM) : EM := fun ss h => (ma ss h).bind fun vs h1 => match errV n vs with
  | some xs => .ok (.ref h1.length) (h1 ++ [.exo c xs])
  | none => .stuck
/-- how an error grows out of its arguments -/
def OneV (vs : List V) (v : V) : Prop := vs = [v] ∨ (vs = [] ∧ v = .non)
theorem oneV_us {vs : List V} {us : List Value} {v : V} (r : Vals vs us) (o : OneV vs v) : ∃ v', RelV v v' ∧ (us = [v'] ∨ (us = [] ∧ v' = .none)) := by
  rcases o with rfl | ⟨rfl, rfl⟩
  · cases r with
    | cons rv rn => cases rn; exact ⟨_, rv, .inl rfl⟩
  · cases r; exact ⟨.none, rfl, .inr ⟨rfl, rfl⟩⟩
theorem errV_one {en : En} {ρ : List Addr} {n : Nat} {svs xs : List SV} {vs : List V} (r : RSs en ρ svs vs) (e : errV n svs = some xs) : ∃ sv v, OneV vs v ∧ RS en ρ sv v ∧ xs = List.replicate n sv := by
  unfold errV at e
  split at e
  · cases e; cases r; exact ⟨.non, .non, .inr ⟨rfl, rfl⟩, rfl, rfl⟩
  · cases e
    cases r with
    | cons rv rn => cases rn; exact ⟨_, _, .inl rfl, rv, rfl⟩
  · cases e
theorem Grown.keep {ns : List Str} {v : V} {d : Option Addr} {H H' : Hp} (g : Grown ns v d H H') : ∀ a u, H a = some u → H' a = some u := by
  intro a u e
  rcases g with ⟨_, _, rfl⟩ | ⟨dx, f, _, _, hn, rfl⟩
  · exact e
  · rw [upd_ne (fun z => by rw [z, hn] at e; cases e)]; exact e
theorem Grown.hasF {en : En} {ρ : List Addr} {h : SH} {ns : List Str} {v : V} {d : Option Addr} {H H' : Hp} (g : Grown ns v d H H') (rel : Rel en ρ h H) : HasF ρ H' d (ns.zip (List.replicate ns.length v)) := by
  rcases g with ⟨hd, hn, rfl⟩ | ⟨dx, f, hd, hn, hx, rfl⟩
  · subst hn; exact .inl ⟨hd, rfl⟩
  · subst hn
    exact .inr ⟨dx, hd, upd_same, fun m => by obtain ⟨u, e, _⟩ := rel.mem m; rw [hx] at e; cases e⟩
theorem paired_rep {α β : Type} {R : α → β → Prop} {a : α} {b : β} (r : R a b) : ∀ n, Paired R (List.replicate n a) (List.replicate n b)
  | 0 => .nil
  | n + 1 => .cons r (paired_rep r n)
section
variable {X : Cx} {en : En} {W : WX} {k c n : Nat} {x : Str} {p pos pos2 : Pos} {e : Expr} {ma : AM}
def tMkE (C : Addr) (ns : List Str) (ta : TA) : L2.St → Hp → XK → Prop := fun σ H Q => ta σ H fun vs H1 => ∃ v, OneV vs v ∧ ∀ d H2, Grown ns v d H1 H2 → Q (.ref C) d H2
theorem mk_run (D : ErrAt X.prog X.w X.K X.mg en c n x) (G : Good en X W k) {C : Addr} {ns : List Str} (hc : en.cl[c]? = some (C, ns)) {pins : List (Addr × Obj)} {σ : L2.St} {H1 : Hp} {s1 : Shared} {us : List Value} {vs : List V} {v : V} {Q : XK} (I1 : Inv X pins σ H1 s1) (r : Vals vs us) (o : OneV vs v)
    (q : ∀ d H2, Grown ns v d H1 H2 → Q (.ref C) d H2) : wpAny (model X.prog X.w) X.A (call (.ref C) us) (MkP X pins σ Q) X.xe s1 := by
  obtain ⟨v', rv, hus⟩ := oneV_us r o
  obtain ⟨C', ns', hc', hl, hm, hkp, hmk, hex, hty⟩ := D.ex
  have hcc := hc
  rw [hc] at hc'; cases hc'
  refine run_err D G I1 rv hus hcc fun h' tk a d G' H2 J g1 g2 g3 g4 ⟨oe, fv, hoe, hz, hdat, h1⟩ => ?_
  exact ⟨a, oe, fv, { s1 with heap := G', toks := tk }, H2, .ref C, d, rfl, J, g2, g1, hoe, hz, hdat, h1, g3, rfl, I1.bare, raises_own hex hty, q d H2 g4⟩
theorem pmk_e (D : ErrAt X.prog X.w X.K X.mg en c n x) (G : Good en X W k) {C : Addr} {ns : List Str} {ta : TA} (hc : en.cl[c]? = some (C, ns)) (hg : Gl X x) (ha : PA X [e] ta)
    (hdb : (x == ("__debug__" : Str)) = false := by decide) (he : starEach (e :: []) X.env = (false, eval e X.env) :: starEach [] X.env := by rfl) (hpl : (backTo pos (starEach [] X.env)).any (·.1) = false := by rfl) : PMk X (.Call (.Name x p) [e] [] pos) (tMkE C ns ta) := by
  intro pins s σ H Q I t
  have hcc := hc
  obtain ⟨C', ns', hc', hl, hm, hkp, hmk, hex, hty⟩ := D.ex
  rw [hc] at hc'; cases hc'
  refine wpAny_Call_Name_kw (ld_glob I hg hm ?_ hdb)
  refine PySem.W.callWith_K (h₀ := X.base) I.ok.mod.kin hkp (thn (ha.run pos pins s σ H _ I t) fun us s1 ⟨vs, H1, I1, r, v, o, q⟩ => ⟨I1.kIn, ?_⟩) he hpl
  exact mk_run D G hcc I1 r o q
theorem pmk_e0 (D : ErrAt X.prog X.w X.K X.mg en c n x) (G : Good en X W k) {C : Addr} {ns : List Str} (hc : en.cl[c]? = some (C, ns)) (hg : Gl X x) (hdb : (x == ("__debug__" : Str)) = false := by decide) :
    PMk X (.Call (.Name x p) [] [] pos) (tMkE C ns (fun _ H Q => Q [] H)) := by
  intro pins s σ H Q I t
  have hcc := hc
  obtain ⟨C', ns', hc', hl, hm, hkp, hmk, hex, hty⟩ := D.ex
  rw [hc] at hc'; cases hc'
  refine wpAny_Call_Name_kw (ld_glob I hg hm ?_ hdb)
  obtain ⟨v, o, q⟩ := t
  exact PySem.W.callWith_K0 I.kIn hkp (mk_run (us := []) D G hcc I .nil o q)
theorem raise_read {C : Addr} {ns : List Str} (hc : en.cl[c]? = some (C, ns)) (hl : ns.length = n) {D : Ends} {σ : L2.St} {H : Hp} (t : tS en W (mRaise c n ma) D σ H) : tMkE C ns (tA en W ma) σ H fun cls d H' => W cls d σ H' := by
  obtain ⟨ρ, ss, h, rel, rs, f⟩ := t
  refine ⟨ρ, ss, h, rel, rs, ?_⟩
  unfold mRaise at f
  cases e1 : ma ss h with
  | stuck => simp only [e1] at f; exact f
  | ex c' xs h1 => simp only [e1] at f; exact fun ρ' H' cls d p rel' rx => f ρ' σ H' cls d p rel' (rs.mono p) rx
  | ok svs h1 =>
    simp only [e1] at f
    intro ρ1 H1 vs p1 rel1 rvs
    split at f
    · rename_i xs ex
      obtain ⟨sv, v, o, rv, rfl⟩ := errV_one rvs ex
      refine ⟨v, o, fun d H2 g => f ρ1 σ H2 _ d p1 (rel1.keep g.keep) (rs.mono p1) ⟨C, ns, List.replicate ns.length v, hc, rfl, g.hasF rel1, by simp [hl], ?_⟩⟩
      rw [hl]
      exact paired_rep rv n
    · exact f.elim
theorem PS.raise (D : ErrAt X.prog X.w X.K X.mg en c n x) (G : Good en X W k) (hg : Gl X x) (ha : PA X [e] (tA en W ma))
    (hdb : (x == ("__debug__" : Str)) = false := by decide) (he : starEach (e :: []) X.env = (false, eval e X.env) :: starEach [] X.env := by rfl) (hpl : (backTo pos (starEach [] X.env)).any (·.1) = false := by rfl) :
    PS X (.Raise (some (.Call (.Name x p) [e] [] pos)) none pos2) (tS en W (mRaise c n ma)) := by
  obtain ⟨C, ns, hc, hl, _⟩ := D.ex
  exact PSimp (ps_raise G.calm G.tk (pmk_e D G hc hg ha hdb he hpl)) fun _ σ H t => raise_read hc hl t
theorem PS.raise0 (D : ErrAt X.prog X.w X.K X.mg en c n x) (G : Good en X W k) (hg : Gl X x) (hdb : (x == ("__debug__" : Str)) = false := by decide) :
    PS X (.Raise (some (.Call (.Name x p) [] [] pos)) none pos2) (tS en W (mRaise c n aNil)) := by
  obtain ⟨C, ns, hc, hl, _⟩ := D.ex
  refine PSimp (ps_raise G.calm G.tk (pmk_e0 D G hc hg hdb)) fun _ σ H t => ?_
  obtain ⟨ρ, ss, h, rel, rs, f⟩ := raise_read hc hl t
  exact f ρ H [] (Pre.refl ρ) rel .nil
/-! ### an error as a value -/
theorem exo_ok {P : Program} {w : World} {H : Hp} {h : Heap} {a : Addr} {cls : Value} {d : Option Addr} {oe : Obj} {us : Array Value} (e : h.get? a = some oe) (z : Zc cls d oe) (q : oe.data = .fields us) : ObjOk P w H h a (.ext (exoφ a cls d)) :=
  ⟨⟨oe, us, e, z, q⟩, ⟨oe, e⟩, fun _ _ ⟨o, u, x, r⟩ k => ⟨o, u, k o x, r⟩⟩
theorem val_run (D : ErrAt X.prog X.w X.K X.mg en c n x) (G : Good en X W k) {C : Addr} {ns : List Str} (hc : en.cl[c]? = some (C, ns)) {pins : List (Addr × Obj)} {σ : L2.St} {H1 : Hp} {s1 : Shared} {us : List Value} {vs : List V} {v : V} {Q : VK} (I1 : Inv X pins σ H1 s1) (r : Vals vs us) (o : OneV vs v)
    (q : ∀ d H2 a, Grown ns v d H1 H2 → H2 a = none → Q (.ref a) (upd H2 a (.ext (exoφ a (.ref C) d)))) : wpAny (model X.prog X.w) X.A (call (.ref C) us) (EP X pins σ Q) X.xe s1 := by
  obtain ⟨v', rv, hus⟩ := oneV_us r o
  refine run_err D G I1 rv hus hc fun h' tk a d G' H2 J g1 g2 g3 g4 ⟨oe, fv, hoe, hz, hdat, h1⟩ => ?_
  exact ⟨.ref a, _, J.laidN (t' := tk) (o := .ext (exoφ a (.ref C) d)) (h' := h') g2 g1 g3 (exo_ok hoe hz hdat), rfl, q d H2 a g4 g3⟩
theorem err_read {C : Addr} {ns : List Str} (hc : en.cl[c]? = some (C, ns)) (hl : ns.length = n) {Q : VK} {σ : L2.St} {H : Hp} (t : tE en W (mErr c n ma) σ H Q) : tA en W ma σ H fun vs H1 => ∃ v, OneV vs v ∧ ∀ d H2 a, Grown ns v d H1 H2 → H2 a = none → Q (.ref a) (upd H2 a (.ext (exoφ a (.ref C) d))) := by
  obtain ⟨ρ, ss, h, rel, rs, f⟩ := t
  refine ⟨ρ, ss, h, rel, rs, ?_⟩
  unfold mErr at f
  cases e1 : ma ss h with
  | stuck => simp only [e1, Res.bind] at f; exact f
  | ex c' xs h1 => simp only [e1, Res.bind] at f; exact f
  | ok svs h1 =>
    simp only [e1, Res.bind] at f
    intro ρ1 H1 vs p1 rel1 rvs
    split at f
    · rename_i xs ex
      obtain ⟨sv, v, o, rv, rfl⟩ := errV_one rvs ex
      refine ⟨v, o, fun d H2 a g na => ?_⟩
      have rel2 := rel1.keep g.keep
      have rel3 := rel2.push (p := a) (u := .ext (exoφ a (.ref C) d)) (o := .exo c (List.replicate n sv)) na ?_
      · refine f _ _ (.ref a) (p1.trans (Pre.one ρ1 a)) rel3 ⟨a, ?_, rfl⟩
        rw [← rel1.len, List.getElem?_append_right (Nat.le_refl _)]; simp
      · refine ⟨C, ns, d, List.replicate ns.length v, hc, upd_same, ?_, by simp [hl], ?_⟩
        · rcases g.hasF rel1 with z | ⟨dx, e1, e2, e3⟩
          · exact .inl z
          · have ne : dx ≠ a := fun z => by rw [z, na] at e2; cases e2
            exact .inr ⟨dx, e1, by rw [upd_ne ne]; exact e2, fun m => by
              rcases List.mem_append.mp m with m | m
              · exact e3 m
              · simp at m; exact ne m⟩
        · rw [hl]
          exact paired_mono (fun _ _ z => z.mono (Pre.one ρ1 a)) (paired_rep rv n)
    · exact f.elim
theorem PE.err (D : ErrAt X.prog X.w X.K X.mg en c n x) (G : Good en X W k) (hg : Gl X x) (ha : PA X [e] (tA en W ma))
    (hdb : (x == ("__debug__" : Str)) = false := by decide) (he : starEach (e :: []) X.env = (false, eval e X.env) :: starEach [] X.env := by rfl) (hpl : (backTo pos (starEach [] X.env)).any (·.1) = false := by rfl) :
    PE X (.Call (.Name x p) [e] [] pos) (tE en W (mErr c n ma)) := by
  obtain ⟨C, ns, hc, hl, hm, hkp, hmk, hex, hty⟩ := D.ex
  refine ⟨fun pins s σ H Q I t => ?_⟩
  refine wpAny_Call_Name_kw (ld_glob I hg hm ?_ hdb)
  refine PySem.W.callWith_K (h₀ := X.base) I.ok.mod.kin hkp (thn (ha.run pos pins s σ H _ I (err_read hc hl t)) fun us s1 ⟨vs, H1, I1, r, v, o, q⟩ => ⟨I1.kIn, ?_⟩) he hpl
  exact val_run D G hc I1 r o q
theorem PE.err0 (D : ErrAt X.prog X.w X.K X.mg en c n x) (G : Good en X W k) (hg : Gl X x) (hdb : (x == ("__debug__" : Str)) = false := by decide) : PE X (.Call (.Name x p) [] [] pos) (tE en W (mErr c n aNil)) := by
  obtain ⟨C, ns, hc, hl, hm, hkp, hmk, hex, hty⟩ := D.ex
  refine ⟨fun pins s σ H Q I t => ?_⟩
  refine wpAny_Call_Name_kw (ld_glob I hg hm ?_ hdb)
  obtain ⟨ρ, ss, h, rel, rs, f⟩ := err_read hc hl t
  obtain ⟨v, o, q⟩ := f ρ H [] (Pre.refl ρ) rel .nil
  exact PySem.W.callWith_K0 I.kIn hkp (val_run (us := []) D G hc I .nil o q)
end
end Fw
namespace Fw
open PySem PySem.Spec PyProof.Rows L2
/-- a value's kind -/
inductive Tag where
  | non | bl | int | str | lst | tup | dct | ins (c : Nat) | exo (c : Nat)
def tagOf (h : SH) : SV → Option Tag
  | .non => some .non
  | .bl _ => some .bl
  | .int _ => some .int
  | .str _ => some .str
  | .scr _ => some .lst
  | .ref i => match h[i]? with
    | some (.lst _) => some .lst
    | some (.tup _) => some .tup
    | some (.dK _) => some .dct
    | some (.dT _) => some .dct
    | some (.ins c _) => some (.ins c)
    | some (.exo c _) => some (.exo c)
    | some (.lk _) => none
    | none => none
/-- what the written part says of a class, so that isinstance asks its instances rightly -/
structure InsIs (K : PySem.W.Frag) (C : Addr) : Prop where
  cl : L2.Cls K C
  ha : PySem.W.findIn K (.ref C) "__class__" = some (some (.builtin "object.__class__"))
  hn : PySem.W.specialIn K (.builtin "object.__class__") "__get__" = some (some (.builtin "getset_descriptor.__get__"))
  ht : PySem.W.takesIn K (.builtin "object.__class__") = some true
  hm : PySem.W.mroIn K C (.type "object") = some true
structure ExcIs (K : PySem.W.Frag) (C : Addr) : Prop where
  hcl : (PySem.W.clsIn K C).isSome = true
  ga : PySem.W.findIn K (.ref C) "__getattribute__" = some (some (.builtin "BaseException.__getattribute__"))
  gg : PySem.W.findIn K (.ref C) "__getattr__" = some none
  sub : PySem.W.subIn K (.ref C) (.type "BaseException") = some true
  ha : PySem.W.findIn K (.ref C) "__class__" = some (some (.builtin "object.__class__"))
  hn : PySem.W.specialIn K (.builtin "object.__class__") "__get__" = some (some (.builtin "getset_descriptor.__get__"))
  ht : PySem.W.takesIn K (.builtin "object.__class__") = some true
  hm : PySem.W.mroIn K C (.type "object") = some true
  hd : PySem.W.hasDictIn K C = true
def tagV (en : En) : Tag → Option Value
  | .non => some (.type "NoneType")
  | .bl => some (.type "bool")
  | .int => some (.type "int")
  | .str => some (.type "str")
  | .lst => some (.type "list")
  | .tup => some (.type "tuple")
  | .dct => some (.type "dict")
  | .ins c => (en.cl[c]?).map fun p => .ref p.1
  | .exo c => (en.cl[c]?).map fun p => .ref p.1
def TagOk (en : En) : Tag → Prop
  | .ins c => ∃ C ns, en.cl[c]? = some (C, ns) ∧ InsIs en.K C
  | .exo c => ∃ C ns, en.cl[c]? = some (C, ns) ∧ ExcIs en.K C
  | _ => True
section
variable {X : Cx} {en : En} {W : WX} {k c n : Nat} {x : Str} {p pos pos2 : Pos} {e : Expr} {pins : List (Addr × Obj)} {σ : L2.St} {H : Hp} {s : Shared}
theorem exo_inst {ρ : List Addr} {h : SH} {i : Nat} {xs : List SV} {v : V} (I : Inv X pins σ H s) (rel : Rel en ρ h H) (r : RS en ρ (.ref i) v) (e : h[i]? = some (.exo c xs)) :
    ∃ a C ns ox od vs, v = .ref a ∧ en.cl[c]? = some (C, ns) ∧ PySem.W.InstAt s.heap a ox C od ∧ xs.length = ns.length ∧ RSs en ρ xs vs ∧ (ns ≠ [] → ∃ (m : Str → Option Value) (od' : Obj), od = some od' ∧ (∀ f, PySem.W.lookIn f od' = some (m f)) ∧ ∀ f, RelO ((ns.zip vs).lookup f) (m f)) := by
  obtain ⟨a, ea, rfl⟩ := r
  obtain ⟨C, ns, d, vs, e1, e2, hf, l, q⟩ := rel.at2 ea e
  obtain ⟨⟨oe, us, g1, g2, g3⟩, _, _⟩ := I.hok a _ e2
  have hnc : PySem.W.notCls oe = true := by unfold PySem.W.notCls; rw [g3] <;> rfl
  rcases hf with ⟨hd, hk⟩ | ⟨dx, hd, hx, _⟩
  · refine ⟨a, C, ns, oe, none, vs, rfl, e1, ⟨g1, g2.1, hnc, by rw [g2.2, hd]; trivial⟩, l, q, fun hn => ?_⟩
    exfalso
    cases ns with
    | nil => exact hn rfl
    | cons a ns =>
      cases q with
      | nil => simp at l
      | cons _ _ => cases hk
  · have ho : ObjOk X.prog X.w H s.heap dx (.xd (ns.zip vs)) := I.hok dx _ hx
    obtain ⟨mA, hns, hr⟩ := ho
    obtain ⟨od, hod, hl⟩ := lookIn_ns hns
    exact ⟨a, C, ns, oe, some od, vs, rfl, e1, ⟨g1, g2.1, hnc, by rw [g2.2, hd]; exact hod⟩, l, q, fun _ => ⟨mA, od, rfl, hl, hr⟩⟩
theorem tag_kit {ρ : List Addr} {h : SH} {a : SV} {v : V} {u tv : Value} {t : Tag} (hK : X.K = en.K) (I : Inv X pins σ H s) (rel : Rel en ρ h H) (r : RS en ρ a v) (ru : RelV v u) (et : tagOf h a = some t) (ev : tagV en t = some tv) (ok : TagOk en t) :
    ∃ P, PySem.W.KitX X.K u tv P ∧ P s.heap ∧ u ≠ .builtin "__main__.__loader__#opaque" := by
  cases a with
  | non => cases et; cases ev; cases (show v = V.non from r); exact kit_of I ru (.base .non)
  | bl b => cases et; cases ev; cases (show v = V.bl b from r); exact kit_of I ru (.base (.bl b))
  | int i => cases et; cases ev; cases (show v = V.int i from r); exact kit_of I ru (.base (.int i))
  | str y => cases et; cases ev; cases (show v = V.str y from r); exact kit_of I ru (.base (.str y))
  | scr ns =>
    cases et; cases ev
    obtain ⟨rfl, _⟩ := (show v = .ref en.a0 ∧ ns = en.ns from r)
    rcases rel.scr with (z | ⟨o, z⟩) | ⟨o, its, n, z, hc, _⟩
    · exact kit_of I ru (.base (.lst z))
    · exact kit_of I ru (.base (.frz z))
    · exact kit_of I ru (.kList (by rw [hK]; exact z) hc)
  | ref i =>
    obtain ⟨b, eb, rfl⟩ := r
    unfold tagOf at et
    cases eo : h[i]? with
    | none => simp only [eo] at et; cases et
    | some o =>
      have ro := rel.at2 eb eo
      cases o with
      | lst xs => simp only [eo] at et; cases et; cases ev; obtain ⟨vs, e1, _⟩ := ro; exact kit_of I ru (.base (.lst e1))
      | tup xs => simp only [eo] at et; cases et; cases ev; obtain ⟨vs, e1, _⟩ := ro; exact kit_of I ru (.base (.tup e1))
      | dK xs => simp only [eo] at et; cases et; cases ev; obtain ⟨vs, e1, _⟩ := ro; exact kit_of I ru (.base (.dK e1))
      | dT xs => simp only [eo] at et; cases et; cases ev; obtain ⟨vs, e1, _⟩ := ro; exact kit_of I ru (.base (.dT e1))
      | ins c xs =>
        simp only [eo] at et; cases et
        obtain ⟨C, ns, hc, ok⟩ := ok
        unfold tagV at ev
        simp only [hc, Option.map_some] at ev
        cases ev
        obtain ⟨C', ns', dx, vs, hc', e1, _⟩ := ro
        rw [hc] at hc'; cases hc'
        rw [← hK] at ok
        exact kit_of I ru (.base (.ins e1 ok.cl ok.ha ok.hn ok.ht ok.hm))
      | lk xs => simp only [eo] at et; cases et
      | exo c xs =>
        simp only [eo] at et; cases et
        obtain ⟨C, ns, hc, ok⟩ := ok
        unfold tagV at ev
        simp only [hc, Option.map_some] at ev
        cases ev
        obtain ⟨a, C', ns', ox, od, vs, ea, hc', J, _⟩ := exo_inst I rel ⟨b, eb, rfl⟩ eo
        cases ea
        rw [hc] at hc'; cases hc'
        rw [← hK] at ok
        cases (show u = Value.ref b from ru)
        exact ⟨_, PySem.W.kitx_exc ok.hcl ok.ga ok.gg ok.sub ok.ha ok.hn ok.ht ok.hm, J, fun z => nomatch z⟩
def opIsi (f : Tag → Option Bool) : O1 := fun a h => match tagOf h a with
  | some t => match f t with
    | some b => some (.bl b, h)
    | none => none
  | none => none
/-- f tells isinstance(_, cv) rightly -/
def IsiOk (en : En) (cv : Value) (f : Tag → Option Bool) : Prop := ∀ t b, f t = some b → ∃ tv, tagV en t = some tv ∧ TagOk en t ∧ PySem.W.kitOne en.K tv cv = some b
def rIsG (en : En) (f : Tag → Option Bool) (cv : V) : List V → Hp → VK → Prop := fun xs H Q => ∃ ρ h a v, xs = [v, cv] ∧ Rel en ρ h H ∧ RS en ρ a v ∧ finO en ρ (opIsi f a h) Q
theorem call_isG {cV : V} {cv : Value} {f : Tag → Option Bool} (hK : X.K = en.K) (hc : ClsV cV cv) (ok : IsiOk en cv f) : CallR X (.builtin "isinstance") (rIsG en f cV) := by
  intro pins s σ H xs us Q I r h
  obtain ⟨ρ, h, a, v, rfl, rel, ra, w, h', e, q⟩ := h
  obtain ⟨u1, u2, rfl, r1, r2⟩ := vals2 r
  have e2 := hc.eq r2
  subst e2
  unfold opIsi at e
  cases et : tagOf h a with
  | none => simp only [et] at e; cases e
  | some t =>
    simp only [et] at e
    cases ef : f t with
    | none => simp only [ef] at e; cases e
    | some b =>
      simp only [ef] at e
      cases e
      obtain ⟨tv, ev, tk, ek⟩ := ok t b ef
      obtain ⟨P, Z, hp, hx⟩ := tag_kit hK I rel ra r1 et ev tk
      exact PySem.W.kia_one Z I.kIn hp (by rw [hK]; exact ek) hx fun tk => ⟨.bl b, H, I.tok tk, rfl, q ρ H (.bl b) (Pre.refl ρ) rel rfl⟩
theorem PE.isi {m : EM} {ec : Expr} {cV : V} {cv : Value} {f : Tag → Option Bool} (hK : X.K = en.K) (hc : ClsV cV cv) (ok : IsiOk en cv f) (hg : Gl X "isinstance") (hm : X.mg "isinstance" = none) (he : PE X e (tE en W m)) (hec : PE X ec (tC cV))
    (hs1 : starEach (e :: [ec]) X.env = (false, eval e X.env) :: starEach [ec] X.env := by rfl) (hs2 : starEach (ec :: []) X.env = (false, eval ec X.env) :: starEach [] X.env := by rfl) (hpl : (backTo pos (starEach [ec] X.env)).any (·.1) = false := by rfl) :
    PE X (.Call (.Name "isinstance" p) [e, ec] [] pos) (tE en W (mO1 (opIsi f) m)) :=
  PEimp (pe_callB (call_isG hK hc ok) hg hm rfl (pa_cons he (pa_cons hec pa_nil hs2) hs1) (by decide) (by decide) hs1 hpl) fun σ H Q t => by
    refine tM.bind2 (R1 := RS en) (R2 := RS en) (k := fun a (ss : SS) h => lift (opIsi f a h)) t fun ρ ss h a v H1 rel rs ra fn => ?_
    exact ⟨ρ, h, a, v, rfl, rel, ra, fn.lift⟩
/-- e.f, e an error -/
def ExfOk (en : En) (f : Str) (ix : List (Option Nat)) : Prop := ∀ (c k : Nat), ix[c]? = some (some k) → ∃ C ns, en.cl[c]? = some (C, ns) ∧ ExcIs en.K C ∧ PySem.W.findIn en.K (.ref C) f = some none ∧ ns.Nodup ∧ ns[k]? = some f
def opExf (ix : List (Option Nat)) : O1 := fun a h => match a with
  | .ref i => match h[i]? with
    | some (.exo c vs) => match ix[c]? with
      | some (some k) => match vs[k]? with
        | some v => some (v, h)
        | none => none
      | _ => none
    | _ => none
  | _ => none
theorem PE.exf {f : Str} {m : EM} {ix : List (Option Nat)} (hK : X.K = en.K) (hf : ExfOk en f ix) (he : PE X e (tE en W m)) (hb : attributeBase e f X.env (eval e X.env) = eval e X.env := by rfl) : PE X (.Attribute e f pos) (tE en W (mO1 (opExf ix) m)) := by
  refine ⟨fun pins s σ H Q I t => ?_⟩
  have t2 : tE en W m σ H fun v H1 => ∃ ρ h a, Rel en ρ h H1 ∧ RS en ρ a v ∧ finO en ρ (opExf ix a h) Q := tM.bind2 (R1 := RS en) (R2 := RS en) (k := fun a (ss : SS) h => lift (opExf ix a h)) t fun ρ ss h a v H1 rel rs ra fn => ⟨ρ, h, a, rel, ra, fn.lift⟩
  refine attr_of hb (thn (he.run pins s σ H _ I t2) fun u s1 ⟨v, H1, I1, ru, ρ, h, a, rel, ra, w, h', e1, q⟩ => ?_)
  unfold opExf at e1
  split at e1
  · rename_i i
    split at e1
    · rename_i c vs ei
      split at e1
      · rename_i kk ek
        split at e1
        · rename_i y ev
          cases e1
          obtain ⟨C, ns, hc, ok, hno, nd, en'⟩ := hf _ _ ek
          obtain ⟨b, C', ns', ox, od, ws, rfl, hc', J, hl, rv, hx⟩ := exo_inst I1 rel ra ei
          rw [hc] at hc'; cases hc'
          rw [← hK] at ok hno
          obtain ⟨mm, od', rfl, hl1, hl2⟩ := hx (fun z => by rw [z] at en'; cases en')
          obtain ⟨z, ez, rz⟩ := rv.get ev
          have lz : (ns.zip ws).lookup f = some z := zip_lookup nd en' ez
          obtain ⟨u', hu, ru'⟩ := RelO.some_of (v := z) (o := mm f) (by rw [← lz]; exact hl2 f)
          cases (show u = Value.ref b from ru)
          exact HandSPX.exc_get I1.kIn J ok.ga ok.gg ok.sub (PySem.W.findObj_own ok.hd hno rfl (by rw [hl1, hu])) (handed_of ru') ⟨z, H1, I1.tok _, ru', q ρ H1 z (Pre.refl ρ) rel rz⟩
        · cases e1
      · cases e1
    · cases e1
  · cases e1
end
end Fw
namespace Fw
open PySem PySem.Spec PyProof.Rows L2
section
variable {X : Cx} {pins : List (Addr × Obj)} {σ : L2.St} {H : Hp} {s : Shared}
/-- an error that was caught is held from now on like any object -/
theorem tracked {a : Addr} {oe : Obj} {us : Array Value} {cls : Value} {d : Option Addr} (I : Inv X pins σ H s) (ha : s.heap.get? a = some oe) (hz : Zc cls d oe) (hu : oe.data = .fields us) (na : H a = none) (n0 : X.s_0.heap.get? a = none) (nL : a ≠ X.env.locals)
    (hp : ∀ p ∈ X.pn ++ pins, p.1 ≠ a) : Inv (X.suite a (X.pn ++ pins)) [] σ (upd H a (.ext (exoφ a cls d))) s where
  ok := I.ok.suite _ _
  os := I.os
  bare := I.bare
  base := by
    have B := I.base
    refine ⟨B.keep, B.slot, fun b o e n q => ?_, B.there, fun b xs e => ?_, fun b o u e => ?_, fun b ps e => ?_⟩
    · have hb : b ≠ a := fun z => by subst z; rw [n0] at e; cases e
      rw [upd_ne hb]; exact B.free b o e n q
    · have q := B.tups b xs e
      rw [upd_ne (ne_of_none q na)]; exact q
    · have q := B.frzs b o u e
      rw [upd_ne (ne_of_none q na)]; exact q
    · obtain ⟨m, q⟩ := B.tbls b ps e
      exact ⟨m, by rw [upd_ne (ne_of_none q na)]; exact q⟩
  loc := I.loc
  cell := I.cell
  free := by
    show upd H a _ X.env.locals = none
    rw [upd_ne (Ne.symm nL)]; exact I.free
  freeC := fun y c e => by
    have hc : c ≠ a := fun z => by
      obtain ⟨w', o', e1, e2⟩ := I.cell y c e
      subst z
      rw [ha] at e1; cases e1
      rw [hu] at e2; cases e2
    rw [upd_ne hc]; exact I.freeC y c e
  pin := fun p q => by
    have q' : p ∈ X.pn ++ pins := by rw [List.append_nil] at q; exact q
    obtain ⟨e, n, z⟩ := I.pin p q'
    exact ⟨e, by rw [upd_ne (hp p q')]; exact n, z⟩
  hok := I.hok.laidN (fun _ _ z => z) na (exo_ok ha hz hu)
  len := I.len
theorem untrackedCx {a : Addr} (I : Inv (X.suite a (X.pn ++ pins)) [] σ H s) (ok : X.Ok) : Inv X pins σ H s where
  ok := ok
  os := I.os
  bare := I.bare
  base := I.base
  loc := I.loc
  cell := I.cell
  free := I.free
  freeC := I.freeC
  pin := fun p q => I.pin p (List.mem_append_left _ q)
  hok := I.hok
  len := I.len
/-- the ends of a suite whose name i goes -/
def goneE (i : Nat) (D : Ends) : Ends := { nx := fun σ' H' => D.nx (σ'.set i none) H', rt := D.rt, bk := fun σ' H' => D.bk (σ'.set i none) H', ct := fun σ' H' => D.ct (σ'.set i none) H' }
/-- what 'except x as n' wishes of an exception: the one that it catches is held -/
def wTr (K : PySem.W.Frag) (c : Value) (i : Nat) (ts : TS) (Wout : WX) (D : Ends) : WX := fun cls d σ H =>
  ∃ b, PySem.W.exmOne K cls c = some b ∧ (b = true → ∀ a, H a = none → ts (goneE i D) (σ.set i (some (.ref a))) (upd H a (.ext (exoφ a cls d)))) ∧ (b = false → Wout cls d σ H)
variable {x n : Str} {c : Value} {i : Nat} {body suite : List Stmt} {b₀ : Stmt} {np pos pos' : Pos} {tb : WX → TS} {ts : TS} {Wout : WX}
/-- the clause, once the error stands in the frame's own hand -/
theorem clause_run (hs : X.stack = X.env :: X.outer) (hf : X.env.frame = some X.env.locals) (hx : X.ex = []) (hN : X.N.Nodup) (hi : X.N[i]? = some n) (hln : X.env.kindOf n = some .local) (hc : Names X x c) (tk : Takes X Wout) (hsu : ∀ (a : Addr) (pn : List (Addr × Obj)), PSs (X.suite a pn) (b₀ :: suite) ts)
    {D : Ends} {a : Addr} {B : Heap} {sI s3 : Shared} {cls : Value} {d : Option Addr} (J : Inv X pins σ H sI) (nb : ∀ b o, sI.heap.get? b = some o → b ∉ frs X.stack → B.get? b = some o) (up : sI.heap.UpToSlots s3.heap) (fl : HandSPX.FlyingZ B (X.env :: X.outer) a (Zc cls d) s3.heap)
    (na : H a = none) (os : s3.os = sI.os) (ag : AllBare s3.gens) (w : wTr X.K c i ts Wout D cls d σ H) :
    wpAny (model X.prog X.w) X.A (handleBy (.ref a) X.env [.ExceptHandler (some (.Name x np)) (some n) (b₀ :: suite) pos']) (SP X pins D) X.xe s3 := by
  obtain ⟨b, hb1, hyes, hno⟩ := w
  have ok := J.ok
  have nfr : a ∉ frs X.stack := by
    rw [hs]
    intro hm
    obtain ⟨oe, us, e1, _, e2⟩ := fl.there
    obtain ⟨_, o', e3, e4⟩ := fl.2.2.1.mem hm
    rw [e1] at e3; cases e3
    exact e4 _ e2
  have nL : a ≠ X.env.locals := fun z => nfr (by rw [hs]; exact List.mem_filterMap.mpr ⟨X.env, List.mem_cons_self, by rw [hf, z]⟩)
  have nI : sI.heap.get? a = none := by
    cases e : sI.heap.get? a with
    | none => rfl
    | some o => have z := nb a o e nfr; rw [fl.2.1] at z; cases z
  have n0 : X.s_0.heap.get? a = none := by
    cases e : X.s_0.heap.get? a with
    | none => rfl
    | some o =>
      obtain ⟨o', z⟩ := J.base.there a o e (by rw [hx]; exact fun z => nomatch z)
      rw [nI] at z; cases z
  have np' : ∀ p ∈ X.pn ++ pins, p.1 ≠ a := fun p hp z => by
    have q := (J.pin p hp).1
    rw [z, nI] at q; cases q
  -- held, in any heap where it has landed
  have held : ∀ {h' : Heap} {t' : Nat}, HandSPX.FlyingZ B (X.env :: X.outer) a (Zc cls d) h' → sI.heap.UpToSlots h' → Inv (X.suite a (X.pn ++ pins)) [] σ (upd H a (.ext (exoφ a cls d))) { s3 with heap := h', toks := t' } := fun {h' t'} f u => by
    obtain ⟨oe, us, e1, z, e2⟩ := f.there
    exact tracked ((J.landed (s' := { s3 with heap := h' }) nb f.1 u os ag).tok t') e1 z e2 na n0 nL np'
  have I3 := held (t' := s3.toks) fl up
  refine wpAny_handleBy_cons (codeAny_handlers_test ?_) (by intro q; cases q)
  have look : ∀ {Q : Value → Shared → Prop} {E : Value → Shared → Prop}, Q c s3 → wpAny (model X.prog X.w) (X.A.mark (some (.ref a))) (eval (.Name x np) X.env) Q E s3 := fun {Q E} q => by
    obtain ⟨g1, g2, g3 | ⟨g3, g4, g5⟩⟩ := hc
    · exact ld_glob (X := X.suite a (X.pn ++ pins)) I3 g1 g3 q g2
    · exact ld_blt (X := X.suite a (X.pn ++ pins)) I3 g1 g3 g4 q g5 g2
  refine look ?_
  obtain ⟨oe, us, e1, z1, e2⟩ := id fl.there
  have ty : PySem.W.Looks (model X.prog X.w) s3.heap (typeOf (.ref a)) cls := fun A Q E s k q => wpAny_typeOf_ref (k _ _ e1) (by rw [z1.1]; exact q)
  refine (PySem.W.exm_one (M := model X.prog X.w) I3.kIn ty hb1).here ?_
  cases b with
  | false =>
    refine wpAny_handleBy_nil ?_
    obtain ⟨k1, k2, k3, o4, v4, T, oT, t4, g1, g2, g3, g4, g5⟩ := id fl
    have out : wpAny (model X.prog X.w) X.A (setFlight (.ref a) X.env.frame) (fun _ s4 => wpAny (model X.prog X.w) X.A (throw (.ref a) : Sem Flow) (SP X pins D) X.xe s4) X.xe s3 := by
      rw [hf]
      refine HandSPX.setFlight_upZ fl fun h4 q4 u4 => wpAny_throw (tk _ _ ?_)
      exact ⟨a, B, sI, pins, σ, H, cls, d, rfl, J, nb, up.trans u4, .inr (.inr (by rw [hs]; exact q4)), na, os, ag, hno rfl⟩
    unfold PySem.passOn
    refine wpAny_bind (wpAny_field g1 g3 g4 ?_)
    have ne : ¬ ((Value.ref T == Value.none) = true) := by simp
    rw [if_neg ne]
    first
      | exact wpAny_bind out
      | exact wpAny_bind (wpAny_pure (wpAny_bind out))
  | true =>
    refine codeAny_handlers_suite_as ?_
    refine HandSPX.lands_againZ fl fun h4 f4 u4 => ?_
    have I4 := held (t' := s3.toks) f4 (up.trans u4)
    refine store_ok (X := X.suite a (X.pn ++ pins)) (v := .ref a) I4 hN hi (.inl hln) rfl (fun s5 I5 => ?_) (.inr hln)
    have goes : ∀ {σ6 : L2.St} {H6 : Hp} {s6 : Shared} {Q : Shared → Prop}, Inv (X.suite a (X.pn ++ pins)) [] σ6 H6 s6 → (∀ s7, Inv X pins (σ6.set i none) H6 s7 → Q s7) →
        wpAny (model X.prog X.w) X.A (do bindName X.env n .none; unbindBehindTheSuite X.env n pos') (fun _ s7 => Q s7) X.xe s6 := fun {σ6 H6 s6 Q} I6 hq => gone_ok (untrackedCx I6 ok) hN hi hln hq
    refine wpAny_mono ((hsu a (X.pn ++ pins)).run [] s5 _ _ (goneE i D) I5 (hyes rfl a na)) (fun fw s6 h6 => ?_) (fun _ _ z => False.elim z)
    cases fw with
    | next => obtain ⟨σ6, H6, I6, q6⟩ := h6; exact goes I6 fun s7 I7 => ⟨_, _, I7, q6⟩
    | brk => obtain ⟨σ6, H6, I6, q6⟩ := h6; exact goes I6 fun s7 I7 => ⟨_, _, I7, q6⟩
    | cont => obtain ⟨σ6, H6, I6, q6⟩ := h6; exact goes I6 fun s7 I7 => ⟨_, _, I7, q6⟩
    | ret u => obtain ⟨v6, σ6, H6, I6, r6, q6⟩ := h6; exact goes I6 fun s7 I7 => ⟨_, _, _, I7, r6, q6⟩
theorem ps_tryT (hs : X.stack = X.env :: X.outer) (hf : X.env.frame = some X.env.locals) (hx : X.ex = []) (hN : X.N.Nodup) (hi : X.N[i]? = some n) (hln : X.env.kindOf n = some .local) (hc : Names X x c) (tk : Takes X Wout)
    (hb : ∀ (W : WX) (pn : List (Addr × Obj)) (xe : Value → Shared → Prop), Takes (X.tr pn xe) W → PassesOwn (model X.prog X.w) X.A X.env xe → PSs (X.tr pn xe) body (tb W)) (hsu : ∀ (a : Addr) (pn : List (Addr × Obj)), PSs (X.suite a pn) (b₀ :: suite) ts) :
    PS X (.Try body [.ExceptHandler (some (.Name x np)) (some n) (b₀ :: suite) pos'] [] [] pos) (fun D σ H => tb (wTr X.K c i ts Wout D) D σ H) := by
  refine ⟨fun pins s σ H D I t => wpAny_Try_except ?_⟩
  have ok := I.ok
  have hfr : X.A.frames = some (X.env :: X.outer) := by rw [ok.frames, hs]
  let xe : Value → Shared → Prop := fun e s₁ => wpAny (model X.prog X.w) X.A (noteFrame e X.env) (fun _ s₂ => wpAny (model X.prog X.w) X.A (setFlight e none) (fun _ s₃ =>
    wpAny (model X.prog X.w) X.A (handleBy e X.env [.ExceptHandler (some (.Name x np)) (some n) (b₀ :: suite) pos']) (SP X pins D) X.xe s₃) X.xe s₂) X.xe s₁
  have tkT : Takes (X.tr (X.pn ++ pins) xe) (wTr X.K c i ts Wout D) := by
    rintro u s' ⟨a, B, sI, pins', σ', H', cls, d, rfl, J', nb, up, sky, na, os, ag, w⟩
    have sky2 : Sky B (X.env :: X.outer) a (Zc cls d) X.env.locals s'.heap := by rw [← hs]; exact sky
    show wpAny _ X.A (noteFrame (.ref a) X.env) _ _ s'
    exact Sky.land Zc.steady hfr hf sky2 fun h3 f3 u3 => clause_run (s3 := { s' with heap := h3 }) hs hf hx hN hi hln hc tk hsu (J'.ofTry ok) nb (up.trans u3) f3 na os ag w
  refine wpAny_mono ((hb _ (X.pn ++ pins) xe tkT PassesOwn.looking).run [] s σ H D (I.toTry _) t) (fun fw s1 h1 => ?_) (fun _ _ z => z)
  cases fw with
  | next => obtain ⟨σ1, H1, I1, q1⟩ := h1; exact wpAny_execs_nil ⟨σ1, H1, I1.ofTry ok, q1⟩
  | brk => obtain ⟨σ1, H1, I1, q1⟩ := h1; exact ⟨σ1, H1, I1.ofTry ok, q1⟩
  | cont => obtain ⟨σ1, H1, I1, q1⟩ := h1; exact ⟨σ1, H1, I1.ofTry ok, q1⟩
  | ret u => obtain ⟨v1, σ1, H1, I1, r1, q1⟩ := h1; exact ⟨v1, σ1, H1, I1.ofTry ok, r1, q1⟩
end
end Fw
namespace Fw
open PySem PySem.Spec PyProof.Rows L2
/-- behind a suite whose name i goes -/
def goneR (i : Nat) (r : SR) : SR := match r with
  | .nx ss h => .nx (ss.set i none) h
  | .bk ss h => .bk (ss.set i none) h
  | .ct ss h => .ct (ss.set i none) h
  | .rt v h => .rt v h
  | .ex _ _ _ _ => .stuck
  | .stuck => .stuck
def mTry (i : Nat) (sub : Nat → Option Bool) (mb ms : SM) : SM := fun ss h => match mb ss h with
  | .ex c xs ss1 h1 => match sub c with
    | some true => goneR i (ms (ss1.set i (some (.ref h1.length))) (h1 ++ [.exo c xs]))
    | some false => .ex c xs ss1 h1
    | none => .stuck
  | r => r
/-- sub tells by the class's number whether the clause of cv catches it -/
def SubOk (en : En) (cv : Value) (sub : Nat → Option Bool) : Prop := ∀ c b, sub c = some b → ∃ C ns, en.cl[c]? = some (C, ns) ∧ PySem.W.exmOne en.K (.ref C) cv = some b
abbrev wNo : WX := fun _ _ _ _ => False
theorem finS.gone {en : En} {W : WX} {ρ : List Addr} {i : Nat} {r : SR} {D : Ends} (f : finS en W ρ (goneR i r) D) : finS en wNo ρ r (goneE i D) := by
  cases r with
  | stuck => exact f
  | nx ss h => exact fun ρ' σ H p rel rs => f ρ' _ H p rel (rs.clear i)
  | bk ss h => exact fun ρ' σ H p rel rs => f ρ' _ H p rel (rs.clear i)
  | ct ss h => exact fun ρ' σ H p rel rs => f ρ' _ H p rel (rs.clear i)
  | rt v h => exact f
  | ex c xs ss h => exact f.elim
theorem HasF.more {ρ : List Addr} {H : Hp} {d : Option Addr} {kvs : List (Str × V)} {a : Addr} {u : HO} (h : HasF ρ H d kvs) (na : H a = none) : HasF (ρ ++ [a]) (upd H a u) d kvs := by
  rcases h with z | ⟨dx, e1, e2, e3⟩
  · exact .inl z
  · have ne : dx ≠ a := fun z => by rw [z, na] at e2; cases e2
    exact .inr ⟨dx, e1, by rw [upd_ne ne]; exact e2, fun m => by
      rcases List.mem_append.mp m with m | m
      · exact e3 m
      · simp at m; exact ne m⟩
section
variable {X : Cx} {en : En} {W : WX} {k i : Nat} {x n : Str} {cv : Value} {body suite : List Stmt} {b₀ : Stmt} {np pos pos' : Pos} {mb ms : SM} {sub : Nat → Option Bool}
theorem try_read (hK : X.K = en.K) (ok : SubOk en cv sub) {D : Ends} {σ : L2.St} {H : Hp} (t : tS en W (mTry i sub mb ms) D σ H) : tS en (wTr X.K cv i (tS en wNo ms) W D) mb D σ H := by
  obtain ⟨ρ, ss, h, rel, rs, f⟩ := t
  refine ⟨ρ, ss, h, rel, rs, ?_⟩
  unfold mTry at f
  cases e1 : mb ss h with
  | stuck => rw [e1] at f; exact f
  | nx s2 h2 => rw [e1] at f; exact f
  | bk s2 h2 => rw [e1] at f; exact f
  | ct s2 h2 => rw [e1] at f; exact f
  | rt v h2 => rw [e1] at f; exact f
  | ex c xs ss1 h1 =>
    simp only [e1] at f
    intro ρ1 σ1 H1 cls d p1 rel1 rs1 rx
    have rx0 := rx
    obtain ⟨C, ns, vs, hc, rfl, hf, hl, rv⟩ := rx
    cases eb : sub c with
    | none => simp only [eb] at f; exact f.elim
    | some b =>
      obtain ⟨C', ns', hc', ek⟩ := ok c b eb
      rw [hc] at hc'; cases hc'
      refine ⟨b, by rw [hK]; exact ek, fun hb a na => ?_, fun hb => ?_⟩
      · subst hb
        simp only [eb] at f
        have p2 := Pre.one ρ1 a
        have rel2 : Rel en (ρ1 ++ [a]) (h1 ++ [.exo c xs]) (upd H1 a (.ext (exoφ a (.ref C) d))) := rel1.push na ⟨C, ns, d, vs, hc, upd_same, hf.more na, hl, rv.mono p2⟩
        refine ⟨ρ1 ++ [a], _, _, rel2, (rs1.mono p2).set (x := .ref h1.length) (v := .ref a) ⟨a, ?_, rfl⟩ i, ((f.mono p1).mono p2).gone⟩
        rw [← rel1.len, List.getElem?_append_right (Nat.le_refl _)]; simp
      · subst hb
        simp only [eb] at f
        exact f ρ1 σ1 H1 _ d p1 rel1 rs1 rx0
/-- try: body, except x as n: suite -/
theorem PS.tryAs (G : Good en X W k) (hs : X.stack = X.env :: X.outer) (hf : X.env.frame = some X.env.locals) (hx : X.ex = []) (hN : X.N.Nodup) (hi : X.N[i]? = some n) (hln : X.env.kindOf n = some .local) (hc : Names X x cv) (ok : SubOk en cv sub)
    (hb : ∀ (W' : WX) (pn : List (Addr × Obj)) (xe : Value → Shared → Prop), Good en (X.tr pn xe) W' k → PSs (X.tr pn xe) body (tS en W' mb)) (hsu : ∀ (a : Addr) (pn : List (Addr × Obj)), PSs (X.suite a pn) (b₀ :: suite) (tS en wNo ms)) :
    PS X (.Try body [.ExceptHandler (some (.Name x np)) (some n) (b₀ :: suite) pos'] [] [] pos) (tS en W (mTry i sub mb ms)) :=
  PSimp (ps_tryT (tb := fun W' => tS en W' mb) hs hf hx hN hi hln hc G.tk (fun W' pn xe tk ps => hb W' pn xe ⟨tk, ps, G.room, G.gd, G.sm, G.calm, G.K⟩) hsu) fun D σ H t => try_read G.K ok t
end
end Fw
namespace Fw
open PySem PySem.Spec PyProof.Rows L2
/-! ### dict displays -/
abbrev DM := SS → SH → Res (List (SV × SV))
abbrev RVV (en : En) : List Addr → List (SV × SV) → List (V × V) → Prop := fun ρ => Paired fun p q => RS en ρ p.1 q.1 ∧ RS en ρ p.2 q.2
def dNil : DM := fun _ h => .ok [] h
def dCons (mk mv : EM) (mr : DM) : DM := fun ss h => (mk ss h).bind fun k h1 => (mv ss h1).bind fun v h2 => (mr ss h2).bind fun ps h3 => .ok ((k, v) :: ps) h3
def keysP : List (SV × SV) → Option (List (Key × SV))
  | [] => some []
  | p :: r => match keyOf p.1 with
    | some k => match keysP r with
      | some ks => some ((k, p.2) :: ks)
      | none => none
    | none => none
def mergeS (kvs more : List (Key × SV)) : List (Key × SV) := more.foldl (fun acc kv => putS acc kv.1 kv.2) kvs
def mDict0 : EM := fun _ h => .ok (.ref h.length) (h ++ [.dK []])
def mDict0T : EM := fun _ h => .ok (.ref h.length) (h ++ [.dT []])
def mDict (md : DM) : EM := fun ss h => (md ss (h ++ [.dK []])).bind fun ps h1 => match keysP ps with
  | some kvs => if kvs.length ≤ 15 ∧ h1[h.length]? = some (.dK []) then .ok (.ref h.length) (h1.set h.length (.dK (mergeS [] kvs))) else .stuck
  | none => .stuck
section
variable {X : Cx} {en : En} {W : WX} {pos : Pos}
/-- the pairs of a display and their meaning -/
structure PD (X : Cx) (en : En) (W : WX) (pos : Pos) (keys : List (Option Expr)) (values : List Expr) (md : DM) : Prop where
  ex : ∃ trs, PPs X pos keys values trs ∧ ∀ σ H Q, tM en W (RVV en) md σ H Q → tPairs trs σ H Q
  all : keys.all (·.isSome) = true
  len : keys.length = values.length
theorem PD.nil : PD X en W pos [] [] dNil := ⟨⟨[], pps_nil, fun σ H Q ⟨ρ, ss, h, rel, rs, f⟩ => f ρ H [] (Pre.refl ρ) rel .nil⟩, rfl, rfl⟩
theorem PD.cons {k v : Expr} {ks : List (Option Expr)} {vs : List Expr} {mk mv : EM} {mr : DM} (hk : PE X k (tE en W mk)) (hv : PE X v (tE en W mv)) (hr : PD X en W pos ks vs mr) : PD X en W pos (some k :: ks) (v :: vs) (dCons mk mv mr) := by
  obtain ⟨trs, hp, hq⟩ := hr.ex
  refine ⟨⟨(tE en W mk, tE en W mv) :: trs, pps_cons hk hv hp, fun σ H Q t => ?_⟩, by rw [List.all_cons, hr.all]; rfl, by rw [List.length_cons, List.length_cons, hr.len]⟩
  obtain ⟨ρ, ss, h, rel, rs, f⟩ := t
  show tE en W mk σ H fun x H1 => tE en W mv σ H1 fun y H2 => tPairs trs σ H2 fun ps H3 => Q ((x, y) :: ps) H3
  refine ⟨ρ, ss, h, rel, rs, ?_⟩
  unfold dCons at f
  cases e1 : mk ss h with
  | stuck => simp only [e1, Res.bind, fin] at f
  | ex cc xs h1 => simp only [e1, Res.bind, fin] at f; exact f
  | ok k0 h1 =>
    simp only [e1, Res.bind] at f
    intro ρ1 H1 x p1 rel1 rx
    refine ⟨ρ1, ss, h1, rel1, rs.mono p1, ?_⟩
    cases e2 : mv ss h1 with
    | stuck => simp only [e2, fin] at f
    | ex cc xs h2 => simp only [e2, fin] at f ⊢; exact fun ρ' H cls d p => f ρ' H cls d (p1.trans p)
    | ok v0 h2 =>
      simp only [e2] at f
      intro ρ2 H2 y p2 rel2 ry
      refine hq σ H2 _ ⟨ρ2, ss, h2, rel2, (rs.mono p1).mono p2, ?_⟩
      cases e3 : mr ss h2 with
      | stuck => simp only [e3, fin] at f
      | ex cc xs h3 => simp only [e3, fin] at f ⊢; exact fun ρ' H cls d p => f ρ' H cls d ((p1.trans p2).trans p)
      | ok ps h3 =>
        simp only [e3] at f
        exact fun ρ3 H3 qs p3 rel3 rq => f ρ3 H3 _ ((p1.trans p2).trans p3) rel3 (.cons ⟨(rx.mono p2).mono p3, ry.mono p3⟩ rq)
theorem keysP_rel {ρ : List Addr} : ∀ {ps : List (SV × SV)} {qs : List (V × V)} {kvs : List (Key × SV)}, keysP ps = some kvs → RVV en ρ ps qs → ∃ kws : List (Key × V), qs = kws.map (fun kv => (kV kv.1, kv.2)) ∧ RK en ρ kvs kws
  | [], _, _, e, r => by cases r; cases e; exact ⟨[], rfl, .nil⟩
  | p :: ps, _, _, e, r => by
    cases r with
    | @cons _ q _ qs r t =>
      unfold keysP at e
      split at e
      · rename_i k ek
        split at e
        · rename_i ks eks
          cases e
          obtain ⟨kws, e1, e2⟩ := keysP_rel eks t
          obtain ⟨q1, q2⟩ := q
          refine ⟨(k, q2) :: kws, ?_, .cons ⟨rfl, r.2⟩ e2⟩
          rw [List.map_cons, ← e1]
          have := keyOf_rel ek r.1
          simp only at this
          rw [this]
        · cases e
      · cases e
theorem merge_rel {ρ : List Addr} : ∀ {kvs : List (Key × SV)} {kws : List (Key × V)} {a : List (Key × SV)} {b : List (Key × V)}, RK en ρ a b → RK en ρ kvs kws → RK en ρ (mergeS a kvs) (mergeK b kws)
  | _, _, _, _, r, .nil => r
  | p :: kvs, q :: kws, a, b, r, .cons z t => by
    show RK en ρ (mergeS (putS a p.1 p.2) kvs) (mergeK (putK b q.1 q.2) kws)
    rw [← z.1]
    exact merge_rel (RK.put z.2 r) t
theorem PE.dict0 : PE X (.Dict [] [] pos) (tE en W mDict0) := PEimp pe_dnewK fun σ H Q ⟨ρ, ss, h, rel, rs, f⟩ p hp => by
  refine f (ρ ++ [p]) _ (.ref p) (Pre.one ρ p) (rel.push (o := .dK []) hp ⟨[], upd_same, .nil⟩) ⟨p, ?_, rfl⟩
  rw [← rel.len, List.getElem?_append_right (Nat.le_refl _)]; simp
theorem PE.dict0T : PE X (.Dict [] [] pos) (tE en W mDict0T) := PEimp pe_dnewT fun σ H Q ⟨ρ, ss, h, rel, rs, f⟩ p hp => by
  refine f (ρ ++ [p]) _ (.ref p) (Pre.one ρ p) (rel.push (o := .dT []) hp ⟨[], upd_same, .nil⟩) ⟨p, ?_, rfl⟩
  rw [← rel.len, List.getElem?_append_right (Nat.le_refl _)]; simp
theorem PE.dict {keys : List (Option Expr)} {values : List Expr} {md : DM} (h : PD X en W pos keys values md) (h0 : keys ≠ [] := by intro z; cases z) (h15 : keys.length ≤ 15 := by decide) : PE X (.Dict keys values pos) (tE en W (mDict md)) := by
  obtain ⟨trs, hp, hq⟩ := h.ex
  refine PEimp (pe_disp hp h.all h.len h0 h15) fun σ H Q t => ?_
  intro p hp0
  obtain ⟨ρ, ss, hh, rel, rs, f⟩ := t
  have rel1 := rel.push (o := .dK []) hp0 ⟨[], upd_same, .nil⟩
  have ei : (ρ ++ [p])[hh.length]? = some p := by rw [← rel.len, List.getElem?_append_right (Nat.le_refl _)]; simp
  refine hq σ _ _ ⟨ρ ++ [p], ss, _, rel1, rs.mono (Pre.one ρ p), ?_⟩
  unfold mDict at f
  cases e1 : md ss (hh ++ [.dK []]) with
  | stuck => simp only [e1, Res.bind, fin] at f
  | ex cc xs h1 => simp only [e1, Res.bind, fin] at f ⊢; exact fun ρ' H cls d p2 => f ρ' H cls d ((Pre.one ρ p).trans p2)
  | ok ps h1 =>
    simp only [e1, Res.bind] at f
    intro ρ1 H1 qs p1 rel2 rq
    split at f
    · rename_i kvs ek
      split at f
      · rename_i hc
        obtain ⟨kws, e2, rk⟩ := keysP_rel ek rq
        obtain ⟨vs0, e3, r0⟩ := rel2.at2 (p1.get ei) hc.2
        cases r0
        refine ⟨e3, kws, e2, by rw [← rk.length]; exact hc.1, ?_⟩
        refine f ρ1 _ (.ref p) ((Pre.one ρ p).trans p1) (rel2.put (p1.get ei) (o := .dK (mergeS [] kvs)) ⟨_, upd_same, merge_rel .nil rk⟩) ⟨p, p1.get ei, rfl⟩
      · exact f.elim
    · exact f.elim
end
end Fw
namespace Er
open PySem PySem.W PySem.Calls PyProof.Rows PySem.HandSPX
abbrev veM : List Value := [.type "ValueError", .type "Exception", .type "BaseException", .type "object"]
section
variable {prog : Program} {w : World} {M : Model} {A : Around} {E : Value → Shared → Prop} {R : Result → Shared → Prop} {h : Heap} {g : Array GenState} {d : Drawn} {t : Nat} {os : OsState}
variable {nm q : Str} {C N : Addr} {bs bm : List Value} {sn : List Str} {sub : List Value} {ab : Bool} {col : Option Bool} {dd : Option Addr} {k0 k1 k2 k3 k5 : Option Value} {f : Str} {v : Value}
/-- C(f = v): the checks of ValueError.__new__ -/
theorem kw_check (hT : ∀ X : String, bm.contains (.type X) = veM.contains (.type X)) {Q : Unit → Shared → Prop} (hC : h.get? C = some (excClassObj nm q C N bs bm true sn sub ab col dd k0 k1 k2 k3 k5 "ValueError.__new__")) (z : Q () ⟨h, g, d, t, os⟩) :
    wpAny M A (checkBuiltinCall "ValueError.__new__" ⟨[.ref C], [(f, v)]⟩) Q E ⟨h, g, d, t, os⟩ := by
  have F := PySem.F.excBase_ValueError
  have cB : (Value.ref C :: bm).contains (.type "ValueError") = true := by rw [List.contains_cons, hT, F.hasB, Bool.or_true]
  have st := F.noStar
  simp only [checkBuiltinCall, F.newKind, F.newSplit, F.newRow]
  repeat (first | (refine wpAny_isSubtype_exc hC ?_; rw [cB]) | refine wpAny_loadPart_at hC ?_ | refine wpAny_madeBy_exc hC ?_ | refine wpAny_staticBase_exc hC ?_ | wp_step | simp only [bne_self_eq_false, Bool.false_eq_true, if_false])
  all_goals exact z
/-- .. ValueError.__new__ -/
theorem kw_new (hT : ∀ X : String, bm.contains (.type X) = veM.contains (.type X)) (hC : h.get? C = some (excClassObj nm q C N bs bm true sn sub ab col dd k0 k1 k2 k3 k5 "ValueError.__new__"))
    (z : R (.ok (.ret (.ref (h.objs.size + 1)))) ⟨(h.push (kdv_tup [])).push (excO C h.objs.size), g, d, t, os⟩) : codeAny (model prog w) A (.builtin "ValueError.__new__" ⟨[.ref C], [(f, v)]⟩) R ⟨h, g, d, t, os⟩ := by
  have F := PySem.F.excBase_ValueError
  have fin := F.ends
  have cB : (Value.ref C :: bm).contains (.type "ValueError") = true := by rw [List.contains_cons, hT, F.hasB, Bool.or_true]
  have cA : (Value.ref C :: bm).contains (.type "AttributeError") = false := by rw [List.contains_cons, hT, F.noAttr]; rfl
  have cN : (Value.ref C :: bm).contains (.type "NameError") = false := by rw [List.contains_cons, hT, F.noName]; rfl
  refine codeAny_builtinAt F.entry ?_
  unfold Builtin.«BaseException.__new__»
  refine PySem.wpAt_bind ?_
  show PySem.wpAt _ _ _ (stack >>= _) _ _ _
  refine PySem.wpAt_bind (PySem.wpAt_stack fun p below => PySem.wpAt_of_wpAny ?_)
  wp_walk
  refine PySem.wpAt_of_wpAny ?_
  rw [F.owner]
  repeat (first | with_reducible refine wpAny_loadPart_at hC ?_ | with_reducible refine wpAny_madeHere_exc F.canon hC ?_ | (with_reducible refine wpAny_isSubtype_exc hC ?_; first | rw [cA] | rw [cN] | rw [cB]) | wp_step)
  show R _ _
  rw [Heap.size_push]
  exact z
theorem kw_type (hT : ∀ X : String, bm.contains (.type X) = veM.contains (.type X)) {fI : Addr} {Q : Fin → Shared → Prop} (hC : h.get? C = some (excClassObj nm q C N bs bm true sn sub ab col dd k0 k1 k2 k3 k5 "ValueError.__new__"))
    (hi : Looks (model prog w) h (typeLookup (.ref C) "__init__") (some (.ref fI))) (hb : ∀ self, Looks (model prog w) h (bindSpecial (.ref fI) self) (.ref fI, [self]))
    (z : codeAny (model prog w) A (.call (.ref fI) ⟨[.ref (h.objs.size + 1)], [(f, v)]⟩) (fun r s' => match r with | .ok (.ret u) => u = .none ∧ Q (.done (.ret (.ref (h.objs.size + 1)))) s' | .ok _ => False | .error e => E e s')
      ⟨(h.push (kdv_tup [])).push (excO C h.objs.size), g, d, t, os⟩) : wpAny (model prog w) A (Builtin.«type.__call__» ⟨[.ref C], [(f, v)]⟩) Q E ⟨h, g, d, t, os⟩ := by
  have F := PySem.F.excBase_ValueError
  repeat (first | with_reducible refine wpAny_madeBy_exc hC ?_ | with_reducible refine wpAny_loadPart_at hC ?_ | wp_step)
  refine codeAny_call_builtin_code (Code.quiet_builtin _ F.quiet) (kw_check hT hC (kw_new hT hC ?_))
  show wpAny _ _ _ _ _ _
  have kp : ∀ b o, h.get? b = some o → ((h.push (kdv_tup [])).push (excO C h.objs.size)).get? b = some o := fun b o e => Heap.get?_push_of_some _ (Heap.get?_push_of_some _ e)
  have hC2 := kp _ _ hC
  have at2 : ((h.push (kdv_tup [])).push (excO C h.objs.size)).get? (h.objs.size + 1) = some (excO C h.objs.size) := by heap_get
  have cC : (Value.ref C :: bm).contains (.ref C) = true := by simp
  have i2 := hi.keeps kp
  have b2 := (hb (.ref (h.objs.size + 1))).keeps kp
  unfold isInstance
  repeat (first | with_reducible refine wpAny_loadPart_at at2 ?_ | (with_reducible refine wpAny_isSubtype_exc hC2 ?_; rw [cC]) | wp_step)
  show wpAny _ _ (typeLookup (.ref C) _) _ _ _
  refine i2.at (wpAny_holding (wpAny_bind (b2.at ?_)))
  refine wpAny_bind (wpAny_call (codeAny_mono z fun r s' y => ?_))
  rcases r with e | (u | _ | _ | _) <;> first | exact y | exact y.elim | skip
  obtain ⟨rfl, y⟩ := y
  first
    | exact wpAny_pure (wpAny_pure y)
    | (wp_walk; exact y)
theorem kw_call (hT : ∀ X : String, bm.contains (.type X) = veM.contains (.type X)) {fI : Addr} (hC : h.get? C = some (excClassObj nm q C N bs bm true sn sub ab col dd k0 k1 k2 k3 k5 "ValueError.__new__"))
    (hi : Looks (model prog w) h (typeLookup (.ref C) "__init__") (some (.ref fI))) (hb : ∀ self, Looks (model prog w) h (bindSpecial (.ref fI) self) (.ref fI, [self]))
    (z : codeAny (model prog w) (A.under (.builtin "type.__call__" ⟨[.ref C], [(f, v)]⟩)) (.call (.ref fI) ⟨[.ref (h.objs.size + 1)], [(f, v)]⟩) (InitBack (h.objs.size + 1) R) ⟨(h.push (kdv_tup [])).push (excO C h.objs.size), g, d, t, os⟩) :
    codeAny (model prog w) A (.call (.ref C) ⟨[], [(f, v)]⟩) R ⟨h, g, d, t, os⟩ := by
  have t1 := tc_lookup
  have t2 := tc_bind (.ref C)
  have ty : (⟨h, g, d, t, os⟩ : Shared).TypeIs (.ref C) "type" := ⟨_, hC, rfl⟩
  refine codeAny_of_tree ?_
  show wpAny _ _ (callAny (.ref C) _) _ _ _
  repeat (any_goals (first | assumption | with_reducible refine wpAny_loadPart_at hC ?_ | wp_step))
  refine ⟨rfl, ?_⟩
  refine codeAny_call_builtin_at (Code.quiet_builtin _ (by decide +kernel)) entry_typeCall (wpAny_check_type_call_sub hC (kw_type hT hC hi hb ?_))
  refine codeAny_mono z fun r s' y => ?_
  rcases r with e | (u | _ | _ | _) <;> exact y
end
/-- what a call of an own error class by its field's name does -/
def MakesK (P : Program) (w : World) (K : Frag) (mg : Str → Option Value) (C : Addr) (f : Str) : Prop :=
  ∀ (A : Around) (mb : Str → Option Value) (s : Shared) (v : Value) (R : Value → Shared → Prop) (E : Value → Shared → Prop), K.In s.heap → s.heap.Ns mainGlobals mg → s.heap.Ns builtinsNs mb → mb "super" = some (.type "super") → s.heap.NoLimit → A.depth + 1 < recursionLimit →
    (∀ h' tk e d, MadeE s.heap h' e C d [(f, v)] → R (.ref e) { s with heap := h', toks := tk }) → wpAny (model P w) A (call (.ref C) [] [(f, v)]) R E s
theorem err_madeK {P : Program} {w : World} {K : Frag} {mg : Str → Option Value} {C fI : Addr} {f : Str} (T : ErrTxt P K f C fI) (hs1 : mg "super" = none) : MakesK P w K mg C f := by
  intro A mb s v R E X hG hB hs2 hlim hroom hq
  obtain ⟨nm, q, N, bs, bm, sn, sub, ab, col, dd, k0, k1, k2, k3, k5, hC, hbm, hal⟩ := T.cls
  obtain ⟨hp, g, dr, tk, os⟩ := s
  have kp : ∀ b o, hp.get? b = some o → ((hp.push (kdv_tup [])).push (excO C hp.objs.size)).get? b = some o := fun b o e => Heap.get?_push_of_some _ (Heap.get?_push_of_some _ e)
  have hget : ((hp.push (kdv_tup [])).push (excO C hp.objs.size)).get? (hp.objs.size + 1) = some (excO C hp.objs.size) := by heap_get
  have none1 : hp.get? (hp.objs.size + 1) = none := by
    cases e : hp.get? (hp.objs.size + 1) with
    | none => rfl
    | some o => have z2 : hp.objs.size + 1 < hp.objs.size := Heap.lt_size e; omega
  have hnx : K.lookup (hp.objs.size + 1) = none := by
    cases e : K.lookup (hp.objs.size + 1) with
    | none => rfl
    | some o =>
      have z : hp.get? (hp.objs.size + 1) = some o := X _ _ e
      rw [none1] at z; cases z
  refine wpAny_call (kw_call (fun X => refsVE_contains X bm hbm) (X _ _ hC) (looks_findIn X T.iC) (fun self => bind_fn X self T.tC) ?_)
  refine err_init (s := ⟨(hp.push (kdv_tup [])).push (excO C hp.objs.size), g, dr, tk, os⟩) (mg := mg) (mb := mb) (v := v) T (X.keeps kp) (hG.keeps kp) (hB.keeps kp) hs1 hs2 (hlim.keeps kp) hget hnx ?_ (fun oc od fd osl e => T.bK oc od fd osl e _ _ _ (X.keeps kp)) fun h' tk' dx ie => ?_
  · show A.depth + 1 < recursionLimit
    exact hroom
  · have k2 := ie.keep
    have old : ∀ b o, hp.get? b = some o → h'.get? b = some o := fun b o e => k2 b o (Nat.ne_of_lt (Nat.lt_succ_of_lt (Heap.lt_size e))) (kp b o e)
    have dn := ie.dbig
    have z : hp.objs.size + 1 + 1 ≤ dx := by
      first
        | (simpa only [Heap.size_push] using dn)
        | exact dn
        | (have q := dn; rw [Heap.size_push, Heap.size_push] at q; exact q)
    obtain ⟨t1, ho⟩ := ie.obj
    have z3 : hp.objs.size ≤ dx := by omega
    exact ⟨rfl, hq h' tk' (hp.objs.size + 1) (some dx) ⟨old, none1, ⟨_, _, ho, ⟨rfl, rfl⟩, rfl, rfl⟩, .inr ⟨dx, f, v, rfl, rfl, z3, ie.dne, ie.ns⟩⟩⟩
end Er
namespace Fw
open PySem PySem.Spec PyProof.Rows L2
structure ErrAtK (P : Program) (w : World) (K : PySem.W.Frag) (mg : Str → Option Value) (en : En) (c : Nat) (x f : Str) : Prop where
  ex : ∃ C, en.cl[c]? = some (C, [f]) ∧ mg x = some (.ref C) ∧ PySem.W.keepIn K (.ref C) = true ∧ Er.MakesK P w K mg C f
theorem PE.errK {X : Cx} {en : En} {W : WX} {k c : Nat} {x f : Str} {p pos kpos : Pos} {e : Expr} {me : EM} (D : ErrAtK X.prog X.w X.K X.mg en c x f) (G : Good en X W k) (hg : Gl X x) (he : PE X e (tE en W me))
    (hall : (backToKw pos (keywordEach [⟨some f, e, kpos⟩] X.env)).all (·.1.isSome) = true := by rfl) (hks : (backToKw pos (keywordEach [⟨some f, e, kpos⟩] X.env)).filterMap (·.1) = [f] := by rfl) (hdb : (x == ("__debug__" : Str)) = false := by decide)
    (hpl : ((backTo pos (starEach [] X.env)).any (·.1) || (backToKw pos (keywordEach [⟨some f, e, kpos⟩] X.env)).any (·.1.isNone)) = false := by rfl) :
    PE X (.Call (.Name x p) [] [⟨some f, e, kpos⟩] pos) (tE en W (mErr c 1 (aCons me aNil))) := by
  obtain ⟨C, hc, hm, hkp, hmk⟩ := D.ex
  refine ⟨fun pins s σ H Q I t => ?_⟩
  refine wpAny_Call_Name_kw (ld_glob I hg hm ?_ hdb)
  have t2 : tE en W me σ H fun x H1 => ∀ d H2 a, Grown [f] x d H1 H2 → H2 a = none → Q (.ref a) (upd H2 a (.ext (exoφ a (.ref C) d))) := by
    obtain ⟨ρ, ss, h, rel, rs, fn⟩ := err_read hc rfl t
    refine ⟨ρ, ss, h, rel, rs, ?_⟩
    unfold aCons at fn
    cases e1 : me ss h with
    | stuck => simp only [e1, Res.bind, fin] at fn
    | ex c' xs h1 => simp only [e1, Res.bind, fin] at fn; exact fn
    | ok y h1 =>
      simp only [e1, Res.bind, aNil] at fn
      intro ρ1 H1 b p1 rel1 rb
      obtain ⟨v, o, z⟩ := fn ρ1 H1 [b] p1 rel1 (.cons rb .nil)
      rcases o with o | ⟨o, _⟩
      · cases o; exact z
      · cases o
  refine PySem.W.callWith_KW0 (h₀ := X.base) I.ok.mod.kin hkp hall ?_ hpl
  refine thn ((pk_cons he pk_nil).run pos pins s σ H (fun vs H1 => ∃ v, vs = [v] ∧ ∀ d H2 a, Grown [f] v d H1 H2 → H2 a = none → Q (.ref a) (upd H2 a (.ext (exoφ a (.ref C) d)))) I ?_) fun us s1 ⟨vs, H1, I1, r, v, ev, q⟩ => ⟨I1.kIn, ?_⟩
  · exact t2.imp fun b H1 z => ⟨b, rfl, z⟩
  · subst ev
    rw [hks]
    obtain ⟨v', rfl, rv⟩ : ∃ v', us = [v'] ∧ RelV v v' := by
      cases r with
      | cons rv rn => cases rn; exact ⟨_, rfl, rv⟩
    obtain ⟨mb, h1, h2⟩ := I1.ok.mod.blt
    refine hmk X.A mb s1 v' _ _ I1.kIn (I1.ok.mod.glob.keeps I1.bk) (h1.keeps I1.bk) ((h2 _ (by decide)).trans rfl) I1.nolimit (by have := G.room.dp; omega) fun h' tk a d M => ?_
    obtain ⟨G', H2, J, g1, g2, g3, g4⟩ := made_inv (tk' := tk) (ns := [f]) I1 M (by simp) rv
    obtain ⟨oe, fv, hoe, hz, hdat, _⟩ := M.obj
    exact ⟨.ref a, _, J.laidN (t' := tk) (o := .ext (exoφ a (.ref C) d)) (h' := h') g2 g1 g3 (exo_ok hoe hz hdat), rfl, q d H2 a g4 g3⟩
end Fw
namespace Fw
open PySem PySem.Spec PyProof.Rows L2
section
variable {X : Cx} {en : En} {W : WX} {x : Str} {pos : Pos}
/-- a module's constant -/
theorem PE.gint {i : Int} (hm : ∃ t, X.mg x = some (.int i t)) (hg : Gl X x) (hd : (x == ("__debug__" : Str)) = false := by decide) : PE X (.Name x pos) (tE en W (mC (.int i))) := by
  obtain ⟨t, hm⟩ := hm
  exact PEimp (pe_glob hg hm (v := .int i) ⟨t, rfl⟩ hd) (constOf fun _ => rfl)
theorem PE.gstr {i : Str} (hm : ∃ t, X.mg x = some (.str i t)) (hg : Gl X x) (hd : (x == ("__debug__" : Str)) = false := by decide) : PE X (.Name x pos) (tE en W (mC (.str i))) := by
  obtain ⟨t, hm⟩ := hm
  exact PEimp (pe_glob hg hm (v := .str i) ⟨t, rfl⟩ hd) (constOf fun _ => rfl)
end
section
variable {X : Cx} {en : En} {W : WX} {pos : Pos} {k : Nat}
/-- a list comprehension, the block's state of affairs handed on -/
theorem PE.lcG {elt tg iter : Expr} {ifs : List Expr} {scope : Scope} {own : List (Str × Nat)} {m : IM} {g : GM} {t : BM} {e : EM} (G : Good en X W k) (hN : X.N.Nodup) (hi : PI X tg iter (tI en W m)) (ok : BlkOk X.N X.env.scope scope own)
    (hg : ∀ (s : Shared) (H : Hp) (C : Addr) (cl : List (Str × Addr)) (fp : List Addr), Good en (X.blk s H scope (compEnvC scope cl C X.env) fp) W0 k → PG (X.blk s H scope (compEnvC scope cl C X.env) fp) tg (tG en (own.map (·.2)) g))
    (ht : ∀ (s : Shared) (H : Hp) (C : Addr) (cl : List (Str × Addr)) (fp : List Addr), Good en (X.blk s H scope (compEnvC scope cl C X.env) fp) W0 k → PTs (X.blk s H scope (compEnvC scope cl C X.env) fp) ifs (tT en W0 t))
    (he : ∀ (s : Shared) (H : Hp) (C : Addr) (cl : List (Str × Addr)) (fp : List Addr), Good en (X.blk s H scope (compEnvC scope cl C X.env) fp) W0 k → PE (X.blk s H scope (compEnvC scope cl C X.env) fp) elt (tE en W0 e)) (hs : ∀ x, foldedSetIterable iter X.env x = pure x := by intro _; rfl) :
    PE X (.ListComp elt [⟨tg, iter, ifs, 0⟩] scope pos) (tE en W (mLc m g t e (own.map (·.2)))) :=
  PE.lc G.calm hN hi ok (fun s H C cl fp => hg s H C cl fp (G.blk s H _ _ fp)) (fun s H C cl fp => ht s H C cl fp (G.blk s H _ _ fp)) (fun s H C cl fp => he s H C cl fp (G.blk s H _ _ fp)) hs
theorem PS.setLcG {i : Nat} {y : Str} {py : Pos} {elt tg iter : Expr} {ifs : List Expr} {scope : Scope} {own : List (Str × Nat)} {spos : Pos} {m : IM} {g : GM} {t : BM} {e : EM} (G : Good en X W k) (hN : X.N.Nodup) (hy : X.N[i]? = some y) (hyl : X.env.scope.names.lookup y = some .local)
    (hsw : swapsWith (.ListComp elt [⟨tg, iter, ifs, 0⟩] scope pos) (some (.Name y py)) spos.line X.env = pure true) (hi : PI X tg iter (tI en W m)) (ok : BlkOk X.N X.env.scope scope own)
    (hg : ∀ (s : Shared) (H : Hp) (C : Addr) (cl : List (Str × Addr)) (fp : List Addr), Good en (X.blk s H scope (compEnvC scope cl C X.env) fp) W0 k → PG (X.blk s H scope (compEnvC scope cl C X.env) fp) tg (tG en (own.map (·.2)) g))
    (ht : ∀ (s : Shared) (H : Hp) (C : Addr) (cl : List (Str × Addr)) (fp : List Addr), Good en (X.blk s H scope (compEnvC scope cl C X.env) fp) W0 k → PTs (X.blk s H scope (compEnvC scope cl C X.env) fp) ifs (tT en W0 t))
    (he : ∀ (s : Shared) (H : Hp) (C : Addr) (cl : List (Str × Addr)) (fp : List Addr), Good en (X.blk s H scope (compEnvC scope cl C X.env) fp) W0 k → PE (X.blk s H scope (compEnvC scope cl C X.env) fp) elt (tE en W0 e)) (hs : ∀ x, foldedSetIterable iter X.env x = pure x := by intro _; rfl) :
    PS X (.Assign [.Name y py] (.ListComp elt [⟨tg, iter, ifs, 0⟩] scope pos) spos) (tS en W (mSet i (mLc m g t e (own.map (·.2))))) :=
  PS.setLc G.calm hN hy hyl hsw hi ok (fun s H C cl fp => hg s H C cl fp (G.blk s H _ _ fp)) (fun s H C cl fp => ht s H C cl fp (G.blk s H _ _ fp)) (fun s H C cl fp => he s H C cl fp (G.blk s H _ _ fp)) hs
end
section
variable {P : Program} {w : World} {K : PySem.W.Frag} {mg : Str → Option Value} {base : Heap} {en : En}
theorem DefAt.mk' {k : Nat} {x : Str} {np nn : Nat} {m : SM} {f : Addr} {fd : FuncData} {ps : List Str} {q : Str} {st : Stmt} (hm : mg x = some (.ref f)) (F : L2.Fun K x q st f fd) (G : FnG P w K mg base k f fd ps (spM en np (mFn np nn m))) (hb : Binds K fd ps []) : DefAt P w K mg base en k x np (mFn np nn m) :=
  ⟨⟨f, fd, ps, hm, F.kp, G, hb⟩, fun vs h e => mFn_len e⟩
end
end Fw
namespace Fw
open PySem PySem.Spec PyProof.Rows L2
section
variable {P : Program} {w : World} {K : PySem.W.Frag} {mg mb : Str → Option Value} {k : Nat} {fa a : Addr} {fd : FuncData} {x : Str} {s : Shared} {vs : List Value} {ns : List Int}
/-- the law, called over an abstract heap that tracks the script at most -/
theorem head_at (KX : K.In s.heap) (hns : s.heap.Ns mainGlobals mg) (hb : s.heap.Ns builtinsNs mb) (hbb : ∀ y : Str, y ≠ "__name__" → mb y = bootBuiltins y) (hlim : s.heap.NoLimit) (hmods : ∃ mm, s.heap.Ns sysModules mm) (hg : s.gens = #[])
    (ha : s.heap.get? a = some { cls := .type "list", data := .seq vs.toArray }) (hr : Room k callerA) (hbind : ∀ (t : Shared) (u : Value), BindsTo t fd ⟨[u], []⟩ [(x, u)]) {H : Hp} (only : Only H) (own : ∀ b, H b ≠ none → b = a) (apart : H a ≠ none → K.lookup a = none) (ok : HOk P w H s.heap) {sp : Sp}
    (F : ∀ base : Heap, K.In base → base.Ns mainGlobals mg → (∃ o, base.get? sysModules = some o) → FnG P w K mg base k fa fd [x] sp) (hsp : sp [.ref a] H (fun v _ => v = .bl true) fun _ _ _ => False) :
    codeAny (model P w) callerA (.call (.ref fa) ⟨[.ref a], []⟩) (fun r s' => r = .ok (.ret (.bool true)) ∧ OldK s.heap s'.heap ∧ s'.os = s.os ∧ AllBare s'.gens) s := by
  -- a dict isn't tracked, so every namespace stands in the base too
  have free : ∀ {b : Addr} {o : Obj} {es : Array DictEntry} {ep : Nat}, s.heap.get? b = some o → o.data = .dict es ep → H b = none := fun {b o es ep} e d => by
    by_cases z : H b = none
    · exact z
    · have hb := own b z
      subst hb
      rw [ha] at e; cases e; cases d
  have nsB : ∀ {b : Addr} {m : Str → Option Value}, s.heap.Ns b m → (hidT s.heap H).Ns b m := fun ⟨o, es, ep, e, d, r⟩ => ⟨o, es, ep, hidT_get e (free e d), d, r⟩
  have kB : K.In (hidT s.heap H) := fun b o e => hidT_get (KX b o e) (by
    by_cases z : H b = none
    · exact z
    · have hb := own b z
      subst hb
      rw [apart z] at e; cases e)
  have mod : Mod K mg (hidT s.heap H) := ⟨kB, nsB hns, ⟨mb, nsB hb, hbb⟩, by obtain ⟨mc, h1, h2⟩ := hlim; exact ⟨mc, nsB h1, h2⟩⟩
  have sm : ∃ o, (hidT s.heap H).get? sysModules = some o := by
    obtain ⟨mm, hm⟩ := hmods
    obtain ⟨o, _, _, e, _⟩ := nsB hm
    exact ⟨o, e⟩
  have e0 : Env0 P w K mg (hidT s.heap H) callerA [] s H := ⟨rfl, mod, fun b o e => of_hidT e, Nat.le_of_eq (hidT_size _ _), trivial, (fun b z => absurd (show b ∈ ([] : List Addr) from z) (by simp)), ok, .of_eq hg⟩
  refine codeAny_mono ((F _ kB mod.glob sm).run callerA [] s H ⟨[.ref a], []⟩ [.ref a] [.ref a] _ _ hr rfl e0 (hbind s (.ref a)) (.cons rfl .nil) hsp) fun r s' z => ?_
  match r, z with
  | .error e, ⟨_, _, _, _, _, _, _, _, _, _, _, _, f⟩ => exact f.elim
  | .ok (.ret u), ⟨v, H', os, bare, un, ok', ru, q⟩ =>
    subst q
    have eu : u = Value.bool true := ru
    subst eu
    refine ⟨rfl, OldK.of_keep fun b o e => ?_, os, bare⟩
    rcases only b with q | ⟨ob, xs, q⟩
    · exact un.keep b o e q (fun z => absurd (show b ∈ ([] : List Addr) from z) (by simp)) (by simp)
    · obtain ⟨e1, _⟩ := ok b _ q
      obtain ⟨e2, _⟩ := ok' b _ (un.frzs b ob _ q)
      rw [e] at e1; cases e1
      exact e2
  | .ok .next, z => exact False.elim z
  | .ok .brk, z => exact False.elim z
  | .ok .cont, z => exact False.elim z
/-- .. wherever the script stands -/
theorem head_run (KX : K.In s.heap) (hns : s.heap.Ns mainGlobals mg) (hb : s.heap.Ns builtinsNs mb) (hbb : ∀ y : Str, y ≠ "__name__" → mb y = bootBuiltins y) (hlim : s.heap.NoLimit) (hmods : ∃ mm, s.heap.Ns sysModules mm) (hg : s.gens = #[])
    (ha : s.heap.get? a = some { cls := .type "list", data := .seq vs.toArray }) (hi : IntsAre vs ns) (hl : ns.length ≤ sizeLine) (hr : Room k callerA) (hbind : ∀ (t : Shared) (u : Value), BindsTo t fd ⟨[u], []⟩ [(x, u)])
    {nn : Nat} {en : En} {m : SM} {h2 : SH} (hk : en.K = K) (ea : en.a0 = a) (en' : en.ns = ns) (F : ∀ base : Heap, K.In base → base.Ns mainGlobals mg → (∃ o, base.get? sysModules = some o) → FnG P w K mg base k fa fd [x] (spM en 1 (mFn 1 nn m))) (law : mFn 1 nn m [.scr ns] [] = .ok (.bl true) h2) :
    codeAny (model P w) callerA (.call (.ref fa) ⟨[.ref a], []⟩) (fun r s' => r = .ok (.ret (.bool true)) ∧ OldK s.heap s'.heap ∧ s'.os = s.os ∧ AllBare s'.gens) s := by
  have rv := vals_ints hi
  have done : ∀ H : Hp, ((∃ o, H en.a0 = some (.frz o (.lst (en.ns.map V.int)))) ∨ SqL en.K (fun _ => none) en.a0 (en.ns.map V.int)) → spM en 1 (mFn 1 nn m) [.ref a] H (fun v _ => v = .bl true) fun _ _ _ => False := fun H h => by
    refine ⟨rfl, [], [.scr ns], [], ⟨rfl, .nil, fun i b o e => by simp at e, ?_⟩, .cons ⟨by rw [ea], en'.symm⟩ .nil, ?_⟩
    · rcases h with ⟨o, z⟩ | z
      · exact .inl ⟨o, z, by simp⟩
      · exact .inr z
    · rw [law]
      exact fun ρ' H u p rel r => r
  cases hq : K.lookup a with
  | some o =>
    have e := KX a o hq
    rw [ha] at e; cases e
    refine head_at KX hns hb hbb hlim hmods hg ha hr hbind (H := fun _ => none) (fun b => .inl rfl) (fun b z => absurd rfl z) (fun z => absurd rfl z) (fun b u z => nomatch z) F (done _ (.inr ?_))
    rw [hk, ea, en']
    exact .inr ⟨_, vs.toArray, _, hq, rfl, rfl, rfl, by rw [List.size_toArray, hi.length]; exact hl, by simpa using rv⟩
  | none =>
    have at_ : ∀ {b : Addr} {u : HO}, (if b = a then some (HO.frz { cls := .type "list", data := .seq vs.toArray } (.lst (ns.map V.int))) else none) = some u → b = a ∧ u = .frz { cls := .type "list", data := .seq vs.toArray } (.lst (ns.map V.int)) := fun {b u} z => by
      split at z
      · rename_i hb; cases z; exact ⟨hb, rfl⟩
      · cases z
    refine head_at KX hns hb hbb hlim hmods hg ha hr hbind (H := fun b => if b = a then some (.frz { cls := .type "list", data := .seq vs.toArray } (.lst (ns.map V.int))) else none) (fun b => ?_) (fun b z => ?_) (fun _ => hq) (fun b u z => ?_) F (done _ (.inl ⟨{ cls := .type "list", data := .seq vs.toArray }, ?_⟩))
    · by_cases hb : b = a
      · exact .inr ⟨_, _, if_pos hb⟩
      · exact .inl (if_neg hb)
    · by_cases hb : b = a
      · exact hb
      · exact absurd (if_neg hb) z
    · obtain ⟨rfl, rfl⟩ := at_ z
      exact ⟨ha, by rw [List.length_map]; exact hl, vs, _, rv, ha⟩
    · rw [ea, en']; exact if_pos rfl
end
end Fw
namespace Fw
open PySem PySem.Spec PyProof.Rows L2
/-- THE END: the law's row from its def and its meaning's answer -/
theorem walk_ofG {l : PySem.W.OpenLaw} {n k nn : Nat} {q : Program} {loose : List Str} {XP : (Str → Option Value) → Heap → Prop} {YP : World → Heap → Prop} {d : DefRec} {K : Params → PySem.W.Frag} {x : Str} {m : SM}
    (hn : l.most = some n) (hn2 : n ≤ sizeLine) (hdf : d.params.defaults = []) (hr : Room k callerA) (himp : importsNone q = true) (hY : ∀ (w : World) (h : Heap), YP w h → (K w.params).In h)
    (F : ∀ (w : World) (mg : Str → Option Value) (fa : Addr) (h : Heap), (K w.params).In h → h.Ns mainGlobals mg → mg d.name = some (.ref fa) →
      ∃ (fd : FuncData) (cl : List (Addr × List Str)), (∀ (s : Shared) (u : Value), BindsTo s fd ⟨[u], []⟩ [(x, u)]) ∧
        ∀ (base : Heap) (a0 : Addr) (ns : List Int), (K w.params).In base → base.Ns mainGlobals mg → (∃ o, base.get? sysModules = some o) → FnG l.prog w (K w.params) mg base k fa fd [x] (spM ⟨cl, K w.params, a0, ns, []⟩ 1 (mFn 1 nn m)))
    (law : ∀ ns : List Int, ns.length ≤ n → (∀ z ∈ ns, Builtin.Int.intBits z ≤ 1048576) → ∃ h2, mFn 1 nn m [.scr ns] [] = .ok (.bl true) h2) :
    PySem.W.WalkO q loose XP YP l.row.toRowW d [] (fun f vs => PySem.call f vs) := by
  refine Att.attach_callB hn hdf fun w s₀ s₁ mg mb fa o pm cd doc a vs ns G Y ho hd hcd hmg hobj hints hlen hbits hg => ?_
  have KX := hY w _ Y
  obtain ⟨fd, cl, hb, hF⟩ := F w mg fa _ KX G.T.g hmg
  obtain ⟨mm, hmm, _⟩ := (G.T.seer himp).mods
  obtain ⟨h2, hl⟩ := law ns hlen hbits
  exact head_run (en := ⟨cl, K w.params, a, ns, []⟩) KX G.T.g G.T.b G.T.builtins G.T.nolimit ⟨mm, hmm⟩ hg hobj hints (Nat.le_trans hlen hn2) hr hb rfl rfl rfl (fun base h1 h2 h3 => hF base a ns h1 h2 h3) hl
theorem one_of {us : List Value} {d : Value} (h : (us ++ [d]).length = 2) : ∃ a, us = [a] := by
  match us, h with
  | [], h => simp at h
  | [a], _ => exact ⟨a, rfl⟩
  | _ :: _ :: _, h => simp at h
theorem two_of {us : List Value} (h : (us ++ []).length = 2) : ∃ a b, us = [a, b] := by
  match us, h with
  | [], h => simp at h
  | [_], h => simp at h
  | [a, b], _ => exact ⟨a, b, rfl⟩
  | _ :: _ :: _ :: _, h => simp at h
end Fw
namespace Er
open PySem PySem.W PySem.Calls PyProof.Rows PySem.HandSPX
theorem along_of {K : Frag} {nm q : Str} {C N : Addr} {bs bm : List Value} {hdct : Bool} {sn : List Str} {sub : List Value} {ab : Bool} {col : Option Bool} {dd : Option Addr} {k0 k1 k2 k3 k5 : Option Value} {newId : String} {m : Str} {r : Option (Option Value)}
    (xL : K.lookup C = some (excClassObj nm q C N bs bm hdct sn sub ab col dd k0 k1 k2 k3 k5 newId)) (h : ks_superIn K C C m = r) : alongIn K m bm = r := by
  have hcl : clsIn K C = some { name := nm, bases := bs, mro := .ref C :: bm, ns := N, qualname := q, hasDict := hdct, slotNames := sn, subclasses := sub, abstract := ab, collection := col, hasDel := false } := by unfold clsIn; rw [xL] <;> rfl
  unfold ks_superIn at h
  rw [hcl, Option.bind_some] at h
  rwa [ESX.drop_own] at h
end Er
namespace Fw
open PySem PySem.Spec L2
theorem fin.bind {α β γ δ : Type} {en : En} {W : WX} {R1 : List Addr → α → β → Prop} {R2 : List Addr → γ → δ → Prop} {σ : L2.St} {ρ : List Addr} {r : Res α} {k : α → SH → Res γ} {Q : δ → Hp → Prop} (f : fin en W R2 σ ρ (r.bind k) Q) :
    fin en W R1 σ ρ r fun x H1 => ∃ ρ1 a h1, Pre ρ ρ1 ∧ Rel en ρ1 h1 H1 ∧ R1 ρ1 a x ∧ fin en W R2 σ ρ1 (k a h1) Q := by
  cases r with
  | stuck => exact f
  | ok a h => exact fun ρ' H' b p rel rb => ⟨ρ', a, h, p, rel, rb, fin.mono p f⟩
  | ex c xs h => exact f
theorem fin.imp {α β : Type} {en : En} {W : WX} {R : List Addr → α → β → Prop} {σ : L2.St} {ρ : List Addr} {r : Res α} {Q Q' : β → Hp → Prop} (f : fin en W R σ ρ r Q) (k : ∀ b H, Q b H → Q' b H) : fin en W R σ ρ r Q' := by
  cases r with
  | stuck => exact f
  | ok a h => exact fun ρ' H' b p rel rb => k _ _ (f ρ' H' b p rel rb)
  | ex c xs h => exact f
/-! ### d.get(k, z), d.setdefault(k, z) -/
def isDct (h : SH) (v : SV) : Bool := match v with
  | .ref i => match h[i]? with
    | some (.dK _) => true
    | some (.dT _) => true
    | _ => false
  | _ => false
abbrev O3 := SV → SV → SV → SH → Option (SV × SH)
def mD3 (op : O3) (mo mk md : EM) : EM := fun ss h => (mo ss h).bind fun o h1 => if isDct h1 o = true then (mk ss h1).bind fun k h2 => (md ss h2).bind fun z h3 => lift (op o k z h3) else .stuck
def opGet2 : O3 := fun o k z h => match o with
  | .ref i => match h[i]? with
    | some ob => match dictGet h ob k with
      | some r => some (r.getD z, h)
      | none => none
    | none => none
  | _ => none
def opSetd : O3 := fun o k z h => match o with
  | .ref i => match h[i]? with
    | some (.dK kvs) => match keyOf k with
      | some kk => if kvs.length < big then match getS kvs kk with
        | some x => some (x, h)
        | none => some (z, h.set i (.dK (putS kvs kk z)))
        else none
      | none => none
    | _ => none
  | _ => none
section
variable {X : Cx} {en : En} {W : WX} {o e f : Expr} {mo mk md : EM} {apos cpos : Pos}
theorem isDct_rel {ρ : List Addr} {h : SH} {H : Hp} {a : SV} {v : V} (rel : Rel en ρ h H) (ra : RS en ρ a v) (e : isDct h a = true) : ∃ i p, a = .ref i ∧ v = .ref p ∧ ρ[i]? = some p ∧ IsD H p := by
  unfold isDct at e
  split at e
  · rename_i i
    obtain ⟨p, ep, rfl⟩ := ra
    split at e
    · rename_i kvs ei
      obtain ⟨kws, e1, _⟩ := rel.at2 ep ei
      exact ⟨_, p, rfl, rfl, ep, .inl ⟨kws, .inl e1⟩⟩
    · rename_i kvs ei
      obtain ⟨kws, e1, _⟩ := rel.at2 ep ei
      exact ⟨_, p, rfl, rfl, ep, .inr ⟨kws, .inl e1⟩⟩
    · cases e
  · cases e
theorem tD3 {op : O3} (σ : L2.St) (H : Hp) (Q : VK) (t : tE en W (mD3 op mo mk md) σ H Q) : tE en W mo σ H fun x H1 => ∃ a, x = .ref a ∧ IsD H1 a ∧ tE en W mk σ H1 fun y H2 => tE en W md σ H2 fun z H3 =>
    ∃ ρ h i k d, Rel en ρ h H3 ∧ ρ[i]? = some a ∧ RS en ρ k y ∧ RS en ρ d z ∧ finO en ρ (op (.ref i) k d h) Q := by
  obtain ⟨ρ, ss, h, rel, rs, f⟩ := t
  refine ⟨ρ, ss, h, rel, rs, (fin.bind (R1 := RS en) f).imp fun x H1 ⟨ρ1, a, h1, p1, rel1, ra, f1⟩ => ?_⟩
  split at f1
  · rename_i hd
    obtain ⟨i, p, rfl, rfl, ep, id⟩ := isDct_rel rel1 ra hd
    refine ⟨p, rfl, id, ρ1, ss, h1, rel1, rs.mono p1, (fin.bind (R1 := RS en) f1).imp fun y H2 ⟨ρ2, k, h2, p2, rel2, rk, f2⟩ => ?_⟩
    refine ⟨ρ2, ss, h2, rel2, rs.mono (p1.trans p2), (fin.bind (R1 := RS en) f2).imp fun z H3 ⟨ρ3, d, h3, p3, rel3, rd, f3⟩ => ?_⟩
    exact ⟨ρ3, h3, i, k, d, rel3, (p2.trans p3).get ep, rk.mono p3, rd, f3.lift⟩
  · exact f1.elim
theorem PE.get2 (hu : X.A.units + 1 < cLine) (ho : PE X o (tE en W mo)) (he : PE X e (tE en W mk)) (hf : PE X f (tE en W md)) (m : M2 X o "get" apos e f cpos := by exact ⟨rfl, rfl, rfl, rfl⟩) :
    PE X (.Call (.Attribute o "get" apos) [e, f] [] cpos) (tE en W (mD3 opGet2 mo mk md)) :=
  PEimp (pe_dget2 hu ho he hf m) fun σ H Q t => (tD3 σ H Q t).imp fun x H1 ⟨a, ex, id, t1⟩ => ⟨a, ex, id, t1.imp fun y H2 t2 => t2.imp fun z H3 ⟨ρ, h, i, k, d, rel, ep, rk, rd, fo⟩ => by
    obtain ⟨v, h', e1, q⟩ := fo
    unfold opGet2 at e1
    dsimp only at e1
    split at e1
    · rename_i ob eo
      split at e1
      · rename_i r er
        obtain ⟨g1, g2⟩ := dictGet_rel rel eo ep er rk
        cases r with
        | none => exact ⟨none, g2 rfl, finO.here ⟨_, _, e1, q⟩ rel rd⟩
        | some x => obtain ⟨w, gw, rw'⟩ := g1 x rfl; exact ⟨some w, gw, finO.here ⟨_, _, e1, q⟩ rel rw'⟩
      · cases e1
    · cases e1⟩
theorem PE.setd (ho : PE X o (tE en W mo)) (he : PE X e (tE en W mk)) (hf : PE X f (tE en W md)) (m : M2 X o "setdefault" apos e f cpos := by exact ⟨rfl, rfl, rfl, rfl⟩) :
    PE X (.Call (.Attribute o "setdefault" apos) [e, f] [] cpos) (tE en W (mD3 opSetd mo mk md)) :=
  PEimp (pe_dsetd ho he hf m) fun σ H Q t => (tD3 σ H Q t).imp fun x H1 ⟨a, ex, id, t1⟩ => ⟨a, ex, id, t1.imp fun y H2 t2 => t2.imp fun z H3 ⟨ρ, h, i, k, d, rel, ep, rk, rd, fo⟩ => by
    obtain ⟨v, h', e1, q⟩ := fo
    unfold opSetd at e1
    dsimp only at e1
    split at e1
    · rename_i kvs eo
      obtain ⟨kws, eh, rkv⟩ := rel.at2 ep eo
      split at e1
      · rename_i kk ek
        split at e1
        · rename_i hl
          have hle : kws.length = kvs.length := (Paired.length rkv).symm
          refine ⟨kws, kk, eh, keyOf_rel ek rk, by rw [hle, big_eq]; exact hl, fun w ew => ?_, fun en' => ?_⟩
          · cases g : getS kvs kk with
            | none => rw [(RK.get rkv).2 g] at ew; cases ew
            | some x =>
              obtain ⟨w', ew', rw'⟩ := (RK.get rkv).1 x g
              rw [ew'] at ew; cases ew
              rw [g] at e1
              exact finO.here ⟨_, _, e1, q⟩ rel rw'
          · cases g : getS kvs kk with
            | some x =>
              obtain ⟨w', ew', rw'⟩ := (RK.get rkv).1 x g
              rw [ew'] at en'; cases en'
            | none =>
              rw [g] at e1
              exact finO.put ⟨_, _, e1, q⟩ rel ep ⟨_, upd_same, RK.put rd rkv⟩ rd
        · cases e1
      · cases e1
    · cases e1⟩
/-! ### list(range(a)), list(range(a, b)) -/
def rngS (a b : Int) : List SV := (List.range (b - a).toNat).map fun i : Nat => SV.int (a + (i : Nat))
def opLR2 : O2 := fun x y h => match x, y with
  | .int a, .int b => if (rngB a && rngB b && decide ((b - a).toNat ≤ 16777216)) = true then alloc (.lst (rngS a b)) h else none
  | _, _ => none
def opLR1 : O1 := fun x h => opLR2 (.int 0) x h
theorem rngS_rel {ρ : List Addr} (a b : Int) : RSs en ρ (rngS a b) (rgV a b) := by
  unfold rngS rgV
  generalize List.range (b - a).toNat = l
  induction l with
  | nil => exact .nil
  | cons i l ih => exact .cons rfl ih
theorem rgOk_of {a b : Int} (h : (rngB a && rngB b && decide ((b - a).toNat ≤ 16777216)) = true) : RgOk a b := by
  rw [Bool.and_eq_true, Bool.and_eq_true] at h
  obtain ⟨⟨h1, h2⟩, h3⟩ := h
  have z1 := rngB_of h1
  have z2 := rngB_of h2
  have z3 := of_decide_eq_true h3
  exact ⟨z1.1, z1.2, z2.1, z2.2, by
    have e : (2 : Nat) ^ 24 = 16777216 := by decide
    rw [e]; exact z3⟩
theorem opLR2_q {ρ : List Addr} {h : SH} {H : Hp} {a b : Int} {Q : VK} (rel : Rel en ρ h H) (fo : finO en ρ (opLR2 (.int a) (.int b) h) Q) : RgOk a b ∧ ∀ q, H q = none → Q (.ref q) (upd H q (.lst (rgV a b))) := by
  obtain ⟨v, h', e1, q⟩ := fo
  unfold opLR2 at e1
  dsimp only at e1
  split at e1
  · rename_i hk
    exact ⟨rgOk_of hk, finO.newLst ⟨_, _, e1, q⟩ rel (rngS_rel a b)⟩
  · cases e1
theorem PE.lr2 {x p p2 pos : _} (hc : X.calm = true) (hg : Gl X "list") (hm : X.mg "list" = none) (hg2 : Gl X "range") (hm2 : X.mg "range" = none) (he : PE X e (tE en W mo)) (hf : PE X f (tE en W md))
    (na : starEach [.Call (.Name "range" p2) [e, f] [] pos] X.env = (false, eval (.Call (.Name "range" p2) [e, f] [] pos) X.env) :: starEach [] X.env := by rfl) (n1 : starEach [e, f] X.env = (false, eval e X.env) :: starEach [f] X.env := by rfl)
    (n2 : starEach [f] X.env = (false, eval f X.env) :: starEach [] X.env := by rfl) (hp : (backTo pos (starEach [f] X.env)).any (·.1) = false := by rfl) :
    PE X (.Call (.Name "list" p) [.Call (.Name "range" p2) [e, f] [] pos] [] x) (tE en W (mO2 opLR2 mo md)) :=
  PEimp (pe_listRg hc hg hm (prg_2 hg2 hm2 he hf n1 n2 hp) na) fun σ H Q t => by
    obtain ⟨ρ, ss, h, rel, rs, f0⟩ := t
    refine ⟨ρ, ss, h, rel, rs, (fin.bind (R1 := RS en) f0).imp fun x H1 ⟨ρ1, a, h1, p1, rel1, ra, f1⟩ => ?_⟩
    refine ⟨ρ1, ss, h1, rel1, rs.mono p1, (fin.bind (R1 := RS en) f1).imp fun y H2 ⟨ρ2, b, h2, p2, rel2, rb, f2⟩ => ?_⟩
    have fo := f2.lift
    have ra2 := ra.mono p2
    cases a with
    | int i =>
      cases b with
      | int j => cases ra; cases rb; exact ⟨i, j, rfl, rfl, opLR2_q rel2 fo⟩
      | _ => obtain ⟨_, _, e, _⟩ := fo; cases e
    | _ => obtain ⟨_, _, e, _⟩ := fo; cases e
theorem PE.lr1 {x p p2 pos : _} (hc : X.calm = true) (hg : Gl X "list") (hm : X.mg "list" = none) (hg2 : Gl X "range") (hm2 : X.mg "range" = none) (he : PE X e (tE en W mo))
    (na : starEach [.Call (.Name "range" p2) [e] [] pos] X.env = (false, eval (.Call (.Name "range" p2) [e] [] pos) X.env) :: starEach [] X.env := by rfl) (n1 : starEach [e] X.env = (false, eval e X.env) :: starEach [] X.env := by rfl) :
    PE X (.Call (.Name "list" p) [.Call (.Name "range" p2) [e] [] pos] [] x) (tE en W (mO1 opLR1 mo)) :=
  PEimp (pe_listRg hc hg hm (prg_1 hg2 hm2 he n1) na) fun σ H Q t => by
    obtain ⟨ρ, ss, h, rel, rs, f0⟩ := t
    refine ⟨ρ, ss, h, rel, rs, (fin.bind (R1 := RS en) f0).imp fun x H1 ⟨ρ1, a, h1, p1, rel1, ra, f1⟩ => ?_⟩
    have fo := f1.lift
    cases a with
    | int i => cases ra; exact ⟨i, rfl, opLR2_q rel1 fo⟩
    | _ => obtain ⟨_, _, e, _⟩ := fo; cases e
end
end Fw
namespace Fw
open PySem PySem.Spec L2
/-! ### for k, v in d.items(): the dict is held under a lock while the loop runs -/
def keyS : Key → SV
  | .inl i => .int i
  | .inr x => .str x
theorem keyS_rel {en : En} {ρ : List Addr} (k : Key) : RS en ρ (keyS k) (kV k) := by
  cases k <;> rfl
def wkIt (r : Nat) : Wk := fun h i => match h[r]? with
  | some (.lk kvs) => match kvs[i]? with
    | some (k, x) => some (some (.ref h.length, h ++ [.tup [keyS k, x]]))
    | none => some none
  | _ => none
def mIt (m : EM) : IM := fun ss h => (m ss h).bind fun v h1 => match v with
  | .ref r => match h1[r]? with
    | some (.lk _) => .ok (wkIt r) h1
    | _ => .stuck
  | _ => .stuck
def unS (i : Nat) (r : SR) : SR := match r with
  | .nx ss h => match h[i]? with
    | some (.lk kvs) => .nx ss (h.set i (.dK kvs))
    | _ => .stuck
  | .rt v h => match h[i]? with
    | some (.lk kvs) => .rt v (h.set i (.dK kvs))
    | _ => .stuck
  | .bk ss h => match h[i]? with
    | some (.lk kvs) => .bk ss (h.set i (.dK kvs))
    | _ => .stuck
  | .ct ss h => match h[i]? with
    | some (.lk kvs) => .ct ss (h.set i (.dK kvs))
    | _ => .stuck
  | _ => .stuck
def mItems (m : EM) (g : GM) (mb : SM) : SM := fun ss h => match m ss h with
  | .ok (.ref i) _ => match h[i]? with
    | some (.dK kvs) => unS i (mFor (mIt m) g mb ss (h.set i (.lk kvs)))
    | _ => .stuck
  | _ => .stuck
def En.fzd (en : En) (l : List (Addr × Obj × List (Key × V))) : En := { en with fz := l }
section
variable {X : Cx} {en : En} {W : WX}
theorem RK.at {ρ : List Addr} : ∀ {kvs : List (Key × SV)} {kws : List (Key × V)} {i : Nat} {k : Key} {x : SV}, RK en ρ kvs kws → kvs[i]? = some (k, x) → ∃ v, kws[i]? = some (k, v) ∧ RS en ρ x v
  | p :: kvs, q :: kws, 0, k, x, .cons r t, e => by
    have e' : p = (k, x) := by simpa using e
    subst e'
    exact ⟨q.2, by rw [show k = q.1 from r.1]; rfl, r.2⟩
  | p :: kvs, q :: kws, i + 1, k, x, .cons r t, e => by
    obtain ⟨v, e1, e2⟩ := RK.at (i := i) (k := k) (x := x) t (by simpa using e)
    exact ⟨v, by simpa using e1, e2⟩
theorem itIt {ρ : List Addr} {r : Nat} {p : Addr} {o : Obj} {kws : List (Key × V)} (ep : ρ[r]? = some p) (ef : en.fz.lookup p = some (o, kws)) : ItOk en ρ (Iti p o kws) (wkIt r) := fun ρ2 h2 H2 i pr rel => by
  have ep2 := pr.get ep
  unfold wkIt
  refine ⟨fun e => ?_, fun x h3 e => ?_⟩
  · split at e
    · rename_i ei
      obtain ⟨o', kws', ef', eh, rk⟩ := rel.at2 ep2 ei
      rw [ef] at ef'; cases ef'
      split at e
      · cases e
      · rename_i en'
        exact ⟨eh, by rw [← Paired.length rk]; exact List.getElem?_eq_none_iff.mp en'⟩
    · cases e
  · split at e
    · rename_i ei
      obtain ⟨o', kws', ef', eh, rk⟩ := rel.at2 ep2 ei
      rw [ef] at ef'; cases ef'
      split at e
      · rename_i k y ex
        cases e
        obtain ⟨w, ew, rw'⟩ := RK.at rk ex
        refine ⟨⟨eh, (List.getElem?_eq_some_iff.mp ew).1⟩, fun v H3 ⟨T, k', v', e1, ev, nT, eH⟩ => ?_⟩
        rw [ew] at e1; cases e1; subst ev; subst eH
        exact ⟨ρ2 ++ [T], Pre.one ρ2 T, rel.push nT ⟨_, upd_same, .cons (keyS_rel k) (.cons (rw'.mono (Pre.one ρ2 T)) .nil)⟩, ⟨T, by rw [← rel.len, List.getElem?_append_right (Nat.le_refl _)]; simp, rfl⟩⟩
      · cases e
    · cases e
theorem PI.items {e : Expr} {m : EM} {elts : List Expr} {kk : Nat} {tpos apos cpos : Pos} (he : PE X e (tE en W m)) (hbase : attributeBase e "items" X.env (eval e X.env) = eval e X.env := by rfl) (hline : (apos.endLine == cpos.line) = true := by rfl) :
    PI X (.Tuple elts kk tpos) (.Call (.Attribute e "items" apos) [] [] cpos) (tI en W (mIt m)) :=
  PIimp (pi_items he hbase hline) fun σ H R t => tI.bind (R1 := RS en) t fun ρ h a b H1 rel r q => by
    cases a with
    | ref i =>
      obtain ⟨p, ep, rfl⟩ := r
      cases ei : h[i]? with
      | none => simp only [ei] at q
      | some ob =>
        cases ob with
        | lk kvs =>
          simp only [ei] at q
          obtain ⟨o, kws, ef, eh, rk⟩ := rel.at2 ep ei
          exact ⟨p, o, kws, rfl, eh, q ρ H1 _ (Pre.refl ρ) rel (itIt ep ef)⟩
        | _ => simp only [ei] at q
    | _ => exact q.elim
/-- one more lock, or one less: what is held otherwise stays so -/
theorem ro_fz {ρ : List Addr} {H : Hp} {a : Addr} {l l' : List (Addr × Obj × List (Key × V))} (ne : ∀ (o : Obj) (kws : List (Key × V)), H a = some (.frz o (.dK kws)) → l.lookup a = some (o, kws) → l'.lookup a = some (o, kws)) {u : SO} (r : RO (en.fzd l) ρ H a u) : RO (en.fzd l') ρ H a u := by
  cases u with
  | lk kvs => obtain ⟨o, kws, ef, eh, rk⟩ := r; exact ⟨o, kws, ne o kws eh ef, eh, rk⟩
  | _ => exact r
theorem Rel.fz {ρ : List Addr} {h : SH} {H : Hp} {l l' : List (Addr × Obj × List (Key × V))} (ne : ∀ (a : Addr) (o : Obj) (kws : List (Key × V)), H a = some (.frz o (.dK kws)) → l.lookup a = some (o, kws) → l'.lookup a = some (o, kws)) (r : Rel (en.fzd l) ρ h H) : Rel (en.fzd l') ρ h H :=
  ⟨r.len, r.nd, fun i a o ea eo => ro_fz (ne a) (r.ob i a o ea eo), r.sc⟩
theorem PS.items {tg e : Expr} {body : List Stmt} {m : EM} {g : GM} {mb : SM} {pos : Pos} (hb : ∀ l, PS X (.For tg e body [] pos) (tS (en.fzd l) W (mFor (mIt m) g mb))) : PS X (.For tg e body [] pos) (tS en W (mItems m g mb)) := by
  refine ⟨fun pins s σ H D I t => ?_⟩
  obtain ⟨ρ, ss, h, rel, rs, f⟩ := t
  unfold mItems at f
  cases e1 : m ss h with
  | stuck => simp only [e1] at f; exact f.elim
  | ex c xs h1 => simp only [e1] at f; exact f.elim
  | ok v h1 =>
    cases v with
    | ref i =>
      simp only [e1] at f
      cases ei : h[i]? with
      | none => simp only [ei] at f; exact f.elim
      | some ob =>
        cases ob with
        | dK kvs =>
          simp only [ei] at f
          obtain ⟨p, ep, kws, eh, rk⟩ := rel.at ei
          obtain ⟨od, I1⟩ := I.lock eh trivial
          have nf := I.nofrz eh trivial
          have look : ((p, od, kws) :: en.fz).lookup p = some (od, kws) := by simp [List.lookup]
          have skip : ∀ a, a ≠ p → ((p, od, kws) :: en.fz).lookup a = en.fz.lookup a := fun a n => by
            have hb : (a == p) = false := by simpa using n
            rw [List.lookup_cons, hb]
          have rel1 : Rel (en.fzd ((p, od, kws) :: en.fz)) ρ h H := Rel.fz (l := en.fz) (en := en) (fun a o kw ea el => by
            rw [skip a (fun z => by subst z; rw [eh] at ea; cases ea)]; exact el) rel
          have rel2 : Rel (en.fzd ((p, od, kws) :: en.fz)) ρ (h.set i (.lk kvs)) (upd H p (.frz od (.dK kws))) := rel1.put ep ⟨od, kws, look, upd_same, rk⟩
          have back : ∀ {ρ' : List Addr} {h2 : SH} {H2 : Hp} {kv2 : List (Key × SV)}, Pre ρ ρ' → h2[i]? = some (.lk kv2) → Rel (en.fzd ((p, od, kws) :: en.fz)) ρ' h2 H2 → ∃ o2 kw2, H2 p = some (.frz o2 (.dK kw2)) ∧ Rel en ρ' (h2.set i (.dK kv2)) (upd H2 p (.dK kw2)) := fun {ρ' h2 H2 kv2} pr e2 r2 => by
            obtain ⟨o2, kw2, ef2, eh2, rk2⟩ := r2.at2 (pr.get ep) e2
            refine ⟨o2, kw2, eh2, ?_⟩
            have z : Rel (en.fzd ((p, od, kws) :: en.fz)) ρ' (h2.set i (.dK kv2)) (upd H2 p (.dK kw2)) := r2.put (pr.get ep) ⟨kw2, upd_same, rk2⟩
            exact Rel.fz (en := en) (l' := en.fz) (fun a o kw ea el => by
              rw [skip a (fun y => by subst y; rw [upd_same] at ea; cases ea)] at el; exact el) z
          have run := (hb ((p, od, kws) :: en.fz)).run pins s σ _ ⟨fun σ' H' => ∃ o2 kw2, H' p = some (.frz o2 (.dK kw2)) ∧ D.nx σ' (upd H' p (.dK kw2)), fun v H' => ∃ o2 kw2, H' p = some (.frz o2 (.dK kw2)) ∧ D.rt v (upd H' p (.dK kw2)), fun σ' H' => ∃ o2 kw2, H' p = some (.frz o2 (.dK kw2)) ∧ D.bk σ' (upd H' p (.dK kw2)), fun σ' H' => ∃ o2 kw2, H' p = some (.frz o2 (.dK kw2)) ∧ D.ct σ' (upd H' p (.dK kw2))⟩ I1 ⟨ρ, ss, h.set i (.lk kvs), rel2, ⟨rs.len, rs.at_⟩, by
            cases er : mFor (mIt m) g mb ss (h.set i (.lk kvs)) with
            | stuck => rw [er] at f; exact f
            | ex c xs s2 h2 => rw [er] at f; exact f.elim
            | nx s2 h2 =>
              rw [er] at f
              unfold unS at f
              dsimp only at f
              split at f
              · rename_i kv2 e2
                intro ρ' σ' H' pr r2 rs2
                obtain ⟨o2, kw2, z1, z2⟩ := back pr e2 r2
                exact ⟨o2, kw2, z1, f ρ' σ' _ pr z2 ⟨rs2.len, rs2.at_⟩⟩
              · exact f.elim
            | bk s2 h2 =>
              rw [er] at f
              unfold unS at f
              dsimp only at f
              split at f
              · rename_i kv2 e2
                intro ρ' σ' H' pr r2 rs2
                obtain ⟨o2, kw2, z1, z2⟩ := back pr e2 r2
                exact ⟨o2, kw2, z1, f ρ' σ' _ pr z2 ⟨rs2.len, rs2.at_⟩⟩
              · exact f.elim
            | ct s2 h2 =>
              rw [er] at f
              unfold unS at f
              dsimp only at f
              split at f
              · rename_i kv2 e2
                intro ρ' σ' H' pr r2 rs2
                obtain ⟨o2, kw2, z1, z2⟩ := back pr e2 r2
                exact ⟨o2, kw2, z1, f ρ' σ' _ pr z2 ⟨rs2.len, rs2.at_⟩⟩
              · exact f.elim
            | rt v h2 =>
              rw [er] at f
              unfold unS at f
              dsimp only at f
              split at f
              · rename_i kv2 e2
                intro ρ' H' u pr r2 ru
                obtain ⟨o2, kw2, z1, z2⟩ := back pr e2 r2
                exact ⟨o2, kw2, z1, f ρ' _ u pr z2 ru⟩
              · exact f.elim⟩
          refine thn run fun fl s1 q => ?_
          cases fl with
          | next => obtain ⟨σ', H', I2, o2, kw2, e, q⟩ := q; exact ⟨σ', _, I2.unlock e nf, q⟩
          | brk => obtain ⟨σ', H', I2, o2, kw2, e, q⟩ := q; exact ⟨σ', _, I2.unlock e nf, q⟩
          | cont => obtain ⟨σ', H', I2, o2, kw2, e, q⟩ := q; exact ⟨σ', _, I2.unlock e nf, q⟩
          | ret v => obtain ⟨x, σ', H', I2, r, o2, kw2, e, q⟩ := q; exact ⟨x, σ', _, I2.unlock e nf, r, q⟩
        | _ => simp only [ei] at f; exact f.elim
    | _ => simp only [e1] at f; exact f.elim
end
end Fw
namespace Fw
open PySem PySem.Spec L2
theorem ClsF.fz {en : En} {c : Nat} {C : Addr} {ns : List Str} {l : List (Addr × Obj × List (Key × V))} (h : ClsF en c C ns) : ClsF (en.fzd l) c C ns := ⟨h.at_, h.cls, h.no, h.nd, h.few⟩
theorem FldOk.fz {en : En} {f : Str} {ix : List (Option Nat)} {l : List (Addr × Obj × List (Key × V))} (h : FldOk en f ix) : FldOk (en.fzd l) f ix := fun c k e => let ⟨C, ns, q, z⟩ := h c k e; ⟨C, ns, q.fz, z⟩
theorem Good.fz {en : En} {X : Cx} {W : WX} {k : Nat} {l : List (Addr × Obj × List (Key × V))} (h : Good en X W k) : Good (en.fzd l) X W k := ⟨h.1, h.2, h.3, h.4, h.5, h.6, h.7⟩
end Fw
namespace Fw
open PySem PySem.Spec L2
theorem exm_of {K : PySem.W.Frag} {S C : Addr} {b : Bool} (h1 : PySem.W.subIn K (.ref S) (.type "BaseException") = some true) (h2 : PySem.W.isClsIn K S = true) (h3 : PySem.W.typeIn K (.ref S) = some (.type "type")) (h4 : PySem.W.subIn K (.ref C) (.ref S) = some b) :
    PySem.W.exmOne K (.ref C) (.ref S) = some b := by
  have e1 : (PySem.W.subIn K (.ref S) (.type "BaseException") == some true) = true := by rw [h1] <;> rfl
  have e2 : ((PySem.W.clsIn K S).isSome && PySem.W.typeIn K (.ref S) == some (.type "type")) = true := by
    have h2' : (PySem.W.clsIn K S).isSome = true := h2
    rw [h2', h3] <;> rfl
  show (if (PySem.W.subIn K (.ref S) (.type "BaseException") == some true) = true then (if ((PySem.W.clsIn K S).isSome && PySem.W.typeIn K (.ref S) == some (.type "type")) = true then PySem.W.subIn K (.ref C) (.ref S) else none) else none) = some b
  rw [if_pos e1, if_pos e2]
  exact h4
end Fw
namespace Fw
open PySem PySem.Spec L2
/-! ## Runs of meanings, without a machine: what a run must bring, from the end to the front -/
/-- what stood stays -/
def Le (h h' : SH) : Prop := ∀ (j : Nat) (o : SO), h[j]? = some o → h'[j]? = some o
theorem Le.refl (h : SH) : Le h h := fun _ _ e => e
theorem Le.trans {a b c : SH} (x : Le a b) (y : Le b c) : Le a c := fun j o e => y j o (x j o e)
theorem Le.push (h : SH) (o : SO) : Le h (h ++ [o]) := fun j u e => by
  rw [List.getElem?_append_left (List.getElem?_eq_some_iff.mp e).1]; exact e
theorem Le.len {h h' : SH} (x : Le h h') : h.length ≤ h'.length := by
  cases e : h.length with
  | zero => exact Nat.zero_le _
  | succ n =>
    have q : h[n]? = some h[n] := List.getElem?_eq_getElem (by omega)
    have := (List.getElem?_eq_some_iff.mp (x n _ q)).1
    omega
theorem new_at (h : SH) (o : SO) : (h ++ [o])[h.length]? = some o := by rw [List.getElem?_append_right (Nat.le_refl _)]; simp
theorem set_at {h : SH} {i : Nat} {o u : SO} (e : h[i]? = some u) : (h.set i o)[i]? = some o := List.getElem?_set_self (List.getElem?_eq_some_iff.mp e).1
theorem set_ne {h : SH} {i j : Nat} {o : SO} (n : i ≠ j) : (h.set i o)[j]? = h[j]? := List.getElem?_set_ne n
/-- a run that answers, and what of its answer -/
def Is {α : Type} (r : Res α) (P : α → SH → Prop) : Prop := match r with
  | .ok a h => P a h
  | _ => False
theorem Is.mono {α : Type} {r : Res α} {P Q : α → SH → Prop} (x : Is r P) (k : ∀ a h, P a h → Q a h) : Is r Q := by
  cases r with
  | ok a h => exact k a h x
  | stuck => exact x
  | ex c xs h => exact x
theorem Is.bind {α β : Type} {r : Res α} {k : α → SH → Res β} {P : β → SH → Prop} (x : Is r fun a h => Is (k a h) P) : Is (r.bind k) P := by
  cases r with
  | ok a h => exact x
  | stuck => exact x
  | ex c xs h => exact x
theorem Is.out {α : Type} {r : Res α} {P : α → SH → Prop} (x : Is r P) : ∃ a h, r = .ok a h ∧ P a h := by
  cases r with
  | ok a h => exact ⟨a, h, rfl, x⟩
  | stuck => exact x.elim
  | ex c xs h => exact x.elim
/-- .. of a statement: behind it, returned, broken off, gone on -/
def Ist (r : SR) (N : SS → SH → Prop) (R : SV → SH → Prop) (B C : SS → SH → Prop) : Prop := match r with
  | .nx ss h => N ss h
  | .rt v h => R v h
  | .bk ss h => B ss h
  | .ct ss h => C ss h
  | _ => False
section
variable {N B C N' B' C' : SS → SH → Prop} {R R' : SV → SH → Prop} {ss : SS} {h : SH} {P : SV → SH → Prop}
theorem Ist.mono {r : SR} (x : Ist r N R B C) (kn : ∀ s h, N s h → N' s h) (kr : ∀ v h, R v h → R' v h) (kb : ∀ s h, B s h → B' s h) (kc : ∀ s h, C s h → C' s h) : Ist r N' R' B' C' := by
  cases r with
  | nx s h => exact kn _ _ x
  | rt v h => exact kr _ _ x
  | bk s h => exact kb _ _ x
  | ct s h => exact kc _ _ x
  | stuck => exact x
  | ex c xs s h => exact x
theorem Ist.then {α : Type} {r : Res α} {k : α → SH → SR} (x : Is r fun a h => Ist (k a h) N R B C) : Ist (thenS r ss k) N R B C := by
  cases r with
  | ok a h => exact x
  | stuck => exact x
  | ex c xs h => exact x
theorem Ist.seq {m1 m2 : SM} (x : Ist (m1 ss h) (fun s h => Ist (m2 s h) N R B C) R B C) : Ist (mSeq m1 m2 ss h) N R B C := by
  unfold mSeq
  cases e : m1 ss h with
  | nx s h => rw [e] at x; exact x
  | rt v h => rw [e] at x; exact x
  | bk s h => rw [e] at x; exact x
  | ct s h => rw [e] at x; exact x
  | stuck => rw [e] at x; exact x
  | ex c xs s h => rw [e] at x; exact x
theorem Ist.nil (x : N ss h) : Ist (mNil ss h) N R B C := x
theorem Ist.set {i : Nat} {m : EM} (x : Is (m ss h) fun v h1 => N (ss.set i (some v)) h1) : Ist (mSet i m ss h) N R B C := Ist.then x
theorem Ist.ret {m : EM} (x : Is (m ss h) R) : Ist (mRet m ss h) N R B C := Ist.then x
theorem Ist.drop {m : EM} (x : Is (m ss h) fun _ h1 => N ss h1) : Ist (mDrop m ss h) N R B C := Ist.then x
theorem Ist.ite {t : BM} {m1 m2 : SM} (x : Is (t ss h) fun b h1 => if b = true then Ist (m1 ss h1) N R B C else Ist (m2 ss h1) N R B C) : Ist (mIfS t m1 m2 ss h) N R B C := Ist.then (x.mono fun b h1 y => by
  cases b with
  | true => exact y
  | false => exact y)
theorem Ist.st {me mo mi : EM} (x : Is (me ss h) fun v h1 => Is (mo ss h1) fun o h2 => Is (mi ss h2) fun i h3 => ∃ h4, opSt o i v h3 = some h4 ∧ N ss h4) : Ist (mSt me mo mi ss h) N R B C := by
  refine Ist.then (x.mono fun v h1 y => Ist.then (y.mono fun o h2 z => Ist.then (z.mono fun i h3 w => ?_)))
  obtain ⟨h4, e, n⟩ := w
  rw [e]; exact n
theorem Is.var {i : Nat} {v : SV} (e : ss[i]? = some (some v)) (p : P v h) : Is (mVar i ss h) P := by
  unfold mVar; rw [e]; exact p
theorem Is.c {v : SV} (p : P v h) : Is (mC v ss h) P := p
theorem Is.lift {α : Type} {o : Option (α × SH)} {P : α → SH → Prop} (x : ∃ a h, o = some (a, h) ∧ P a h) : Is (lift o) P := by
  obtain ⟨a, h, rfl, p⟩ := x; exact p
theorem Is.o1 {op : O1} {ma : EM} (x : Is (ma ss h) fun a h1 => ∃ v h2, op a h1 = some (v, h2) ∧ P v h2) : Is (mO1 op ma ss h) P := Is.bind (x.mono fun a h1 y => Is.lift y)
theorem Is.o2 {op : O2} {ma mb : EM} (x : Is (ma ss h) fun a h1 => Is (mb ss h1) fun b h2 => ∃ v h3, op a b h2 = some (v, h3) ∧ P v h3) : Is (mO2 op ma mb ss h) P := Is.bind (x.mono fun a h1 y => Is.bind (y.mono fun b h2 z => Is.lift z))
theorem Is.oa {op : OA} {ma : AM} (x : Is (ma ss h) fun a h1 => ∃ v h2, op a h1 = some (v, h2) ∧ P v h2) : Is (mOA op ma ss h) P := Is.bind (x.mono fun a h1 y => Is.lift y)
theorem Is.anil {P : List SV → SH → Prop} (p : P [] h) : Is (aNil ss h) P := p
theorem Is.acons {P : List SV → SH → Prop} {ma : EM} {mr : AM} (x : Is (ma ss h) fun v h1 => Is (mr ss h1) fun vs h2 => P (v :: vs) h2) : Is (aCons ma mr ss h) P := Is.bind (x.mono fun a h1 y => Is.bind (y.mono fun b h2 z => z))
theorem Is.call {f : FM} {ma : AM} (x : Is (ma ss h) fun vs h1 => Is (f vs h1) P) : Is (mCall f ma ss h) P := Is.bind x
theorem Is.fn {np n : Nat} {m : SM} {vs : List SV} (hl : vs.length = np) (x : Ist (m (vs.map some ++ List.replicate (n - vs.length) none) h) (fun _ h => P .non h) P (fun _ _ => False) (fun _ _ => False)) : Is (mFn np n m vs h) P := by
  unfold mFn
  rw [if_pos hl]
  cases e : m (vs.map some ++ List.replicate (n - vs.length) none) h with
  | nx s h => rw [e] at x; exact x
  | rt v h => rw [e] at x; exact x
  | bk s h => rw [e] at x; exact x.elim
  | ct s h => rw [e] at x; exact x.elim
  | stuck => rw [e] at x; exact x
  | ex c xs s h => rw [e] at x; exact x
/-- tests -/
theorem Is.bm {P : Bool → SH → Prop} {m : EM} (x : Is (m ss h) fun v h1 => ∃ b, v = .bl b ∧ P b h1) : Is (mB m ss h) P := Is.bind (x.mono fun v h1 y => by
  obtain ⟨b, rfl, p⟩ := y; exact p)
theorem Is.tru {P : Bool → SH → Prop} {m : EM} (x : Is (m ss h) fun v h1 => Is (opTru v h1) P) : Is (mTru m ss h) P := Is.bind x
theorem Is.bnot {P : Bool → SH → Prop} {t : BM} (x : Is (t ss h) fun b h1 => P (!b) h1) : Is (bNot t ss h) P := Is.bind x
theorem Is.band {P : Bool → SH → Prop} {s t : BM} (x : Is (s ss h) fun b h1 => if b = true then Is (t ss h1) P else P false h1) : Is (bAnd s t ss h) P := Is.bind (x.mono fun b h1 y => by
  cases b with
  | true => exact y
  | false => exact y)
theorem Is.bor {P : Bool → SH → Prop} {s t : BM} (x : Is (s ss h) fun b h1 => if b = true then P true h1 else Is (t ss h1) P) : Is (bOr s t ss h) P := Is.bind (x.mono fun b h1 y => by
  cases b with
  | true => exact y
  | false => exact y)
/-- loops -/
theorem Ist.forM {g : GM} {wk : Wk} {body : SM} {I : Nat → SS → SH → Prop} {len : Nat}
    (hn : ∀ k s h, k < len → I k s h → ∃ x h1 s1, wk h k = some (some (x, h1)) ∧ g x s h1 = some s1 ∧ Ist (body s1 h1) (I (k + 1)) R N (I (k + 1))) (he : ∀ s h, I len s h → wk h len = some none ∧ N s h) :
    ∀ (n i : Nat) (s : SS) (h : SH), i ≤ len → len - i < n → I i s h → Ist (forM g wk body n i s h) N R B C
  | 0, _, _, _, _, hl, _ => absurd hl (by omega)
  | n + 1, i, s, h, hi, hl, inv => by
    unfold Fw.forM
    by_cases e : i = len
    · subst e
      obtain ⟨e1, e2⟩ := he s h inv
      rw [e1]; exact e2
    · obtain ⟨x, h1, s1, e1, e2, e3⟩ := hn i s h (by omega) inv
      rw [e1]
      simp only [e2]
      cases e4 : body s1 h1 with
      | nx s2 h2 => rw [e4] at e3; exact Ist.forM hn he n (i + 1) s2 h2 (by omega) (by omega) e3
      | ct s2 h2 => rw [e4] at e3; exact Ist.forM hn he n (i + 1) s2 h2 (by omega) (by omega) e3
      | bk s2 h2 => rw [e4] at e3; exact e3
      | rt v h2 => rw [e4] at e3; exact e3
      | stuck => rw [e4] at e3; exact e3
      | ex c xs s2 h2 => rw [e4] at e3; exact e3
theorem Ist.for {m : IM} {g : GM} {body : SM} (x : Is (m ss h) fun wk h1 => ∃ (len : Nat) (I : Nat → SS → SH → Prop), len < many ∧ I 0 ss h1 ∧
      (∀ k s h, k < len → I k s h → ∃ x h1 s1, wk h k = some (some (x, h1)) ∧ g x s h1 = some s1 ∧ Ist (body s1 h1) (I (k + 1)) R N (I (k + 1))) ∧ (∀ s h, I len s h → wk h len = some none ∧ N s h)) : Ist (mFor m g body ss h) N R B C := by
  unfold mFor
  cases e : m ss h with
  | ok wk h1 =>
    rw [e] at x
    obtain ⟨len, I, hl, i0, hn, he⟩ := x
    exact Ist.forM hn he many 0 ss h1 (Nat.zero_le _) (by omega) i0
  | stuck => rw [e] at x; exact x
  | ex c xs h1 => rw [e] at x; exact x
theorem Is.rng1 {P : Wk → SH → Prop} {m : AM} (x : Is (m ss h) fun vs h1 => ∃ j, vs = [.int j] ∧ rngB j = true ∧ P (wkRng 0 j.toNat) h1) : Is (mRng1 m ss h) P := Is.bind (x.mono fun vs h1 y => by
  obtain ⟨j, rfl, hj, p⟩ := y
  show Is (if rngB j = true then _ else _) P
  rw [if_pos hj]; exact p)
theorem Is.rng2 {P : Wk → SH → Prop} {m : AM} (x : Is (m ss h) fun vs h1 => ∃ i j, vs = [.int i, .int j] ∧ rngB i = true ∧ rngB j = true ∧ P (wkRng i (j - i).toNat) h1) : Is (mRng2 m ss h) P := Is.bind (x.mono fun vs h1 y => by
  obtain ⟨i, j, rfl, hi, hj, p⟩ := y
  show Is (if (rngB i && rngB j) = true then _ else _) P
  rw [if_pos (by rw [hi, hj]; rfl)]; exact p)
theorem Is.walkL {P : Wk → SH → Prop} {m : EM} (x : Is (m ss h) fun v h1 => ∃ r xs, v = .ref r ∧ h1[r]? = some (.lst xs) ∧ P (wkL r) h1) : Is (mWalk m ss h) P := Is.bind (x.mono fun v h1 y => by
  obtain ⟨r, xs, rfl, e, p⟩ := y
  show Is (match h1[r]? with | some (.lst _) => Res.ok (wkL r) h1 | some (.tup _) => .ok (wkT r) h1 | _ => .stuck) P
  rw [e]; exact p)
theorem wkL_at {h : SH} {r k : Nat} {xs : List SV} {x : SV} (e : h[r]? = some (.lst xs)) (ex : xs[k]? = some x) : wkL r h k = some (some (x, h)) := by
  unfold wkL; rw [e]; simp only [ex]
theorem wkL_end {h : SH} {r : Nat} {xs : List SV} (e : h[r]? = some (.lst xs)) : wkL r h xs.length = some none := by
  unfold wkL; rw [e]; simp
theorem wkRng_at {h : SH} {lo : Int} {n k : Nat} (hk : k < n) : wkRng lo n h k = some (some (.int (lo + k), h)) := by
  unfold wkRng; rw [if_pos hk]
theorem wkRng_end {h : SH} {lo : Int} {n : Nat} : wkRng lo n h n = some none := by
  unfold wkRng; rw [if_neg (Nat.lt_irrefl _)]
/-- a list comprehension -/
theorem Is.lcM {g : GM} {wk : Wk} {t : BM} {e : EM} {is : List Nat} {D : Nat} {I : Nat → List SV → SH → Prop} {len : Nat}
    (hn : ∀ k acc h, k < len → h[D]? = some (.lst acc) → I k acc h → ∃ x h1 s1, wk h k = some (some (x, h1)) ∧ g x (wipeS ss is) h1 = some s1 ∧ Is (t s1 h1) fun b h2 =>
      if b = true then Is (e s1 h2) (fun y h3 => h3[D]? = some (.lst acc) ∧ acc.length < big ∧ I (k + 1) (acc ++ [y]) (h3.set D (.lst (acc ++ [y])))) else h2[D]? = some (.lst acc) ∧ I (k + 1) acc h2)
    (he : ∀ acc h, h[D]? = some (.lst acc) → I len acc h → wk h len = some none ∧ P (.ref D) h) :
    ∀ (n i : Nat) (acc : List SV) (h : SH), i ≤ len → len - i < n → h[D]? = some (.lst acc) → I i acc h → Is (lcM g wk t e is D ss n i h) P
  | 0, _, _, _, _, hl, _, _ => absurd hl (by omega)
  | n + 1, i, acc, h, hi, hl, hd, inv => by
    unfold Fw.lcM
    by_cases q : i = len
    · subst q
      obtain ⟨e1, e2⟩ := he acc h hd inv
      rw [e1]; exact e2
    · obtain ⟨x, h1, s1, e1, e2, e3⟩ := hn i acc h (by omega) hd inv
      rw [e1]
      simp only [e2]
      obtain ⟨b, h2, e4, e5⟩ := e3.out
      rw [e4]
      cases b with
      | false =>
        simp only [Bool.false_eq_true, if_false] at e5 ⊢
        exact Is.lcM hn he n (i + 1) acc h2 (by omega) (by omega) e5.1 e5.2
      | true =>
        simp only [if_true] at e5 ⊢
        obtain ⟨y, h3, e6, e7, e8, e9⟩ := e5.out
        rw [e6]
        simp only [e7, if_pos e8]
        exact Is.lcM hn he n (i + 1) (acc ++ [y]) (h3.set D (.lst (acc ++ [y]))) (by omega) (by omega) (set_at e7) e9
theorem Is.lc {m : IM} {g : GM} {t : BM} {e : EM} {is : List Nat} (x : Is (m ss h) fun wk h0 => ∃ (len : Nat) (I : Nat → List SV → SH → Prop), len < many ∧ I 0 [] (h0 ++ [.lst []]) ∧
      (∀ k acc h, k < len → h[h0.length]? = some (.lst acc) → I k acc h → ∃ x h1 s1, wk h k = some (some (x, h1)) ∧ g x (wipeS ss is) h1 = some s1 ∧ Is (t s1 h1) fun b h2 =>
        if b = true then Is (e s1 h2) (fun y h3 => h3[h0.length]? = some (.lst acc) ∧ acc.length < big ∧ I (k + 1) (acc ++ [y]) (h3.set h0.length (.lst (acc ++ [y])))) else h2[h0.length]? = some (.lst acc) ∧ I (k + 1) acc h2) ∧
      (∀ acc h, h[h0.length]? = some (.lst acc) → I len acc h → wk h len = some none ∧ P (.ref h0.length) h)) : Is (mLc m g t e is ss h) P := by
  unfold mLc
  cases q : m ss h with
  | ok wk h0 =>
    rw [q] at x
    obtain ⟨len, I, hl, i0, hn, he⟩ := x
    exact Is.lcM hn he many 0 [] (h0 ++ [.lst []]) (Nat.zero_le _) (by omega) (new_at _ _) i0
  | stuck => rw [q] at x; exact x
  | ex c xs h1 => rw [q] at x; exact x
end
end Fw
namespace Fw
open PySem PySem.Spec L2
/-! the drawing of numbers that every law begins with: the defs' meanings, and what they answer -/
theorem mul_is {i j : Int} {h : SH} {P : SV → SH → Prop} (k : okMul i j = true) (p : P (.int (i * j)) h) : ∃ v h3, opMul (.int i) (.int j) h = some (v, h3) ∧ P v h3 := ⟨_, _, by show (if okMul i j = true then _ else _) = _; rw [if_pos k], p⟩
theorem mod_is {i j : Int} {h : SH} {P : SV → SH → Prop} (k : 0 < j) (p : P (.int (i % j)) h) : ∃ v h3, opMod (.int i) (.int j) h = some (v, h3) ∧ P v h3 := ⟨_, _, by show (if 0 < j then _ else _) = _; rw [if_pos k], p⟩
theorem fdiv_is {i j : Int} {h : SH} {P : SV → SH → Prop} (k : 0 < j ∧ j.natAbs.log2 < 9000) (p : P (.int (i / j)) h) : ∃ v h3, opFdiv (.int i) (.int j) h = some (v, h3) ∧ P v h3 := ⟨_, _, by show (if 0 < j ∧ j.natAbs.log2 < 9000 then _ else _) = _; rw [if_pos k], p⟩
theorem okMul_r {i j : Int} (h1 : -18446744073709551616 < j) (h2 : j < 18446744073709551616) : okMul i j = true := decide_eq_true (.inr ⟨h1, h2⟩)
theorem okMul_l {i j : Int} (h1 : -18446744073709551616 < i) (h2 : i < 18446744073709551616) : okMul i j = true := decide_eq_true (.inl ⟨h1, h2⟩)
def hashM : SM := mSeq (mSet 2 (mO2 opMod (mOA (un1 opInt) (aCons (mO2 opAdd (mO2 opAdd (mO2 opAdd (mO2 opMul (mVar 0) (mC (.int 1103515245))) (mO2 opMul (mO2 opMul (mC (.int 7919)) (mVar 1)) (mVar 1))) (mVar 1)) (mC (.int 1))) aNil)) (mC (.int 2147483647))))
  (mSeq (mSet 2 (mO2 opMod (mOA (un1 opInt) (aCons (mO2 opAdd (mO2 opMul (mVar 2) (mVar 2)) (mC (.int 69621))) aNil)) (mC (.int 2147483629)))) (mRet (mO2 opMod (mOA (un1 opInt) (aCons (mO2 opMul (mVar 2) (mC (.int 48271))) aNil)) (mC (.int 2147483587)))))
theorem hash_is {a c : Int} {h : SH} {P : SV → SH → Prop} (c1 : -18446744073709551616 < c) (c2 : c < 18446744073709551616) (p : ∀ r : Int, 0 ≤ r → r < 2147483587 → P (.int r) h) : Is (mFn 2 3 hashM [.int a, .int c] h) P := by
  refine Is.fn rfl ?_
  unfold hashM
  repeat (first | with_reducible refine Is.o2 ?_ | with_reducible refine Is.o1 ?_ | with_reducible refine Is.oa ?_ | with_reducible refine Is.acons ?_ | with_reducible refine Is.anil ?_ | with_reducible refine Is.c ?_ | with_reducible refine Is.var (by with_unfolding_all rfl) ?_ | with_reducible refine Is.call ?_ | with_reducible refine Is.bm ?_ | with_reducible refine Ist.seq ?_ | with_reducible refine Ist.set ?_ | with_reducible refine Ist.ret ?_ | with_reducible refine Ist.ite ?_ | with_reducible refine Ist.st ?_ | with_reducible refine Ist.nil ?_)
  refine mul_is (okMul_r (by decide) (by decide)) ?_
  repeat (first | with_reducible refine Is.o2 ?_ | with_reducible refine Is.o1 ?_ | with_reducible refine Is.oa ?_ | with_reducible refine Is.acons ?_ | with_reducible refine Is.anil ?_ | with_reducible refine Is.c ?_ | with_reducible refine Is.var (by with_unfolding_all rfl) ?_ | with_reducible refine Is.call ?_ | with_reducible refine Is.bm ?_ | with_reducible refine Ist.seq ?_ | with_reducible refine Ist.set ?_ | with_reducible refine Ist.ret ?_ | with_reducible refine Ist.ite ?_ | with_reducible refine Ist.st ?_ | with_reducible refine Ist.nil ?_)
  refine mul_is (okMul_l (by decide) (by decide)) ?_
  repeat (first | with_reducible refine Is.o2 ?_ | with_reducible refine Is.o1 ?_ | with_reducible refine Is.oa ?_ | with_reducible refine Is.acons ?_ | with_reducible refine Is.anil ?_ | with_reducible refine Is.c ?_ | with_reducible refine Is.var (by with_unfolding_all rfl) ?_ | with_reducible refine Is.call ?_ | with_reducible refine Is.bm ?_ | with_reducible refine Ist.seq ?_ | with_reducible refine Ist.set ?_ | with_reducible refine Ist.ret ?_ | with_reducible refine Ist.ite ?_ | with_reducible refine Ist.st ?_ | with_reducible refine Ist.nil ?_)
  refine mul_is (okMul_r c1 c2) ?_
  refine ⟨_, _, rfl, ?_⟩
  repeat (first | with_reducible refine Is.o2 ?_ | with_reducible refine Is.o1 ?_ | with_reducible refine Is.oa ?_ | with_reducible refine Is.acons ?_ | with_reducible refine Is.anil ?_ | with_reducible refine Is.c ?_ | with_reducible refine Is.var (by with_unfolding_all rfl) ?_ | with_reducible refine Is.call ?_ | with_reducible refine Is.bm ?_ | with_reducible refine Ist.seq ?_ | with_reducible refine Ist.set ?_ | with_reducible refine Ist.ret ?_ | with_reducible refine Ist.ite ?_ | with_reducible refine Ist.st ?_ | with_reducible refine Ist.nil ?_)
  refine ⟨_, _, rfl, ?_⟩
  repeat (first | with_reducible refine Is.o2 ?_ | with_reducible refine Is.o1 ?_ | with_reducible refine Is.oa ?_ | with_reducible refine Is.acons ?_ | with_reducible refine Is.anil ?_ | with_reducible refine Is.c ?_ | with_reducible refine Is.var (by with_unfolding_all rfl) ?_ | with_reducible refine Is.call ?_ | with_reducible refine Is.bm ?_ | with_reducible refine Ist.seq ?_ | with_reducible refine Ist.set ?_ | with_reducible refine Ist.ret ?_ | with_reducible refine Ist.ite ?_ | with_reducible refine Ist.st ?_ | with_reducible refine Ist.nil ?_)
  refine ⟨_, _, rfl, ?_⟩
  repeat (first | with_reducible refine Is.o2 ?_ | with_reducible refine Is.o1 ?_ | with_reducible refine Is.oa ?_ | with_reducible refine Is.acons ?_ | with_reducible refine Is.anil ?_ | with_reducible refine Is.c ?_ | with_reducible refine Is.var (by with_unfolding_all rfl) ?_ | with_reducible refine Is.call ?_ | with_reducible refine Is.bm ?_ | with_reducible refine Ist.seq ?_ | with_reducible refine Ist.set ?_ | with_reducible refine Ist.ret ?_ | with_reducible refine Ist.ite ?_ | with_reducible refine Ist.st ?_ | with_reducible refine Ist.nil ?_)
  refine ⟨_, _, rfl, ?_⟩
  repeat (first | with_reducible refine Is.o2 ?_ | with_reducible refine Is.o1 ?_ | with_reducible refine Is.oa ?_ | with_reducible refine Is.acons ?_ | with_reducible refine Is.anil ?_ | with_reducible refine Is.c ?_ | with_reducible refine Is.var (by with_unfolding_all rfl) ?_ | with_reducible refine Is.call ?_ | with_reducible refine Is.bm ?_ | with_reducible refine Ist.seq ?_ | with_reducible refine Ist.set ?_ | with_reducible refine Ist.ret ?_ | with_reducible refine Ist.ite ?_ | with_reducible refine Ist.st ?_ | with_reducible refine Ist.nil ?_)
  refine mod_is (by decide) ?_
  repeat (first | with_reducible refine Is.o2 ?_ | with_reducible refine Is.o1 ?_ | with_reducible refine Is.oa ?_ | with_reducible refine Is.acons ?_ | with_reducible refine Is.anil ?_ | with_reducible refine Is.c ?_ | with_reducible refine Is.var (by with_unfolding_all rfl) ?_ | with_reducible refine Is.call ?_ | with_reducible refine Is.bm ?_ | with_reducible refine Ist.seq ?_ | with_reducible refine Ist.set ?_ | with_reducible refine Ist.ret ?_ | with_reducible refine Ist.ite ?_ | with_reducible refine Ist.st ?_ | with_reducible refine Ist.nil ?_)
  refine mul_is (okMul_r ?_ ?_) ?_
  · omega
  · omega
  repeat (first | with_reducible refine Is.o2 ?_ | with_reducible refine Is.o1 ?_ | with_reducible refine Is.oa ?_ | with_reducible refine Is.acons ?_ | with_reducible refine Is.anil ?_ | with_reducible refine Is.c ?_ | with_reducible refine Is.var (by with_unfolding_all rfl) ?_ | with_reducible refine Is.call ?_ | with_reducible refine Is.bm ?_ | with_reducible refine Ist.seq ?_ | with_reducible refine Ist.set ?_ | with_reducible refine Ist.ret ?_ | with_reducible refine Ist.ite ?_ | with_reducible refine Ist.st ?_ | with_reducible refine Ist.nil ?_)
  refine ⟨_, _, rfl, ?_⟩
  repeat (first | with_reducible refine Is.o2 ?_ | with_reducible refine Is.o1 ?_ | with_reducible refine Is.oa ?_ | with_reducible refine Is.acons ?_ | with_reducible refine Is.anil ?_ | with_reducible refine Is.c ?_ | with_reducible refine Is.var (by with_unfolding_all rfl) ?_ | with_reducible refine Is.call ?_ | with_reducible refine Is.bm ?_ | with_reducible refine Ist.seq ?_ | with_reducible refine Ist.set ?_ | with_reducible refine Ist.ret ?_ | with_reducible refine Ist.ite ?_ | with_reducible refine Ist.st ?_ | with_reducible refine Ist.nil ?_)
  refine ⟨_, _, rfl, ?_⟩
  repeat (first | with_reducible refine Is.o2 ?_ | with_reducible refine Is.o1 ?_ | with_reducible refine Is.oa ?_ | with_reducible refine Is.acons ?_ | with_reducible refine Is.anil ?_ | with_reducible refine Is.c ?_ | with_reducible refine Is.var (by with_unfolding_all rfl) ?_ | with_reducible refine Is.call ?_ | with_reducible refine Is.bm ?_ | with_reducible refine Ist.seq ?_ | with_reducible refine Ist.set ?_ | with_reducible refine Ist.ret ?_ | with_reducible refine Ist.ite ?_ | with_reducible refine Ist.st ?_ | with_reducible refine Ist.nil ?_)
  refine mod_is (by decide) ?_
  repeat (first | with_reducible refine Is.o2 ?_ | with_reducible refine Is.o1 ?_ | with_reducible refine Is.oa ?_ | with_reducible refine Is.acons ?_ | with_reducible refine Is.anil ?_ | with_reducible refine Is.c ?_ | with_reducible refine Is.var (by with_unfolding_all rfl) ?_ | with_reducible refine Is.call ?_ | with_reducible refine Is.bm ?_ | with_reducible refine Ist.seq ?_ | with_reducible refine Ist.set ?_ | with_reducible refine Ist.ret ?_ | with_reducible refine Ist.ite ?_ | with_reducible refine Ist.st ?_ | with_reducible refine Ist.nil ?_)
  refine mul_is (okMul_r (by decide) (by decide)) ?_
  repeat (first | with_reducible refine Is.o2 ?_ | with_reducible refine Is.o1 ?_ | with_reducible refine Is.oa ?_ | with_reducible refine Is.acons ?_ | with_reducible refine Is.anil ?_ | with_reducible refine Is.c ?_ | with_reducible refine Is.var (by with_unfolding_all rfl) ?_ | with_reducible refine Is.call ?_ | with_reducible refine Is.bm ?_ | with_reducible refine Ist.seq ?_ | with_reducible refine Ist.set ?_ | with_reducible refine Ist.ret ?_ | with_reducible refine Ist.ite ?_ | with_reducible refine Ist.st ?_ | with_reducible refine Ist.nil ?_)
  refine ⟨_, _, rfl, ?_⟩
  repeat (first | with_reducible refine Is.o2 ?_ | with_reducible refine Is.o1 ?_ | with_reducible refine Is.oa ?_ | with_reducible refine Is.acons ?_ | with_reducible refine Is.anil ?_ | with_reducible refine Is.c ?_ | with_reducible refine Is.var (by with_unfolding_all rfl) ?_ | with_reducible refine Is.call ?_ | with_reducible refine Is.bm ?_ | with_reducible refine Ist.seq ?_ | with_reducible refine Ist.set ?_ | with_reducible refine Ist.ret ?_ | with_reducible refine Ist.ite ?_ | with_reducible refine Ist.st ?_ | with_reducible refine Ist.nil ?_)
  refine mod_is (by decide) ?_
  exact p _ (by omega) (by omega)
def cellM : SM := mSeq (mIfS (mB (mO2 opLt (mVar 1) (mOA (un1 opLen) (aCons (mVar 0) aNil)))) (mRet (mO2 opIx (mVar 0) (mVar 1))) mNil) (mRet (mC (.int 0)))
theorem cell_is {ns : List Int} {i : Nat} {h : SH} {P : SV → SH → Prop} (p : P (.int (ns.getD i 0)) h) : Is (mFn 2 2 cellM [.scr ns, .int i] h) P := by
  refine Is.fn rfl ?_
  unfold cellM
  repeat (first | with_reducible refine Is.o2 ?_ | with_reducible refine Is.o1 ?_ | with_reducible refine Is.oa ?_ | with_reducible refine Is.acons ?_ | with_reducible refine Is.anil ?_ | with_reducible refine Is.c ?_ | with_reducible refine Is.var (by with_unfolding_all rfl) ?_ | with_reducible refine Is.call ?_ | with_reducible refine Is.bm ?_ | with_reducible refine Ist.seq ?_ | with_reducible refine Ist.set ?_ | with_reducible refine Ist.ret ?_ | with_reducible refine Ist.ite ?_ | with_reducible refine Ist.st ?_ | with_reducible refine Ist.nil ?_)
  refine ⟨_, _, rfl, ?_⟩
  refine ⟨_, _, rfl, ?_⟩
  refine ⟨_, rfl, ?_⟩
  by_cases hl : i < ns.length
  · rw [if_pos (by simpa using (by omega : (i : Int) < (ns.length : Int)))]
    repeat (first | with_reducible refine Is.o2 ?_ | with_reducible refine Is.o1 ?_ | with_reducible refine Is.oa ?_ | with_reducible refine Is.acons ?_ | with_reducible refine Is.anil ?_ | with_reducible refine Is.c ?_ | with_reducible refine Is.var (by with_unfolding_all rfl) ?_ | with_reducible refine Is.call ?_ | with_reducible refine Is.bm ?_ | with_reducible refine Ist.seq ?_ | with_reducible refine Ist.set ?_ | with_reducible refine Ist.ret ?_ | with_reducible refine Ist.ite ?_ | with_reducible refine Ist.st ?_ | with_reducible refine Ist.nil ?_)
    refine ⟨.int ns[i], h, ?_, ?_⟩
    · show (match L2.atI ns (i : Int) with | some n => some (SV.int n, h) | none => none) = _
      have e : L2.atI ns (i : Int) = some ns[i] := by
        unfold L2.atI L2.ixN
        first
          | (rw [if_pos (by omega), if_pos (by omega)]; simp [hl])
          | (simp [hl])
      rw [e]
    · rw [List.getD_eq_getElem?_getD, List.getElem?_eq_getElem hl] at p
      exact p
  · rw [if_neg (by simpa using (by omega : (ns.length : Int) ≤ (i : Int)))]
    repeat (first | with_reducible refine Is.o2 ?_ | with_reducible refine Is.o1 ?_ | with_reducible refine Is.oa ?_ | with_reducible refine Is.acons ?_ | with_reducible refine Is.anil ?_ | with_reducible refine Is.c ?_ | with_reducible refine Is.var (by with_unfolding_all rfl) ?_ | with_reducible refine Is.call ?_ | with_reducible refine Is.bm ?_ | with_reducible refine Ist.seq ?_ | with_reducible refine Ist.set ?_ | with_reducible refine Ist.ret ?_ | with_reducible refine Ist.ite ?_ | with_reducible refine Ist.st ?_ | with_reducible refine Ist.nil ?_)
    rw [List.getD_eq_getElem?_getD, List.getElem?_eq_none (by omega)] at p
    exact p
end Fw
namespace Fw
open PySem PySem.Spec L2
theorem ix_is {g : Nat} {xs : List SV} {k : Int} {x : SV} {h : SH} {P : SV → SH → Prop} (e : h[g]? = some (.lst xs)) (ex : L2.atI xs k = some x) (p : P x h) : ∃ v h3, opIx (.ref g) (.int k) h = some (v, h3) ∧ P v h3 := by
  refine ⟨x, h, ?_, p⟩
  unfold opIx
  simp only [e, ex]
theorem st_is {g : Nat} {xs : List SV} {k : Int} {j : Nat} {v : SV} {h : SH} {Q : SH → Prop} (e : h[g]? = some (.lst xs)) (ej : L2.ixN xs.length k = some j) (p : Q (h.set g (.lst (xs.set j v)))) : ∃ h4, opSt (.ref g) (.int k) v h = some h4 ∧ Q h4 := by
  refine ⟨_, ?_, p⟩
  unfold opSt
  simp only [e, ej]
theorem pow_is {i j : Int} {h : SH} {P : SV → SH → Prop} (k : 0 ≤ j ∧ (Builtin.Int.intBits i : Int) * j ≤ 134217728) (p : P (.int (i ^ j.toNat)) h) : ∃ v h3, opPow (.int i) (.int j) h = some (v, h3) ∧ P v h3 := ⟨_, _, by show (if 0 ≤ j ∧ (Builtin.Int.intBits i : Int) * j ≤ 134217728 then _ else _) = _; rw [if_pos k], p⟩
theorem lst_is {xs : List SV} {h : SH} {P : SV → SH → Prop} (k : xs.length ≤ big) (p : P (.ref h.length) (h ++ [.lst xs])) : ∃ v h3, opLst xs h = some (v, h3) ∧ P v h3 := ⟨_, _, by unfold opLst; rw [if_pos k]; rfl, p⟩
def genM : SM := mSeq (mSet 2 (mCall (mFn 2 2 cellM) (aCons (mVar 0) (aCons (mVar 1) aNil)))) (mRet (mOA opLst (aCons (mO2 opMod (mOA (un1 opInt) (aCons (mOA (bin2 opMax) (aCons (mO2 opSub (mVar 2) (mO2 opPow (mC (.int 10)) (mC (.int 18)))) (aCons (mC (.int 0)) aNil))) aNil)) (mO2 opPow (mO2 opPow (mC (.int 10)) (mC (.int 60))) (mC (.int 10))))
  (aCons (mO2 opMod (mOA (un1 opInt) (aCons (mVar 2) aNil)) (mC (.int 2147483647))) (aCons (mO2 opMul (mC (.int 1000)) (mVar 1)) aNil)))))
theorem gen_is {ns : List Int} {i : Nat} {h : SH} {P : SV → SH → Prop} (p : ∀ a b : Int, 0 ≤ a → 0 ≤ b → b < 2147483647 → P (.ref h.length) (h ++ [.lst [.int a, .int b, .int (1000 * (i : Int))]])) : Is (mFn 2 3 genM [.scr ns, .int i] h) P := by
  refine Is.fn rfl ?_
  unfold genM
  repeat (first | with_reducible refine Is.o2 ?_ | with_reducible refine Is.o1 ?_ | with_reducible refine Is.oa ?_ | with_reducible refine Is.acons ?_ | with_reducible refine Is.anil ?_ | with_reducible refine Is.c ?_ | with_reducible refine Is.var (by with_unfolding_all rfl) ?_ | with_reducible refine Is.call ?_ | with_reducible refine Is.bm ?_ | with_reducible refine Ist.seq ?_ | with_reducible refine Ist.set ?_ | with_reducible refine Ist.ret ?_ | with_reducible refine Ist.ite ?_ | with_reducible refine Ist.st ?_ | with_reducible refine Ist.nil ?_)
  refine cell_is ?_
  repeat (first | with_reducible refine Is.o2 ?_ | with_reducible refine Is.o1 ?_ | with_reducible refine Is.oa ?_ | with_reducible refine Is.acons ?_ | with_reducible refine Is.anil ?_ | with_reducible refine Is.c ?_ | with_reducible refine Is.var (by with_unfolding_all rfl) ?_ | with_reducible refine Is.call ?_ | with_reducible refine Is.bm ?_ | with_reducible refine Ist.seq ?_ | with_reducible refine Ist.set ?_ | with_reducible refine Ist.ret ?_ | with_reducible refine Ist.ite ?_ | with_reducible refine Ist.st ?_ | with_reducible refine Ist.nil ?_)
  refine pow_is (by decide +kernel) ?_
  refine ⟨_, _, rfl, ?_⟩
  repeat (first | with_reducible refine Is.o2 ?_ | with_reducible refine Is.o1 ?_ | with_reducible refine Is.oa ?_ | with_reducible refine Is.acons ?_ | with_reducible refine Is.anil ?_ | with_reducible refine Is.c ?_ | with_reducible refine Is.var (by with_unfolding_all rfl) ?_ | with_reducible refine Is.call ?_ | with_reducible refine Is.bm ?_ | with_reducible refine Ist.seq ?_ | with_reducible refine Ist.set ?_ | with_reducible refine Ist.ret ?_ | with_reducible refine Ist.ite ?_ | with_reducible refine Ist.st ?_ | with_reducible refine Ist.nil ?_)
  refine ⟨_, _, rfl, ?_⟩
  repeat (first | with_reducible refine Is.o2 ?_ | with_reducible refine Is.o1 ?_ | with_reducible refine Is.oa ?_ | with_reducible refine Is.acons ?_ | with_reducible refine Is.anil ?_ | with_reducible refine Is.c ?_ | with_reducible refine Is.var (by with_unfolding_all rfl) ?_ | with_reducible refine Is.call ?_ | with_reducible refine Is.bm ?_ | with_reducible refine Ist.seq ?_ | with_reducible refine Ist.set ?_ | with_reducible refine Ist.ret ?_ | with_reducible refine Ist.ite ?_ | with_reducible refine Ist.st ?_ | with_reducible refine Ist.nil ?_)
  refine ⟨_, _, rfl, ?_⟩
  repeat (first | with_reducible refine Is.o2 ?_ | with_reducible refine Is.o1 ?_ | with_reducible refine Is.oa ?_ | with_reducible refine Is.acons ?_ | with_reducible refine Is.anil ?_ | with_reducible refine Is.c ?_ | with_reducible refine Is.var (by with_unfolding_all rfl) ?_ | with_reducible refine Is.call ?_ | with_reducible refine Is.bm ?_ | with_reducible refine Ist.seq ?_ | with_reducible refine Ist.set ?_ | with_reducible refine Ist.ret ?_ | with_reducible refine Ist.ite ?_ | with_reducible refine Ist.st ?_ | with_reducible refine Ist.nil ?_)
  refine pow_is (by decide +kernel) ?_
  repeat (first | with_reducible refine Is.o2 ?_ | with_reducible refine Is.o1 ?_ | with_reducible refine Is.oa ?_ | with_reducible refine Is.acons ?_ | with_reducible refine Is.anil ?_ | with_reducible refine Is.c ?_ | with_reducible refine Is.var (by with_unfolding_all rfl) ?_ | with_reducible refine Is.call ?_ | with_reducible refine Is.bm ?_ | with_reducible refine Ist.seq ?_ | with_reducible refine Ist.set ?_ | with_reducible refine Ist.ret ?_ | with_reducible refine Ist.ite ?_ | with_reducible refine Ist.st ?_ | with_reducible refine Ist.nil ?_)
  refine pow_is (by decide +kernel) ?_
  refine mod_is (by decide +kernel) ?_
  repeat (first | with_reducible refine Is.o2 ?_ | with_reducible refine Is.o1 ?_ | with_reducible refine Is.oa ?_ | with_reducible refine Is.acons ?_ | with_reducible refine Is.anil ?_ | with_reducible refine Is.c ?_ | with_reducible refine Is.var (by with_unfolding_all rfl) ?_ | with_reducible refine Is.call ?_ | with_reducible refine Is.bm ?_ | with_reducible refine Ist.seq ?_ | with_reducible refine Ist.set ?_ | with_reducible refine Ist.ret ?_ | with_reducible refine Ist.ite ?_ | with_reducible refine Ist.st ?_ | with_reducible refine Ist.nil ?_)
  refine ⟨_, _, rfl, ?_⟩
  repeat (first | with_reducible refine Is.o2 ?_ | with_reducible refine Is.o1 ?_ | with_reducible refine Is.oa ?_ | with_reducible refine Is.acons ?_ | with_reducible refine Is.anil ?_ | with_reducible refine Is.c ?_ | with_reducible refine Is.var (by with_unfolding_all rfl) ?_ | with_reducible refine Is.call ?_ | with_reducible refine Is.bm ?_ | with_reducible refine Ist.seq ?_ | with_reducible refine Ist.set ?_ | with_reducible refine Ist.ret ?_ | with_reducible refine Ist.ite ?_ | with_reducible refine Ist.st ?_ | with_reducible refine Ist.nil ?_)
  refine mod_is (by decide) ?_
  repeat (first | with_reducible refine Is.o2 ?_ | with_reducible refine Is.o1 ?_ | with_reducible refine Is.oa ?_ | with_reducible refine Is.acons ?_ | with_reducible refine Is.anil ?_ | with_reducible refine Is.c ?_ | with_reducible refine Is.var (by with_unfolding_all rfl) ?_ | with_reducible refine Is.call ?_ | with_reducible refine Is.bm ?_ | with_reducible refine Ist.seq ?_ | with_reducible refine Ist.set ?_ | with_reducible refine Ist.ret ?_ | with_reducible refine Ist.ite ?_ | with_reducible refine Ist.st ?_ | with_reducible refine Ist.nil ?_)
  refine mul_is (okMul_l (by decide) (by decide)) ?_
  repeat (first | with_reducible refine Is.o2 ?_ | with_reducible refine Is.o1 ?_ | with_reducible refine Is.oa ?_ | with_reducible refine Is.acons ?_ | with_reducible refine Is.anil ?_ | with_reducible refine Is.c ?_ | with_reducible refine Is.var (by with_unfolding_all rfl) ?_ | with_reducible refine Is.call ?_ | with_reducible refine Is.bm ?_ | with_reducible refine Ist.seq ?_ | with_reducible refine Ist.set ?_ | with_reducible refine Ist.ret ?_ | with_reducible refine Ist.ite ?_ | with_reducible refine Ist.st ?_ | with_reducible refine Ist.nil ?_)
  refine lst_is (by show 3 ≤ 16777216; decide) ?_
  refine p _ _ ?_ (by omega) (by omega)
  exact Int.emod_nonneg _ (by decide +kernel)
def randM : SM := mSeq (mIfS (mB (mO2 opGt (mO2 opIx (mVar 0) (mC (.int 0))) (mC (.int 0)))) (mSeq (mSet 2 (mO2 opMod (mOA (un1 opInt) (aCons (mO2 opIx (mVar 0) (mC (.int 0))) aNil)) (mVar 1))) (mSeq (mSt (mO2 opFdiv (mO2 opIx (mVar 0) (mC (.int 0))) (mVar 1)) (mVar 0) (mC (.int 0))) (mRet (mVar 2)))) mNil)
  (mSeq (mSet 2 (mC (.int 0))) (mSeq (mFor (mRng1 (aCons (mO2 opAdd (mC (.int 1)) (mO2 opFdiv (mO1 opBits (mVar 1)) (mC (.int 30)))) aNil)) (gVar 3) (mSeq (mSt (mO2 opAdd (mO2 opIx (mVar 0) (mC (.int 2))) (mC (.int 1))) (mVar 0) (mC (.int 2)))
    (mSet 2 (mO2 opAdd (mO2 opMul (mVar 2) (mC (.int 2147483587))) (mCall (mFn 2 3 hashM) (aCons (mO2 opIx (mVar 0) (mC (.int 1))) (aCons (mO2 opIx (mVar 0) (mC (.int 2))) aNil))))))) (mRet (mO2 opMod (mOA (un1 opInt) (aCons (mVar 2) aNil)) (mVar 1)))))
/-- a number drawn: 0 ≤ r < n; the generator's list stays where it is, its counter grows by a few -/
theorem rand_is {g : Nat} {a b c n : Int} {h : SH} {P : SV → SH → Prop} (hg : h[g]? = some (.lst [.int a, .int b, .int c])) (hn : 0 < n) (hl : n.natAbs.log2 < 9000) (hbits : Builtin.Int.intBits n < 100000) (ha : 0 ≤ a) (hc0 : 0 ≤ c) (hc : c < 1152921504606846976)
    (p : ∀ r a' c' : Int, 0 ≤ r → r < n → 0 ≤ a' → c ≤ c' → c' ≤ c + 4000 → P (.int r) (h.set g (.lst [.int a', .int b, .int c']))) : Is (mFn 2 4 randM [.ref g, .int n] h) P := by
  refine Is.fn rfl ?_
  unfold randM
  repeat (first | with_reducible refine Is.o2 ?_ | with_reducible refine Is.o1 ?_ | with_reducible refine Is.oa ?_ | with_reducible refine Is.acons ?_ | with_reducible refine Is.anil ?_ | with_reducible refine Is.c ?_ | with_reducible refine Is.var (by with_unfolding_all rfl) ?_ | with_reducible refine Is.call ?_ | with_reducible refine Is.bm ?_ | with_reducible refine Ist.seq ?_ | with_reducible refine Ist.set ?_ | with_reducible refine Ist.ret ?_ | with_reducible refine Ist.ite ?_ | with_reducible refine Ist.st ?_ | with_reducible refine Ist.nil ?_)
  refine ix_is hg rfl ?_
  repeat (first | with_reducible refine Is.o2 ?_ | with_reducible refine Is.o1 ?_ | with_reducible refine Is.oa ?_ | with_reducible refine Is.acons ?_ | with_reducible refine Is.anil ?_ | with_reducible refine Is.c ?_ | with_reducible refine Is.var (by with_unfolding_all rfl) ?_ | with_reducible refine Is.call ?_ | with_reducible refine Is.bm ?_ | with_reducible refine Ist.seq ?_ | with_reducible refine Ist.set ?_ | with_reducible refine Ist.ret ?_ | with_reducible refine Ist.ite ?_ | with_reducible refine Ist.st ?_ | with_reducible refine Ist.nil ?_)
  refine ⟨_, _, rfl, ?_⟩
  refine ⟨_, rfl, ?_⟩
  by_cases h0 : 0 < a
  · rw [if_pos (decide_eq_true h0)]
    repeat (first | with_reducible refine Is.o2 ?_ | with_reducible refine Is.o1 ?_ | with_reducible refine Is.oa ?_ | with_reducible refine Is.acons ?_ | with_reducible refine Is.anil ?_ | with_reducible refine Is.c ?_ | with_reducible refine Is.var (by with_unfolding_all rfl) ?_ | with_reducible refine Is.call ?_ | with_reducible refine Is.bm ?_ | with_reducible refine Ist.seq ?_ | with_reducible refine Ist.set ?_ | with_reducible refine Ist.ret ?_ | with_reducible refine Ist.ite ?_ | with_reducible refine Ist.st ?_ | with_reducible refine Ist.nil ?_)
    refine ix_is hg rfl ?_
    repeat (first | with_reducible refine Is.o2 ?_ | with_reducible refine Is.o1 ?_ | with_reducible refine Is.oa ?_ | with_reducible refine Is.acons ?_ | with_reducible refine Is.anil ?_ | with_reducible refine Is.c ?_ | with_reducible refine Is.var (by with_unfolding_all rfl) ?_ | with_reducible refine Is.call ?_ | with_reducible refine Is.bm ?_ | with_reducible refine Ist.seq ?_ | with_reducible refine Ist.set ?_ | with_reducible refine Ist.ret ?_ | with_reducible refine Ist.ite ?_ | with_reducible refine Ist.st ?_ | with_reducible refine Ist.nil ?_)
    refine ⟨_, _, rfl, ?_⟩
    repeat (first | with_reducible refine Is.o2 ?_ | with_reducible refine Is.o1 ?_ | with_reducible refine Is.oa ?_ | with_reducible refine Is.acons ?_ | with_reducible refine Is.anil ?_ | with_reducible refine Is.c ?_ | with_reducible refine Is.var (by with_unfolding_all rfl) ?_ | with_reducible refine Is.call ?_ | with_reducible refine Is.bm ?_ | with_reducible refine Ist.seq ?_ | with_reducible refine Ist.set ?_ | with_reducible refine Ist.ret ?_ | with_reducible refine Ist.ite ?_ | with_reducible refine Ist.st ?_ | with_reducible refine Ist.nil ?_)
    refine mod_is hn ?_
    repeat (first | with_reducible refine Is.o2 ?_ | with_reducible refine Is.o1 ?_ | with_reducible refine Is.oa ?_ | with_reducible refine Is.acons ?_ | with_reducible refine Is.anil ?_ | with_reducible refine Is.c ?_ | with_reducible refine Is.var (by with_unfolding_all rfl) ?_ | with_reducible refine Is.call ?_ | with_reducible refine Is.bm ?_ | with_reducible refine Ist.seq ?_ | with_reducible refine Ist.set ?_ | with_reducible refine Ist.ret ?_ | with_reducible refine Ist.ite ?_ | with_reducible refine Ist.st ?_ | with_reducible refine Ist.nil ?_)
    refine ix_is hg rfl ?_
    repeat (first | with_reducible refine Is.o2 ?_ | with_reducible refine Is.o1 ?_ | with_reducible refine Is.oa ?_ | with_reducible refine Is.acons ?_ | with_reducible refine Is.anil ?_ | with_reducible refine Is.c ?_ | with_reducible refine Is.var (by with_unfolding_all rfl) ?_ | with_reducible refine Is.call ?_ | with_reducible refine Is.bm ?_ | with_reducible refine Ist.seq ?_ | with_reducible refine Ist.set ?_ | with_reducible refine Ist.ret ?_ | with_reducible refine Ist.ite ?_ | with_reducible refine Ist.st ?_ | with_reducible refine Ist.nil ?_)
    refine fdiv_is ⟨hn, hl⟩ ?_
    repeat (first | with_reducible refine Is.o2 ?_ | with_reducible refine Is.o1 ?_ | with_reducible refine Is.oa ?_ | with_reducible refine Is.acons ?_ | with_reducible refine Is.anil ?_ | with_reducible refine Is.c ?_ | with_reducible refine Is.var (by with_unfolding_all rfl) ?_ | with_reducible refine Is.call ?_ | with_reducible refine Is.bm ?_ | with_reducible refine Ist.seq ?_ | with_reducible refine Ist.set ?_ | with_reducible refine Ist.ret ?_ | with_reducible refine Ist.ite ?_ | with_reducible refine Ist.st ?_ | with_reducible refine Ist.nil ?_)
    refine st_is hg (j := 0) rfl ?_
    repeat (first | with_reducible refine Is.o2 ?_ | with_reducible refine Is.o1 ?_ | with_reducible refine Is.oa ?_ | with_reducible refine Is.acons ?_ | with_reducible refine Is.anil ?_ | with_reducible refine Is.c ?_ | with_reducible refine Is.var (by with_unfolding_all rfl) ?_ | with_reducible refine Is.call ?_ | with_reducible refine Is.bm ?_ | with_reducible refine Ist.seq ?_ | with_reducible refine Ist.set ?_ | with_reducible refine Ist.ret ?_ | with_reducible refine Ist.ite ?_ | with_reducible refine Ist.st ?_ | with_reducible refine Ist.nil ?_)
    exact p _ _ _ (Int.emod_nonneg _ (by omega)) (Int.emod_lt_of_pos _ hn) (Int.ediv_nonneg ha (by omega)) (Int.le_refl _) (by omega)
  · rw [if_neg (by simpa using h0)]
    repeat (first | with_reducible refine Is.o2 ?_ | with_reducible refine Is.o1 ?_ | with_reducible refine Is.oa ?_ | with_reducible refine Is.acons ?_ | with_reducible refine Is.anil ?_ | with_reducible refine Is.c ?_ | with_reducible refine Is.var (by with_unfolding_all rfl) ?_ | with_reducible refine Is.call ?_ | with_reducible refine Is.bm ?_ | with_reducible refine Ist.seq ?_ | with_reducible refine Ist.set ?_ | with_reducible refine Ist.ret ?_ | with_reducible refine Ist.ite ?_ | with_reducible refine Ist.st ?_ | with_reducible refine Ist.nil ?_)
    with_reducible refine Ist.for ?_
    with_reducible refine Is.rng1 ?_
    refine Is.acons (Is.o2 (Is.c (Is.o2 (Is.o1 (Is.var rfl ?_)))))
    refine ⟨.int (Builtin.Int.intBits n : Nat), _, rfl, ?_⟩
    refine Is.c ?_
    refine fdiv_is (by decide) ?_
    refine ⟨.int (1 + (Builtin.Int.intBits n : Int) / 30), _, rfl, ?_⟩
    refine Is.anil ?_
    have hb : (1 + (Builtin.Int.intBits n : Int) / 30) < 4000 := by omega
    have hb0 : 0 ≤ (1 + (Builtin.Int.intBits n : Int) / 30) := by omega
    refine ⟨_, rfl, decide_eq_true (by omega), (1 + (Builtin.Int.intBits n : Int) / 30).toNat, fun k ss hh => ∃ (d : Int) (v : Option SV), ss = [some (.ref g), some (.int n), some (.int d), v] ∧ hh = h.set g (.lst [.int a, .int b, .int (c + (k : Int))]), by unfold many; omega, ⟨0, none, rfl, ?_⟩, ?_, ?_⟩
    · rw [show c + ((0 : Nat) : Int) = c from by omega]
      apply List.ext_getElem?
      intro j
      by_cases hj : g = j
      · subst hj; rw [set_at hg, hg]
      · rw [set_ne hj]
    · rintro k _ _ hk ⟨d, v, rfl, rfl⟩
      refine ⟨_, _, _, wkRng_at hk, rfl, ?_⟩
      have e1 := set_at (o := .lst [.int a, .int b, .int (c + (k : Int))]) hg
      refine Ist.seq (Ist.st ?_)
      repeat (first | with_reducible refine Is.o2 ?_ | with_reducible refine Is.o1 ?_ | with_reducible refine Is.oa ?_ | with_reducible refine Is.acons ?_ | with_reducible refine Is.anil ?_ | with_reducible refine Is.c ?_ | with_reducible refine Is.var (by with_unfolding_all rfl) ?_ | with_reducible refine Is.call ?_ | with_reducible refine Is.bm ?_ | with_reducible refine Ist.seq ?_ | with_reducible refine Ist.set ?_ | with_reducible refine Ist.ret ?_ | with_reducible refine Ist.ite ?_ | with_reducible refine Ist.st ?_ | with_reducible refine Ist.nil ?_)
      refine ix_is e1 rfl ?_
      repeat (first | with_reducible refine Is.o2 ?_ | with_reducible refine Is.o1 ?_ | with_reducible refine Is.oa ?_ | with_reducible refine Is.acons ?_ | with_reducible refine Is.anil ?_ | with_reducible refine Is.c ?_ | with_reducible refine Is.var (by with_unfolding_all rfl) ?_ | with_reducible refine Is.call ?_ | with_reducible refine Is.bm ?_ | with_reducible refine Ist.seq ?_ | with_reducible refine Ist.set ?_ | with_reducible refine Ist.ret ?_ | with_reducible refine Ist.ite ?_ | with_reducible refine Ist.st ?_ | with_reducible refine Ist.nil ?_)
      refine ⟨_, _, rfl, ?_⟩
      repeat (first | with_reducible refine Is.o2 ?_ | with_reducible refine Is.o1 ?_ | with_reducible refine Is.oa ?_ | with_reducible refine Is.acons ?_ | with_reducible refine Is.anil ?_ | with_reducible refine Is.c ?_ | with_reducible refine Is.var (by with_unfolding_all rfl) ?_ | with_reducible refine Is.call ?_ | with_reducible refine Is.bm ?_ | with_reducible refine Ist.seq ?_ | with_reducible refine Ist.set ?_ | with_reducible refine Ist.ret ?_ | with_reducible refine Ist.ite ?_ | with_reducible refine Ist.st ?_ | with_reducible refine Ist.nil ?_)
      refine st_is e1 (j := 2) rfl ?_
      have e2 := set_at (o := .lst (([.int a, .int b, .int (c + (k : Int))] : List SV).set 2 (.int (c + (k : Int) + 1)))) e1
      refine Ist.set ?_
      repeat (first | with_reducible refine Is.o2 ?_ | with_reducible refine Is.o1 ?_ | with_reducible refine Is.oa ?_ | with_reducible refine Is.acons ?_ | with_reducible refine Is.anil ?_ | with_reducible refine Is.c ?_ | with_reducible refine Is.var (by with_unfolding_all rfl) ?_ | with_reducible refine Is.call ?_ | with_reducible refine Is.bm ?_ | with_reducible refine Ist.seq ?_ | with_reducible refine Ist.set ?_ | with_reducible refine Ist.ret ?_ | with_reducible refine Ist.ite ?_ | with_reducible refine Ist.st ?_ | with_reducible refine Ist.nil ?_)
      refine mul_is (okMul_r (by decide) (by decide)) ?_
      repeat (first | with_reducible refine Is.o2 ?_ | with_reducible refine Is.o1 ?_ | with_reducible refine Is.oa ?_ | with_reducible refine Is.acons ?_ | with_reducible refine Is.anil ?_ | with_reducible refine Is.c ?_ | with_reducible refine Is.var (by with_unfolding_all rfl) ?_ | with_reducible refine Is.call ?_ | with_reducible refine Is.bm ?_ | with_reducible refine Ist.seq ?_ | with_reducible refine Ist.set ?_ | with_reducible refine Ist.ret ?_ | with_reducible refine Ist.ite ?_ | with_reducible refine Ist.st ?_ | with_reducible refine Ist.nil ?_)
      refine ix_is e2 rfl ?_
      repeat (first | with_reducible refine Is.o2 ?_ | with_reducible refine Is.o1 ?_ | with_reducible refine Is.oa ?_ | with_reducible refine Is.acons ?_ | with_reducible refine Is.anil ?_ | with_reducible refine Is.c ?_ | with_reducible refine Is.var (by with_unfolding_all rfl) ?_ | with_reducible refine Is.call ?_ | with_reducible refine Is.bm ?_ | with_reducible refine Ist.seq ?_ | with_reducible refine Ist.set ?_ | with_reducible refine Ist.ret ?_ | with_reducible refine Ist.ite ?_ | with_reducible refine Ist.st ?_ | with_reducible refine Ist.nil ?_)
      refine ix_is e2 rfl ?_
      repeat (first | with_reducible refine Is.o2 ?_ | with_reducible refine Is.o1 ?_ | with_reducible refine Is.oa ?_ | with_reducible refine Is.acons ?_ | with_reducible refine Is.anil ?_ | with_reducible refine Is.c ?_ | with_reducible refine Is.var (by with_unfolding_all rfl) ?_ | with_reducible refine Is.call ?_ | with_reducible refine Is.bm ?_ | with_reducible refine Ist.seq ?_ | with_reducible refine Ist.set ?_ | with_reducible refine Ist.ret ?_ | with_reducible refine Ist.ite ?_ | with_reducible refine Ist.st ?_ | with_reducible refine Ist.nil ?_)
      refine hash_is (by omega) (by omega) fun r r0 r1 => ?_
      refine ⟨_, _, rfl, ?_⟩
      refine ⟨_, _, rfl, ?_⟩
      rw [List.set_set]
      show h.set g (.lst [.int a, .int b, .int (c + (k : Int) + 1)]) = _
      rw [show c + (k : Int) + 1 = c + ((k + 1 : Nat) : Int) from by omega]
    · rintro _ _ ⟨d, v, rfl, rfl⟩
      refine ⟨wkRng_end, ?_⟩
      repeat (first | with_reducible refine Is.o2 ?_ | with_reducible refine Is.o1 ?_ | with_reducible refine Is.oa ?_ | with_reducible refine Is.acons ?_ | with_reducible refine Is.anil ?_ | with_reducible refine Is.c ?_ | with_reducible refine Is.var (by with_unfolding_all rfl) ?_ | with_reducible refine Is.call ?_ | with_reducible refine Is.bm ?_ | with_reducible refine Ist.seq ?_ | with_reducible refine Ist.set ?_ | with_reducible refine Ist.ret ?_ | with_reducible refine Ist.ite ?_ | with_reducible refine Ist.st ?_ | with_reducible refine Ist.nil ?_)
      refine ⟨_, _, rfl, ?_⟩
      repeat (first | with_reducible refine Is.o2 ?_ | with_reducible refine Is.o1 ?_ | with_reducible refine Is.oa ?_ | with_reducible refine Is.acons ?_ | with_reducible refine Is.anil ?_ | with_reducible refine Is.c ?_ | with_reducible refine Is.var (by with_unfolding_all rfl) ?_ | with_reducible refine Is.call ?_ | with_reducible refine Is.bm ?_ | with_reducible refine Ist.seq ?_ | with_reducible refine Ist.set ?_ | with_reducible refine Ist.ret ?_ | with_reducible refine Ist.ite ?_ | with_reducible refine Ist.st ?_ | with_reducible refine Ist.nil ?_)
      refine mod_is hn ?_
      exact p _ _ _ (Int.emod_nonneg _ (by omega)) (Int.emod_lt_of_pos _ hn) ha (by omega) (by omega)
end Fw
namespace Gn
open PySem PySem.Spec PyProof.Rows L2 Fw
def top (i : Nat) : Stmt := PySem.Challenge.pw_floorwalks_k30_stretches_that_hold.main.body.getD i (.Pass ⟨0, 0, 0, 0⟩)
def is_InvalidItem : Tag → Option Bool
  | .exo 0 => some false
  | .exo 1 => some false
  | .exo 2 => some false
  | .exo 3 => some true
  | _ => none
def is_InvalidList : Tag → Option Bool
  | .exo 0 => some false
  | .exo 1 => some false
  | .exo 2 => some true
  | .exo 3 => some false
  | _ => none
def is_InvalidNumber : Tag → Option Bool
  | .exo 0 => some false
  | .exo 1 => some true
  | .exo 2 => some false
  | .exo 3 => some false
  | _ => none
def is_bool : Tag → Option Bool
  | .non => some false
  | .bl => some true
  | .int => some false
  | .str => some false
  | .lst => some false
  | .tup => some false
  | .dct => some false
  | _ => none
def is_int : Tag → Option Bool
  | .non => some false
  | .bl => some true
  | .int => some true
  | .str => some false
  | .lst => some false
  | .tup => some false
  | .dct => some false
  | _ => none
def is_list : Tag → Option Bool
  | .non => some false
  | .bl => some false
  | .int => some false
  | .str => some false
  | .lst => some true
  | .tup => some false
  | .dct => some false
  | _ => none
def is_tuple : Tag → Option Bool
  | .non => some false
  | .bl => some false
  | .int => some false
  | .str => some false
  | .lst => some false
  | .tup => some true
  | .dct => some false
  | _ => none
def x__ranges : List (Option Nat) := [none, none, none, none, some 2]
def x__runs : List (Option Nat) := [none, none, none, none, some 1]
def x__singles : List (Option Nat) := [none, none, none, none, some 0]
def x_value : List (Option Nat) := [none, some 0, some 0, some 0, none]
def sub_WalkError : Nat → Option Bool
  | 0 => some true
  | 1 => some true
  | 2 => some true
  | 3 => some true
  | _ => none
structure Tx (P : Program) (w : World) (K : PySem.W.Frag) (mg : Str → Option Value) (base : Heap) (en : En) (CC : Nat → Addr) : Prop where
  hK : K = en.K
  sm : ∃ o, base.get? sysModules = some o
  b_bool : mg "bool" = none
  b_int : mg "int" = none
  b_isinstance : mg "isinstance" = none
  b_len : mg "len" = none
  b_list : mg "list" = none
  b_max : mg "max" = none
  b_range : mg "range" = none
  b_repr : mg "repr" = none
  b_tuple : mg "tuple" = none
  g_Held : mg "Held" = some (.ref (CC 4))
  g_InvalidItem : mg "InvalidItem" = some (.ref (CC 3))
  g_InvalidList : mg "InvalidList" = some (.ref (CC 2))
  g_InvalidNumber : mg "InvalidNumber" = some (.ref (CC 1))
  g_WalkError : mg "WalkError" = some (.ref (CC 0))
  e1 : ErrAt P w K mg en 1 1 "InvalidNumber"
  e2 : ErrAt P w K mg en 2 1 "InvalidList"
  e3 : ErrAt P w K mg en 3 1 "InvalidItem"
  is_InvalidItem : IsiOk en (.ref (CC 3)) is_InvalidItem
  is_InvalidList : IsiOk en (.ref (CC 2)) is_InvalidList
  is_InvalidNumber : IsiOk en (.ref (CC 1)) is_InvalidNumber
  is_bool : IsiOk en (.type "bool") is_bool
  is_int : IsiOk en (.type "int") is_int
  is_list : IsiOk en (.type "list") is_list
  is_tuple : IsiOk en (.type "tuple") is_tuple
  x__ranges : FldOk en "_ranges" x__ranges
  x__runs : FldOk en "_runs" x__runs
  x__singles : FldOk en "_singles" x__singles
  x_value : ExfOk en "value" x_value
  sub_WalkError : SubOk en (.ref (CC 0)) sub_WalkError
section
variable {P : Program} {w : World} {K : PySem.W.Frag} {mg : Str → Option Value} {base : Heap} {en : En} {CC : Nat → Addr}
/-! _law_cell -/
abbrev s14 : Stmt := top 14
def m14 : SM := (mSeq (mIfS (mB (mO2 opLt (mVar 1) (mOA (un1 opLen) (aCons (mVar 0) aNil)))) (mRet (mO2 opIx (mVar 0) (mVar 1))) mNil) (mRet (mC (.int 0))))
def f14 : FM := mFn 2 2 m14
theorem sc14 : FnScope ["_law_script", "_law_index"] ["_law_script", "_law_index"] (defScope s14) := ⟨rfl, rfl, rfl, by decide +kernel, rfl, by decide +kernel, by decide +kernel⟩
theorem ok14 (T : Tx P w K mg base en CC) {f : Addr} {fd : FuncData} (F : L2.Fun K "_law_cell" "_law_cell" s14 f fd)  : FnG P w K mg base 1 f fd ["_law_script", "_law_index"] (spM en 2 f14) := by
  obtain ⟨oc, od, kV, doc, pm, an, cdv, ct, osl, rfl, lk, hcd⟩ := F.ex
  exact fnG_of lk hcd sc14 T.hK T.sm fun A outer s H E G => (PSs.cons (PS.if (PT.cmp op_ltM (PE.var 1) (PE.callB (call_lenM G.K) rfl T.b_len rfl (PA.cons (PE.var 0) PA.nil)) (nomark _)) (PSs.one (PS.ret (PE.ix G.K G.u1 (PE.var 0) (PE.var 1) (fun _ _ => rfl)))) PSs.nil) (PSs.one (PS.ret PE.int)))
theorem at14 (T : Tx P w K mg base en CC) {f : Addr} {fd : FuncData} (F : L2.Fun K "_law_cell" "_law_cell" s14 f fd) (hm : mg "_law_cell" = some (.ref f))  : DefAt P w K mg base en 1 "_law_cell" 2 f14 :=
  DefAt.mk' hm F (ok14 T F ) (F.binds fun _ _ _ _ _ _ us hl => match us, hl with | [_, _], _ => rfl)
/-! _law_generator -/
abbrev s16 : Stmt := top 16
def m16 : SM := (mSeq (mSet 2 (mCall f14 (aCons (mVar 0) (aCons (mVar 1) aNil)))) (mRet (mOA opLst (aCons (mO2 opMod (mOA (un1 opInt) (aCons (mOA (bin2 opMax) (aCons (mO2 opSub (mVar 2) (mO2 opPow (mC (.int 10)) (mC (.int 18)))) (aCons (mC (.int 0)) aNil))) aNil)) (mO2 opPow (mO2 opPow (mC (.int 10)) (mC (.int 60))) (mC (.int 10)))) (aCons (mO2 opMod (mOA (un1 opInt) (aCons (mVar 2) aNil)) (mC (.int 2147483647))) (aCons (mO2 opMul (mC (.int 1000)) (mVar 1)) aNil))))))
def f16 : FM := mFn 2 3 m16
theorem sc16 : FnScope ["_law_script", "_law_index", "_law_seed"] ["_law_script", "_law_index"] (defScope s16) := ⟨rfl, rfl, rfl, by decide +kernel, rfl, by decide +kernel, by decide +kernel⟩
theorem ok16 (T : Tx P w K mg base en CC) {f : Addr} {fd : FuncData} (F : L2.Fun K "_law_generator" "_law_generator" s16 f fd) (D14 : DefAt P w K mg base en 1 "_law_cell" 2 f14) : FnG P w K mg base 2 f fd ["_law_script", "_law_index"] (spM en 2 f16) := by
  obtain ⟨oc, od, kV, doc, pm, an, cdv, ct, osl, rfl, lk, hcd⟩ := F.ex
  exact fnG_of lk hcd sc16 T.hK T.sm fun A outer s H E G => (PSs.cons (PS.set (i := 2) sc16.nd rfl (by first | exact .inl rfl | exact .inr rfl) (PE.call D14 G (by decide) rfl (PA.cons (PE.var 0) (PA.cons (PE.var 1) PA.nil)))) (PSs.one (PS.ret (PE.lst (PA.cons (PE.o2 op_modM (PE.callTy call_intM rfl T.b_int rfl (PA.cons (PE.callB (call_maxM G.calm) rfl T.b_max rfl (PA.cons (PE.o2 op_subM (PE.var 2) (PE.o2 op_powM PE.int PE.int)) (PA.cons PE.int PA.nil))) PA.nil)) (PE.o2 op_powM (PE.o2 op_powM PE.int PE.int) PE.int)) (PA.cons (PE.o2 op_modM (PE.callTy call_intM rfl T.b_int rfl (PA.cons (PE.var 2) PA.nil)) PE.int) (PA.cons (PE.o2 op_mulM PE.int (PE.var 1)) PA.nil)))))))
theorem at16 (T : Tx P w K mg base en CC) {f : Addr} {fd : FuncData} (F : L2.Fun K "_law_generator" "_law_generator" s16 f fd) (hm : mg "_law_generator" = some (.ref f)) (D14 : DefAt P w K mg base en 1 "_law_cell" 2 f14) : DefAt P w K mg base en 2 "_law_generator" 2 f16 :=
  DefAt.mk' hm F (ok16 T F D14) (F.binds fun _ _ _ _ _ _ us hl => match us, hl with | [_, _], _ => rfl)
/-! _law_hash -/
abbrev s15 : Stmt := top 15
def m15 : SM := (mSeq (mSet 2 (mO2 opMod (mOA (un1 opInt) (aCons (mO2 opAdd (mO2 opAdd (mO2 opAdd (mO2 opMul (mVar 0) (mC (.int 1103515245))) (mO2 opMul (mO2 opMul (mC (.int 7919)) (mVar 1)) (mVar 1))) (mVar 1)) (mC (.int 1))) aNil)) (mC (.int 2147483647)))) (mSeq (mSet 2 (mO2 opMod (mOA (un1 opInt) (aCons (mO2 opAdd (mO2 opMul (mVar 2) (mVar 2)) (mC (.int 69621))) aNil)) (mC (.int 2147483629)))) (mRet (mO2 opMod (mOA (un1 opInt) (aCons (mO2 opMul (mVar 2) (mC (.int 48271))) aNil)) (mC (.int 2147483587))))))
def f15 : FM := mFn 2 3 m15
theorem sc15 : FnScope ["_law_seed", "_law_index", "_law_mixed"] ["_law_seed", "_law_index"] (defScope s15) := ⟨rfl, rfl, rfl, by decide +kernel, rfl, by decide +kernel, by decide +kernel⟩
theorem ok15 (T : Tx P w K mg base en CC) {f : Addr} {fd : FuncData} (F : L2.Fun K "_law_hash" "_law_hash" s15 f fd)  : FnG P w K mg base 1 f fd ["_law_seed", "_law_index"] (spM en 2 f15) := by
  obtain ⟨oc, od, kV, doc, pm, an, cdv, ct, osl, rfl, lk, hcd⟩ := F.ex
  exact fnG_of lk hcd sc15 T.hK T.sm fun A outer s H E G => (PSs.cons (PS.set (i := 2) sc15.nd rfl (by first | exact .inl rfl | exact .inr rfl) (PE.o2 op_modM (PE.callTy call_intM rfl T.b_int rfl (PA.cons (PE.o2 op_addM (PE.o2 op_addM (PE.o2 op_addM (PE.o2 op_mulM (PE.var 0) PE.int) (PE.o2 op_mulM (PE.o2 op_mulM PE.int (PE.var 1)) (PE.var 1))) (PE.var 1)) PE.int) PA.nil)) PE.int)) (PSs.cons (PS.set (i := 2) sc15.nd rfl (by first | exact .inl rfl | exact .inr rfl) (PE.o2 op_modM (PE.callTy call_intM rfl T.b_int rfl (PA.cons (PE.o2 op_addM (PE.o2 op_mulM (PE.var 2) (PE.var 2)) PE.int) PA.nil)) PE.int)) (PSs.one (PS.ret (PE.o2 op_modM (PE.callTy call_intM rfl T.b_int rfl (PA.cons (PE.o2 op_mulM (PE.var 2) PE.int) PA.nil)) PE.int)))))
theorem at15 (T : Tx P w K mg base en CC) {f : Addr} {fd : FuncData} (F : L2.Fun K "_law_hash" "_law_hash" s15 f fd) (hm : mg "_law_hash" = some (.ref f))  : DefAt P w K mg base en 1 "_law_hash" 2 f15 :=
  DefAt.mk' hm F (ok15 T F ) (F.binds fun _ _ _ _ _ _ us hl => match us, hl with | [_, _], _ => rfl)
/-! _law_random -/
abbrev s17 : Stmt := top 17
def m17 : SM := (mSeq (mIfS (mB (mO2 opGt (mO2 opIx (mVar 0) (mC (.int 0))) (mC (.int 0)))) (mSeq (mSet 2 (mO2 opMod (mOA (un1 opInt) (aCons (mO2 opIx (mVar 0) (mC (.int 0))) aNil)) (mVar 1))) (mSeq (mSt (mO2 opFdiv (mO2 opIx (mVar 0) (mC (.int 0))) (mVar 1)) (mVar 0) (mC (.int 0))) (mRet (mVar 2)))) mNil) (mSeq (mSet 2 (mC (.int 0))) (mSeq (mFor (mRng1 (aCons (mO2 opAdd (mC (.int 1)) (mO2 opFdiv (mO1 opBits (mVar 1)) (mC (.int 30)))) aNil)) (gVar 3) (mSeq (mSt (mO2 opAdd (mO2 opIx (mVar 0) (mC (.int 2))) (mC (.int 1))) (mVar 0) (mC (.int 2))) (mSet 2 (mO2 opAdd (mO2 opMul (mVar 2) (mC (.int 2147483587))) (mCall f15 (aCons (mO2 opIx (mVar 0) (mC (.int 1))) (aCons (mO2 opIx (mVar 0) (mC (.int 2))) aNil))))))) (mRet (mO2 opMod (mOA (un1 opInt) (aCons (mVar 2) aNil)) (mVar 1))))))
def f17 : FM := mFn 2 4 m17
theorem sc17 : FnScope ["_law_generator_here", "_law_bound", "_law_drawn", "_law_turn"] ["_law_generator_here", "_law_bound"] (defScope s17) := ⟨rfl, rfl, rfl, by decide +kernel, rfl, by decide +kernel, by decide +kernel⟩
theorem ok17 (T : Tx P w K mg base en CC) {f : Addr} {fd : FuncData} (F : L2.Fun K "_law_random" "_law_random" s17 f fd) (D15 : DefAt P w K mg base en 1 "_law_hash" 2 f15) : FnG P w K mg base 2 f fd ["_law_generator_here", "_law_bound"] (spM en 2 f17) := by
  obtain ⟨oc, od, kV, doc, pm, an, cdv, ct, osl, rfl, lk, hcd⟩ := F.ex
  exact fnG_of lk hcd sc17 T.hK T.sm fun A outer s H E G => (PSs.cons (PS.if (PT.cmp op_gtM (PE.ix G.K G.u1 (PE.var 0) PE.int (fun _ _ => rfl)) PE.int (nomark _)) (PSs.cons (PS.set (i := 2) sc17.nd rfl (by first | exact .inl rfl | exact .inr rfl) (PE.o2 op_modM (PE.callTy call_intM rfl T.b_int rfl (PA.cons (PE.ix G.K G.u1 (PE.var 0) PE.int (fun _ _ => rfl)) PA.nil)) (PE.var 1))) (PSs.cons (PS.st G.u1 (PE.o2 op_fdivM (PE.ix G.K G.u1 (PE.var 0) PE.int (fun _ _ => rfl)) (PE.var 1)) (PE.var 0) PE.int) (PSs.one (PS.ret (PE.var 2))))) PSs.nil) (PSs.cons (PS.set (i := 2) sc17.nd rfl (by first | exact .inl rfl | exact .inr rfl) PE.int) (PSs.cons (PS.for G.pass G.calm (PI.rng1 rfl T.b_range (PA.cons (PE.o2 op_addM PE.int (PE.o2 op_fdivM (PE.bits (PE.var 1)) PE.int)) PA.nil)) (PG.var (i := 3) sc17.nd rfl (by first | exact .inl rfl | exact .inr rfl)) (PSs.cons (PS.st G.u1 (PE.o2 op_addM (PE.ix G.K G.u1 (PE.var 0) PE.int (fun _ _ => rfl)) PE.int) (PE.var 0) PE.int) (PSs.one (PS.set (i := 2) sc17.nd rfl (by first | exact .inl rfl | exact .inr rfl) (PE.o2 op_addM (PE.o2 op_mulM (PE.var 2) PE.int) (PE.call D15 G (by decide) rfl (PA.cons (PE.ix G.K G.u1 (PE.var 0) PE.int (fun _ _ => rfl)) (PA.cons (PE.ix G.K G.u1 (PE.var 0) PE.int (fun _ _ => rfl)) PA.nil)))))))) (PSs.one (PS.ret (PE.o2 op_modM (PE.callTy call_intM rfl T.b_int rfl (PA.cons (PE.var 2) PA.nil)) (PE.var 1)))))))
theorem at17 (T : Tx P w K mg base en CC) {f : Addr} {fd : FuncData} (F : L2.Fun K "_law_random" "_law_random" s17 f fd) (hm : mg "_law_random" = some (.ref f)) (D15 : DefAt P w K mg base en 1 "_law_hash" 2 f15) : DefAt P w K mg base en 2 "_law_random" 2 f17 :=
  DefAt.mk' hm F (ok17 T F D15) (F.binds fun _ _ _ _ _ _ us hl => match us, hl with | [_, _], _ => rfl)
/-! _law_stretch -/
abbrev s18 : Stmt := top 18
def m18 : SM := (mSeq (mSet 1 (mCall f17 (aCons (mVar 0) (aCons (mO2 opIx (mOA opLst (aCons (mC (.int 30)) (aCons (mC (.int 30)) (aCons (mO2 opPow (mC (.int 10)) (mC (.int 30))) aNil)))) (mCall f17 (aCons (mVar 0) (aCons (mC (.int 3)) aNil)))) aNil)))) (mSeq (mSet 2 (mO2 opIx (mOA opLst (aCons (mC .non) (aCons (mC (.int 1)) (aCons (mC (.int 2)) (aCons (mC (.int 5)) (aCons (mO2 opPow (mC (.int 10)) (mC (.int 25))) aNil)))))) (mCall f17 (aCons (mVar 0) (aCons (mC (.int 5)) aNil))))) (mRet (mOA opTup (aCons (mVar 1) (aCons (mO2 opIx (mOA opLst (aCons (mC (.int 1)) (aCons (mC (.int 2)) (aCons (mC (.int 3)) (aCons (mC (.int 4)) (aCons (mC (.int 5)) (aCons (mC (.int 6)) (aCons (mC (.int 10)) (aCons (mC (.int 12)) aNil))))))))) (mCall f17 (aCons (mVar 0) (aCons (mC (.int 8)) aNil)))) (aCons (mVar 2) aNil)))))))
def f18 : FM := mFn 1 3 m18
theorem sc18 : FnScope ["_law_generator_here", "_law_first", "_law_many"] ["_law_generator_here"] (defScope s18) := ⟨rfl, rfl, rfl, by decide +kernel, rfl, by decide +kernel, by decide +kernel⟩
theorem ok18 (T : Tx P w K mg base en CC) {f : Addr} {fd : FuncData} (F : L2.Fun K "_law_stretch" "_law_stretch" s18 f fd) (D17 : DefAt P w K mg base en 2 "_law_random" 2 f17) : FnG P w K mg base 3 f fd ["_law_generator_here"] (spM en 1 f18) := by
  obtain ⟨oc, od, kV, doc, pm, an, cdv, ct, osl, rfl, lk, hcd⟩ := F.ex
  exact fnG_of lk hcd sc18 T.hK T.sm fun A outer s H E G => (PSs.cons (PS.set (i := 1) sc18.nd rfl (by first | exact .inl rfl | exact .inr rfl) (PE.call D17 G (by decide) rfl (PA.cons (PE.var 0) (PA.cons (PE.ix G.K G.u1 (PE.lst (PA.cons PE.int (PA.cons PE.int (PA.cons (PE.o2 op_powM PE.int PE.int) PA.nil)))) (PE.call D17 G (by decide) rfl (PA.cons (PE.var 0) (PA.cons PE.int PA.nil))) (fun _ _ => rfl)) PA.nil)))) (PSs.cons (PS.set (i := 2) sc18.nd rfl (by first | exact .inl rfl | exact .inr rfl) (PE.ix G.K G.u1 (PE.lst (PA.cons PE.non (PA.cons PE.int (PA.cons PE.int (PA.cons PE.int (PA.cons (PE.o2 op_powM PE.int PE.int) PA.nil)))))) (PE.call D17 G (by decide) rfl (PA.cons (PE.var 0) (PA.cons PE.int PA.nil))) (fun _ _ => rfl))) (PSs.one (PS.ret (PE.tup (PA.cons (PE.var 1) (PA.cons (PE.ix G.K G.u1 (PE.lst (PA.cons PE.int (PA.cons PE.int (PA.cons PE.int (PA.cons PE.int (PA.cons PE.int (PA.cons PE.int (PA.cons PE.int (PA.cons PE.int PA.nil))))))))) (PE.call D17 G (by decide) rfl (PA.cons (PE.var 0) (PA.cons PE.int PA.nil))) (fun _ _ => rfl)) (PA.cons (PE.var 2) PA.nil))))))))
theorem at18 (T : Tx P w K mg base en CC) {f : Addr} {fd : FuncData} (F : L2.Fun K "_law_stretch" "_law_stretch" s18 f fd) (hm : mg "_law_stretch" = some (.ref f)) (D17 : DefAt P w K mg base en 2 "_law_random" 2 f17) : DefAt P w K mg base en 3 "_law_stretch" 1 f18 :=
  DefAt.mk' hm F (ok18 T F D17) (F.binds fun _ _ _ _ _ _ us hl => match us, hl with | [_], _ => rfl)
/-! _law_held -/
abbrev s19 : Stmt := top 19
def m19 : SM := (mSeq (mAsg (gTupM 3 (gsCons (gVar 3) (gsCons (gVar 4) (gsCons (gVar 5) gsNil)))) (mVar 0)) (mSeq (mIfS (mB (mO2 opLt (mVar 1) (mVar 3))) (mRet (mC (.bl false))) mNil) (mSeq (mSet 2 (mO2 opFdiv (mO2 opSub (mVar 1) (mVar 3)) (mVar 4))) (mRet (mAnd (mO2 (eqD false) (mO2 opAdd (mVar 3) (mO2 opMul (mVar 2) (mVar 4))) (mVar 1)) (mOr (mO2 opIsN (mVar 5) (mC .non)) (mO2 opLt (mVar 2) (mVar 5))))))))
def f19 : FM := mFn 2 6 m19
theorem sc19 : FnScope ["_law_stretch_here", "_law_number", "_law_place", "_law_first", "_law_step", "_law_many"] ["_law_stretch_here", "_law_number"] (defScope s19) := ⟨rfl, rfl, rfl, by decide +kernel, rfl, by decide +kernel, by decide +kernel⟩
theorem ok19 (T : Tx P w K mg base en CC) {f : Addr} {fd : FuncData} (F : L2.Fun K "_law_held" "_law_held" s19 f fd)  : FnG P w K mg base 1 f fd ["_law_stretch_here", "_law_number"] (spM en 2 f19) := by
  obtain ⟨oc, od, kV, doc, pm, an, cdv, ct, osl, rfl, lk, hcd⟩ := F.ex
  exact fnG_of lk hcd sc19 T.hK T.sm fun A outer s H E G => (PSs.cons (PS.asg (PE.var 0) (PG.tup G.calm (PGs.cons (PG.var (i := 3) sc19.nd rfl (by first | exact .inl rfl | exact .inr rfl)) (PGs.cons (PG.var (i := 4) sc19.nd rfl (by first | exact .inl rfl | exact .inr rfl)) (PGs.cons (PG.var (i := 5) sc19.nd rfl (by first | exact .inl rfl | exact .inr rfl)) PGs.nil))))) (PSs.cons (PS.if (PT.cmp op_ltM (PE.var 1) (PE.var 3) (nomark _)) (PSs.one (PS.ret PE.bl)) PSs.nil) (PSs.cons (PS.set (i := 2) sc19.nd rfl (by first | exact .inl rfl | exact .inr rfl) (PE.o2 op_fdivM (PE.o2 op_subM (PE.var 1) (PE.var 3)) (PE.var 4))) (PSs.one (PS.ret (PE.and (PE.cmp (op_eqM G.sm G.u64) (PE.o2 op_addM (PE.var 3) (PE.o2 op_mulM (PE.var 2) (PE.var 4))) (PE.var 1) (nomark _)) (PE.and1 (PE.or (PE.cmp op_isNM (PE.var 5) PE.non (nomark _)) (PE.and1 (PE.cmp op_ltM (PE.var 2) (PE.var 5) (nomark _)))))))))))
theorem at19 (T : Tx P w K mg base en CC) {f : Addr} {fd : FuncData} (F : L2.Fun K "_law_held" "_law_held" s19 f fd) (hm : mg "_law_held" = some (.ref f))  : DefAt P w K mg base en 1 "_law_held" 2 f19 :=
  DefAt.mk' hm F (ok19 T F ) (F.binds fun _ _ _ _ _ _ us hl => match us, hl with | [_, _], _ => rfl)
/-! is_whole -/
abbrev s7 : Stmt := top 7
def m7 : SM := (mRet (mAnd (mO1 (opIsi is_int) (mVar 0)) (mNot (mO1 (opIsi is_bool) (mVar 0)))))
def f7 : FM := mFn 1 1 m7
theorem sc7 : FnScope ["value"] ["value"] (defScope s7) := ⟨rfl, rfl, rfl, by decide +kernel, rfl, by decide +kernel, by decide +kernel⟩
theorem ok7 (T : Tx P w K mg base en CC) {f : Addr} {fd : FuncData} (F : L2.Fun K "is_whole" "is_whole" s7 f fd)  : FnG P w K mg base 1 f fd ["value"] (spM en 1 f7) := by
  obtain ⟨oc, od, kV, doc, pm, an, cdv, ct, osl, rfl, lk, hcd⟩ := F.ex
  exact fnG_of lk hcd sc7 T.hK T.sm fun A outer s H E G => (PSs.one (PS.ret (PE.and (PE.isi G.K (.ty _) T.is_int rfl T.b_isinstance (PE.var 0) (pe_bltn rfl T.b_int rfl rfl)) (PE.and1 (PE.not (PE.isi G.K (.ty _) T.is_bool rfl T.b_isinstance (PE.var 0) (pe_bltn rfl T.b_bool rfl rfl)))))))
theorem at7 (T : Tx P w K mg base en CC) {f : Addr} {fd : FuncData} (F : L2.Fun K "is_whole" "is_whole" s7 f fd) (hm : mg "is_whole" = some (.ref f))  : DefAt P w K mg base en 1 "is_whole" 1 f7 :=
  DefAt.mk' hm F (ok7 T F ) (F.binds fun _ _ _ _ _ _ us hl => match us, hl with | [_], _ => rfl)
/-! is_stretch -/
abbrev s9 : Stmt := top 9
def m9 : SM := (mSeq (mIfS (bOr (bNot (mB (mO1 (opIsi is_tuple) (mVar 0)))) (mB (mO2 (eqD true) (mOA (un1 opLen) (aCons (mVar 0) aNil)) (mC (.int 3))))) (mRet (mC (.bl false))) mNil) (mSeq (mAsg (gTupM 3 (gsCons (gVar 1) (gsCons (gVar 2) (gsCons (gVar 3) gsNil)))) (mVar 0)) (mSeq (mIfS (bOr (bNot (mTru (mCall f7 (aCons (mVar 1) aNil)))) (bOr (mB (mO2 opLt (mVar 1) (mC (.int 0)))) (bOr (bNot (mTru (mCall f7 (aCons (mVar 2) aNil)))) (mB (mO2 opLt (mVar 2) (mC (.int 1))))))) (mRet (mC (.bl false))) mNil) (mRet (mOr (mO2 opIsN (mVar 3) (mC .non)) (mAnd (mCall f7 (aCons (mVar 3) aNil)) (mO2 opGe (mVar 3) (mC (.int 1)))))))))
def f9 : FM := mFn 1 4 m9
theorem sc9 : FnScope ["value", "first", "step", "many"] ["value"] (defScope s9) := ⟨rfl, rfl, rfl, by decide +kernel, rfl, by decide +kernel, by decide +kernel⟩
theorem ok9 (T : Tx P w K mg base en CC) {f : Addr} {fd : FuncData} (F : L2.Fun K "is_stretch" "is_stretch" s9 f fd) (D7 : DefAt P w K mg base en 1 "is_whole" 1 f7) : FnG P w K mg base 2 f fd ["value"] (spM en 1 f9) := by
  obtain ⟨oc, od, kV, doc, pm, an, cdv, ct, osl, rfl, lk, hcd⟩ := F.ex
  exact fnG_of lk hcd sc9 T.hK T.sm fun A outer s H E G => (PSs.cons (PS.if (PW.pt (PW.or (PT.not (PT.val (PE.isi G.K (.ty _) T.is_tuple rfl T.b_isinstance (PE.var 0) (pe_bltn rfl T.b_tuple rfl rfl)))) (PW.or1 (PT.cmp (op_neM G.sm G.u64) (PE.callB (call_lenM G.K) rfl T.b_len rfl (PA.cons (PE.var 0) PA.nil)) PE.int (nomark _))))) (PSs.one (PS.ret PE.bl)) PSs.nil) (PSs.cons (PS.asg (PE.var 0) (PG.tup G.calm (PGs.cons (PG.var (i := 1) sc9.nd rfl (by first | exact .inl rfl | exact .inr rfl)) (PGs.cons (PG.var (i := 2) sc9.nd rfl (by first | exact .inl rfl | exact .inr rfl)) (PGs.cons (PG.var (i := 3) sc9.nd rfl (by first | exact .inl rfl | exact .inr rfl)) PGs.nil))))) (PSs.cons (PS.if (PW.pt (PW.or (PT.not (PT.tru G.K (PE.call D7 G (by decide) rfl (PA.cons (PE.var 1) PA.nil)))) (PW.or (PT.cmp op_ltM (PE.var 1) PE.int (nomark _)) (PW.or (PT.not (PT.tru G.K (PE.call D7 G (by decide) rfl (PA.cons (PE.var 2) PA.nil)))) (PW.or1 (PT.cmp op_ltM (PE.var 2) PE.int (nomark _))))))) (PSs.one (PS.ret PE.bl)) PSs.nil) (PSs.one (PS.ret (PE.or (PE.cmp op_isNM (PE.var 3) PE.non (nomark _)) (PE.and1 (PE.and (PE.call D7 G (by decide) rfl (PA.cons (PE.var 3) PA.nil)) (PE.and1 (PE.cmp op_geM (PE.var 3) PE.int (nomark _)))))))))))
theorem at9 (T : Tx P w K mg base en CC) {f : Addr} {fd : FuncData} (F : L2.Fun K "is_stretch" "is_stretch" s9 f fd) (hm : mg "is_stretch" = some (.ref f)) (D7 : DefAt P w K mg base en 1 "is_whole" 1 f7) : DefAt P w K mg base en 2 "is_stretch" 1 f9 :=
  DefAt.mk' hm F (ok9 T F D7) (F.binds fun _ _ _ _ _ _ us hl => match us, hl with | [_], _ => rfl)
/-! ('Held', '__init__') -/
abbrev s_Held___init__ : Stmt := inClass (top 10) 0
def m_Held___init__ : SM := (mSeq (mFst x__singles mDict0 (mVar 0)) (mSeq (mFst x__runs (mOA opLst aNil) (mVar 0)) (mSeq (mFst x__ranges mDict0 (mVar 0)) (mFor (mWalk (mVar 1)) (gTupM 3 (gsCons (gVar 2) (gsCons (gVar 3) (gsCons (gVar 4) gsNil)))) (mIfS (mB (mO2 (eqD false) (mVar 4) (mC (.int 1)))) (mSt (mC (.bl true)) (mO1 (opFld x__singles) (mVar 0)) (mVar 2)) (mSeq (mSet 5 (mIf (mB (mO2 opIsN (mVar 4) (mC .non))) (mC .non) (mO2 opAdd (mVar 2) (mO2 opMul (mO2 opSub (mVar 4) (mC (.int 1))) (mVar 3))))) (mSeq (mDrop (mBm opAppend (mO1 (opFld x__runs) (mVar 0)) (aCons (mOA opTup (aCons (mVar 2) (aCons (mVar 3) (aCons (mVar 5) aNil)))) aNil))) (mDrop (mBm opAppend (mD3 opSetd (mD3 opSetd (mO1 (opFld x__ranges) (mVar 0)) (mVar 3) mDict0) (mO2 opMod (mVar 2) (mVar 3)) (mOA opLst aNil)) (aCons (mOA opTup (aCons (mVar 2) (aCons (mVar 5) aNil))) aNil))))))))))
def f_Held___init__ : FM := mFn 2 6 m_Held___init__
theorem sc_Held___init__ : FnScope ["self", "stretches", "first", "step", "many", "last"] ["self", "stretches"] (defScope s_Held___init__) := ⟨rfl, rfl, rfl, by decide +kernel, rfl, by decide +kernel, by decide +kernel⟩
theorem ok_Held___init__ (T : Tx P w K mg base en CC) {f : Addr} {fd : FuncData} (F : L2.Fun K "__init__" "Held.__init__" s_Held___init__ f fd)  : FnG P w K mg base 1 f fd ["self", "stretches"] (spM en 2 f_Held___init__) := by
  obtain ⟨oc, od, kV, doc, pm, an, cdv, ct, osl, rfl, lk, hcd⟩ := F.ex
  exact fnG_of lk hcd sc_Held___init__ T.hK T.sm fun A outer s H E G => (PSs.cons (PS.fst G.K T.x__singles (PE.var 0) PE.dict0) (PSs.cons (PS.fst G.K T.x__runs (PE.var 0) (PE.lst PA.nil)) (PSs.cons (PS.fst G.K T.x__ranges (PE.var 0) PE.dict0) (PSs.one (PS.for G.pass G.calm (PI.walk G.K (PE.var 1)) (PG.tup G.calm (PGs.cons (PG.var (i := 2) sc_Held___init__.nd rfl (by first | exact .inl rfl | exact .inr rfl)) (PGs.cons (PG.var (i := 3) sc_Held___init__.nd rfl (by first | exact .inl rfl | exact .inr rfl)) (PGs.cons (PG.var (i := 4) sc_Held___init__.nd rfl (by first | exact .inl rfl | exact .inr rfl)) PGs.nil)))) (PSs.one (PS.if (PT.cmp (op_eqM G.sm G.u64) (PE.var 4) PE.int (nomark _)) (PSs.one (PS.st G.u1 PE.bl (PE.fld G.K T.x__singles (PE.var 0)) (PE.var 2))) (PSs.cons (PS.set (i := 5) sc_Held___init__.nd rfl (by first | exact .inl rfl | exact .inr rfl) (PE.ifx (PT.cmp op_isNM (PE.var 4) PE.non (nomark _)) PE.non (PE.o2 op_addM (PE.var 2) (PE.o2 op_mulM (PE.o2 op_subM (PE.var 4) PE.int) (PE.var 3))))) (PSs.cons (PS.expr (PE.append (PE.fld G.K T.x__runs (PE.var 0)) (PA.cons (PE.tup (PA.cons (PE.var 2) (PA.cons (PE.var 3) (PA.cons (PE.var 5) PA.nil)))) PA.nil))) (PSs.one (PS.expr (PE.append (PE.setd (PE.setd (PE.fld G.K T.x__ranges (PE.var 0)) (PE.var 3) PE.dict0) (PE.o2 op_modM (PE.var 2) (PE.var 3)) (PE.lst PA.nil)) (PA.cons (PE.tup (PA.cons (PE.var 2) (PA.cons (PE.var 5) PA.nil))) PA.nil)))))))))))))
theorem at_Held___init__ (T : Tx P w K mg base en CC) {f C : Addr} {fd : FuncData} (F : L2.Fun K "__init__" "Held.__init__" s_Held___init__ f fd) (cf : ClsF en 4 C ["_singles", "_runs", "_ranges"]) (hm : mg "Held" = some (.ref C)) (mk : Mk K C f)  : MakeAt P w K mg base en 1 "Held" 4 2 f_Held___init__ :=
  ⟨⟨f, fd, _, C, _, cf, hm, mk, ok_Held___init__ T F , (F.binds fun _ _ _ _ _ _ us hl => match us, hl with | [_, _], _ => rfl)⟩, fun vs h e => mFn_len e⟩
/-! ('Held', 'holds') -/
abbrev s_Held_holds : Stmt := inClass (top 10) 1
def m_Held_holds : SM := (mSeq (mIfS (mB (mO2 (opIn false) (mVar 1) (mO1 (opFld x__singles) (mVar 0)))) (mRet (mC (.bl true))) mNil) (mSeq (mItems (mO1 (opFld x__ranges) (mVar 0)) (gTupM 2 (gsCons (gVar 2) (gsCons (gVar 3) gsNil))) (mFor (mWalk (mD3 opGet2 (mVar 3) (mO2 opMod (mVar 1) (mVar 2)) (mOA opLst aNil))) (gTupM 2 (gsCons (gVar 4) (gsCons (gVar 5) gsNil))) (mIfS (bAnd (mB (mO2 opLe (mVar 4) (mVar 1))) (bOr (mB (mO2 opIsN (mVar 5) (mC .non))) (mB (mO2 opLe (mVar 1) (mVar 5))))) (mRet (mC (.bl true))) mNil))) (mRet (mC (.bl false)))))
def f_Held_holds : FM := mFn 2 6 m_Held_holds
theorem sc_Held_holds : FnScope ["self", "number", "step", "by_rest", "first", "last"] ["self", "number"] (defScope s_Held_holds) := ⟨rfl, rfl, rfl, by decide +kernel, rfl, by decide +kernel, by decide +kernel⟩
theorem ok_Held_holds (T : Tx P w K mg base en CC) {f : Addr} {fd : FuncData} (F : L2.Fun K "holds" "Held.holds" s_Held_holds f fd)  : FnG P w K mg base 1 f fd ["self", "number"] (spM en 2 f_Held_holds) := by
  obtain ⟨oc, od, kV, doc, pm, an, cdv, ct, osl, rfl, lk, hcd⟩ := F.ex
  exact fnG_of lk hcd sc_Held_holds T.hK T.sm fun A outer s H E G => (PSs.cons (PS.if (PT.cmp (op_inM G.u1) (PE.var 1) (PE.fld G.K T.x__singles (PE.var 0)) (by with_unfolding_all rfl)) (PSs.one (PS.ret PE.bl)) PSs.nil) (PSs.cons (PS.items fun l => have G := Good.fz (l := l) G; (PS.for G.pass G.calm (PI.items (PE.fld G.K T.x__ranges.fz (PE.var 0))) (PG.tup G.calm (PGs.cons (PG.var (i := 2) sc_Held_holds.nd rfl (by first | exact .inl rfl | exact .inr rfl)) (PGs.cons (PG.var (i := 3) sc_Held_holds.nd rfl (by first | exact .inl rfl | exact .inr rfl)) PGs.nil))) (PSs.one (PS.for G.pass G.calm (PI.walk G.K (PE.get2 G.u1 (PE.var 3) (PE.o2 op_modM (PE.var 1) (PE.var 2)) (PE.lst PA.nil))) (PG.tup G.calm (PGs.cons (PG.var (i := 4) sc_Held_holds.nd rfl (by first | exact .inl rfl | exact .inr rfl)) (PGs.cons (PG.var (i := 5) sc_Held_holds.nd rfl (by first | exact .inl rfl | exact .inr rfl)) PGs.nil))) (PSs.one (PS.if (PW.pt (PW.and (PT.cmp op_leM (PE.var 4) (PE.var 1) (nomark _)) (PW.and1 (PW.pt (PW.or (PT.cmp op_isNM (PE.var 5) PE.non (nomark _)) (PW.or1 (PT.cmp op_leM (PE.var 1) (PE.var 5) (nomark _)))))))) (PSs.one (PS.ret PE.bl)) PSs.nil)))))) (PSs.one (PS.ret PE.bl))))
theorem at_Held_holds (T : Tx P w K mg base en CC) {f C : Addr} {fd : FuncData} (F : L2.Fun K "holds" "Held.holds" s_Held_holds f fd) (cf : ClsF en 4 C ["_singles", "_runs", "_ranges"]) (hm : Meth K C "holds" f)  : MethAt P w K mg base en 1 4 "holds" 2 f_Held_holds :=
  ⟨⟨f, fd, _, C, _, cf, by decide +kernel, hm, ok_Held_holds T F , (F.binds fun _ _ _ _ _ _ us hl => match us, hl with | [_, _], _ => rfl)⟩, fun vs h e => mFn_len e⟩
/-! holds -/
abbrev s12 : Stmt := top 12
def m12 : SM := (mSeq (mIfS (bNot (mB (mO1 (opIsi is_list) (mVar 0)))) (mRaise 2 1 (aCons (mVar 0) aNil)) mNil) (mSeq (mFor (mWalk (mVar 0)) (gVar 2) (mIfS (bNot (mTru (mCall f9 (aCons (mVar 2) aNil)))) (mRaise 3 1 (aCons (mVar 2) aNil)) mNil)) (mSeq (mIfS (bNot (mTru (mCall f7 (aCons (mVar 1) aNil)))) (mRaise 1 1 (aCons (mVar 1) aNil)) mNil) (mRet (mMeth 4 f_Held_holds (mMake 4 f_Held___init__ (aCons (mVar 0) aNil)) (aCons (mVar 1) aNil))))))
def f12 : FM := mFn 2 3 m12
theorem sc12 : FnScope ["stretches", "number", "item"] ["stretches", "number"] (defScope s12) := ⟨rfl, rfl, rfl, by decide +kernel, rfl, by decide +kernel, by decide +kernel⟩
theorem ok12 (T : Tx P w K mg base en CC) {f : Addr} {fd : FuncData} (F : L2.Fun K "holds" "holds" s12 f fd) (D9 : DefAt P w K mg base en 2 "is_stretch" 1 f9) (D7 : DefAt P w K mg base en 1 "is_whole" 1 f7) (D_Held : MakeAt P w K mg base en 1 "Held" 4 2 f_Held___init__) (D_Held_holds : MethAt P w K mg base en 1 4 "holds" 2 f_Held_holds) : FnG P w K mg base 3 f fd ["stretches", "number"] (spM en 2 f12) := by
  obtain ⟨oc, od, kV, doc, pm, an, cdv, ct, osl, rfl, lk, hcd⟩ := F.ex
  exact fnG_of lk hcd sc12 T.hK T.sm fun A outer s H E G => (PSs.cons (PS.if (PT.not (PT.val (PE.isi G.K (.ty _) T.is_list rfl T.b_isinstance (PE.var 0) (pe_bltn rfl T.b_list rfl rfl)))) (PSs.one (PS.raise T.e2 G rfl (PA.cons (PE.var 0) PA.nil))) PSs.nil) (PSs.cons (PS.for G.pass G.calm (PI.walk G.K (PE.var 0)) (PG.var (i := 2) sc12.nd rfl (by first | exact .inl rfl | exact .inr rfl)) (PSs.one (PS.if (PT.not (PT.tru G.K (PE.call D9 G (by decide) rfl (PA.cons (PE.var 2) PA.nil)))) (PSs.one (PS.raise T.e3 G rfl (PA.cons (PE.var 2) PA.nil))) PSs.nil))) (PSs.cons (PS.if (PT.not (PT.tru G.K (PE.call D7 G (by decide) rfl (PA.cons (PE.var 1) PA.nil)))) (PSs.one (PS.raise T.e1 G rfl (PA.cons (PE.var 1) PA.nil))) PSs.nil) (PSs.one (PS.ret (PE.meth D_Held_holds G (by decide) (PE.make D_Held G (by decide) rfl (PA.cons (PE.var 0) PA.nil)) (PA.cons (PE.var 1) PA.nil)))))))
theorem at12 (T : Tx P w K mg base en CC) {f : Addr} {fd : FuncData} (F : L2.Fun K "holds" "holds" s12 f fd) (hm : mg "holds" = some (.ref f)) (D9 : DefAt P w K mg base en 2 "is_stretch" 1 f9) (D7 : DefAt P w K mg base en 1 "is_whole" 1 f7) (D_Held : MakeAt P w K mg base en 1 "Held" 4 2 f_Held___init__) (D_Held_holds : MethAt P w K mg base en 1 4 "holds" 2 f_Held_holds) : DefAt P w K mg base en 3 "holds" 2 f12 :=
  DefAt.mk' hm F (ok12 T F D9 D7 D_Held D_Held_holds) (F.binds fun _ _ _ _ _ _ us hl => match us, hl with | [_, _], _ => rfl)
/-! _law_right -/
abbrev s20 : Stmt := top 20
def m20 : SM := (mSeq (mSet 2 (mO2 opAdd (mO2 opLR2 (mO1 opNeg (mC (.int 3))) (mC (.int 60))) (mOA opLst (aCons (mO2 opPow (mC (.int 10)) (mC (.int 30))) (aCons (mO1 opNeg (mO2 opPow (mC (.int 10)) (mC (.int 30)))) aNil))))) (mSeq (mFor (mWalk (mVar 1)) (gTupM 3 (gsCons (gVar 5) (gsCons (gVar 6) (gsCons (gVar 7) gsNil)))) (mSeq (mSet 8 (mO2 opAdd (mVar 5) (mO2 opMul (mIf (mB (mO2 opIsN (mVar 7) (mC .non))) (mC (.int 3)) (mO2 opSub (mVar 7) (mC (.int 1)))) (mVar 6)))) (mFor (mWalk (mOA opLst (aCons (mVar 5) (aCons (mVar 8) (aCons (mO2 opAdd (mVar 5) (mO2 opMul (mVar 6) (mCall f17 (aCons (mVar 0) (aCons (mO2 opPow (mC (.int 10)) (mC (.int 20))) aNil))))) aNil))))) (gVar 9) (mSet 2 (mO2 opAdd (mVar 2) (mOA opLst (aCons (mO2 opSub (mVar 9) (mC (.int 1))) (aCons (mVar 9) (aCons (mO2 opAdd (mVar 9) (mC (.int 1))) (aCons (mO2 opAdd (mVar 9) (mVar 6)) (aCons (mO2 opSub (mVar 9) (mVar 6)) aNil))))))))))) (mSeq (mSet 3 (mOA (un1 opList) (aCons (mVar 1) aNil))) (mSeq (mFor (mWalk (mVar 2)) (gVar 4) (mSeq (mSet 10 (mO2 (eqD true) (mLc (mWalk (mVar 1)) (gVar 9) (mTru (mCall f19 (aCons (mVar 9) (aCons (mVar 4) aNil)))) (mVar 9) [9]) (mOA opLst aNil))) (mIfS (bOr (mB (mO2 (eqD true) (mOA (un1 opRepr) (aCons (mCall f12 (aCons (mVar 3) (aCons (mVar 4) aNil))) aNil)) (mOA (un1 opRepr) (aCons (mVar 10) aNil)))) (mB (mO2 (eqD true) (mVar 3) (mVar 1)))) (mRet (mC (.bl false))) mNil))) (mRet (mC (.bl true)))))))
def f20 : FM := mFn 2 11 m20
theorem sc20 : FnScope ["_law_generator_here", "_law_stretches", "_law_numbers", "_law_given", "_law_number", "_law_first", "_law_step", "_law_many", "_law_last", "_law_one", "_law_due"] ["_law_generator_here", "_law_stretches"] (defScope s20) := ⟨rfl, rfl, rfl, by decide +kernel, rfl, by decide +kernel, by decide +kernel⟩
theorem ok20 (T : Tx P w K mg base en CC) {f : Addr} {fd : FuncData} (F : L2.Fun K "_law_right" "_law_right" s20 f fd) (D17 : DefAt P w K mg base en 2 "_law_random" 2 f17) (D19 : DefAt P w K mg base en 1 "_law_held" 2 f19) (D12 : DefAt P w K mg base en 3 "holds" 2 f12) : FnG P w K mg base 4 f fd ["_law_generator_here", "_law_stretches"] (spM en 2 f20) := by
  obtain ⟨oc, od, kV, doc, pm, an, cdv, ct, osl, rfl, lk, hcd⟩ := F.ex
  exact fnG_of lk hcd sc20 T.hK T.sm fun A outer s H E G => (PSs.cons (PS.set (i := 2) sc20.nd rfl (by first | exact .inl rfl | exact .inr rfl) (PE.o2 op_addM (PE.lr2 G.calm rfl T.b_list rfl T.b_range (PE.un op_negM PE.int) PE.int) (PE.lst (PA.cons (PE.o2 op_powM PE.int PE.int) (PA.cons (PE.un op_negM (PE.o2 op_powM PE.int PE.int)) PA.nil))))) (PSs.cons (PS.for G.pass G.calm (PI.walk G.K (PE.var 1)) (PG.tup G.calm (PGs.cons (PG.var (i := 5) sc20.nd rfl (by first | exact .inl rfl | exact .inr rfl)) (PGs.cons (PG.var (i := 6) sc20.nd rfl (by first | exact .inl rfl | exact .inr rfl)) (PGs.cons (PG.var (i := 7) sc20.nd rfl (by first | exact .inl rfl | exact .inr rfl)) PGs.nil)))) (PSs.cons (PS.set (i := 8) sc20.nd rfl (by first | exact .inl rfl | exact .inr rfl) (PE.o2 op_addM (PE.var 5) (PE.o2 op_mulM (PE.ifx (PT.cmp op_isNM (PE.var 7) PE.non (nomark _)) PE.int (PE.o2 op_subM (PE.var 7) PE.int)) (PE.var 6)))) (PSs.one (PS.for G.pass G.calm (PI.walk G.K (PE.lst (PA.cons (PE.var 5) (PA.cons (PE.var 8) (PA.cons (PE.o2 op_addM (PE.var 5) (PE.o2 op_mulM (PE.var 6) (PE.call D17 G (by decide) rfl (PA.cons (PE.var 0) (PA.cons (PE.o2 op_powM PE.int PE.int) PA.nil))))) PA.nil))))) (PG.var (i := 9) sc20.nd rfl (by first | exact .inl rfl | exact .inr rfl)) (PSs.one (PS.set (i := 2) sc20.nd rfl (by first | exact .inl rfl | exact .inr rfl) (PE.o2 op_addM (PE.var 2) (PE.lst (PA.cons (PE.o2 op_subM (PE.var 9) PE.int) (PA.cons (PE.var 9) (PA.cons (PE.o2 op_addM (PE.var 9) PE.int) (PA.cons (PE.o2 op_addM (PE.var 9) (PE.var 6)) (PA.cons (PE.o2 op_subM (PE.var 9) (PE.var 6)) PA.nil))))))))))))) (PSs.cons (PS.set (i := 3) sc20.nd rfl (by first | exact .inl rfl | exact .inr rfl) (PE.callTy call_listM rfl T.b_list rfl (PA.cons (PE.var 1) PA.nil))) (PSs.cons (PS.for G.pass G.calm (PI.walk G.K (PE.var 2)) (PG.var (i := 4) sc20.nd rfl (by first | exact .inl rfl | exact .inr rfl)) (PSs.cons (PS.set (i := 10) sc20.nd rfl (by first | exact .inl rfl | exact .inr rfl) (PE.cmp (op_neM G.sm G.u64) (PE.lcG G sc20.nd (PI.walk G.K (PE.var 1)) (own := [("_law_one", 9)]) ⟨rfl, by decide +kernel, of_decide_eq_true (by kernel_rfl), of_decide_eq_true (by kernel_rfl), of_decide_eq_true (by kernel_rfl)⟩ (fun s3 H3 C3 cl3 fp3 G => (PG.var (i := 9) sc20.nd rfl (by first | exact .inl rfl | exact .inr rfl))) (fun s3 H3 C3 cl3 fp3 G => (PTs.one (PT.tru G.K (PE.call D19 G (by decide) rfl (PA.cons (PE.var 9) (PA.cons (PE.var 4) PA.nil)))))) (fun s3 H3 C3 cl3 fp3 G => (PE.var 9))) (PE.lst PA.nil) (nomark _))) (PSs.one (PS.if (PW.pt (PW.or (PT.cmp (op_neM G.sm G.u64) (PE.callB (call_reprM G.sm G.gd G.u66) rfl T.b_repr rfl (PA.cons (PE.call D12 G (by decide) rfl (PA.cons (PE.var 3) (PA.cons (PE.var 4) PA.nil))) PA.nil)) (PE.callB (call_reprM G.sm G.gd G.u66) rfl T.b_repr rfl (PA.cons (PE.var 10) PA.nil)) (nomark _)) (PW.or1 (PT.cmp (op_neM G.sm G.u64) (PE.var 3) (PE.var 1) (nomark _))))) (PSs.one (PS.ret PE.bl)) PSs.nil)))) (PSs.one (PS.ret PE.bl))))))
theorem at20 (T : Tx P w K mg base en CC) {f : Addr} {fd : FuncData} (F : L2.Fun K "_law_right" "_law_right" s20 f fd) (hm : mg "_law_right" = some (.ref f)) (D17 : DefAt P w K mg base en 2 "_law_random" 2 f17) (D19 : DefAt P w K mg base en 1 "_law_held" 2 f19) (D12 : DefAt P w K mg base en 3 "holds" 2 f12) : DefAt P w K mg base en 4 "_law_right" 2 f20 :=
  DefAt.mk' hm F (ok20 T F D17 D19 D12) (F.binds fun _ _ _ _ _ _ us hl => match us, hl with | [_, _], _ => rfl)
/-! _law_caught -/
abbrev s21 : Stmt := top 21
def m21 : SM := (mSeq (mSet 2 (mC .non)) (mSeq (mTry 3 sub_WalkError (mDrop (mCall f12 (aCons (mVar 0) (aCons (mVar 1) aNil)))) (mSet 2 (mVar 3))) (mSeq (mSet 4 (mOA opLst (aCons (mO1 (opIsi is_InvalidList) (mVar 2)) (aCons (mO1 (opIsi is_InvalidItem) (mVar 2)) (aCons (mO1 (opIsi is_InvalidNumber) (mVar 2)) (aCons (mC (.bl true)) aNil)))))) (mRet (mOA opLst (aCons (mBm opIndex (mVar 4) (aCons (mC (.bl true)) aNil)) (aCons (mIf (mB (mO2 opIsN (mVar 2) (mC .non))) (mC .non) (mOA (un1 opRepr) (aCons (mO1 (opExf x_value) (mVar 2)) aNil))) aNil)))))))
def f21 : FM := mFn 2 5 m21
theorem sc21 : FnScope ["_law_stretches", "_law_number", "_law_caught_here", "error", "_law_kinds"] ["_law_stretches", "_law_number"] (defScope s21) := ⟨rfl, rfl, rfl, by decide +kernel, rfl, by decide +kernel, by decide +kernel⟩
theorem ok21 (T : Tx P w K mg base en CC) {f : Addr} {fd : FuncData} (F : L2.Fun K "_law_caught" "_law_caught" s21 f fd) (D12 : DefAt P w K mg base en 3 "holds" 2 f12) : FnG P w K mg base 4 f fd ["_law_stretches", "_law_number"] (spM en 2 f21) := by
  obtain ⟨oc, od, kV, doc, pm, an, cdv, ct, osl, rfl, lk, hcd⟩ := F.ex
  exact fnG_of lk hcd sc21 T.hK T.sm fun A outer s H E G => (PSs.cons (PS.set (i := 2) sc21.nd rfl (by first | exact .inl rfl | exact .inr rfl) PE.non) (PSs.cons (PS.tryAs (i := 3) G rfl rfl rfl sc21.nd rfl rfl ⟨rfl, by decide, .inl T.g_WalkError⟩ T.sub_WalkError (fun W2 pn2 xe2 G => (PSs.one (PS.expr (PE.call D12 G (by decide) rfl (PA.cons (PE.var 0) (PA.cons (PE.var 1) PA.nil)))))) (fun a2 pn2 => (PSs.one (PS.set (i := 2) sc21.nd rfl (by first | exact .inl rfl | exact .inr rfl) (PE.var 3))))) (PSs.cons (PS.set (i := 4) sc21.nd rfl (by first | exact .inl rfl | exact .inr rfl) (PE.lst (PA.cons (PE.isi G.K (.own _) T.is_InvalidList rfl T.b_isinstance (PE.var 2) (pe_glob rfl T.g_InvalidList rfl)) (PA.cons (PE.isi G.K (.own _) T.is_InvalidItem rfl T.b_isinstance (PE.var 2) (pe_glob rfl T.g_InvalidItem rfl)) (PA.cons (PE.isi G.K (.own _) T.is_InvalidNumber rfl T.b_isinstance (PE.var 2) (pe_glob rfl T.g_InvalidNumber rfl)) (PA.cons PE.bl PA.nil)))))) (PSs.one (PS.ret (PE.lst (PA.cons (PE.index (PE.var 4) (PA.cons PE.bl PA.nil)) (PA.cons (PE.ifx (PT.cmp op_isNM (PE.var 2) PE.non (nomark _)) PE.non (PE.callB (call_reprM G.sm G.gd G.u66) rfl T.b_repr rfl (PA.cons (PE.exf G.K T.x_value (PE.var 2)) PA.nil))) PA.nil))))))))
theorem at21 (T : Tx P w K mg base en CC) {f : Addr} {fd : FuncData} (F : L2.Fun K "_law_caught" "_law_caught" s21 f fd) (hm : mg "_law_caught" = some (.ref f)) (D12 : DefAt P w K mg base en 3 "holds" 2 f12) : DefAt P w K mg base en 4 "_law_caught" 2 f21 :=
  DefAt.mk' hm F (ok21 T F D12) (F.binds fun _ _ _ _ _ _ us hl => match us, hl with | [_, _], _ => rfl)
/-! _law_refused -/
abbrev s22 : Stmt := top 22
def m22 : SM := (mSeq (mFor (mWalk (mOA opLst (aCons (mC .non) (aCons (mC (.int 3)) (aCons (mOA opTup aNil) (aCons (mOA (un1 opTuple) (aCons (mVar 0) aNil)) (aCons (mC (.str "stretch")) (aCons mDict0 (aCons (mC (.bl true)) (aCons (mOA opTup (aCons (mC (.int 0)) (aCons (mC (.int 1)) (aCons (mC (.int 1)) aNil)))) aNil)))))))))) (gVar 1) (mIfS (mB (mO2 (eqD true) (mCall f21 (aCons (mVar 1) (aCons (mC .non) aNil))) (mOA opLst (aCons (mC (.int 0)) (aCons (mOA (un1 opRepr) (aCons (mVar 1) aNil)) aNil))))) (mRet (mC (.bl false))) mNil)) (mSeq (mSet 2 (mOA opLst (aCons (mC .non) (aCons (mC (.int 3)) (aCons (mOA opTup aNil) (aCons (mOA opTup (aCons (mC (.int 0)) (aCons (mC (.int 1)) aNil))) (aCons (mOA opTup (aCons (mC (.int 0)) (aCons (mC (.int 1)) (aCons (mC (.int 1)) (aCons (mC (.int 1)) aNil))))) (aCons (mOA opLst (aCons (mC (.int 0)) (aCons (mC (.int 1)) (aCons (mC (.int 1)) aNil)))) (aCons (mOA opTup (aCons (mO1 opNeg (mC (.int 1))) (aCons (mC (.int 1)) (aCons (mC (.int 1)) aNil)))) (aCons (mOA opTup (aCons (mC (.int 0)) (aCons (mC (.int 0)) (aCons (mC (.int 1)) aNil)))) (aCons (mOA opTup (aCons (mC (.int 0)) (aCons (mO1 opNeg (mC (.int 1))) (aCons (mC (.int 1)) aNil)))) (aCons (mOA opTup (aCons (mC (.int 0)) (aCons (mC (.int 1)) (aCons (mC (.int 0)) aNil)))) (aCons (mOA opTup (aCons (mC (.int 0)) (aCons (mC (.int 1)) (aCons (mO1 opNeg (mC (.int 1))) aNil)))) (aCons mDict0 aNil)))))))))))))) (mSeq (mSet 2 (mO2 opAdd (mVar 2) (mOA opLst (aCons (mOA opTup (aCons (mC (.bl true)) (aCons (mC (.int 1)) (aCons (mC (.int 1)) aNil)))) (aCons (mOA opTup (aCons (mC (.int 0)) (aCons (mC (.bl true)) (aCons (mC (.int 1)) aNil)))) (aCons (mOA opTup (aCons (mC (.int 0)) (aCons (mC (.int 1)) (aCons (mC (.bl true)) aNil)))) (aCons (mOA opTup (aCons (mC (.int 0)) (aCons (mC (.int 1)) (aCons (mC (.bl false)) aNil)))) (aCons (mOA opTup (aCons (mC (.str "0")) (aCons (mC (.int 1)) (aCons (mC (.int 1)) aNil)))) (aCons (mOA opTup (aCons (mC (.int 0)) (aCons (mC .non) (aCons (mC (.int 1)) aNil)))) (aCons (mOA opTup (aCons (mC .non) (aCons (mC (.int 1)) (aCons (mC (.int 1)) aNil)))) aNil)))))))))) (mSeq (mFor (mWalk (mO2 opAdd (mVar 2) (mOA opLst (aCons (mOA opTup (aCons (mC (.int 0)) (aCons (mC (.int 1)) (aCons (mC (.str "1")) aNil)))) (aCons (mOA opTup (aCons (mOA opLst (aCons (mC (.int 0)) aNil)) (aCons (mC (.int 1)) (aCons (mC (.int 1)) aNil)))) (aCons (mOA opTup (aCons (mC (.int 0)) (aCons (mC (.int 1)) (aCons (mOA opLst (aCons (mC (.int 1)) aNil)) aNil)))) (aCons (mC (.bl true)) aNil))))))) (gVar 1) (mIfS (mB (mO2 (eqD true) (mCall f21 (aCons (mO2 opAdd (mVar 0) (mOA opLst (aCons (mVar 1) (aCons (mC .non) aNil)))) (aCons (mC .non) aNil))) (mOA opLst (aCons (mC (.int 1)) (aCons (mOA (un1 opRepr) (aCons (mVar 1) aNil)) aNil))))) (mRet (mC (.bl false))) mNil)) (mSeq (mFor (mWalk (mOA opLst (aCons (mC .non) (aCons (mC (.bl true)) (aCons (mC (.bl false)) (aCons (mC (.str "1")) (aCons (mOA opLst (aCons (mC (.int 1)) aNil)) (aCons (mOA opTup (aCons (mC (.int 1)) aNil)) (aCons mDict0 aNil))))))))) (gVar 1) (mIfS (mB (mO2 (eqD true) (mCall f21 (aCons (mOA (un1 opList) (aCons (mVar 0) aNil)) (aCons (mVar 1) aNil))) (mOA opLst (aCons (mC (.int 2)) (aCons (mOA (un1 opRepr) (aCons (mVar 1) aNil)) aNil))))) (mRet (mC (.bl false))) mNil)) (mRet (mC (.bl true))))))))
def f22 : FM := mFn 1 3 m22
theorem sc22 : FnScope ["_law_stretches", "_law_bad", "_law_bads"] ["_law_stretches"] (defScope s22) := ⟨rfl, rfl, rfl, by decide +kernel, rfl, by decide +kernel, by decide +kernel⟩
theorem ok22 (T : Tx P w K mg base en CC) {f : Addr} {fd : FuncData} (F : L2.Fun K "_law_refused" "_law_refused" s22 f fd) (D21 : DefAt P w K mg base en 4 "_law_caught" 2 f21) : FnG P w K mg base 5 f fd ["_law_stretches"] (spM en 1 f22) := by
  obtain ⟨oc, od, kV, doc, pm, an, cdv, ct, osl, rfl, lk, hcd⟩ := F.ex
  exact fnG_of lk hcd sc22 T.hK T.sm fun A outer s H E G => (PSs.cons (PS.for G.pass G.calm (PI.walk G.K (PE.lst (PA.cons PE.non (PA.cons PE.int (PA.cons (PE.tup PA.nil) (PA.cons (PE.callTy call_tupleM rfl T.b_tuple rfl (PA.cons (PE.var 0) PA.nil)) (PA.cons PE.str (PA.cons PE.dict0 (PA.cons PE.bl (PA.cons (PE.tup (PA.cons PE.int (PA.cons PE.int (PA.cons PE.int PA.nil)))) PA.nil)))))))))) (PG.var (i := 1) sc22.nd rfl (by first | exact .inl rfl | exact .inr rfl)) (PSs.one (PS.if (PT.cmp (op_neM G.sm G.u64) (PE.call D21 G (by decide) rfl (PA.cons (PE.var 1) (PA.cons PE.non PA.nil))) (PE.lst (PA.cons PE.int (PA.cons (PE.callB (call_reprM G.sm G.gd G.u66) rfl T.b_repr rfl (PA.cons (PE.var 1) PA.nil)) PA.nil))) (nomark _)) (PSs.one (PS.ret PE.bl)) PSs.nil))) (PSs.cons (PS.set (i := 2) sc22.nd rfl (by first | exact .inl rfl | exact .inr rfl) (PE.lst (PA.cons PE.non (PA.cons PE.int (PA.cons (PE.tup PA.nil) (PA.cons (PE.tup (PA.cons PE.int (PA.cons PE.int PA.nil))) (PA.cons (PE.tup (PA.cons PE.int (PA.cons PE.int (PA.cons PE.int (PA.cons PE.int PA.nil))))) (PA.cons (PE.lst (PA.cons PE.int (PA.cons PE.int (PA.cons PE.int PA.nil)))) (PA.cons (PE.tup (PA.cons (PE.un op_negM PE.int) (PA.cons PE.int (PA.cons PE.int PA.nil)))) (PA.cons (PE.tup (PA.cons PE.int (PA.cons PE.int (PA.cons PE.int PA.nil)))) (PA.cons (PE.tup (PA.cons PE.int (PA.cons (PE.un op_negM PE.int) (PA.cons PE.int PA.nil)))) (PA.cons (PE.tup (PA.cons PE.int (PA.cons PE.int (PA.cons PE.int PA.nil)))) (PA.cons (PE.tup (PA.cons PE.int (PA.cons PE.int (PA.cons (PE.un op_negM PE.int) PA.nil)))) (PA.cons PE.dict0 PA.nil)))))))))))))) (PSs.cons (PS.set (i := 2) sc22.nd rfl (by first | exact .inl rfl | exact .inr rfl) (PE.o2 op_addM (PE.var 2) (PE.lst (PA.cons (PE.tup (PA.cons PE.bl (PA.cons PE.int (PA.cons PE.int PA.nil)))) (PA.cons (PE.tup (PA.cons PE.int (PA.cons PE.bl (PA.cons PE.int PA.nil)))) (PA.cons (PE.tup (PA.cons PE.int (PA.cons PE.int (PA.cons PE.bl PA.nil)))) (PA.cons (PE.tup (PA.cons PE.int (PA.cons PE.int (PA.cons PE.bl PA.nil)))) (PA.cons (PE.tup (PA.cons PE.str (PA.cons PE.int (PA.cons PE.int PA.nil)))) (PA.cons (PE.tup (PA.cons PE.int (PA.cons PE.non (PA.cons PE.int PA.nil)))) (PA.cons (PE.tup (PA.cons PE.non (PA.cons PE.int (PA.cons PE.int PA.nil)))) PA.nil)))))))))) (PSs.cons (PS.for G.pass G.calm (PI.walk G.K (PE.o2 op_addM (PE.var 2) (PE.lst (PA.cons (PE.tup (PA.cons PE.int (PA.cons PE.int (PA.cons PE.str PA.nil)))) (PA.cons (PE.tup (PA.cons (PE.lst (PA.cons PE.int PA.nil)) (PA.cons PE.int (PA.cons PE.int PA.nil)))) (PA.cons (PE.tup (PA.cons PE.int (PA.cons PE.int (PA.cons (PE.lst (PA.cons PE.int PA.nil)) PA.nil)))) (PA.cons PE.bl PA.nil))))))) (PG.var (i := 1) sc22.nd rfl (by first | exact .inl rfl | exact .inr rfl)) (PSs.one (PS.if (PT.cmp (op_neM G.sm G.u64) (PE.call D21 G (by decide) rfl (PA.cons (PE.o2 op_addM (PE.var 0) (PE.lst (PA.cons (PE.var 1) (PA.cons PE.non PA.nil)))) (PA.cons PE.non PA.nil))) (PE.lst (PA.cons PE.int (PA.cons (PE.callB (call_reprM G.sm G.gd G.u66) rfl T.b_repr rfl (PA.cons (PE.var 1) PA.nil)) PA.nil))) (nomark _)) (PSs.one (PS.ret PE.bl)) PSs.nil))) (PSs.cons (PS.for G.pass G.calm (PI.walk G.K (PE.lst (PA.cons PE.non (PA.cons PE.bl (PA.cons PE.bl (PA.cons PE.str (PA.cons (PE.lst (PA.cons PE.int PA.nil)) (PA.cons (PE.tup (PA.cons PE.int PA.nil)) (PA.cons PE.dict0 PA.nil))))))))) (PG.var (i := 1) sc22.nd rfl (by first | exact .inl rfl | exact .inr rfl)) (PSs.one (PS.if (PT.cmp (op_neM G.sm G.u64) (PE.call D21 G (by decide) rfl (PA.cons (PE.callTy call_listM rfl T.b_list rfl (PA.cons (PE.var 0) PA.nil)) (PA.cons (PE.var 1) PA.nil))) (PE.lst (PA.cons PE.int (PA.cons (PE.callB (call_reprM G.sm G.gd G.u66) rfl T.b_repr rfl (PA.cons (PE.var 1) PA.nil)) PA.nil))) (nomark _)) (PSs.one (PS.ret PE.bl)) PSs.nil))) (PSs.one (PS.ret PE.bl)))))))
theorem at22 (T : Tx P w K mg base en CC) {f : Addr} {fd : FuncData} (F : L2.Fun K "_law_refused" "_law_refused" s22 f fd) (hm : mg "_law_refused" = some (.ref f)) (D21 : DefAt P w K mg base en 4 "_law_caught" 2 f21) : DefAt P w K mg base en 5 "_law_refused" 1 f22 :=
  DefAt.mk' hm F (ok22 T F D21) (F.binds fun _ _ _ _ _ _ us hl => match us, hl with | [_], _ => rfl)
/-! law -/
abbrev s23 : Stmt := top 23
def m23 : SM := (mSeq (mFor (mRng1 (aCons (mC (.int 6)) aNil)) (gVar 1) (mSeq (mSet 2 (mCall f16 (aCons (mVar 0) (aCons (mVar 1) aNil)))) (mSeq (mSet 3 (mLc (mRng1 (aCons (mCall f17 (aCons (mVar 2) (aCons (mC (.int 6)) aNil))) aNil)) (gVar 4) bYes (mCall f18 (aCons (mVar 2) aNil)) [4])) (mIfS (bOr (bNot (mTru (mCall f20 (aCons (mVar 2) (aCons (mVar 3) aNil))))) (bNot (mTru (mCall f22 (aCons (mVar 3) aNil))))) (mRet (mC (.bl false))) mNil)))) (mRet (mC (.bl true))))
def f23 : FM := mFn 1 5 m23
theorem sc23 : FnScope ["_law_script", "_law_index", "_law_generator_here", "_law_stretches", "_law_turn"] ["_law_script"] (defScope s23) := ⟨rfl, rfl, rfl, by decide +kernel, rfl, by decide +kernel, by decide +kernel⟩
theorem ok23 (T : Tx P w K mg base en CC) {f : Addr} {fd : FuncData} (F : L2.Fun K "law" "law" s23 f fd) (D16 : DefAt P w K mg base en 2 "_law_generator" 2 f16) (D17 : DefAt P w K mg base en 2 "_law_random" 2 f17) (D18 : DefAt P w K mg base en 3 "_law_stretch" 1 f18) (D20 : DefAt P w K mg base en 4 "_law_right" 2 f20) (D22 : DefAt P w K mg base en 5 "_law_refused" 1 f22) : FnG P w K mg base 6 f fd ["_law_script"] (spM en 1 f23) := by
  obtain ⟨oc, od, kV, doc, pm, an, cdv, ct, osl, rfl, lk, hcd⟩ := F.ex
  exact fnG_of lk hcd sc23 T.hK T.sm fun A outer s H E G => (PSs.cons (PS.for G.pass G.calm (PI.rng1 rfl T.b_range (PA.cons PE.int PA.nil)) (PG.var (i := 1) sc23.nd rfl (by first | exact .inl rfl | exact .inr rfl)) (PSs.cons (PS.set (i := 2) sc23.nd rfl (by first | exact .inl rfl | exact .inr rfl) (PE.call D16 G (by decide) rfl (PA.cons (PE.var 0) (PA.cons (PE.var 1) PA.nil)))) (PSs.cons (PS.setLcG (i := 3) G sc23.nd rfl rfl (by first | rfl | decide) (PI.rng1 rfl T.b_range (PA.cons (PE.call D17 G (by decide) rfl (PA.cons (PE.var 2) (PA.cons PE.int PA.nil))) PA.nil)) (own := [("_law_turn", 4)]) ⟨rfl, by decide +kernel, of_decide_eq_true (by kernel_rfl), of_decide_eq_true (by kernel_rfl), of_decide_eq_true (by kernel_rfl)⟩ (fun s3 H3 C3 cl3 fp3 G => (PG.var (i := 4) sc23.nd rfl (by first | exact .inl rfl | exact .inr rfl))) (fun s3 H3 C3 cl3 fp3 G => PTs.nil) (fun s3 H3 C3 cl3 fp3 G => (PE.call D18 G (by decide) rfl (PA.cons (PE.var 2) PA.nil)))) (PSs.one (PS.if (PW.pt (PW.or (PT.not (PT.tru G.K (PE.call D20 G (by decide) rfl (PA.cons (PE.var 2) (PA.cons (PE.var 3) PA.nil))))) (PW.or1 (PT.not (PT.tru G.K (PE.call D22 G (by decide) rfl (PA.cons (PE.var 3) PA.nil))))))) (PSs.one (PS.ret PE.bl)) PSs.nil))))) (PSs.one (PS.ret PE.bl)))
end
abbrev sI1 : Stmt := inClass (top 3) 0
abbrev sI2 : Stmt := inClass (top 4) 0
abbrev sI3 : Stmt := inClass (top 5) 0
theorem all_mk {P : Program} {w : World} {K : PySem.W.Frag} {h : Heap} {mg : Str → Option Value} {fa : Addr} (X : K.In h) (G : h.Ns mainGlobals mg) (hfa : mg "law" = some (.ref fa))
    {C0 : Addr}
    {C1 : Addr}
    {nm1 q1 : Str} {N1 fI1 cda1 cc1 T1 : Addr} {bs1 bm1 sub1 : List Value} {sn1 : List Str} {ab1 : Bool} {col1 : Option Bool} {dd1 od1 an1 cdd1 cld1 td1 : Option Addr} {u01 u11 u21 u31 u51 : Option Value} {oc1 kV1 doc1 pm1 ct1 ccl1 cl1 tc1 : Value} {osl1 ccs1 csl1 tsl1 : Array (Option Value)} {vs1 : Array Value} {file1 : Str} {tf1 : Tok} {n1 : Nat}
    {C2 : Addr}
    {nm2 q2 : Str} {N2 fI2 cda2 cc2 T2 : Addr} {bs2 bm2 sub2 : List Value} {sn2 : List Str} {ab2 : Bool} {col2 : Option Bool} {dd2 od2 an2 cdd2 cld2 td2 : Option Addr} {u02 u12 u22 u32 u52 : Option Value} {oc2 kV2 doc2 pm2 ct2 ccl2 cl2 tc2 : Value} {osl2 ccs2 csl2 tsl2 : Array (Option Value)} {vs2 : Array Value} {file2 : Str} {tf2 : Tok} {n2 : Nat}
    {C3 : Addr}
    {nm3 q3 : Str} {N3 fI3 cda3 cc3 T3 : Addr} {bs3 bm3 sub3 : List Value} {sn3 : List Str} {ab3 : Bool} {col3 : Option Bool} {dd3 od3 an3 cdd3 cld3 td3 : Option Addr} {u03 u13 u23 u33 u53 : Option Value} {oc3 kV3 doc3 pm3 ct3 ccl3 cl3 tc3 : Value} {osl3 ccs3 csl3 tsl3 : Array (Option Value)} {vs3 : Array Value} {file3 : Str} {tf3 : Tok} {n3 : Nat}
    {C4 : Addr}
    {fa14 : Addr} {od14d an14d : Option Addr} {sl14d : Array (Option Value)} {oc14d kV14d dc14d pm14d cd14d ct14d : Value}
    {fa16 : Addr} {od16d an16d : Option Addr} {sl16d : Array (Option Value)} {oc16d kV16d dc16d pm16d cd16d ct16d : Value}
    {fa15 : Addr} {od15d an15d : Option Addr} {sl15d : Array (Option Value)} {oc15d kV15d dc15d pm15d cd15d ct15d : Value}
    {fa17 : Addr} {od17d an17d : Option Addr} {sl17d : Array (Option Value)} {oc17d kV17d dc17d pm17d cd17d ct17d : Value}
    {fa18 : Addr} {od18d an18d : Option Addr} {sl18d : Array (Option Value)} {oc18d kV18d dc18d pm18d cd18d ct18d : Value}
    {fa19 : Addr} {od19d an19d : Option Addr} {sl19d : Array (Option Value)} {oc19d kV19d dc19d pm19d cd19d ct19d : Value}
    {fa7 : Addr} {od7d an7d : Option Addr} {sl7d : Array (Option Value)} {oc7d kV7d dc7d pm7d cd7d ct7d : Value}
    {fa9 : Addr} {od9d an9d : Option Addr} {sl9d : Array (Option Value)} {oc9d kV9d dc9d pm9d cd9d ct9d : Value}
    {fa_Held___init__ : Addr} {od_Held___init__d an_Held___init__d : Option Addr} {sl_Held___init__d : Array (Option Value)} {oc_Held___init__d kV_Held___init__d dc_Held___init__d pm_Held___init__d cd_Held___init__d ct_Held___init__d : Value}
    {fa_Held_holds : Addr} {od_Held_holdsd an_Held_holdsd : Option Addr} {sl_Held_holdsd : Array (Option Value)} {oc_Held_holdsd kV_Held_holdsd dc_Held_holdsd pm_Held_holdsd cd_Held_holdsd ct_Held_holdsd : Value}
    {fa12 : Addr} {od12d an12d : Option Addr} {sl12d : Array (Option Value)} {oc12d kV12d dc12d pm12d cd12d ct12d : Value}
    {fa20 : Addr} {od20d an20d : Option Addr} {sl20d : Array (Option Value)} {oc20d kV20d dc20d pm20d cd20d ct20d : Value}
    {fa21 : Addr} {od21d an21d : Option Addr} {sl21d : Array (Option Value)} {oc21d kV21d dc21d pm21d cd21d ct21d : Value}
    {fa22 : Addr} {od22d an22d : Option Addr} {sl22d : Array (Option Value)} {oc22d kV22d dc22d pm22d cd22d ct22d : Value}
    {fa23 : Addr} {od23d an23d : Option Addr} {sl23d : Array (Option Value)} {oc23d kV23d dc23d pm23d cd23d ct23d : Value}
    (aC0 : PySem.W.nsIn K mainGlobals "WalkError" = some (some (.ref C0)))
    (ga0 : PySem.W.findIn K (.ref C0) "__getattribute__" = some (some (.builtin "BaseException.__getattribute__")))
    (gg0 : PySem.W.findIn K (.ref C0) "__getattr__" = some none)
    (kC0 : PySem.W.keepIn K (.ref C0) = true)
    (ex0 : PySem.W.subIn K (.ref C0) (.type "BaseException") = some true)
    (ty0 : PySem.W.typeIn K (.ref C0) = some (.type "type"))
    (hd0 : PySem.W.hasDictIn K C0 = true)
    (ic0 : PySem.W.isClsIn K C0 = true)
    (ha0 : PySem.W.findIn K (.ref C0) "__class__" = some (some (.builtin "object.__class__")))
    (mo0 : PySem.W.mroIn K C0 (.type "object") = some true)
    (aC1 : PySem.W.nsIn K mainGlobals "InvalidNumber" = some (some (.ref C1)))
    (ga1 : PySem.W.findIn K (.ref C1) "__getattribute__" = some (some (.builtin "BaseException.__getattribute__")))
    (gg1 : PySem.W.findIn K (.ref C1) "__getattr__" = some none)
    (kC1 : PySem.W.keepIn K (.ref C1) = true)
    (ex1 : PySem.W.subIn K (.ref C1) (.type "BaseException") = some true)
    (ty1 : PySem.W.typeIn K (.ref C1) = some (.type "type"))
    (hd1 : PySem.W.hasDictIn K C1 = true)
    (ic1 : PySem.W.isClsIn K C1 = true)
    (ha1 : PySem.W.findIn K (.ref C1) "__class__" = some (some (.builtin "object.__class__")))
    (mo1 : PySem.W.mroIn K C1 (.type "object") = some true)
    (xL1 : K.lookup C1 = some (excClassObj nm1 q1 C1 N1 bs1 bm1 true sn1 sub1 ab1 col1 dd1 u01 u11 u21 u31 u51 "ValueError.__new__"))
    (rv1 : PySem.HandSPX.refsVE bm1 = true)
    (al1 : PySem.W.ks_superIn K C1 C1 "__init__" = some (some (.builtin "ValueError.__init__")))
    (sa1 : PySem.W.findIn K (.ref C1) "__setattr__" = some (some (.builtin "object.__setattr__")))
    (no1 : PySem.W.findIn K (.ref C1) "value" = some none)
    (iC1 : PySem.W.findIn K (.ref C1) "__init__" = some (some (.ref fI1)))
    (tF1 : PySem.W.typeIn K (.ref fI1) = some (.type "function"))
    (ve1 : PySem.W.subIn K (.ref C1) (.type "ValueError") = some true)
    (mr1 : PySem.W.mroIn K C1 (.ref C1) = some true)
    (lF1 : K.lookup fI1 = some ⟨oc1, od1, .func (PySem.W.fnX "__init__" "InvalidNumber.__init__" (defArgs sI1) (defBody sI1) (defScope sI1) [("__class__", cc1)] (.ref T1) kV1 doc1 pm1 an1 (.ref cda1) ct1), osl1⟩)
    (cF1 : PySem.W.codeIn K (.ref cda1) "InvalidNumber.__init__" = true)
    (lD1 : K.lookup cda1 = some ⟨ccl1, cdd1, .fields vs1, ccs1⟩)
    (hv1 : vs1[2]? = some (.str file1 tf1))
    (hf1 : (P.main.file == file1) = true)
    (lcc1 : K.lookup cc1 = some ⟨cl1, cld1, .cell (some (.ref C1)), csl1⟩)
    (lT1 : K.lookup T1 = some ⟨tc1, td1, .seq #[.none] n1, tsl1⟩)
    (aC2 : PySem.W.nsIn K mainGlobals "InvalidList" = some (some (.ref C2)))
    (ga2 : PySem.W.findIn K (.ref C2) "__getattribute__" = some (some (.builtin "BaseException.__getattribute__")))
    (gg2 : PySem.W.findIn K (.ref C2) "__getattr__" = some none)
    (kC2 : PySem.W.keepIn K (.ref C2) = true)
    (ex2 : PySem.W.subIn K (.ref C2) (.type "BaseException") = some true)
    (ty2 : PySem.W.typeIn K (.ref C2) = some (.type "type"))
    (hd2 : PySem.W.hasDictIn K C2 = true)
    (ic2 : PySem.W.isClsIn K C2 = true)
    (ha2 : PySem.W.findIn K (.ref C2) "__class__" = some (some (.builtin "object.__class__")))
    (mo2 : PySem.W.mroIn K C2 (.type "object") = some true)
    (xL2 : K.lookup C2 = some (excClassObj nm2 q2 C2 N2 bs2 bm2 true sn2 sub2 ab2 col2 dd2 u02 u12 u22 u32 u52 "ValueError.__new__"))
    (rv2 : PySem.HandSPX.refsVE bm2 = true)
    (al2 : PySem.W.ks_superIn K C2 C2 "__init__" = some (some (.builtin "ValueError.__init__")))
    (sa2 : PySem.W.findIn K (.ref C2) "__setattr__" = some (some (.builtin "object.__setattr__")))
    (no2 : PySem.W.findIn K (.ref C2) "value" = some none)
    (iC2 : PySem.W.findIn K (.ref C2) "__init__" = some (some (.ref fI2)))
    (tF2 : PySem.W.typeIn K (.ref fI2) = some (.type "function"))
    (ve2 : PySem.W.subIn K (.ref C2) (.type "ValueError") = some true)
    (mr2 : PySem.W.mroIn K C2 (.ref C2) = some true)
    (lF2 : K.lookup fI2 = some ⟨oc2, od2, .func (PySem.W.fnX "__init__" "InvalidList.__init__" (defArgs sI2) (defBody sI2) (defScope sI2) [("__class__", cc2)] (.ref T2) kV2 doc2 pm2 an2 (.ref cda2) ct2), osl2⟩)
    (cF2 : PySem.W.codeIn K (.ref cda2) "InvalidList.__init__" = true)
    (lD2 : K.lookup cda2 = some ⟨ccl2, cdd2, .fields vs2, ccs2⟩)
    (hv2 : vs2[2]? = some (.str file2 tf2))
    (hf2 : (P.main.file == file2) = true)
    (lcc2 : K.lookup cc2 = some ⟨cl2, cld2, .cell (some (.ref C2)), csl2⟩)
    (lT2 : K.lookup T2 = some ⟨tc2, td2, .seq #[.none] n2, tsl2⟩)
    (aC3 : PySem.W.nsIn K mainGlobals "InvalidItem" = some (some (.ref C3)))
    (ga3 : PySem.W.findIn K (.ref C3) "__getattribute__" = some (some (.builtin "BaseException.__getattribute__")))
    (gg3 : PySem.W.findIn K (.ref C3) "__getattr__" = some none)
    (kC3 : PySem.W.keepIn K (.ref C3) = true)
    (ex3 : PySem.W.subIn K (.ref C3) (.type "BaseException") = some true)
    (ty3 : PySem.W.typeIn K (.ref C3) = some (.type "type"))
    (hd3 : PySem.W.hasDictIn K C3 = true)
    (ic3 : PySem.W.isClsIn K C3 = true)
    (ha3 : PySem.W.findIn K (.ref C3) "__class__" = some (some (.builtin "object.__class__")))
    (mo3 : PySem.W.mroIn K C3 (.type "object") = some true)
    (xL3 : K.lookup C3 = some (excClassObj nm3 q3 C3 N3 bs3 bm3 true sn3 sub3 ab3 col3 dd3 u03 u13 u23 u33 u53 "ValueError.__new__"))
    (rv3 : PySem.HandSPX.refsVE bm3 = true)
    (al3 : PySem.W.ks_superIn K C3 C3 "__init__" = some (some (.builtin "ValueError.__init__")))
    (sa3 : PySem.W.findIn K (.ref C3) "__setattr__" = some (some (.builtin "object.__setattr__")))
    (no3 : PySem.W.findIn K (.ref C3) "value" = some none)
    (iC3 : PySem.W.findIn K (.ref C3) "__init__" = some (some (.ref fI3)))
    (tF3 : PySem.W.typeIn K (.ref fI3) = some (.type "function"))
    (ve3 : PySem.W.subIn K (.ref C3) (.type "ValueError") = some true)
    (mr3 : PySem.W.mroIn K C3 (.ref C3) = some true)
    (lF3 : K.lookup fI3 = some ⟨oc3, od3, .func (PySem.W.fnX "__init__" "InvalidItem.__init__" (defArgs sI3) (defBody sI3) (defScope sI3) [("__class__", cc3)] (.ref T3) kV3 doc3 pm3 an3 (.ref cda3) ct3), osl3⟩)
    (cF3 : PySem.W.codeIn K (.ref cda3) "InvalidItem.__init__" = true)
    (lD3 : K.lookup cda3 = some ⟨ccl3, cdd3, .fields vs3, ccs3⟩)
    (hv3 : vs3[2]? = some (.str file3 tf3))
    (hf3 : (P.main.file == file3) = true)
    (lcc3 : K.lookup cc3 = some ⟨cl3, cld3, .cell (some (.ref C3)), csl3⟩)
    (lT3 : K.lookup T3 = some ⟨tc3, td3, .seq #[.none] n3, tsl3⟩)
    (aC4 : PySem.W.nsIn K mainGlobals "Held" = some (some (.ref C4)))
    (pg4 : PySem.W.plainGet K C4 Str.empty = true)
    (hd4 : PySem.W.hasDictIn K C4 = true)
    (po4 : PySem.W.plainOver K C4 = true)
    (sa4 : PySem.W.findIn K (.ref C4) "__setattr__" = some (some (.builtin "object.__setattr__")))
    (mk4 : PySem.W.makesIn K C4 = true)
    (kc4 : PySem.W.keepIn K (.ref C4) = true)
    (no4_0 : PySem.W.findIn K (.ref C4) "_singles" = some none)
    (no4_1 : PySem.W.findIn K (.ref C4) "_runs" = some none)
    (no4_2 : PySem.W.findIn K (.ref C4) "_ranges" = some none)
    (opq : PySem.W.nsIn K cStatics "thirdparty.any" = some none)
    (sup : PySem.W.nsIn K mainGlobals "super" = some none)
    (hn : PySem.W.specialIn K (.builtin "object.__class__") "__get__" = some (some (.builtin "getset_descriptor.__get__")))
    (ht : PySem.W.takesIn K (.builtin "object.__class__") = some true)
    (htop : (P.main.scope.names.lookup ("super" : Str)).isSome = false)
    (b_bool : PySem.W.nsIn K mainGlobals "bool" = some none)
    (b_int : PySem.W.nsIn K mainGlobals "int" = some none)
    (b_isinstance : PySem.W.nsIn K mainGlobals "isinstance" = some none)
    (b_len : PySem.W.nsIn K mainGlobals "len" = some none)
    (b_list : PySem.W.nsIn K mainGlobals "list" = some none)
    (b_max : PySem.W.nsIn K mainGlobals "max" = some none)
    (b_range : PySem.W.nsIn K mainGlobals "range" = some none)
    (b_repr : PySem.W.nsIn K mainGlobals "repr" = some none)
    (b_tuple : PySem.W.nsIn K mainGlobals "tuple" = some none)
    (o0_InvalidItem : PySem.W.kitOne K (.ref C0) (.ref C3) = some false)
    (o1_InvalidItem : PySem.W.kitOne K (.ref C1) (.ref C3) = some false)
    (o2_InvalidItem : PySem.W.kitOne K (.ref C2) (.ref C3) = some false)
    (o3_InvalidItem : PySem.W.kitOne K (.ref C3) (.ref C3) = some true)
    (o0_InvalidList : PySem.W.kitOne K (.ref C0) (.ref C2) = some false)
    (o1_InvalidList : PySem.W.kitOne K (.ref C1) (.ref C2) = some false)
    (o2_InvalidList : PySem.W.kitOne K (.ref C2) (.ref C2) = some true)
    (o3_InvalidList : PySem.W.kitOne K (.ref C3) (.ref C2) = some false)
    (o0_InvalidNumber : PySem.W.kitOne K (.ref C0) (.ref C1) = some false)
    (o1_InvalidNumber : PySem.W.kitOne K (.ref C1) (.ref C1) = some true)
    (o2_InvalidNumber : PySem.W.kitOne K (.ref C2) (.ref C1) = some false)
    (o3_InvalidNumber : PySem.W.kitOne K (.ref C3) (.ref C1) = some false)
    (u0_WalkError : PySem.W.subIn K (.ref C0) (.ref C0) = some true)
    (u1_WalkError : PySem.W.subIn K (.ref C1) (.ref C0) = some true)
    (u2_WalkError : PySem.W.subIn K (.ref C2) (.ref C0) = some true)
    (u3_WalkError : PySem.W.subIn K (.ref C3) (.ref C0) = some true)
    (a14d : PySem.W.nsIn K mainGlobals "_law_cell" = some (some (.ref fa14)))
    (l14d : K.lookup fa14 = some ⟨oc14d, od14d, .func (PySem.W.fnOf "_law_cell" "_law_cell" (defArgs s14) (defBody s14) (defScope s14) .none kV14d dc14d pm14d an14d cd14d ct14d), sl14d⟩)
    (c14d : PySem.W.codeIn K cd14d "_law_cell" = true)
    (k14d : PySem.W.keepIn K (.ref fa14) = true)
    (a16d : PySem.W.nsIn K mainGlobals "_law_generator" = some (some (.ref fa16)))
    (l16d : K.lookup fa16 = some ⟨oc16d, od16d, .func (PySem.W.fnOf "_law_generator" "_law_generator" (defArgs s16) (defBody s16) (defScope s16) .none kV16d dc16d pm16d an16d cd16d ct16d), sl16d⟩)
    (c16d : PySem.W.codeIn K cd16d "_law_generator" = true)
    (k16d : PySem.W.keepIn K (.ref fa16) = true)
    (a15d : PySem.W.nsIn K mainGlobals "_law_hash" = some (some (.ref fa15)))
    (l15d : K.lookup fa15 = some ⟨oc15d, od15d, .func (PySem.W.fnOf "_law_hash" "_law_hash" (defArgs s15) (defBody s15) (defScope s15) .none kV15d dc15d pm15d an15d cd15d ct15d), sl15d⟩)
    (c15d : PySem.W.codeIn K cd15d "_law_hash" = true)
    (k15d : PySem.W.keepIn K (.ref fa15) = true)
    (a17d : PySem.W.nsIn K mainGlobals "_law_random" = some (some (.ref fa17)))
    (l17d : K.lookup fa17 = some ⟨oc17d, od17d, .func (PySem.W.fnOf "_law_random" "_law_random" (defArgs s17) (defBody s17) (defScope s17) .none kV17d dc17d pm17d an17d cd17d ct17d), sl17d⟩)
    (c17d : PySem.W.codeIn K cd17d "_law_random" = true)
    (k17d : PySem.W.keepIn K (.ref fa17) = true)
    (a18d : PySem.W.nsIn K mainGlobals "_law_stretch" = some (some (.ref fa18)))
    (l18d : K.lookup fa18 = some ⟨oc18d, od18d, .func (PySem.W.fnOf "_law_stretch" "_law_stretch" (defArgs s18) (defBody s18) (defScope s18) .none kV18d dc18d pm18d an18d cd18d ct18d), sl18d⟩)
    (c18d : PySem.W.codeIn K cd18d "_law_stretch" = true)
    (k18d : PySem.W.keepIn K (.ref fa18) = true)
    (a19d : PySem.W.nsIn K mainGlobals "_law_held" = some (some (.ref fa19)))
    (l19d : K.lookup fa19 = some ⟨oc19d, od19d, .func (PySem.W.fnOf "_law_held" "_law_held" (defArgs s19) (defBody s19) (defScope s19) .none kV19d dc19d pm19d an19d cd19d ct19d), sl19d⟩)
    (c19d : PySem.W.codeIn K cd19d "_law_held" = true)
    (k19d : PySem.W.keepIn K (.ref fa19) = true)
    (a7d : PySem.W.nsIn K mainGlobals "is_whole" = some (some (.ref fa7)))
    (l7d : K.lookup fa7 = some ⟨oc7d, od7d, .func (PySem.W.fnOf "is_whole" "is_whole" (defArgs s7) (defBody s7) (defScope s7) .none kV7d dc7d pm7d an7d cd7d ct7d), sl7d⟩)
    (c7d : PySem.W.codeIn K cd7d "is_whole" = true)
    (k7d : PySem.W.keepIn K (.ref fa7) = true)
    (a9d : PySem.W.nsIn K mainGlobals "is_stretch" = some (some (.ref fa9)))
    (l9d : K.lookup fa9 = some ⟨oc9d, od9d, .func (PySem.W.fnOf "is_stretch" "is_stretch" (defArgs s9) (defBody s9) (defScope s9) .none kV9d dc9d pm9d an9d cd9d ct9d), sl9d⟩)
    (c9d : PySem.W.codeIn K cd9d "is_stretch" = true)
    (k9d : PySem.W.keepIn K (.ref fa9) = true)
    (a_Held___init__d : PySem.W.findIn K (.ref C4) "__init__" = some (some (.ref fa_Held___init__)))
    (i_Held___init__d : PySem.W.isFn K (.ref fa_Held___init__) = true)
    (l_Held___init__d : K.lookup fa_Held___init__ = some ⟨oc_Held___init__d, od_Held___init__d, .func (PySem.W.fnOf "__init__" "Held.__init__" (defArgs s_Held___init__) (defBody s_Held___init__) (defScope s_Held___init__) .none kV_Held___init__d dc_Held___init__d pm_Held___init__d an_Held___init__d cd_Held___init__d ct_Held___init__d), sl_Held___init__d⟩)
    (c_Held___init__d : PySem.W.codeIn K cd_Held___init__d "Held.__init__" = true)
    (k_Held___init__d : PySem.W.keepIn K (.ref fa_Held___init__) = true)
    (a_Held_holdsd : PySem.W.findIn K (.ref C4) "holds" = some (some (.ref fa_Held_holds)))
    (i_Held_holdsd : PySem.W.isFn K (.ref fa_Held_holds) = true)
    (l_Held_holdsd : K.lookup fa_Held_holds = some ⟨oc_Held_holdsd, od_Held_holdsd, .func (PySem.W.fnOf "holds" "Held.holds" (defArgs s_Held_holds) (defBody s_Held_holds) (defScope s_Held_holds) .none kV_Held_holdsd dc_Held_holdsd pm_Held_holdsd an_Held_holdsd cd_Held_holdsd ct_Held_holdsd), sl_Held_holdsd⟩)
    (c_Held_holdsd : PySem.W.codeIn K cd_Held_holdsd "Held.holds" = true)
    (k_Held_holdsd : PySem.W.keepIn K (.ref fa_Held_holds) = true)
    (a12d : PySem.W.nsIn K mainGlobals "holds" = some (some (.ref fa12)))
    (l12d : K.lookup fa12 = some ⟨oc12d, od12d, .func (PySem.W.fnOf "holds" "holds" (defArgs s12) (defBody s12) (defScope s12) .none kV12d dc12d pm12d an12d cd12d ct12d), sl12d⟩)
    (c12d : PySem.W.codeIn K cd12d "holds" = true)
    (k12d : PySem.W.keepIn K (.ref fa12) = true)
    (a20d : PySem.W.nsIn K mainGlobals "_law_right" = some (some (.ref fa20)))
    (l20d : K.lookup fa20 = some ⟨oc20d, od20d, .func (PySem.W.fnOf "_law_right" "_law_right" (defArgs s20) (defBody s20) (defScope s20) .none kV20d dc20d pm20d an20d cd20d ct20d), sl20d⟩)
    (c20d : PySem.W.codeIn K cd20d "_law_right" = true)
    (k20d : PySem.W.keepIn K (.ref fa20) = true)
    (a21d : PySem.W.nsIn K mainGlobals "_law_caught" = some (some (.ref fa21)))
    (l21d : K.lookup fa21 = some ⟨oc21d, od21d, .func (PySem.W.fnOf "_law_caught" "_law_caught" (defArgs s21) (defBody s21) (defScope s21) .none kV21d dc21d pm21d an21d cd21d ct21d), sl21d⟩)
    (c21d : PySem.W.codeIn K cd21d "_law_caught" = true)
    (k21d : PySem.W.keepIn K (.ref fa21) = true)
    (a22d : PySem.W.nsIn K mainGlobals "_law_refused" = some (some (.ref fa22)))
    (l22d : K.lookup fa22 = some ⟨oc22d, od22d, .func (PySem.W.fnOf "_law_refused" "_law_refused" (defArgs s22) (defBody s22) (defScope s22) .none kV22d dc22d pm22d an22d cd22d ct22d), sl22d⟩)
    (c22d : PySem.W.codeIn K cd22d "_law_refused" = true)
    (k22d : PySem.W.keepIn K (.ref fa22) = true)
    (a23d : PySem.W.nsIn K mainGlobals "law" = some (some (.ref fa23)))
    (l23d : K.lookup fa23 = some ⟨oc23d, od23d, .func (PySem.W.fnOf "law" "law" (defArgs s23) (defBody s23) (defScope s23) .none kV23d dc23d pm23d an23d cd23d ct23d), sl23d⟩)
    (c23d : PySem.W.codeIn K cd23d "law" = true)
    (k23d : PySem.W.keepIn K (.ref fa23) = true)
    : ∃ (fd : FuncData) (cl : List (Addr × List Str)), (∀ (s : Shared) (u : Value), BindsTo s fd ⟨[u], []⟩ [("_law_script", u)]) ∧
        ∀ (base : Heap) (a0 : Addr) (ns : List Int), K.In base → base.Ns mainGlobals mg → (∃ o, base.get? sysModules = some o) → FnG P w K mg base 6 fa fd ["_law_script"] (spM ⟨cl, K, a0, ns, []⟩ 1 f23) := by
  have e := hfa.symm.trans (PySem.W.mg_of X G a23d)
  cases e
  refine ⟨PySem.W.fnOf "law" "law" (defArgs s23) (defBody s23) (defScope s23) .none kV23d dc23d pm23d an23d cd23d ct23d, [(C0, []), (C1, ["value"]), (C2, ["value"]), (C3, ["value"]), (C4, ["_singles", "_runs", "_ranges"])], fun s u => .of_eq rfl, fun base a0 ns KB GB sm => ?_⟩
  have hs := PySem.W.mg_none_of X G sup
  have xi0 : ExcIs K C0 := ⟨by first | exact (any_isSome ic0) | (simpa [PySem.W.isClsIn] using ic0), ga0, gg0, ex0, ha0, hn, ht, mo0, hd0⟩
  have xi1 : ExcIs K C1 := ⟨by first | exact (any_isSome ic1) | (simpa [PySem.W.isClsIn] using ic1), ga1, gg1, ex1, ha1, hn, ht, mo1, hd1⟩
  have et1 : Er.ErrTxt P K "value" C1 fI1 :=
    { cls := ⟨nm1, q1, N1, bs1, bm1, sn1, sub1, ab1, col1, dd1, u01, u11, u21, u31, u51, xL1, rv1, Er.along_of xL1 al1⟩, sa := sa1, ga := ga1, gg := gg1, noN := no1, iC := iC1, tC := tF1, kC := kC1, exC := ex1, veC := ve1, tyC := ty1, hdC := hd1, mrC := mr1, opq := opq, htop := htop, fgood := by decide +kernel,
      fn := ⟨"InvalidNumber.__init__", _, oc1, ccl1, cl1, od1, cdd1, cld1, kV1, doc1, pm1, .ref T1, an1, cda1, cc1, ct1, osl1, ccs1, csl1, vs1, file1, tf1, _, _, _, _, _, _, _, _, _, _, _, _, _, _, _, lF1, cF1, lD1, hv1, hf1, lcc1, by decide, rfl⟩,
      b0 := fun oc od fd osl e => (by
        rw [lF1] at e; cases e
        refine ⟨fun s us X hl => ?_, fun s us X hl => ?_⟩
        · obtain ⟨a, b, rfl⟩ := two_of hl; exact PySem.W.binds_K X rfl lT1 rfl rfl rfl
        · obtain ⟨a, rfl⟩ := one_of hl; exact PySem.W.binds_K X rfl lT1 rfl rfl rfl),
      bK := fun oc od fd osl e s x v X => (by
        rw [lF1] at e; cases e
        exact PySem.W.binds_K X rfl lT1 rfl rfl rfl) }
  have xi2 : ExcIs K C2 := ⟨by first | exact (any_isSome ic2) | (simpa [PySem.W.isClsIn] using ic2), ga2, gg2, ex2, ha2, hn, ht, mo2, hd2⟩
  have et2 : Er.ErrTxt P K "value" C2 fI2 :=
    { cls := ⟨nm2, q2, N2, bs2, bm2, sn2, sub2, ab2, col2, dd2, u02, u12, u22, u32, u52, xL2, rv2, Er.along_of xL2 al2⟩, sa := sa2, ga := ga2, gg := gg2, noN := no2, iC := iC2, tC := tF2, kC := kC2, exC := ex2, veC := ve2, tyC := ty2, hdC := hd2, mrC := mr2, opq := opq, htop := htop, fgood := by decide +kernel,
      fn := ⟨"InvalidList.__init__", _, oc2, ccl2, cl2, od2, cdd2, cld2, kV2, doc2, pm2, .ref T2, an2, cda2, cc2, ct2, osl2, ccs2, csl2, vs2, file2, tf2, _, _, _, _, _, _, _, _, _, _, _, _, _, _, _, lF2, cF2, lD2, hv2, hf2, lcc2, by decide, rfl⟩,
      b0 := fun oc od fd osl e => (by
        rw [lF2] at e; cases e
        refine ⟨fun s us X hl => ?_, fun s us X hl => ?_⟩
        · obtain ⟨a, b, rfl⟩ := two_of hl; exact PySem.W.binds_K X rfl lT2 rfl rfl rfl
        · obtain ⟨a, rfl⟩ := one_of hl; exact PySem.W.binds_K X rfl lT2 rfl rfl rfl),
      bK := fun oc od fd osl e s x v X => (by
        rw [lF2] at e; cases e
        exact PySem.W.binds_K X rfl lT2 rfl rfl rfl) }
  have xi3 : ExcIs K C3 := ⟨by first | exact (any_isSome ic3) | (simpa [PySem.W.isClsIn] using ic3), ga3, gg3, ex3, ha3, hn, ht, mo3, hd3⟩
  have et3 : Er.ErrTxt P K "value" C3 fI3 :=
    { cls := ⟨nm3, q3, N3, bs3, bm3, sn3, sub3, ab3, col3, dd3, u03, u13, u23, u33, u53, xL3, rv3, Er.along_of xL3 al3⟩, sa := sa3, ga := ga3, gg := gg3, noN := no3, iC := iC3, tC := tF3, kC := kC3, exC := ex3, veC := ve3, tyC := ty3, hdC := hd3, mrC := mr3, opq := opq, htop := htop, fgood := by decide +kernel,
      fn := ⟨"InvalidItem.__init__", _, oc3, ccl3, cl3, od3, cdd3, cld3, kV3, doc3, pm3, .ref T3, an3, cda3, cc3, ct3, osl3, ccs3, csl3, vs3, file3, tf3, _, _, _, _, _, _, _, _, _, _, _, _, _, _, _, lF3, cF3, lD3, hv3, hf3, lcc3, by decide, rfl⟩,
      b0 := fun oc od fd osl e => (by
        rw [lF3] at e; cases e
        refine ⟨fun s us X hl => ?_, fun s us X hl => ?_⟩
        · obtain ⟨a, b, rfl⟩ := two_of hl; exact PySem.W.binds_K X rfl lT3 rfl rfl rfl
        · obtain ⟨a, rfl⟩ := one_of hl; exact PySem.W.binds_K X rfl lT3 rfl rfl rfl),
      bK := fun oc od fd osl e s x v X => (by
        rw [lF3] at e; cases e
        exact PySem.W.binds_K X rfl lT3 rfl rfl rfl) }
  have cf4 : ClsF ⟨[(C0, []), (C1, ["value"]), (C2, ["value"]), (C3, ["value"]), (C4, ["_singles", "_runs", "_ranges"])], K, a0, ns, []⟩ 4 C4 ["_singles", "_runs", "_ranges"] := ⟨rfl, ⟨pg4, hd4, po4, sa4⟩, List.forall_mem_cons.2 ⟨no4_0, List.forall_mem_cons.2 ⟨no4_1, List.forall_mem_cons.2 ⟨no4_2, fun _ h => nomatch h⟩⟩⟩, by decide +kernel, by decide⟩
  have T : Tx P w K mg base ⟨[(C0, []), (C1, ["value"]), (C2, ["value"]), (C3, ["value"]), (C4, ["_singles", "_runs", "_ranges"])], K, a0, ns, []⟩ (fun i => ([C0, C1, C2, C3, C4] : List Addr).getD i 0) :=
    { hK := rfl,
      sm := sm,
      b_bool := PySem.W.mg_none_of X G b_bool,
      b_int := PySem.W.mg_none_of X G b_int,
      b_isinstance := PySem.W.mg_none_of X G b_isinstance,
      b_len := PySem.W.mg_none_of X G b_len,
      b_list := PySem.W.mg_none_of X G b_list,
      b_max := PySem.W.mg_none_of X G b_max,
      b_range := PySem.W.mg_none_of X G b_range,
      b_repr := PySem.W.mg_none_of X G b_repr,
      b_tuple := PySem.W.mg_none_of X G b_tuple,
      g_Held := PySem.W.mg_of X G aC4,
      g_InvalidItem := PySem.W.mg_of X G aC3,
      g_InvalidList := PySem.W.mg_of X G aC2,
      g_InvalidNumber := PySem.W.mg_of X G aC1,
      g_WalkError := PySem.W.mg_of X G aC0,
      e1 := ⟨by decide, C1, ["value"], rfl, rfl, PySem.W.mg_of X G aC1, kC1, Er.err_made et1 hs, ex1, ty1⟩,
      e2 := ⟨by decide, C2, ["value"], rfl, rfl, PySem.W.mg_of X G aC2, kC2, Er.err_made et2 hs, ex2, ty2⟩,
      e3 := ⟨by decide, C3, ["value"], rfl, rfl, PySem.W.mg_of X G aC3, kC3, Er.err_made et3 hs, ex3, ty3⟩,
      is_InvalidItem := fun t b h => (by
          cases t with
          | exo c =>
            match c, h with
            | 0, h => cases h; exact ⟨_, rfl, ⟨C0, _, rfl, xi0⟩, o0_InvalidItem⟩
            | 1, h => cases h; exact ⟨_, rfl, ⟨C1, _, rfl, xi1⟩, o1_InvalidItem⟩
            | 2, h => cases h; exact ⟨_, rfl, ⟨C2, _, rfl, xi2⟩, o2_InvalidItem⟩
            | 3, h => cases h; exact ⟨_, rfl, ⟨C3, _, rfl, xi3⟩, o3_InvalidItem⟩
            | n + 4, h => cases h
          | _ => cases h),
      is_InvalidList := fun t b h => (by
          cases t with
          | exo c =>
            match c, h with
            | 0, h => cases h; exact ⟨_, rfl, ⟨C0, _, rfl, xi0⟩, o0_InvalidList⟩
            | 1, h => cases h; exact ⟨_, rfl, ⟨C1, _, rfl, xi1⟩, o1_InvalidList⟩
            | 2, h => cases h; exact ⟨_, rfl, ⟨C2, _, rfl, xi2⟩, o2_InvalidList⟩
            | 3, h => cases h; exact ⟨_, rfl, ⟨C3, _, rfl, xi3⟩, o3_InvalidList⟩
            | n + 4, h => cases h
          | _ => cases h),
      is_InvalidNumber := fun t b h => (by
          cases t with
          | exo c =>
            match c, h with
            | 0, h => cases h; exact ⟨_, rfl, ⟨C0, _, rfl, xi0⟩, o0_InvalidNumber⟩
            | 1, h => cases h; exact ⟨_, rfl, ⟨C1, _, rfl, xi1⟩, o1_InvalidNumber⟩
            | 2, h => cases h; exact ⟨_, rfl, ⟨C2, _, rfl, xi2⟩, o2_InvalidNumber⟩
            | 3, h => cases h; exact ⟨_, rfl, ⟨C3, _, rfl, xi3⟩, o3_InvalidNumber⟩
            | n + 4, h => cases h
          | _ => cases h),
      is_bool := fun t b h => (by
          cases t with
          | non => cases h; exact ⟨_, rfl, trivial, kit_ty (by decide +kernel)⟩
          | bl => cases h; exact ⟨_, rfl, trivial, kit_ty (by decide +kernel)⟩
          | int => cases h; exact ⟨_, rfl, trivial, kit_ty (by decide +kernel)⟩
          | str => cases h; exact ⟨_, rfl, trivial, kit_ty (by decide +kernel)⟩
          | lst => cases h; exact ⟨_, rfl, trivial, kit_ty (by decide +kernel)⟩
          | tup => cases h; exact ⟨_, rfl, trivial, kit_ty (by decide +kernel)⟩
          | dct => cases h; exact ⟨_, rfl, trivial, kit_ty (by decide +kernel)⟩
          | _ => cases h),
      is_int := fun t b h => (by
          cases t with
          | non => cases h; exact ⟨_, rfl, trivial, kit_ty (by decide +kernel)⟩
          | bl => cases h; exact ⟨_, rfl, trivial, kit_ty (by decide +kernel)⟩
          | int => cases h; exact ⟨_, rfl, trivial, kit_ty (by decide +kernel)⟩
          | str => cases h; exact ⟨_, rfl, trivial, kit_ty (by decide +kernel)⟩
          | lst => cases h; exact ⟨_, rfl, trivial, kit_ty (by decide +kernel)⟩
          | tup => cases h; exact ⟨_, rfl, trivial, kit_ty (by decide +kernel)⟩
          | dct => cases h; exact ⟨_, rfl, trivial, kit_ty (by decide +kernel)⟩
          | _ => cases h),
      is_list := fun t b h => (by
          cases t with
          | non => cases h; exact ⟨_, rfl, trivial, kit_ty (by decide +kernel)⟩
          | bl => cases h; exact ⟨_, rfl, trivial, kit_ty (by decide +kernel)⟩
          | int => cases h; exact ⟨_, rfl, trivial, kit_ty (by decide +kernel)⟩
          | str => cases h; exact ⟨_, rfl, trivial, kit_ty (by decide +kernel)⟩
          | lst => cases h; exact ⟨_, rfl, trivial, kit_ty (by decide +kernel)⟩
          | tup => cases h; exact ⟨_, rfl, trivial, kit_ty (by decide +kernel)⟩
          | dct => cases h; exact ⟨_, rfl, trivial, kit_ty (by decide +kernel)⟩
          | _ => cases h),
      is_tuple := fun t b h => (by
          cases t with
          | non => cases h; exact ⟨_, rfl, trivial, kit_ty (by decide +kernel)⟩
          | bl => cases h; exact ⟨_, rfl, trivial, kit_ty (by decide +kernel)⟩
          | int => cases h; exact ⟨_, rfl, trivial, kit_ty (by decide +kernel)⟩
          | str => cases h; exact ⟨_, rfl, trivial, kit_ty (by decide +kernel)⟩
          | lst => cases h; exact ⟨_, rfl, trivial, kit_ty (by decide +kernel)⟩
          | tup => cases h; exact ⟨_, rfl, trivial, kit_ty (by decide +kernel)⟩
          | dct => cases h; exact ⟨_, rfl, trivial, kit_ty (by decide +kernel)⟩
          | _ => cases h),
      sub_WalkError := fun c b h => (by
          match c, h with
          | 0, h => cases h; exact ⟨C0, _, rfl, exm_of ex0 ic0 ty0 u0_WalkError⟩
          | 1, h => cases h; exact ⟨C1, _, rfl, exm_of ex0 ic0 ty0 u1_WalkError⟩
          | 2, h => cases h; exact ⟨C2, _, rfl, exm_of ex0 ic0 ty0 u2_WalkError⟩
          | 3, h => cases h; exact ⟨C3, _, rfl, exm_of ex0 ic0 ty0 u3_WalkError⟩
          | n + 4, h => cases h),
      x__ranges := fun c k h => (by
          match c, h with
          | 0, h => cases h
          | 1, h => cases h
          | 2, h => cases h
          | 3, h => cases h
          | 4, h => cases h; exact ⟨C4, _, cf4, rfl⟩
          | n + 5, h => cases h),
      x__runs := fun c k h => (by
          match c, h with
          | 0, h => cases h
          | 1, h => cases h
          | 2, h => cases h
          | 3, h => cases h
          | 4, h => cases h; exact ⟨C4, _, cf4, rfl⟩
          | n + 5, h => cases h),
      x__singles := fun c k h => (by
          match c, h with
          | 0, h => cases h
          | 1, h => cases h
          | 2, h => cases h
          | 3, h => cases h
          | 4, h => cases h; exact ⟨C4, _, cf4, rfl⟩
          | n + 5, h => cases h),
      x_value := fun c k h => (by
          match c, h with
          | 0, h => cases h
          | 1, h => cases h; exact ⟨C1, _, rfl, xi1, no1, by decide +kernel, rfl⟩
          | 2, h => cases h; exact ⟨C2, _, rfl, xi2, no2, by decide +kernel, rfl⟩
          | 3, h => cases h; exact ⟨C3, _, rfl, xi3, no3, by decide +kernel, rfl⟩
          | 4, h => cases h
          | n + 5, h => cases h) }
  have F14 := fun_mk (st := s14) l14d c14d k14d
  have D14 := at14 T F14 (PySem.W.mg_of X G a14d) 
  have F16 := fun_mk (st := s16) l16d c16d k16d
  have D16 := at16 T F16 (PySem.W.mg_of X G a16d) D14
  have F15 := fun_mk (st := s15) l15d c15d k15d
  have D15 := at15 T F15 (PySem.W.mg_of X G a15d) 
  have F17 := fun_mk (st := s17) l17d c17d k17d
  have D17 := at17 T F17 (PySem.W.mg_of X G a17d) D15
  have F18 := fun_mk (st := s18) l18d c18d k18d
  have D18 := at18 T F18 (PySem.W.mg_of X G a18d) D17
  have F19 := fun_mk (st := s19) l19d c19d k19d
  have D19 := at19 T F19 (PySem.W.mg_of X G a19d) 
  have F7 := fun_mk (st := s7) l7d c7d k7d
  have D7 := at7 T F7 (PySem.W.mg_of X G a7d) 
  have F9 := fun_mk (st := s9) l9d c9d k9d
  have D9 := at9 T F9 (PySem.W.mg_of X G a9d) D7
  have F_Held___init__ := fun_mk (st := s_Held___init__) l_Held___init__d c_Held___init__d k_Held___init__d
  have D_Held := at_Held___init__ T F_Held___init__ cf4 (PySem.W.mg_of X G aC4) ⟨mk4, a_Held___init__d, i_Held___init__d, kc4⟩ 
  have F_Held_holds := fun_mk (st := s_Held_holds) l_Held_holdsd c_Held_holdsd k_Held_holdsd
  have D_Held_holds := at_Held_holds T F_Held_holds cf4 ⟨a_Held_holdsd, i_Held_holdsd, k_Held_holdsd⟩ 
  have F12 := fun_mk (st := s12) l12d c12d k12d
  have D12 := at12 T F12 (PySem.W.mg_of X G a12d) D9 D7 D_Held D_Held_holds
  have F20 := fun_mk (st := s20) l20d c20d k20d
  have D20 := at20 T F20 (PySem.W.mg_of X G a20d) D17 D19 D12
  have F21 := fun_mk (st := s21) l21d c21d k21d
  have D21 := at21 T F21 (PySem.W.mg_of X G a21d) D12
  have F22 := fun_mk (st := s22) l22d c22d k22d
  have D22 := at22 T F22 (PySem.W.mg_of X G a22d) D21
  have F23 := fun_mk (st := s23) l23d c23d k23d
  exact ok23 T F23 D16 D17 D18 D20 D22
end Gn
namespace Gn
open PySem PySem.Spec L2 Fw
/-- a stretch: first, step, many -/
structure Sx where
  a : Int
  s : Int
  m : Option Int
def mSV : Option Int → SV
  | none => .non
  | some i => .int i
def Sx.so (x : Sx) : SO := .tup [.int x.a, .int x.s, mSV x.m]
structure Sx.Ok (x : Sx) : Prop where
  a0 : 0 ≤ x.a
  a1 : x.a < 10 ^ 31
  s0 : 1 ≤ x.s
  s1 : x.s ≤ 12
  m0 : ∀ i, x.m = some i → 1 ≤ i ∧ i ≤ 10 ^ 25
/-- whether the stretch holds n, as the law counts -/
def heldL (x : Sx) (n : Int) : Bool := !decide (n < x.a) && (decide (x.a + (n - x.a) / x.s * x.s = n) && match x.m with
  | none => true
  | some i => decide ((n - x.a) / x.s < i))
theorem f7_int {i : Int} {h : SH} : f7 [.int i] h = .ok (.bl true) h := rfl
theorem is_eq {α : Type} {r : Res α} {a : α} {h : SH} {P : α → SH → Prop} (e : r = .ok a h) (p : P a h) : Is r P := by rw [e]; exact p
theorem sh_int (i : Int) : SeqAt.shaped (.int i) = true := by
  unfold SeqAt.shaped
  rw [PyData.canLay0, PyData.depth]
  rfl
theorem ev_int (i j : Int) : PyData.eqv (.int i) (.int j) = decide (i = j) := by
  rw [PyData.eqv]
  rfl
theorem f9_ok {x : Sx} {t : Nat} {h : SH} (e : h[t]? = some x.so) (k : x.Ok) : f9 [.ref t] h = .ok (.bl true) h := by
  unfold f9 m9 Sx.so at *
  have q1 : ¬ x.a < 0 := by have := k.a0; omega
  have q2 : ¬ x.s < 1 := by have := k.s0; omega
  cases em : x.m with
  | none =>
    rw [em] at e
    simp [mFn, mSeq, mIfS, thenS, bOr, bNot, mB, mO1, mO2, mOA, un1, mVar, mC, aCons, aNil, Res.bind, lift, opIsi, tagOf, e, is_tuple, opLen, eqD, dataOf, mAsg, gTupM, gsCons, gsNil, gVar, mRet, mTru, mCall, f7_int, opTru, opLt, opIsN, mOr, mAnd, mSV, q1, q2, sh_int, ev_int, endF, mNil]
  | some i =>
    rw [em] at e
    have q3 := (k.m0 i em).1
    simp [mFn, mSeq, mIfS, thenS, bOr, bNot, mB, mO1, mO2, mOA, un1, mVar, mC, aCons, aNil, Res.bind, lift, opIsi, tagOf, e, is_tuple, opLen, eqD, dataOf, mAsg, gTupM, gsCons, gsNil, gVar, mRet, mTru, mCall, f7_int, opTru, opLt, opIsN, mOr, mAnd, mSV, q1, q2, q3, opGe, sh_int, ev_int, endF, mNil]
theorem f19_ok {x : Sx} {t : Nat} {h : SH} {n : Int} (e : h[t]? = some x.so) (k : x.Ok) : f19 [.ref t, .int n] h = .ok (.bl (heldL x n)) h := by
  unfold f19 m19 Sx.so heldL at *
  have q2 : 0 < x.s ∧ x.s.natAbs.log2 < 9000 := by
    have := k.s0
    have := k.s1
    have hl : x.s.natAbs.log2 < 4 := by
      rw [Nat.log2_lt (by omega)]; omega
    omega
  have q3 : okMul ((n - x.a) / x.s) x.s = true := okMul_r (by have := k.s0; omega) (by have := k.s1; omega)
  by_cases q1 : n < x.a
  · simp [mFn, mSeq, mIfS, thenS, mB, mO2, mVar, mC, Res.bind, lift, e, mAsg, gTupM, gsCons, gsNil, gVar, mRet, opLt, q1, endF]
  · cases em : x.m with
    | none =>
      rw [em] at e
      simp [mFn, mSeq, mIfS, thenS, mB, mO2, mVar, mC, Res.bind, lift, e, mAsg, gTupM, gsCons, gsNil, gVar, mRet, opLt, q1, endF, mNil, mSet, opFdiv, opSub, opMul, opAdd, q2, q3, eqD, dataOf, sh_int, ev_int, mAnd, mOr, opIsN, mSV]
      generalize decide (x.a + (n - x.a) / x.s * x.s = n) = bb
      cases bb <;> rfl
    | some i =>
      rw [em] at e
      simp [mFn, mSeq, mIfS, thenS, mB, mO2, mVar, mC, Res.bind, lift, e, mAsg, gTupM, gsCons, gsNil, gVar, mRet, opLt, q1, endF, mNil, mSet, opFdiv, opSub, opMul, opAdd, q2, q3, eqD, dataOf, sh_int, ev_int, mAnd, mOr, opIsN, mSV]
      generalize decide (x.a + (n - x.a) / x.s * x.s = n) = bb
      cases bb <;> rfl
theorem heldL_iff {x : Sx} {n : Int} (k : x.Ok) : heldL x n = true ↔ (x.m = some 1 ∧ n = x.a) ∨ (x.m ≠ some 1 ∧ n % x.s = x.a % x.s ∧ x.a ≤ n ∧ ∀ i, x.m = some i → n ≤ x.a + (i - 1) * x.s) := by
  obtain ⟨a, s, m⟩ := x
  obtain ⟨_, _, s0, s1, m0⟩ := k
  simp only at s0 s1 m0
  have q : s = 1 ∨ s = 2 ∨ s = 3 ∨ s = 4 ∨ s = 5 ∨ s = 6 ∨ s = 7 ∨ s = 8 ∨ s = 9 ∨ s = 10 ∨ s = 11 ∨ s = 12 := by omega
  cases m with
  | none =>
    unfold heldL
    simp only [Bool.and_true, Bool.and_eq_true, Bool.not_eq_true', decide_eq_false_iff_not, decide_eq_true_eq]
    have e : ((none : Option Int) = some 1 ∧ n = a ∨ (none : Option Int) ≠ some 1 ∧ n % s = a % s ∧ a ≤ n ∧ ∀ i, (none : Option Int) = some i → n ≤ a + (i - 1) * s) ↔ (n % s = a % s ∧ a ≤ n) := by
      constructor
      · rintro (⟨z, _⟩ | ⟨_, z1, z2, _⟩)
        · cases z
        · exact ⟨z1, z2⟩
      · exact fun ⟨z1, z2⟩ => .inr ⟨(fun z => by cases z), z1, z2, fun i z => by cases z⟩
    rw [e]
    rcases q with rfl | rfl | rfl | rfl | rfl | rfl | rfl | rfl | rfl | rfl | rfl | rfl <;> omega
  | some i =>
    have m1 := (m0 i rfl).1
    unfold heldL
    simp only [Bool.and_eq_true, Bool.not_eq_true', decide_eq_false_iff_not, decide_eq_true_eq]
    have e : (some i = some 1 ∧ n = a ∨ some i ≠ some 1 ∧ n % s = a % s ∧ a ≤ n ∧ ∀ j, some i = some j → n ≤ a + (j - 1) * s) ↔ ((i = 1 ∧ n = a) ∨ (i ≠ 1 ∧ n % s = a % s ∧ a ≤ n ∧ n ≤ a + (i - 1) * s)) := by
      constructor
      · rintro (⟨z, z1⟩ | ⟨z0, z1, z2, z3⟩)
        · exact .inl ⟨Option.some.inj z, z1⟩
        · exact .inr ⟨fun z => z0 (by rw [z]), z1, z2, z3 i rfl⟩
      · rintro (⟨z, z1⟩ | ⟨z0, z1, z2, z3⟩)
        · exact .inl ⟨by rw [z], z1⟩
        · exact .inr ⟨fun z => z0 (Option.some.inj z), z1, z2, fun j z => by cases z; exact z3⟩
    rw [e]
    rcases q with rfl | rfl | rfl | rfl | rfl | rfl | rfl | rfl | rfl | rfl | rfl | rfl <;> omega
end Gn
namespace Gn
open PySem PySem.Spec L2 Fw
section
variable {N B C : SS → SH → Prop} {R : SV → SH → Prop} {ss : SS} {h : SH} {P : SV → SH → Prop}
theorem Is.d3 {op : O3} {mo mk md : EM} (x : Is (mo ss h) fun o h1 => isDct h1 o = true ∧ Is (mk ss h1) fun k h2 => Is (md ss h2) fun z h3 => ∃ v h4, op o k z h3 = some (v, h4) ∧ P v h4) : Is (mD3 op mo mk md ss h) P := Is.bind (x.mono fun o h1 ⟨i, y⟩ => by
  rw [if_pos i]
  exact Is.bind (y.mono fun k h2 z => Is.bind (z.mono fun w h3 q => Is.lift q)))
theorem fld_is {ix : List (Option Nat)} {i c k : Nat} {vs : List SV} {v : SV} (e : h[i]? = some (.ins c vs)) (ek : ix[c]? = some (some k)) (ev : vs[k]? = some v) (p : P v h) : ∃ v h2, opFld ix (.ref i) h = some (v, h2) ∧ P v h2 :=
  ⟨v, h, by unfold opFld; simp only [e, ek, ev], p⟩
theorem Ist.fst {ix : List (Option Nat)} {me mo : EM} (x : Is (me ss h) fun v h1 => Is (mo ss h1) fun o h2 => ∃ h3, opFst ix o v h2 = some h3 ∧ N ss h3) : Ist (mFst ix me mo ss h) N R B C := Ist.then (x.mono fun v h1 y => Ist.then (y.mono fun o h2 ⟨h3, e, n⟩ => by rw [e]; exact n))
theorem fst_is {ix : List (Option Nat)} {i c k : Nat} {vs : List SV} {v : SV} {Q : SH → Prop} (e : h[i]? = some (.ins c vs)) (ek : ix[c]? = some (some k)) (ev : k = vs.length) (p : Q (h.set i (.ins c (vs ++ [v])))) : ∃ h3, opFst ix (.ref i) v h = some h3 ∧ Q h3 :=
  ⟨_, by unfold opFst; simp only [e, ek]; rw [if_neg (by omega), if_pos ev], p⟩
theorem Is.bmL {f : SV → OA} {mo : EM} {ma : AM} (x : Is (mo ss h) fun o h1 => isLst h1 o = true ∧ Is (ma ss h1) fun vs h2 => ∃ v h3, f o vs h2 = some (v, h3) ∧ P v h3) : Is (mBm f mo ma ss h) P := Is.bind (x.mono fun o h1 ⟨i, y⟩ => by
  rw [if_pos i]
  exact Is.bind (y.mono fun k h2 z => Is.lift z))
theorem app_is {i : Nat} {xs : List SV} {y : SV} (e : h[i]? = some (.lst xs)) (k : xs.length < big) (p : P .non (h.set i (.lst (xs ++ [y])))) : ∃ v h3, opAppend (.ref i) [y] h = some (v, h3) ∧ P v h3 :=
  ⟨.non, h.set i (.lst (xs ++ [y])), by unfold opAppend; simp only [e, if_pos k], p⟩
theorem Is.ifx {ta : BM} {ma mb : EM} (x : Is (ta ss h) fun b h1 => if b = true then Is (ma ss h1) P else Is (mb ss h1) P) : Is (mIf ta ma mb ss h) P := Is.bind (x.mono fun b h1 y => by
  cases b with
  | true => exact y
  | false => exact y)
theorem Is.dict0 (p : P (.ref h.length) (h ++ [.dK []])) : Is (mDict0 ss h) P := p
theorem Is.make {c : Nat} {f : FM} {ma : AM} (x : Is (ma ss h) fun vs h1 => Is (f (.ref h1.length :: vs) (h1 ++ [.ins c []])) fun v h2 => v = .non ∧ P (.ref h1.length) h2) : Is (mMake c f ma ss h) P := Is.bind (x.mono fun vs h1 y => Is.bind (y.mono fun v h2 ⟨e, p⟩ => by subst e; exact p))
theorem Is.meth {c : Nat} {f : FM} {mo : EM} {ma : AM} (x : Is (mo ss h) fun o h1 => insOf h1 o = some c ∧ Is (ma ss h1) fun vs h2 => Is (f (o :: vs) h2) P) : Is (mMeth c f mo ma ss h) P := Is.bind (x.mono fun o h1 ⟨i, y⟩ => by
  rw [if_pos i]
  exact Is.bind y)
theorem lstB {i : Nat} {xs : List SV} (e : h[i]? = some (.lst xs)) : isLst h (.ref i) = true := by unfold isLst; simp only [e]
theorem dctB {i : Nat} {xs : List (Key × SV)} (e : h[i]? = some (.dK xs)) : isDct h (.ref i) = true := by unfold isDct; simp only [e]
theorem tup_is {xs : List SV} (k : xs.length ≤ big) (p : P (.ref h.length) (h ++ [.tup xs])) : ∃ v h3, opTup xs h = some (v, h3) ∧ P v h3 := ⟨_, _, by unfold opTup; rw [if_pos k]; rfl, p⟩
theorem ok_is {α : Type} {a : α} {Q : α → SH → Prop} (p : Q a h) : Is (.ok a h) Q := p
end
/-! the object that is made of a list of stretches -/
inductive Kd where
  | B | ob | si | ru | ra | D (s : Int) | L (s r : Int) | T
  deriving DecidableEq
def Kp (p : Nat) (h h' : SH) : Prop := ∀ (j : Nat) (o : SO), j ≠ p → h[j]? = some o → h'[j]? = some o
def Ag (h : SH) (κ κ' : Nat → Kd) : Prop := ∀ j, j < h.length → κ' j = κ j
def lastSV (x : Sx) : SV := match x.m with
  | none => .non
  | some i => .int (x.a + (i - 1) * x.s)
theorem lt_of {h : SH} {j : Nat} {o : SO} (e : h[j]? = some o) : j < h.length := (List.getElem?_eq_some_iff.mp e).1
section
variable (S : List Sx) (κ : Nat → Kd) (h : SH) (k b : Nat)
structure LOk (s r : Int) (l : Nat) : Prop where
  kd : κ l = .L s r
  ex : ∃ xs, h[l]? = some (.lst xs) ∧ xs.length ≤ b ∧ ∀ z ∈ xs, ∃ t i x, z = .ref t ∧ κ t = .T ∧ i < k ∧ S[i]? = some x ∧ x.m ≠ some 1 ∧ x.s = s ∧ x.a % x.s = r ∧ h[t]? = some (.tup [.int x.a, lastSV x])
structure DOk (s : Int) (d : Nat) : Prop where
  kd : κ d = .D s
  pos : 1 ≤ s
  ex : ∃ kv, h[d]? = some (.dK kv) ∧ kv.length ≤ b ∧ ∀ p ∈ kv, ∃ r l, p = (.inl r, .ref l) ∧ LOk S κ h k b s r l
structure HI (h0 : SH) (o si ru ra : Nat) : Prop where
  le : Le h0 h
  kB : ∀ j, j < h0.length → κ j = .B
  ko : κ o = .ob
  ks : κ si = .si
  ku : κ ru = .ru
  ka : κ ra = .ra
  ho : h[o]? = some (.ins 4 [.ref si, .ref ru, .ref ra])
  hs : ∃ sg, h[si]? = some (.dK sg) ∧ sg.length ≤ b ∧ ∀ n : Int, (getS sg (.inl n)).isSome = true ↔ ∃ i x, i < k ∧ S[i]? = some x ∧ x.m = some 1 ∧ x.a = n
  hu : ∃ xs, h[ru]? = some (.lst xs) ∧ xs.length ≤ b
  ha : ∃ kvs, h[ra]? = some (.dK kvs) ∧ kvs.length ≤ b ∧ (∀ p ∈ kvs, ∃ s d, p = (.inl s, .ref d) ∧ DOk S κ h k b s d) ∧
    ∀ i x, i < k → S[i]? = some x → x.m ≠ some 1 → ∃ d kv l xs t, getS kvs (.inl x.s) = some (.ref d) ∧ h[d]? = some (.dK kv) ∧ getS kv (.inl (x.a % x.s)) = some (.ref l) ∧ h[l]? = some (.lst xs) ∧ .ref t ∈ xs ∧ h[t]? = some (.tup [.int x.a, lastSV x])
end
section
variable {S : List Sx} {κ κ' : Nat → Kd} {h h' : SH} {k k' b b' : Nat} {p : Nat}
theorem LOk.keep {s r : Int} {l : Nat} (x : LOk S κ h k b s r l) (g : Ag h κ κ') (q : Kp p h h') (np : l ≠ p) (nt : κ p ≠ .T) (hk : k ≤ k') (hb : b ≤ b') : LOk S κ' h' k' b' s r l := by
  obtain ⟨kd, xs, e, hl, hz⟩ := x
  refine ⟨by rw [g _ (lt_of e)]; exact kd, xs, q _ _ np e, Nat.le_trans hl hb, fun z hm => ?_⟩
  obtain ⟨t, i, x, e1, e2, e3, e4, e5, e6, e7, e8⟩ := hz z hm
  exact ⟨t, i, x, e1, by rw [g _ (lt_of e8)]; exact e2, by omega, e4, e5, e6, e7, q _ _ (fun z => nt (by rw [← z]; exact e2)) e8⟩
theorem DOk.keep {s : Int} {d : Nat} (x : DOk S κ h k b s d) (g : Ag h κ κ') (q : Kp p h h') (np : d ≠ p) (nt : κ p ≠ .T) (nl : ∀ s r, κ p ≠ .L s r) (hk : k ≤ k') (hb : b ≤ b') : DOk S κ' h' k' b' s d := by
  obtain ⟨kd, pos, kv, e, hl, hz⟩ := x
  refine ⟨by rw [g _ (lt_of e)]; exact kd, pos, kv, q _ _ np e, Nat.le_trans hl hb, fun z hm => ?_⟩
  obtain ⟨r, l, e1, x⟩ := hz z hm
  exact ⟨r, l, e1, x.keep g q (fun z => nl s r (by rw [← z]; exact x.kd)) nt hk hb⟩
/-- everything stays, something new is there -/
theorem HI.grow {h0 : SH} {o si ru ra : Nat} (x : HI S κ h k b h0 o si ru ra) (g : Ag h κ κ') (q : Le h h') (hb : b ≤ b') : HI S κ' h' k b' h0 o si ru ra := by
  have far : ∃ p, p ≥ h.length ∧ κ p = κ p := ⟨h.length, Nat.le_refl _, rfl⟩
  have kp : Kp h.length h h' := fun j o _ e => q j o e
  obtain ⟨le, kB, ko, ks, ku, ka, ho, ⟨sg, s1, s2, s3⟩, ⟨xs, u1, u2⟩, ⟨kvs, a1, a2, a3, a4⟩⟩ := x
  have l0 := Le.len le
  refine ⟨le.trans q, fun j hj => by rw [g j (by omega)]; exact kB j hj, by rw [g _ (lt_of ho)]; exact ko, by rw [g _ (lt_of s1)]; exact ks, by rw [g _ (lt_of u1)]; exact ku, by rw [g _ (lt_of a1)]; exact ka, q _ _ ho, ⟨sg, q _ _ s1, by omega, s3⟩, ⟨xs, q _ _ u1, by omega⟩, ⟨kvs, q _ _ a1, by omega, fun p hp => ?_, fun i x hi ex hm => ?_⟩⟩
  · obtain ⟨s, d, e, y⟩ := a3 p hp
    obtain ⟨kd, pos, kv, e2, hl, hz⟩ := y
    refine ⟨s, d, e, by rw [g _ (lt_of e2)]; exact kd, pos, kv, q _ _ e2, by omega, fun z hm => ?_⟩
    obtain ⟨r, l, e1, x⟩ := hz z hm
    obtain ⟨kd, xs, e3, hl, hz⟩ := x
    refine ⟨r, l, e1, by rw [g _ (lt_of e3)]; exact kd, xs, q _ _ e3, by omega, fun z hm => ?_⟩
    obtain ⟨t, i, x, f1, f2, f3, f4, f5, f6, f7, f8⟩ := hz z hm
    exact ⟨t, i, x, f1, by rw [g _ (lt_of f8)]; exact f2, f3, f4, f5, f6, f7, q _ _ f8⟩
  · obtain ⟨d, kv, l, xs, t, e1, e2, e3, e4, e5, e6⟩ := a4 i x hi ex hm
    exact ⟨d, kv, l, xs, t, e1, q _ _ e2, e3, q _ _ e4, e5, q _ _ e6⟩
end
end Gn
namespace Gn
open PySem PySem.Spec L2 Fw
theorem getS_nil {k : Key} : getS ([] : List (Key × SV)) k = none := rfl
theorem getS_cons {p : Key × SV} {kvs : List (Key × SV)} {k : Key} : getS (p :: kvs) k = if p.1 = k then some p.2 else getS kvs k := by
  unfold getS
  rw [List.find?_cons]
  by_cases e : p.1 = k
  · simp [e]
  · simp [e]
theorem getS_mem {k : Key} {v : SV} : ∀ {kvs : List (Key × SV)}, getS kvs k = some v → (k, v) ∈ kvs
  | [], e => by cases e
  | p :: kvs, e => by
    rw [getS_cons] at e
    by_cases q : p.1 = k
    · rw [if_pos q] at e
      cases e
      rw [← q]
      exact List.mem_cons_self
    · rw [if_neg q] at e
      exact List.mem_cons_of_mem _ (getS_mem e)
theorem getS_app {k k' : Key} {v : SV} : ∀ {kvs : List (Key × SV)}, getS (kvs ++ [(k, v)]) k' = match getS kvs k' with | some x => some x | none => if k = k' then some v else none
  | [] => by rw [List.nil_append, getS_cons]; rfl
  | p :: kvs => by
    rw [List.cons_append, getS_cons, getS_cons]
    by_cases q : p.1 = k'
    · rw [if_pos q, if_pos q]
    · rw [if_neg q, if_neg q]; exact getS_app
theorem any_none {k : Key} : ∀ {kvs : List (Key × SV)}, getS kvs k = none → (kvs.any fun kv => decide (kv.1 = k)) = false
  | [], _ => rfl
  | p :: kvs, e => by
    rw [getS_cons] at e
    by_cases q : p.1 = k
    · rw [if_pos q] at e; cases e
    · rw [if_neg q] at e
      rw [List.any_cons, any_none e, decide_eq_false q]; rfl
theorem put_new {k : Key} {v : SV} {kvs : List (Key × SV)} (e : getS kvs k = none) : putS kvs k v = kvs ++ [(k, v)] := by
  unfold putS
  rw [any_none e]
  rfl
theorem getS_map {k k' : Key} {v : SV} : ∀ {kvs : List (Key × SV)}, (getS (kvs.map fun kv => if kv.1 = k then (kv.1, v) else kv) k').isSome = (getS kvs k').isSome
  | [] => rfl
  | p :: kvs => by
    rw [List.map_cons, getS_cons, getS_cons]
    have e : (if p.1 = k then (p.1, v) else p).1 = p.1 := by split <;> rfl
    rw [e]
    by_cases q : p.1 = k'
    · rw [if_pos q, if_pos q]; rfl
    · rw [if_neg q, if_neg q]; exact getS_map
theorem any_some {k : Key} : ∀ {kvs : List (Key × SV)}, (kvs.any fun kv => decide (kv.1 = k)) = true → (getS kvs k).isSome = true
  | p :: kvs, e => by
    rw [getS_cons]
    by_cases q : p.1 = k
    · rw [if_pos q]; rfl
    · rw [if_neg q]
      rw [List.any_cons, decide_eq_false q, Bool.false_or] at e
      exact any_some e
theorem put_has {k k' : Key} {v : SV} {kvs : List (Key × SV)} : (getS (putS kvs k v) k').isSome = true ↔ k = k' ∨ (getS kvs k').isSome = true := by
  unfold putS
  split
  · rename_i h
    rw [getS_map]
    constructor
    · exact .inr
    · rintro (z | z)
      · rw [← z]; exact any_some h
      · exact z
  · rename_i h
    rw [getS_app]
    cases e : getS kvs k' with
    | some x => simp
    | none =>
      by_cases q : k = k'
      · simp [q]
      · simp [q]
theorem put_len {k : Key} {v : SV} {kvs : List (Key × SV)} : (putS kvs k v).length ≤ kvs.length + 1 := by
  unfold putS
  split
  · simp
  · simp
section
variable {S : List Sx} {κ κ' : Nat → Kd} {h h' h0 : SH} {k b o si ru ra : Nat}
theorem kp_set {p : Nat} {u : SO} : Kp p h (h.set p u) := fun j o n e => by rw [set_ne (Ne.symm n)]; exact e
theorem kne {i j : Nat} {a c : Kd} (h1 : κ i = a) (h2 : κ j = c) (n : a ≠ c) : i ≠ j := fun z => n (by rw [← h1, ← h2, z])
theorem le_set {p : Nat} {u : SO} (le : Le h0 h) (hp : h0.length ≤ p) : Le h0 (h.set p u) := fun j o e => by
  have := lt_of e
  rw [set_ne (by omega)]
  exact le j o e
theorem above {p : Nat} {a : Kd} (kB : ∀ j, j < h0.length → κ j = .B) (e : κ p = a) (n : a ≠ .B) : h0.length ≤ p := by
  by_cases z : p < h0.length
  · exact absurd ((kB p z).symm.trans e) (Ne.symm n)
  · omega
/-- what was kept of each place but one that is neither a dict of rests nor a list of runs -/
theorem keepA {p : Nat} {b' k' : Nat} (q : Kp p h h') (nT : κ p ≠ .T) (nL : ∀ s r, κ p ≠ .L s r) (nD : ∀ s, κ p ≠ .D s) (hk : k ≤ k') (hb : b ≤ b') {kvs : List (Key × SV)} (a : ∀ p ∈ kvs, ∃ s d, p = (.inl s, .ref d) ∧ DOk S κ h k b s d) : ∀ p ∈ kvs, ∃ s d, p = (.inl s, .ref d) ∧ DOk S κ h' k' b' s d := fun z hz => by
  obtain ⟨s, d, e, y⟩ := a z hz
  exact ⟨s, d, e, y.keep (fun _ _ => rfl) q (fun w => nD s (by rw [← w]; exact y.kd)) nT nL hk hb⟩
/-- the way to one item's place: kept by changes elsewhere -/
theorem keepC {p : Nat} (q : Kp p h h') (nT : κ p ≠ .T) (nL : ∀ s r, κ p ≠ .L s r) (nD : ∀ s, κ p ≠ .D s) {kvs : List (Key × SV)} (a : ∀ p ∈ kvs, ∃ s d, p = (.inl s, .ref d) ∧ DOk S κ h k b s d) {x : Sx}
    (w : ∃ d kv l xs t, getS kvs (.inl x.s) = some (.ref d) ∧ h[d]? = some (.dK kv) ∧ getS kv (.inl (x.a % x.s)) = some (.ref l) ∧ h[l]? = some (.lst xs) ∧ .ref t ∈ xs ∧ h[t]? = some (.tup [.int x.a, lastSV x])) :
    ∃ d kv l xs t, getS kvs (.inl x.s) = some (.ref d) ∧ h'[d]? = some (.dK kv) ∧ getS kv (.inl (x.a % x.s)) = some (.ref l) ∧ h'[l]? = some (.lst xs) ∧ .ref t ∈ xs ∧ h'[t]? = some (.tup [.int x.a, lastSV x]) := by
  obtain ⟨d, kv, l, xs, t, e1, e2, e3, e4, e5, e6⟩ := w
  obtain ⟨s, d', z1, y⟩ := a _ (getS_mem e1)
  cases z1
  obtain ⟨kd, pos, kv', e2', hl, hz⟩ := y
  rw [e2] at e2'; cases e2'
  obtain ⟨r, l', z2, y2⟩ := hz _ (getS_mem e3)
  cases z2
  obtain ⟨kl, xs', e4', hl2, hz2⟩ := y2
  rw [e4] at e4'; cases e4'
  obtain ⟨t', i', x', z3, kt, _⟩ := hz2 _ e5
  cases z3
  exact ⟨d, kv, l, xs, t, e1, q _ _ (fun w => nD _ (by rw [← w]; exact kd)) e2, e3, q _ _ (fun w => nL _ _ (by rw [← w]; exact kl)) e4, e5, q _ _ (fun w => nT (by rw [← w]; exact kt)) e6⟩
theorem HI.runs (x : HI S κ h k b h0 o si ru ra) {xs : List SV} (e : h[ru]? = some (.lst xs)) (v : SV) : HI S κ (h.set ru (.lst (xs ++ [v]))) k (b + 1) h0 o si ru ra := by
  obtain ⟨le, kB, ko, ks, ku, ka, ho, ⟨sg, s1, s2, s3⟩, ⟨xs', u1, u2⟩, ⟨kvs, a1, a2, a3, a4⟩⟩ := x
  rw [e] at u1; cases u1
  have q := kp_set (h := h) (p := ru) (u := .lst (xs ++ [v]))
  have nT : κ ru ≠ .T := by rw [ku]; decide
  have nL : ∀ s r, κ ru ≠ .L s r := fun s r => by rw [ku]; exact fun z => nomatch z
  have nD : ∀ s, κ ru ≠ .D s := fun s => by rw [ku]; exact fun z => nomatch z
  refine ⟨le_set le (above kB ku (by decide)), kB, ko, ks, ku, ka, q _ _ (kne ko ku (by decide)) ho, ⟨sg, q _ _ (kne ks ku (by decide)) s1, by omega, s3⟩, ⟨_, set_at e, by simp; omega⟩, ⟨kvs, q _ _ (kne ka ku (by decide)) a1, by omega, keepA q nT nL nD (Nat.le_refl _) (by omega) a3, fun i x hi ex hm => keepC q nT nL nD a3 (a4 i x hi ex hm)⟩⟩
theorem HI.single (x : HI S κ h k b h0 o si ru ra) {sg : List (Key × SV)} (e : h[si]? = some (.dK sg)) {y : Sx} (ey : S[k]? = some y) (ym : y.m = some 1) : HI S κ (h.set si (.dK (putS sg (.inl y.a) (.bl true)))) (k + 1) (b + 1) h0 o si ru ra := by
  obtain ⟨le, kB, ko, ks, ku, ka, ho, ⟨sg', s1, s2, s3⟩, ⟨xs', u1, u2⟩, ⟨kvs, a1, a2, a3, a4⟩⟩ := x
  rw [e] at s1; cases s1
  have q := kp_set (h := h) (p := si) (u := .dK (putS sg (.inl y.a) (.bl true)))
  have nT : κ si ≠ .T := by rw [ks]; decide
  have nL : ∀ s r, κ si ≠ .L s r := fun s r => by rw [ks]; exact fun z => nomatch z
  have nD : ∀ s, κ si ≠ .D s := fun s => by rw [ks]; exact fun z => nomatch z
  refine ⟨le_set le (above kB ks (by decide)), kB, ko, ks, ku, ka, q _ _ (kne ko ks (by decide)) ho, ⟨_, set_at e, ?_, fun n => ?_⟩, ⟨_, q _ _ (kne ku ks (by decide)) u1, by omega⟩, ⟨kvs, q _ _ (kne ka ks (by decide)) a1, by omega, keepA q nT nL nD (by omega) (by omega) a3, fun i x hi ex hm => ?_⟩⟩
  · have := put_len (kvs := sg) (k := .inl y.a) (v := .bl true)
    omega
  · rw [put_has, s3]
    constructor
    · rintro (z | ⟨i, x, hi, ex, hm, ha⟩)
      · cases z
        exact ⟨k, y, by omega, ey, ym, rfl⟩
      · exact ⟨i, x, by omega, ex, hm, ha⟩
    · rintro ⟨i, x, hi, ex, hm, ha⟩
      by_cases hik : i = k
      · subst hik
        rw [ey] at ex; cases ex
        exact .inl (by rw [ha])
      · exact .inr ⟨i, x, by omega, ex, hm, ha⟩
  · have hik : i ≠ k := fun z => by
      subst z
      rw [ey] at ex; cases ex
      exact hm ym
    exact keepC q nT nL nD a3 (a4 i x (by omega) ex hm)
end
end Gn
namespace Gn
open PySem PySem.Spec L2 Fw
section
variable {S : List Sx} {κ κ' : Nat → Kd} {h h' h0 : SH} {k b o si ru ra : Nat}
theorem HI.newD (x : HI S κ h k b h0 o si ru ra) {kvs : List (Key × SV)} (e : h[ra]? = some (.dK kvs)) {s : Int} {d : Nat} (hs : 1 ≤ s) (kd : κ d = .D s) (hd : h[d]? = some (.dK [])) (no : getS kvs (.inl s) = none) :
    HI S κ (h.set ra (.dK (putS kvs (.inl s) (.ref d)))) k (b + 1) h0 o si ru ra := by
  obtain ⟨le, kB, ko, ks, ku, ka, ho, ⟨sg, s1, s2, s3⟩, ⟨xs', u1, u2⟩, ⟨kvs', a1, a2, a3, a4⟩⟩ := x
  rw [e] at a1; cases a1
  have q := kp_set (h := h) (p := ra) (u := .dK (putS kvs (.inl s) (.ref d)))
  have nT : κ ra ≠ .T := by rw [ka]; decide
  have nL : ∀ s r, κ ra ≠ .L s r := fun s r => by rw [ka]; exact fun z => nomatch z
  have nD : ∀ s, κ ra ≠ .D s := fun s => by rw [ka]; exact fun z => nomatch z
  have d3 := keepA (k' := k) (b' := b + 1) q nT nL nD (Nat.le_refl _) (by omega) a3
  refine ⟨le_set le (above kB ka (by decide)), kB, ko, ks, ku, ka, q _ _ (kne ko ka (by decide)) ho, ⟨sg, q _ _ (kne ks ka (by decide)) s1, by omega, s3⟩, ⟨_, q _ _ (kne ku ka (by decide)) u1, by omega⟩, ⟨_, set_at e, ?_, fun z hz => ?_, fun i x hi ex hm => ?_⟩⟩
  · have := put_len (kvs := kvs) (k := .inl s) (v := .ref d)
    omega
  · rw [put_new no] at hz
    rcases List.mem_append.mp hz with hz | hz
    · exact d3 z hz
    · rw [List.mem_singleton.mp hz]
      exact ⟨s, d, rfl, kd, hs, [], q _ _ (fun w => nD s (by rw [← w]; exact kd)) hd, by simp, fun _ z => nomatch z⟩
  · obtain ⟨d', kv, l, xs, t, e1, e2⟩ := keepC q nT nL nD a3 (a4 i x hi ex hm)
    exact ⟨d', kv, l, xs, t, by rw [put_new no, getS_app, e1], e2⟩
theorem HI.newL (x : HI S κ h k b h0 o si ru ra) {kvs kv : List (Key × SV)} (e : h[ra]? = some (.dK kvs)) {s r : Int} {d l : Nat} (md : getS kvs (.inl s) = some (.ref d)) (hd : h[d]? = some (.dK kv)) (kl : κ l = .L s r) (hl : h[l]? = some (.lst [])) (no : getS kv (.inl r) = none) :
    HI S κ (h.set d (.dK (putS kv (.inl r) (.ref l)))) k (b + 1) h0 o si ru ra := by
  obtain ⟨le, kB, ko, ks, ku, ka, ho, ⟨sg, s1, s2, s3⟩, ⟨xs', u1, u2⟩, ⟨kvs', a1, a2, a3, a4⟩⟩ := x
  rw [e] at a1; cases a1
  obtain ⟨s', d', z, dd⟩ := a3 _ (getS_mem md)
  cases z
  obtain ⟨kd, pos, kv', e2, hlen, hm⟩ := dd
  rw [hd] at e2; cases e2
  have q := kp_set (h := h) (p := d) (u := .dK (putS kv (.inl r) (.ref l)))
  have nT : κ d ≠ .T := by rw [kd]; exact fun z => nomatch z
  have nL : ∀ s r, κ d ≠ .L s r := fun s r => by rw [kd]; exact fun z => nomatch z
  have ne : ∀ {j : Nat} {a : Kd}, κ j = a → (∀ s, a ≠ .D s) → j ≠ d := fun {j a} e1 n w => n s (by rw [← e1, w]; exact kd)
  refine ⟨le_set le (above kB kd (fun z => nomatch z)), kB, ko, ks, ku, ka, q _ _ (ne ko fun _ z => nomatch z) ho, ⟨sg, q _ _ (ne ks fun _ z => nomatch z) s1, by omega, s3⟩, ⟨_, q _ _ (ne ku fun _ z => nomatch z) u1, by omega⟩, ⟨kvs, q _ _ (ne ka fun _ z => nomatch z) e, by omega, fun z hz => ?_, fun i x hi ex hmm => ?_⟩⟩
  · obtain ⟨s2, d2, e3, y⟩ := a3 z hz
    by_cases hdd : d2 = d
    · subst hdd
      have es : s2 = s := by
        have := y.kd
        rw [kd] at this
        injection this with h; exact h.symm
      subst es
      refine ⟨s2, d2, e3, kd, pos, _, set_at hd, ?_, fun w hw => ?_⟩
      · have := put_len (kvs := kv) (k := .inl r) (v := .ref l)
        omega
      · rw [put_new no] at hw
        rcases List.mem_append.mp hw with hw | hw
        · obtain ⟨r2, l2, e4, y2⟩ := hm w hw
          exact ⟨r2, l2, e4, y2.keep (fun _ _ => rfl) q (ne y2.kd fun _ z => nomatch z) nT (Nat.le_refl _) (by omega)⟩
        · rw [List.mem_singleton.mp hw]
          exact ⟨r, l, rfl, kl, [], q _ _ (ne kl fun _ z => nomatch z) hl, by simp, fun _ z => nomatch z⟩
    · exact ⟨s2, d2, e3, y.keep (fun _ _ => rfl) q hdd nT nL (Nat.le_refl _) (by omega)⟩
  · obtain ⟨d2, kv2, l2, xs, t, e1, e2, e3, e4, e5, e6⟩ := a4 i x hi ex hmm
    obtain ⟨s2, d3, z, y⟩ := a3 _ (getS_mem e1)
    cases z
    have y' := y
    obtain ⟨kd2, pos2, kv3, e2', hl2, hz⟩ := y'
    rw [e2] at e2'; cases e2'
    obtain ⟨r2, l3, z2, y2⟩ := hz _ (getS_mem e3)
    cases z2
    have y2' := y2
    obtain ⟨kl2, xs2, e4', _, hz2⟩ := y2'
    rw [e4] at e4'; cases e4'
    obtain ⟨t', i', x', z3, kt, _⟩ := hz2 _ e5
    cases z3
    by_cases hdd : d2 = d
    · subst hdd
      rw [hd] at e2; cases e2
      exact ⟨d2, _, l2, xs, t, e1, set_at hd, by rw [put_new no, getS_app, e3], q _ _ (ne kl2 fun _ z => nomatch z) e4, e5, q _ _ (ne kt fun _ z => nomatch z) e6⟩
    · exact ⟨d2, kv2, l2, xs, t, e1, q _ _ hdd e2, e3, q _ _ (ne kl2 fun _ z => nomatch z) e4, e5, q _ _ (ne kt fun _ z => nomatch z) e6⟩
theorem HI.done (x : HI S κ h k b h0 o si ru ra) {kvs kv : List (Key × SV)} {xs : List SV} (e : h[ra]? = some (.dK kvs)) {d l t : Nat} {y : Sx} (ey : S[k]? = some y) (ym : y.m ≠ some 1) (md : getS kvs (.inl y.s) = some (.ref d)) (hd : h[d]? = some (.dK kv)) (ml : getS kv (.inl (y.a % y.s)) = some (.ref l)) (hl : h[l]? = some (.lst xs))
    (kt : κ t = .T) (ht : h[t]? = some (.tup [.int y.a, lastSV y])) : HI S κ (h.set l (.lst (xs ++ [.ref t]))) (k + 1) (b + 1) h0 o si ru ra := by
  obtain ⟨le, kB, ko, ks, ku, ka, ho, ⟨sg, s1, s2, s3⟩, ⟨xs', u1, u2⟩, ⟨kvs', a1, a2, a3, a4⟩⟩ := x
  rw [e] at a1; cases a1
  obtain ⟨s', d', z, dd⟩ := a3 _ (getS_mem md)
  cases z
  obtain ⟨kd, pos, kv', e2, hlen, hm⟩ := dd
  rw [hd] at e2; cases e2
  obtain ⟨r', l', z, ll⟩ := hm _ (getS_mem ml)
  cases z
  obtain ⟨kl, xs2, e3, hlen2, hm2⟩ := ll
  rw [hl] at e3; cases e3
  have q := kp_set (h := h) (p := l) (u := .lst (xs ++ [.ref t]))
  have nT : κ l ≠ .T := by rw [kl]; exact fun z => nomatch z
  have ne : ∀ {j : Nat} {a : Kd}, κ j = a → (∀ s r, a ≠ .L s r) → j ≠ l := fun {j a} e1 n w => n y.s (y.a % y.s) (by rw [← e1, w]; exact kl)
  have ht2 := q _ _ (ne kt fun _ _ z => nomatch z) ht
  refine ⟨le_set le (above kB kl (fun z => nomatch z)), kB, ko, ks, ku, ka, q _ _ (ne ko fun _ _ z => nomatch z) ho, ⟨sg, q _ _ (ne ks fun _ _ z => nomatch z) s1, by omega, fun n => ?_⟩, ⟨_, q _ _ (ne ku fun _ _ z => nomatch z) u1, by omega⟩, ⟨kvs, q _ _ (ne ka fun _ _ z => nomatch z) e, by omega, fun z hz => ?_, fun i x hi ex hmm => ?_⟩⟩
  · rw [s3]
    constructor
    · rintro ⟨i, x, hi, ex, hmm, ha⟩
      exact ⟨i, x, by omega, ex, hmm, ha⟩
    · rintro ⟨i, x, hi, ex, hmm, ha⟩
      have hik : i ≠ k := fun z => by
        subst z
        rw [ey] at ex; cases ex
        exact ym hmm
      exact ⟨i, x, by omega, ex, hmm, ha⟩
  · obtain ⟨s2, d2, e3, y2⟩ := a3 z hz
    obtain ⟨kd2, pos2, kv2, e4, hl2, hm3⟩ := y2
    refine ⟨s2, d2, e3, kd2, pos2, kv2, q _ _ (ne kd2 fun _ _ z => nomatch z) e4, by omega, fun w hw => ?_⟩
    obtain ⟨r2, l2, e5, y3⟩ := hm3 w hw
    by_cases hll : l2 = l
    · subst hll
      have es : Kd.L s2 r2 = Kd.L y.s (y.a % y.s) := by rw [← y3.kd, ← kl]
      injection es with es1 es2
      refine ⟨r2, l2, e5, y3.kd, _, set_at hl, by simp; omega, fun v hv => ?_⟩
      rcases List.mem_append.mp hv with hv | hv
      · obtain ⟨t2, i, x, f1, f2, f3, f4, f5, f6, f7, f8⟩ := hm2 v hv
        exact ⟨t2, i, x, f1, f2, by omega, f4, f5, by rw [f6, es1], by rw [f7, es2], q _ _ (ne f2 fun _ _ z => nomatch z) f8⟩
      · rw [List.mem_singleton.mp hv]
        exact ⟨t, k, y, rfl, kt, by omega, ey, ym, es1.symm, es2.symm, ht2⟩
    · exact ⟨r2, l2, e5, y3.keep (fun _ _ => rfl) q hll nT (by omega) (by omega)⟩
  · by_cases hik : i = k
    · subst hik
      rw [ey] at ex; cases ex
      exact ⟨d, kv, l, _, t, md, q _ _ (ne kd fun _ _ z => nomatch z) hd, ml, set_at hl, List.mem_append_right _ List.mem_cons_self, ht2⟩
    · obtain ⟨d2, kv2, l2, xs2, t2, f1, f2, f3, f4, f5, f6⟩ := a4 i x (by omega) ex hmm
      obtain ⟨s2, d3, z, y2⟩ := a3 _ (getS_mem f1)
      cases z
      obtain ⟨kd2, pos2, kv3, e2', hl2, hz⟩ := y2
      rw [f2] at e2'; cases e2'
      obtain ⟨r2, l3, z2, y3⟩ := hz _ (getS_mem f3)
      cases z2
      obtain ⟨kl2, xs3, e4', _, hz2⟩ := y3
      rw [f4] at e4'; cases e4'
      obtain ⟨t', i', x', z3, kt2, _⟩ := hz2 _ f5
      cases z3
      by_cases hll : l2 = l
      · subst hll
        rw [hl] at f4; cases f4
        exact ⟨d2, kv2, l2, _, t2, f1, q _ _ (ne kd2 fun _ _ z => nomatch z) f2, f3, set_at hl, List.mem_append_left _ f5, q _ _ (ne kt2 fun _ _ z => nomatch z) f6⟩
      · exact ⟨d2, kv2, l2, xs2, t2, f1, q _ _ (ne kd2 fun _ _ z => nomatch z) f2, f3, q _ _ hll f4, f5, q _ _ (ne kt2 fun _ _ z => nomatch z) f6⟩
end
end Gn
namespace Gn
open PySem PySem.Spec L2 Fw
/-- where the stretches stand -/
structure Lst (h : SH) (L : Nat) (S : List Sx) : Prop where
  ex : ∃ ts : List Nat, h[L]? = some (.lst (ts.map SV.ref)) ∧ ts.length = S.length ∧ ∀ (i t : Nat), ts[i]? = some t → ∃ x, S[i]? = some x ∧ h[t]? = some x.so ∧ x.Ok
  few : S.length ≤ 5
theorem Lst.le {h h' : SH} {L : Nat} {S : List Sx} (x : Lst h L S) (l : Le h h') : Lst h' L S := by
  obtain ⟨⟨ts, e, hl, z⟩, f⟩ := x
  exact ⟨⟨ts, l _ _ e, hl, fun i t e => let ⟨x, a, b, c⟩ := z i t e; ⟨x, a, l _ _ b, c⟩⟩, f⟩
theorem small_big {n : Nat} (h : n ≤ 1000) : n ≤ big := by unfold big; omega
theorem small_lt {n : Nat} (h : n ≤ 1000) : n < big := by unfold big; omega
theorem eq1 {m : Option Int} {h : SH} {P : SV → SH → Prop} (p : P (.bl (decide (m = some 1))) h) : ∃ v h3, eqD false (mSV m) (.int 1) h = some (v, h3) ∧ P v h3 := by
  refine ⟨_, _, ?_, p⟩
  cases m with
  | none =>
    show (if (SeqAt.shaped .none && SeqAt.shaped (.int 1)) = true then some (SV.bl (if false = true then !PyData.eqv .none (.int 1) else PyData.eqv .none (.int 1)), h) else none) = _
    rw [if_pos (by decide +kernel), if_neg (by decide)]
    congr 2
  | some i =>
    unfold mSV eqD
    have e1 : dataOf 64 h (.int i) = some (.int i) := rfl
    have e2 : dataOf 64 h (.int 1) = some (.int 1) := rfl
    simp only [e1, e2, sh_int, ev_int]
    simp
theorem isN_is {m : Option Int} {h : SH} {P : SV → SH → Prop} (p : P (.bl (decide (m = none))) h) : ∃ v h3, opIsN (mSV m) .non h = some (v, h3) ∧ P v h3 := by
  refine ⟨_, _, ?_, p⟩
  cases m with
  | none => rfl
  | some i => rfl
section
variable {S : List Sx} {κ : Nat → Kd} {h h0 : SH} {k b o si ru ra : Nat} {ss : SS} {P : SV → SH → Prop}
def bump (κ : Nat → Kd) (n : Nat) (a : Kd) : Nat → Kd := fun j => if j = n then a else κ j
theorem bump_ag {a : Kd} : Ag h κ (bump κ h.length a) := fun j hj => if_neg (by omega)
theorem bump_at {n : Nat} {a : Kd} : bump κ n a n = a := if_pos rfl
theorem setd1 (x : HI S κ h k b h0 o si ru ra) (hb : b ≤ 900) {s : Int} (hs : 1 ≤ s) (s0 : ss[0]? = some (some (.ref o))) (s3 : ss[3]? = some (some (.int s)))
    (p : ∀ d κ' h' kvs kv, HI S κ' h' k (b + 1) h0 o si ru ra → h'[ra]? = some (.dK kvs) → getS kvs (.inl s) = some (.ref d) → h'[d]? = some (.dK kv) → P (.ref d) h') :
    Is (mD3 opSetd (mO1 (opFld x__ranges) (mVar 0)) (mVar 3) mDict0 ss h) P := by
  obtain ⟨kvs, a1, a2, a3, a4⟩ := x.ha
  refine Is.d3 (Is.o1 (Is.var s0 (fld_is x.ho rfl rfl ⟨dctB a1, Is.var s3 (Is.dict0 ?_)⟩)))
  have le := Le.push h (.dK [])
  have a1' := le _ _ a1
  cases g : getS kvs (.inl s) with
  | some v =>
    obtain ⟨s', d, z, dd⟩ := a3 _ (getS_mem g)
    cases z
    obtain ⟨kd, pos, kv, e2, _⟩ := dd
    refine ⟨.ref d, h ++ [.dK []], ?_, p d κ _ kvs kv (x.grow (fun _ _ => rfl) le (by omega)) a1' g (le _ _ e2)⟩
    unfold opSetd
    simp only [a1', Fw.keyOf, g]
    exact if_pos ((by unfold big; omega))
  | none =>
    have y := x.grow (κ' := bump κ h.length (.D s)) bump_ag le (Nat.le_refl b)
    refine ⟨.ref h.length, (h ++ [SO.dK []]).set ra (SO.dK (putS kvs (.inl s) (.ref h.length))), ?_, ?_⟩
    · unfold opSetd
      simp only [a1', Fw.keyOf, g]
      exact if_pos ((by unfold big; omega))
    · refine p h.length _ _ _ [] (y.newD a1' hs bump_at (new_at _ _) g) (set_at a1') ?_ ?_
      · rw [put_new g, getS_app, g]; simp
      · have : ra ≠ h.length := Nat.ne_of_lt (lt_of a1)
        rw [set_ne this]; exact new_at _ _
end
end Gn
namespace Gn
open PySem PySem.Spec L2 Fw
section
variable {S : List Sx} {κ : Nat → Kd} {h h0 : SH} {k b o si ru ra : Nat} {ss : SS} {P : SV → SH → Prop}
theorem setd2 (x : HI S κ h k b h0 o si ru ra) (hb : b ≤ 900) {s a : Int} {d : Nat} (hs : 1 ≤ s) (s2 : ss[2]? = some (some (.int a))) (s3 : ss[3]? = some (some (.int s))) {kvs kv : List (Key × SV)} (a1 : h[ra]? = some (.dK kvs)) (md : getS kvs (.inl s) = some (.ref d)) (hd : h[d]? = some (.dK kv)) {mo : EM}
    (p : ∀ l κ' h' kvs kv xs, HI S κ' h' k (b + 1) h0 o si ru ra → h'[ra]? = some (.dK kvs) → getS kvs (.inl s) = some (.ref d) → h'[d]? = some (.dK kv) → getS kv (.inl (a % s)) = some (.ref l) → h'[l]? = some (.lst xs) → xs.length ≤ 901 → P (.ref l) h') :
    isDct h (.ref d) = true ∧ Is (mO2 opMod (mVar 2) (mVar 3) ss h) fun kk h2 => Is (mOA opLst aNil ss h2) fun z h3 => ∃ v h4, opSetd (.ref d) kk z h3 = some (v, h4) ∧ P v h4 := by
  refine ⟨dctB hd, Is.o2 (Is.var s2 (Is.var s3 (mod_is (by omega) (Is.oa (Is.anil (lst_is (small_big (by simp)) ?_))))))⟩
  have le := Le.push h (.lst [])
  have hd' := le _ _ hd
  obtain ⟨kvs', a1', a2, a3, a4⟩ := x.ha
  rw [a1] at a1'; cases a1'
  obtain ⟨s', d', z, dd⟩ := a3 _ (getS_mem md)
  cases z
  obtain ⟨kd, pos, kv', e2, hlen, hm⟩ := dd
  rw [hd] at e2; cases e2
  cases g : getS kv (.inl (a % s)) with
  | some v =>
    obtain ⟨r, l, z, ll⟩ := hm _ (getS_mem g)
    cases z
    obtain ⟨kl, xs, e3, hl3, _⟩ := ll
    refine ⟨.ref l, h ++ [.lst []], ?_, p l κ _ kvs kv xs (x.grow (fun _ _ => rfl) le (by omega)) (le _ _ a1) md hd' g (le _ _ e3) (by omega)⟩
    unfold opSetd
    simp only [hd', Fw.keyOf, g]
    exact if_pos (small_lt (by omega))
  | none =>
    have y := x.grow (κ' := bump κ h.length (.L s (a % s))) bump_ag le (Nat.le_refl b)
    have nd : d ≠ h.length := Nat.ne_of_lt (lt_of hd)
    have nr : ra ≠ d := kne x.ka kd (by exact fun z => nomatch z)
    refine ⟨.ref h.length, (h ++ [SO.lst []]).set d (SO.dK (putS kv (.inl (a % s)) (.ref h.length))), ?_, ?_⟩
    · unfold opSetd
      simp only [hd', Fw.keyOf, g]
      exact if_pos (small_lt (by omega))
    · refine p h.length _ _ kvs _ [] (y.newL (le _ _ a1) md hd' bump_at (new_at _ _) g) ?_ md (set_at hd') ?_ ?_ (by simp)
      · rw [set_ne (Ne.symm nr)]; exact le _ _ a1
      · rw [put_new g, getS_app, g]; simp
      · rw [set_ne nd]; exact new_at _ _
def initB : SM := mIfS (mB (mO2 (eqD false) (mVar 4) (mC (.int 1)))) (mSt (mC (.bl true)) (mO1 (opFld x__singles) (mVar 0)) (mVar 2)) (mSeq (mSet 5 (mIf (mB (mO2 opIsN (mVar 4) (mC .non))) (mC .non) (mO2 opAdd (mVar 2) (mO2 opMul (mO2 opSub (mVar 4) (mC (.int 1))) (mVar 3))))) (mSeq (mDrop (mBm opAppend (mO1 (opFld x__runs) (mVar 0)) (aCons (mOA opTup (aCons (mVar 2) (aCons (mVar 3) (aCons (mVar 5) aNil)))) aNil))) (mDrop (mBm opAppend (mD3 opSetd (mD3 opSetd (mO1 (opFld x__ranges) (mVar 0)) (mVar 3) mDict0) (mO2 opMod (mVar 2) (mVar 3)) (mOA opLst aNil)) (aCons (mOA opTup (aCons (mVar 2) (aCons (mVar 5) aNil))) aNil)))))
/-- one stretch more -/
theorem init_turn {N B C : SS → SH → Prop} {R : SV → SH → Prop} (x : HI S κ h k b h0 o si ru ra) (hb : b ≤ 800) {y : Sx} (ey : S[k]? = some y) (ok : y.Ok) (hl : ss.length = 6) (s0 : ss[0]? = some (some (.ref o))) (s2 : ss[2]? = some (some (.int y.a))) (s3 : ss[3]? = some (some (.int y.s))) (s4 : ss[4]? = some (some (mSV y.m)))
    (n : ∀ ss' κ' h', ss'.length = 6 → (∀ i, i < 5 → ss'[i]? = ss[i]?) → HI S κ' h' (k + 1) (b + 4) h0 o si ru ra → N ss' h') : Ist (initB ss h) N R B C := by
  unfold initB
  refine Ist.ite (Is.bm (Is.o2 (Is.var s4 (Is.c (eq1 ⟨_, rfl, ?_⟩)))))
  by_cases ym : y.m = some 1
  · rw [if_pos (decide_eq_true ym)]
    obtain ⟨sg, g1, g2, g3⟩ := x.hs
    refine Ist.st (Is.c (Is.o1 (Is.var s0 (fld_is x.ho rfl rfl (Is.var s2 ⟨h.set si (SO.dK (putS sg (.inl y.a) (.bl true))), ?_, ?_⟩)))))
    · unfold opSt
      simp only [g1, Fw.keyOf]
      exact if_pos (small_lt (by omega))
    · exact n _ κ _ hl (fun _ _ => rfl) ((x.single g1 ey ym).grow (fun _ _ => rfl) (Le.refl _) (by omega))
  · rw [if_neg (by simpa using ym)]
    refine Ist.seq (Ist.set (Is.ifx (Is.bm (Is.o2 (Is.var s4 (Is.c (isN_is ⟨_, rfl, ?_⟩)))))))
    have s1 := ok.s1
    have s0' := ok.s0
    have goal2 : ∀ {m : EM}, Is (m ss h) (fun v h' => v = lastSV y ∧ h' = h) → Is (m ss h) fun v h1 => Ist (mSeq (mDrop (mBm opAppend (mO1 (opFld x__runs) (mVar 0)) (aCons (mOA opTup (aCons (mVar 2) (aCons (mVar 3) (aCons (mVar 5) aNil)))) aNil))) (mDrop (mBm opAppend (mD3 opSetd (mD3 opSetd (mO1 (opFld x__ranges) (mVar 0)) (mVar 3) mDict0) (mO2 opMod (mVar 2) (mVar 3)) (mOA opLst aNil)) (aCons (mOA opTup (aCons (mVar 2) (aCons (mVar 5) aNil))) aNil))) (ss.set 5 (some v)) h1) N R B C := fun q => q.mono fun v h' ⟨ev, eh⟩ => by
      subst ev; subst eh
      have t : ∀ i, i < 5 → (ss.set 5 (some (lastSV y)))[i]? = ss[i]? := fun i hi => List.getElem?_set_ne (by omega)
      have t5 : (ss.set 5 (some (lastSV y)))[5]? = some (some (lastSV y)) := List.getElem?_set_self (by omega)
      generalize ess : ss.set 5 (some (lastSV y)) = s' at t t5 ⊢
      have z0 := (t 0 (by omega)).trans s0
      have z2 := (t 2 (by omega)).trans s2
      have z3 := (t 3 (by omega)).trans s3
      obtain ⟨ru', u1, u2⟩ := x.hu
      refine Ist.seq (Ist.drop (Is.bmL (Is.o1 (Is.var z0 (fld_is x.ho rfl rfl ⟨lstB u1, ?_⟩)))))
      refine Is.acons (Is.oa (Is.acons (Is.var z2 (Is.acons (Is.var z3 (Is.acons (Is.var t5 (Is.anil (tup_is (small_big (by simp)) (Is.anil ?_)))))))))) 
      have le1 := Le.push h' (.tup [.int y.a, .int y.s, lastSV y])
      have x1 := x.grow (κ' := κ) (fun _ _ => rfl) le1 (Nat.le_refl b)
      refine app_is (le1 _ _ u1) (small_lt (by omega)) ?_
      have x2 := x1.runs (le1 _ _ u1) (.ref h'.length)
      refine Ist.drop (Is.bmL ?_)
      refine Is.d3 ?_
      refine setd1 x2 (by omega) s0' z0 z3 fun d κ3 h3 kvs3 kv3 x3 c1 c2 c3 => ?_
      refine setd2 (P := fun o h1 => isLst h1 o = true ∧ _) (mo := mVar 0) x3 (by omega) s0' z2 z3 c1 c2 c3 fun l κ4 h4 kvs4 kv4 xs4 x4 d1 d2 d3 d4 d5 d6 => ?_
      refine ⟨lstB d5, Is.acons (Is.oa (Is.acons (Is.var z2 (Is.acons (Is.var t5 (Is.anil (tup_is (small_big (by simp)) (Is.anil ?_))))))))⟩
      have le2 := Le.push h4 (.tup [.int y.a, lastSV y])
      have x5 := x4.grow (κ' := bump κ4 h4.length .T) bump_ag le2 (Nat.le_refl _)
      refine app_is (le2 _ _ d5) (small_lt (by omega)) ?_
      have x6 := x5.done (le2 _ _ d1) ey ym d2 (le2 _ _ d3) d4 (le2 _ _ d5) bump_at (new_at _ _)
      exact n s' _ _ (by rw [← ess]; simpa using hl) t (x6.grow (fun _ _ => rfl) (Le.refl _) (by omega))
    by_cases mn : y.m = none
    · rw [if_pos (decide_eq_true mn)]
      exact goal2 (Is.c ⟨by unfold lastSV; rw [mn], rfl⟩)
    · rw [if_neg (by simpa using mn)]
      obtain ⟨i, hi⟩ : ∃ i, y.m = some i := Option.ne_none_iff_exists'.mp mn
      rw [hi] at s4
      refine goal2 (Is.o2 (Is.var s2 (Is.o2 (Is.o2 (Is.var s4 (Is.c ⟨_, _, rfl, Is.var s3 (mul_is (okMul_r (by omega) (by omega)) ⟨_, _, rfl, ?_⟩)⟩))))))
      exact ⟨by unfold lastSV; rw [hi], rfl⟩
end
end Gn
namespace Gn
open PySem PySem.Spec L2 Fw
theorem g3_is {i j k t : Nat} {a b c : SV} {s : SS} {h : SH} (e : h[t]? = some (.tup [a, b, c])) : gTupM 3 (gsCons (gVar i) (gsCons (gVar j) (gsCons (gVar k) gsNil))) (.ref t) s h = some (((s.set i (some a)).set j (some b)).set k (some c)) := by
  unfold gTupM
  simp only [e]
  rfl
theorem g2_is {i j t : Nat} {a b : SV} {s : SS} {h : SH} (e : h[t]? = some (.tup [a, b])) : gTupM 2 (gsCons (gVar i) (gsCons (gVar j) gsNil)) (.ref t) s h = some ((s.set i (some a)).set j (some b)) := by
  unfold gTupM
  simp only [e]
  rfl
theorem init_is {S : List Sx} {h0 : SH} {L : Nat} (ls : Lst h0 L S) : Is (f_Held___init__ [.ref h0.length, .ref L] (h0 ++ [.ins 4 []])) fun v h' => v = .non ∧ ∃ κ si ru ra, HI S κ h' S.length 20 h0 h0.length si ru ra := by
  refine Is.fn rfl ?_
  unfold m_Held___init__
  have n0 := new_at h0 (.ins 4 [])
  have la : (h0 ++ [SO.ins 4 []]).length = h0.length + 1 := by simp
  have le0 := Le.push h0 (.ins 4 [])
  generalize eA : h0 ++ [SO.ins 4 []] = hA at n0 la le0 ⊢
  refine Ist.seq (Ist.fst (Is.dict0 (Is.var rfl (fst_is (Le.push _ _ _ _ n0) rfl rfl ?_))))
  have n1 : ((hA ++ [SO.dK []]).set h0.length (.ins 4 ([] ++ [.ref hA.length])))[h0.length]? = some (.ins 4 [.ref hA.length]) := set_at (Le.push _ _ _ _ n0)
  have d1 : ((hA ++ [SO.dK []]).set h0.length (.ins 4 ([] ++ [.ref hA.length])))[hA.length]? = some (.dK []) := by rw [set_ne (by omega)]; exact new_at _ _
  have le1 : Le h0 ((hA ++ [SO.dK []]).set h0.length (.ins 4 ([] ++ [.ref hA.length]))) := le_set (le0.trans (Le.push _ _)) (Nat.le_refl _)
  have lb : ((hA ++ [SO.dK []]).set h0.length (.ins 4 ([] ++ [.ref hA.length]))).length = h0.length + 2 := by simp [la]
  generalize (hA ++ [SO.dK []]).set h0.length (.ins 4 ([] ++ [.ref hA.length])) = hB at n1 d1 le1 lb ⊢
  refine Ist.seq (Ist.fst (Is.oa (Is.anil (lst_is (small_big (by simp)) (Is.var rfl (fst_is (Le.push _ _ _ _ n1) rfl rfl ?_))))))
  have n2 : ((hB ++ [SO.lst []]).set h0.length (.ins 4 ([.ref hA.length] ++ [.ref hB.length])))[h0.length]? = some (.ins 4 [.ref hA.length, .ref hB.length]) := set_at (Le.push _ _ _ _ n1)
  have d2 : ((hB ++ [SO.lst []]).set h0.length (.ins 4 ([.ref hA.length] ++ [.ref hB.length])))[hA.length]? = some (.dK []) := by rw [set_ne (by omega)]; exact Le.push _ _ _ _ d1
  have u2 : ((hB ++ [SO.lst []]).set h0.length (.ins 4 ([.ref hA.length] ++ [.ref hB.length])))[hB.length]? = some (.lst []) := by rw [set_ne (by omega)]; exact new_at _ _
  have le2 : Le h0 ((hB ++ [SO.lst []]).set h0.length (.ins 4 ([.ref hA.length] ++ [.ref hB.length]))) := le_set (le1.trans (Le.push _ _)) (Nat.le_refl _)
  have lc : ((hB ++ [SO.lst []]).set h0.length (.ins 4 ([.ref hA.length] ++ [.ref hB.length]))).length = h0.length + 3 := by simp [lb]
  generalize (hB ++ [SO.lst []]).set h0.length (.ins 4 ([.ref hA.length] ++ [.ref hB.length])) = hC at n2 d2 u2 le2 lc ⊢
  refine Ist.seq (Ist.fst (Is.dict0 (Is.var rfl (fst_is (Le.push _ _ _ _ n2) rfl rfl ?_))))
  have n3 : ((hC ++ [SO.dK []]).set h0.length (.ins 4 ([.ref hA.length, .ref hB.length] ++ [.ref hC.length])))[h0.length]? = some (.ins 4 [.ref hA.length, .ref hB.length, .ref hC.length]) := set_at (Le.push _ _ _ _ n2)
  have d3 : ((hC ++ [SO.dK []]).set h0.length (.ins 4 ([.ref hA.length, .ref hB.length] ++ [.ref hC.length])))[hA.length]? = some (.dK []) := by rw [set_ne (by omega)]; exact Le.push _ _ _ _ d2
  have u3 : ((hC ++ [SO.dK []]).set h0.length (.ins 4 ([.ref hA.length, .ref hB.length] ++ [.ref hC.length])))[hB.length]? = some (.lst []) := by rw [set_ne (by omega)]; exact Le.push _ _ _ _ u2
  have a3 : ((hC ++ [SO.dK []]).set h0.length (.ins 4 ([.ref hA.length, .ref hB.length] ++ [.ref hC.length])))[hC.length]? = some (.dK []) := by rw [set_ne (by omega)]; exact new_at _ _
  have le3 : Le h0 ((hC ++ [SO.dK []]).set h0.length (.ins 4 ([.ref hA.length, .ref hB.length] ++ [.ref hC.length]))) := le_set (le2.trans (Le.push _ _)) (Nat.le_refl _)
  generalize (hC ++ [SO.dK []]).set h0.length (.ins 4 ([.ref hA.length, .ref hB.length] ++ [.ref hC.length])) = hD at n3 d3 u3 a3 le3 ⊢
  rw [la, lb, lc] at *
  have x0 : HI S (fun j => if j < h0.length then .B else if j = h0.length then .ob else if j = h0.length + 1 then .si else if j = h0.length + 2 then .ru else if j = h0.length + 3 then .ra else .T) hD 0 0 h0 h0.length (h0.length + 1) (h0.length + 2) (h0.length + 3) := by
    refine ⟨le3, fun j hj => if_pos hj, ?_, ?_, ?_, ?_, n3, ⟨[], d3, Nat.le_refl _, fun n => ⟨fun z => by simp [getS] at z, fun ⟨i, _, hi, _⟩ => by omega⟩⟩, ⟨[], u3, Nat.le_refl _⟩, ⟨[], a3, Nat.le_refl _, (fun _ z => nomatch z), fun i _ hi => by omega⟩⟩
    · rw [if_neg (by omega), if_pos rfl]
    · rw [if_neg (by omega), if_neg (by omega), if_pos rfl]
    · rw [if_neg (by omega), if_neg (by omega), if_neg (by omega), if_pos rfl]
    · rw [if_neg (by omega), if_neg (by omega), if_neg (by omega), if_neg (by omega), if_pos rfl]
  obtain ⟨⟨ts, e, hl, z⟩, few⟩ := ls.le le3
  refine Ist.for (Is.walkL (Is.var (v := .ref L) rfl ⟨L, _, rfl, e, S.length, fun k s h => s.length = 6 ∧ s[0]? = some (some (.ref h0.length)) ∧ ∃ κ, HI S κ h k (4 * k) h0 h0.length (h0.length + 1) (h0.length + 2) (h0.length + 3), by unfold many; omega, ⟨rfl, rfl, _, x0⟩, ?_, ?_⟩))
  · rintro k s h hk ⟨q1, q2, κ, x⟩
    obtain ⟨⟨ts', e', hl', z'⟩, _⟩ := ls.le x.le
    have ek : ts'[k]? = some ts'[k] := List.getElem?_eq_getElem (by omega)
    obtain ⟨y, ey, et, ok⟩ := z' k _ ek
    refine ⟨_, _, _, wkL_at e' (by rw [List.getElem?_map, ek]; rfl), g3_is et, ?_⟩
    refine init_turn x (by omega) ey ok (by simp [q1]) ?_ ?_ ?_ ?_ fun ss' κ' h' r1 r2 x' => ⟨r1, ?_, κ', by rw [show 4 * (k + 1) = 4 * k + 4 from by omega]; exact x'⟩
    · rw [List.getElem?_set_ne (by decide), List.getElem?_set_ne (by decide), List.getElem?_set_ne (by decide)]; exact q2
    · rw [List.getElem?_set_ne (by decide), List.getElem?_set_ne (by decide), List.getElem?_set_self (by omega)]
    · rw [List.getElem?_set_ne (by decide), List.getElem?_set_self (by simp; omega)]
    · rw [List.getElem?_set_self (by simp; omega)]
    · rw [r2 0 (by omega), List.getElem?_set_ne (by decide), List.getElem?_set_ne (by decide), List.getElem?_set_ne (by decide)]; exact q2
  · rintro s h ⟨q1, q2, κ, x⟩
    obtain ⟨⟨ts', e', hl', z'⟩, _⟩ := ls.le x.le
    have w := wkL_end e'
    rw [List.length_map, hl'] at w
    exact ⟨w, rfl, κ, _, _, _, x.grow (fun _ _ => rfl) (Le.refl _) (by omega)⟩
end Gn
namespace Gn
open PySem PySem.Spec L2 Fw
section
variable {N B C : SS → SH → Prop} {R : SV → SH → Prop} {ss : SS} {h : SH}
theorem Ist.items {m : EM} {g : GM} {mb : SM} {i : Nat} {h1 : SH} {kvs : List (Key × SV)} (e : m ss h = .ok (.ref i) h1) (ek : h[i]? = some (.dK kvs))
    (x : Ist (mFor (mIt m) g mb ss (h.set i (.lk kvs))) (fun s h2 => ∃ kv, h2[i]? = some (.lk kv) ∧ N s (h2.set i (.dK kv))) (fun v h2 => ∃ kv, h2[i]? = some (.lk kv) ∧ R v (h2.set i (.dK kv))) (fun s h2 => ∃ kv, h2[i]? = some (.lk kv) ∧ B s (h2.set i (.dK kv))) (fun s h2 => ∃ kv, h2[i]? = some (.lk kv) ∧ C s (h2.set i (.dK kv)))) : Ist (mItems m g mb ss h) N R B C := by
  unfold mItems
  rw [e]
  simp only [ek]
  cases er : mFor (mIt m) g mb ss (h.set i (.lk kvs)) with
  | nx s h2 => rw [er] at x; obtain ⟨kv, z, n⟩ := x; unfold unS; simp only [z]; exact n
  | rt s h2 => rw [er] at x; obtain ⟨kv, z, n⟩ := x; unfold unS; simp only [z]; exact n
  | bk s h2 => rw [er] at x; obtain ⟨kv, z, n⟩ := x; unfold unS; simp only [z]; exact n
  | ct s h2 => rw [er] at x; obtain ⟨kv, z, n⟩ := x; unfold unS; simp only [z]; exact n
  | stuck => rw [er] at x; exact x.elim
  | ex c xs s h2 => rw [er] at x; exact x.elim
theorem Is.it {P : Wk → SH → Prop} {m : EM} (x : Is (m ss h) fun v h1 => ∃ r kvs, v = .ref r ∧ h1[r]? = some (.lk kvs) ∧ P (wkIt r) h1) : Is (mIt m ss h) P := Is.bind (x.mono fun v h1 y => by
  obtain ⟨r, kvs, rfl, e, p⟩ := y
  show Is (match h1[r]? with | some (.lk _) => Res.ok (wkIt r) h1 | _ => .stuck) P
  rw [e]; exact p)
theorem wkIt_at {r k : Nat} {kvs : List (Key × SV)} {kk : Key} {x : SV} (e : h[r]? = some (.lk kvs)) (ex : kvs[k]? = some (kk, x)) : wkIt r h k = some (some (.ref h.length, h ++ [.tup [keyS kk, x]])) := by
  unfold wkIt; simp only [e, ex]
theorem wkIt_end {r : Nat} {kvs : List (Key × SV)} (e : h[r]? = some (.lk kvs)) : wkIt r h kvs.length = some none := by
  unfold wkIt; simp [e]
end
def lastM (x : Sx) : Option Int := x.m.map fun i => x.a + (i - 1) * x.s
theorem lastSV_eq (x : Sx) : lastSV x = mSV (lastM x) := by
  unfold lastSV lastM
  cases x.m <;> rfl
def inRange (a : Int) (lm : Option Int) (n : Int) : Bool := decide (a ≤ n) && match lm with
  | none => true
  | some i => decide (n ≤ i)
theorem held_of {x : Sx} {n : Int} (k : x.Ok) (hm : x.m ≠ some 1) (hr : n % x.s = x.a % x.s) : heldL x n = inRange x.a (lastM x) n := by
  rw [Bool.eq_iff_iff, heldL_iff k]
  unfold inRange lastM
  cases em : x.m with
  | none => simp [hr]
  | some i =>
    rw [em] at hm
    have hm' : i ≠ 1 := fun z => hm (by rw [z])
    simp [hr, hm']
theorem not_held {x : Sx} {n : Int} (k : x.Ok) (hm : x.m ≠ some 1) (hr : n % x.s ≠ x.a % x.s) : heldL x n = false := by
  cases e : heldL x n with
  | false => rfl
  | true =>
    rcases (heldL_iff k).mp e with ⟨z, _⟩ | ⟨_, z, _⟩
    · exact absurd z hm
    · exact absurd z hr
def lastB : SM := mIfS (bAnd (mB (mO2 opLe (mVar 4) (mVar 1))) (bOr (mB (mO2 opIsN (mVar 5) (mC .non))) (mB (mO2 opLe (mVar 1) (mVar 5))))) (mRet (mC (.bl true))) mNil
theorem lastB_is {N B C : SS → SH → Prop} {R : SV → SH → Prop} {ss : SS} {h : SH} {a n : Int} {lm : Option Int} (s1 : ss[1]? = some (some (.int n))) (s4 : ss[4]? = some (some (.int a))) (s5 : ss[5]? = some (some (mSV lm)))
    (p : if inRange a lm n = true then R (.bl true) h else N ss h) : Ist (lastB ss h) N R B C := by
  unfold lastB
  refine Ist.ite (Is.band (Is.bm (Is.o2 (Is.var s4 (Is.var s1 ⟨_, _, rfl, _, rfl, ?_⟩)))))
  by_cases h1 : a ≤ n
  · rw [if_pos (decide_eq_true h1)]
    refine Is.bor (Is.bm (Is.o2 (Is.var s5 (Is.c (isN_is ⟨_, rfl, ?_⟩)))))
    cases lm with
    | none =>
      rw [if_pos (decide_eq_true rfl), if_pos rfl]
      unfold inRange at p
      rw [if_pos (by simp [h1])] at p
      exact Ist.ret (Is.c p)
    | some i =>
      rw [if_neg (by simp)]
      refine Is.bm (Is.o2 (Is.var s1 (Is.var s5 ⟨_, _, rfl, _, rfl, ?_⟩)))
      unfold inRange at p
      by_cases h2 : n ≤ i
      · rw [if_pos (decide_eq_true h2)]
        rw [if_pos (by simp [h1, h2])] at p
        exact Ist.ret (Is.c p)
      · rw [if_neg (by simpa using h2)]
        rw [if_neg (by simp [h2])] at p
        exact Ist.nil p
  · rw [if_neg (by simpa using h1), if_neg Bool.false_ne_true]
    unfold inRange at p
    rw [if_neg (by simp [h1])] at p
    exact Ist.nil p
end Gn
namespace Gn
open PySem PySem.Spec L2 Fw
theorem mSV_inj {a b : Option Int} (e : mSV a = mSV b) : a = b := by
  cases a <;> cases b <;> first | rfl | (cases e; done) | (cases e; rfl)
theorem inner_is {N B C : SS → SH → Prop} {R : SV → SH → Prop} {S : List Sx} (hS : ∀ y ∈ S, y.Ok) {hX : SH} {zs : List SV} {r0 : Nat} {s n : Int} {ss : SS} (e : hX[r0]? = some (.lst zs)) (hlz : zs.length ≤ 1000)
    (hz : ∀ z ∈ zs, ∃ (t i : Nat) (y : Sx), z = .ref t ∧ S[i]? = some y ∧ y.m ≠ some 1 ∧ y.s = s ∧ y.a % y.s = n % s ∧ hX[t]? = some (.tup [.int y.a, lastSV y])) (hl : ss.length = 6) (s1 : ss[1]? = some (some (.int n)))
    (pr : (∃ y ∈ S, heldL y n = true) → R (.bl true) hX) (pn : ∀ s', s'.length = 6 → (∀ i, i < 4 → s'[i]? = ss[i]?) → (∀ (t : Nat) (y : Sx), .ref t ∈ zs → hX[t]? = some (.tup [.int y.a, lastSV y]) → inRange y.a (lastM y) n = false) → N s' hX) {m : IM} {h : SH} (hm : Is (m ss h) fun wk h1 => wk = wkL r0 ∧ h1 = hX) : Ist (mFor m (gTupM 2 (gsCons (gVar 4) (gsCons (gVar 5) gsNil))) lastB ss h) N R B C := by
  refine Ist.for (hm.mono fun wk h1 ⟨ew, eh⟩ => ?_)
  subst ew; subst eh
  refine ⟨zs.length, fun q s' h' => h' = h1 ∧ s'.length = 6 ∧ (∀ i, i < 4 → s'[i]? = ss[i]?) ∧ ∀ q', q' < q → ∀ t y, zs[q']? = some (.ref t) → h1[t]? = some (.tup [.int y.a, lastSV y]) → inRange y.a (lastM y) n = false, by unfold many; omega, ⟨rfl, hl, fun _ _ => rfl, fun q' hq => by omega⟩, ?_, ?_⟩
  · rintro q s' _ hq ⟨rfl, l1, l2, l3⟩
    have ez : zs[q]? = some zs[q] := List.getElem?_eq_getElem hq
    obtain ⟨t, i, y, e1, e2, e3, e4, e5, e6⟩ := hz _ (List.getElem_mem hq)
    rw [e1] at ez
    have ok := hS y (List.mem_of_getElem? e2)
    refine ⟨_, _, _, wkL_at e ez, g2_is e6, ?_⟩
    rw [lastSV_eq] at e6 ⊢
    refine lastB_is (a := y.a) (lm := lastM y) (n := n) ?_ ?_ ?_ ?_
    · rw [List.getElem?_set_ne (by decide), List.getElem?_set_ne (by decide), l2 1 (by omega)]; exact s1
    · rw [List.getElem?_set_ne (by decide), List.getElem?_set_self (by omega)]
    · rw [List.getElem?_set_self (by simp; omega)]
    · by_cases c : inRange y.a (lastM y) n = true
      · rw [if_pos c]
        refine pr ⟨y, List.mem_of_getElem? e2, ?_⟩
        rw [held_of ok e3 (by rw [e5, e4])]; exact c
      · rw [if_neg c]
        refine ⟨rfl, by simp [l1], fun i hi => ?_, fun q' hq' t' y' ez' et' => ?_⟩
        · rw [List.getElem?_set_ne (by omega), List.getElem?_set_ne (by omega)]; exact l2 i hi
        · by_cases hqq : q' = q
          · subst hqq
            rw [ez] at ez'
            cases ez'
            rw [e6] at et'
            have et2 : [SV.int y.a, mSV (lastM y)] = [SV.int y'.a, lastSV y'] := by
              injection et' with z; injection z
            rw [lastSV_eq] at et2
            injection et2 with w1 w2
            injection w1 with w1
            injection w2 with w2
            rw [← w1, ← mSV_inj w2]
            simpa using c
          · exact l3 q' (by omega) t' y' ez' et'
  · rintro s' _ ⟨rfl, l1, l2, l3⟩
    refine ⟨wkL_end e, pn s' l1 l2 fun t y ht et => ?_⟩
    obtain ⟨q, hq, ez⟩ := List.getElem_of_mem ht
    exact l3 q hq t y (by rw [List.getElem?_eq_getElem hq, ez]) et
theorem holds_is {S : List Sx} {κ : Nat → Kd} {h h0 : SH} {b o si ru ra : Nat} (x : HI S κ h S.length b h0 o si ru ra) (hS : ∀ y ∈ S, y.Ok) (hb : b ≤ 900) {n : Int} {P : SV → SH → Prop} (p : ∀ h', Le h0 h' → P (.bl (S.any fun y => heldL y n)) h') : Is (f_Held_holds [.ref o, .int n] h) P := by
  refine Is.fn rfl ?_
  unfold m_Held_holds
  obtain ⟨sg, g1, g2, g3⟩ := x.hs
  have yes : (∃ y ∈ S, heldL y n = true) → (S.any fun y => heldL y n) = true := fun ⟨y, h1, h2⟩ => List.any_eq_true.mpr ⟨y, h1, h2⟩
  refine Ist.seq (Ist.ite (Is.bm (Is.o2 (Is.var rfl (Is.o1 (Is.var (v := .ref o) rfl (fld_is x.ho rfl rfl ⟨.bl (getS sg (.inl n)).isSome, h, ?_, _, rfl, ?_⟩)))))))
  · unfold opIn
    simp only [g1, Fw.dictGet, Fw.keyOf, Option.map_some]
    rfl
  by_cases hs : (getS sg (.inl n)).isSome = true
  · rw [if_pos hs]
    obtain ⟨i, y, hi, ey, ym, ya⟩ := (g3 n).mp hs
    refine Ist.ret (Is.c ?_)
    have := p h x.le
    rw [yes ⟨y, List.mem_of_getElem? ey, (heldL_iff (hS y (List.mem_of_getElem? ey))).mpr (.inl ⟨ym, ya.symm⟩)⟩] at this
    exact this
  · rw [if_neg hs]
    refine Ist.nil ?_
    obtain ⟨kvs, a1, a2, a3, a4⟩ := x.ha
    have nT : κ ra ≠ .T := by rw [x.ka]; decide
    have hol : (h.set ra (SO.lk kvs))[o]? = some (.ins 4 [.ref si, .ref ru, .ref ra]) := by rw [set_ne (kne x.ka x.ko (by decide))]; exact x.ho
    have hral : (h.set ra (SO.lk kvs))[ra]? = some (.lk kvs) := set_at a1
    have kl : ∀ (j : Nat) (u : SO), j ≠ ra → h[j]? = some u → (h.set ra (SO.lk kvs))[j]? = some u := kp_set
    have bk : ∀ h2, Le (h.set ra (SO.lk kvs)) h2 → Le h0 (h2.set ra (SO.dK kvs)) := fun h2 l => le_set ((le_set x.le (above x.kB x.ka (by decide))).trans l) (above x.kB x.ka (by decide))
    refine Ist.seq (Ist.items (i := ra) (h1 := h) (kvs := kvs) ?_ a1 ?_)
    · show (Res.bind (mVar 0 _ h) fun a h1 => lift (opFld x__ranges a h1)) = _
      show lift (opFld x__ranges (.ref o) h) = _
      unfold opFld
      simp only [x.ho]
      rfl
    generalize h.set ra (SO.lk kvs) = hl at *
    refine Ist.for (Is.it (Is.o1 (Is.var (v := .ref o) rfl (fld_is hol rfl rfl ⟨ra, kvs, rfl, hral, kvs.length, fun j s' h' => s'.length = 6 ∧ s'[1]? = some (some (.int n)) ∧ Le hl h' ∧
      ∀ j', j' < j → ∀ s d, kvs[j']? = some (.inl s, .ref d) → ∀ kv l xs t y, h[d]? = some (.dK kv) → getS kv (.inl (n % s)) = some (.ref l) → h[l]? = some (.lst xs) → .ref t ∈ xs → h[t]? = some (.tup [.int y.a, lastSV y]) → inRange y.a (lastM y) n = false, by unfold many; omega, ⟨rfl, rfl, Le.refl _, fun j' hj => by omega⟩, ?_, ?_⟩))))
    · rintro j s' h' hj ⟨l1, l2, l3, l4⟩
      have ek : kvs[j]? = some kvs[j] := List.getElem?_eq_getElem hj
      obtain ⟨s, d, e1, kd, pos, kv, e2, e3, e4⟩ := a3 _ (List.getElem_mem hj)
      rw [e1] at ek
      have nd : d ≠ ra := kne kd x.ka (fun z => nomatch z)
      have edl := kl _ _ nd e2
      refine ⟨_, _, _, wkIt_at (l3 _ _ hral) ek, g2_is (new_at _ _), ?_⟩
      have l5 : Le hl (h' ++ [.tup [keyS (.inl s), .ref d]]) := l3.trans (Le.push _ _)
      generalize h' ++ [SO.tup [keyS (.inl s), .ref d]] = hT at l5 ⊢
      have t1 : ((s'.set 2 (some (keyS (.inl s)))).set 3 (some (.ref d)))[1]? = some (some (.int n)) := by rw [List.getElem?_set_ne (by decide), List.getElem?_set_ne (by decide)]; exact l2
      have t2 : ((s'.set 2 (some (keyS (.inl s)))).set 3 (some (.ref d)))[2]? = some (some (.int s)) := by rw [List.getElem?_set_ne (by decide), List.getElem?_set_self (by omega)]; rfl
      have t3 : ((s'.set 2 (some (keyS (.inl s)))).set 3 (some (.ref d)))[3]? = some (some (.ref d)) := List.getElem?_set_self (by simp; omega)
      have tl : ((s'.set 2 (some (keyS (.inl s)))).set 3 (some (.ref d))).length = 6 := by simp [l1]
      generalize (s'.set 2 (some (keyS (.inl s)))).set 3 (some (.ref d)) = sT at t1 t2 t3 tl ⊢
      have l6 := l5.trans (Le.push hT (.lst []))
      have step : ∀ (r0 : Nat) (zs : List SV), (hT ++ [SO.lst []])[r0]? = some (.lst zs) → zs.length ≤ 1000 → (∀ z ∈ zs, ∃ (t i : Nat) (y : Sx), z = .ref t ∧ S[i]? = some y ∧ y.m ≠ some 1 ∧ y.s = s ∧ y.a % y.s = n % s ∧ (hT ++ [SO.lst []])[t]? = some (.tup [.int y.a, lastSV y])) →
          (∀ kv l xs, h[d]? = some (.dK kv) → getS kv (.inl (n % s)) = some (.ref l) → h[l]? = some (.lst xs) → xs = zs) → (∀ t, .ref t ∈ zs → ∀ u, h[t]? = some u → (hT ++ [SO.lst []])[t]? = some u) →
          (∃ v, opGet2 (.ref d) (.int (n % s)) (.ref hT.length) (hT ++ [SO.lst []]) = some (v, hT ++ [SO.lst []]) ∧ v = .ref r0) →
          Ist (mFor (mWalk (mD3 opGet2 (mVar 3) (mO2 opMod (mVar 1) (mVar 2)) (mOA opLst aNil))) (gTupM 2 (gsCons (gVar 4) (gsCons (gVar 5) gsNil))) lastB sT hT)
            (fun s'' h'' => s''.length = 6 ∧ s''[1]? = some (some (.int n)) ∧ Le hl h'' ∧ ∀ j', j' < j + 1 → ∀ s d, kvs[j']? = some (.inl s, .ref d) → ∀ kv l xs t y, h[d]? = some (.dK kv) → getS kv (.inl (n % s)) = some (.ref l) → h[l]? = some (.lst xs) → .ref t ∈ xs → h[t]? = some (.tup [.int y.a, lastSV y]) → inRange y.a (lastM y) n = false)
            (fun v h2 => ∃ kv, h2[ra]? = some (.lk kv) ∧ P v (h2.set ra (.dK kv))) (fun s h2 => ∃ kv, h2[ra]? = some (.lk kv) ∧ Ist (mRet (mC (.bl false)) s (h2.set ra (.dK kv))) (fun _ h => P .non h) P (fun _ _ => False) (fun _ _ => False))
            (fun s'' h'' => s''.length = 6 ∧ s''[1]? = some (some (.int n)) ∧ Le hl h'' ∧ ∀ j', j' < j + 1 → ∀ s d, kvs[j']? = some (.inl s, .ref d) → ∀ kv l xs t y, h[d]? = some (.dK kv) → getS kv (.inl (n % s)) = some (.ref l) → h[l]? = some (.lst xs) → .ref t ∈ xs → h[t]? = some (.tup [.int y.a, lastSV y]) → inRange y.a (lastM y) n = false) := fun r0 zs er hlz hz same old ⟨v, og, ev⟩ => by
        subst ev
        refine inner_is hS er hlz hz tl t1 (fun w => ?_) (fun s'' q1 q2 q3 => ?_) (Is.walkL (Is.d3 (Is.var t3 ⟨dctB (l5 _ _ edl), Is.o2 (Is.var t1 (Is.var t2 (mod_is (by omega) (Is.oa (Is.anil (lst_is (small_big (by simp)) ⟨_, _, og, r0, zs, rfl, er, rfl, rfl⟩))))))⟩)))
        · have := p _ (bk _ l6)
          rw [yes w] at this
          exact ⟨kvs, l6 _ _ hral, this⟩
        · refine ⟨q1, by rw [q2 1 (by omega)]; exact t1, l6, fun j' hj' s2 d2 ek2 kv2 l2 xs2 t y f1 f2 f3 f4 f5 => ?_⟩
          by_cases hjj : j' = j
          · subst hjj
            rw [ek] at ek2; cases ek2
            have := same kv2 l2 xs2 f1 f2 f3
            subst this
            exact q3 t y f4 (old t f4 _ f5)
          · exact l4 j' (by omega) s2 d2 ek2 kv2 l2 xs2 t y f1 f2 f3 f4 f5
      have og : ∀ r, opGet2 (.ref d) (.int (n % s)) r (hT ++ [SO.lst []]) = some ((getS kv (.inl (n % s))).getD r, hT ++ [SO.lst []]) := fun r => by
        unfold opGet2
        simp only [l6 _ _ edl, Fw.dictGet, Fw.keyOf, Option.map_some]
      cases g : getS kv (.inl (n % s)) with
      | none =>
        refine step hT.length [] (new_at _ _) (by simp) (fun _ z => nomatch z) (fun kv2 l2 xs2 f1 f2 _ => ?_) (fun _ z => nomatch z) ⟨_, og _, by rw [g]; rfl⟩
        rw [e2] at f1; cases f1
        rw [g] at f2; cases f2
      | some v =>
        obtain ⟨r, l, z, kdl, xs, f3, f4, f5⟩ := e4 _ (getS_mem g)
        cases z
        have nl : l ≠ ra := kne kdl x.ka (fun z => nomatch z)
        refine step l xs (l6 _ _ (kl _ _ nl f3)) (by omega) (fun z hz => ?_) (fun kv2 l2 xs2 w1 w2 w3 => ?_) (fun t ht u eu => ?_) ⟨_, og _, by rw [g]; rfl⟩
        · obtain ⟨t, i, y, c1, c2, c3, c4, c5, c6, c7, c8⟩ := f5 z hz
          exact ⟨t, i, y, c1, c4, c5, c6, c7, l6 _ _ (kl _ _ (kne c2 x.ka (by decide)) c8)⟩
        · rw [e2] at w1; cases w1
          rw [g] at w2; cases w2
          rw [f3] at w3; cases w3; rfl
        · obtain ⟨t', i, y, c1, c2, c3, c4, c5, c6, c7, c8⟩ := f5 _ ht
          cases c1
          exact l6 _ _ (kl _ _ (kne c2 x.ka (by decide)) eu)
    · rintro s' h' ⟨l1, l2, l3, l4⟩
      refine ⟨wkIt_end (l3 _ _ hral), kvs, l3 _ _ hral, Ist.ret (Is.c ?_)⟩
      have no : (S.any fun y => heldL y n) = false := by
        rw [List.any_eq_false]
        intro y hy
        obtain ⟨i, hi, ey⟩ := List.getElem_of_mem hy
        have ey' : S[i]? = some y := by rw [List.getElem?_eq_getElem hi, ey]
        have ok := hS y hy
        by_cases ym : y.m = some 1
        · intro z
          rcases (heldL_iff ok).mp z with ⟨_, z⟩ | ⟨z, _⟩
          · exact hs ((g3 n).mpr ⟨i, y, hi, ey', ym, z.symm⟩)
          · exact z ym
        · by_cases hr : n % y.s = y.a % y.s
          · obtain ⟨d, kv, l, xs, t, f1, f2, f3, f4, f5, f6⟩ := a4 i y hi ey' ym
            obtain ⟨j, hj, ekj⟩ := List.getElem_of_mem (getS_mem f1)
            have := l4 j hj y.s d (by rw [List.getElem?_eq_getElem hj, ekj]) kv l xs t y f2 (by rw [hr]; exact f3) f4 f5 f6
            rw [held_of ok ym hr, this]
            exact Bool.false_ne_true
          · rw [not_held ok ym hr]; exact Bool.false_ne_true
      have := p _ (bk _ l3)
      rw [no] at this
      exact this
end Gn
namespace Fw
open PySem PySem.Spec L2
/-! what an object's data is stays; texts and their lengths -/
theorem dataAll_of {f : SV → Option PyData} : ∀ {xs : List SV} {ds : List PyData}, xs.length = ds.length → (∀ (k : Nat) (x : SV), xs[k]? = some x → ∃ d, ds[k]? = some d ∧ f x = some d) → dataAll f xs = some ds
  | [], [], _, _ => rfl
  | x :: xs, d :: ds, hl, h => by
    obtain ⟨d', e1, e2⟩ := h 0 x rfl
    cases e1
    unfold dataAll
    rw [e2]
    simp only
    rw [dataAll_of (by simpa using hl) fun k y e => h (k + 1) y (by simpa using e)]
  | [], _ :: _, hl, _ => by simp at hl
  | _ :: _, [], hl, _ => by simp at hl
theorem dataAll_mono {f f' : SV → Option PyData} (k : ∀ x d, f x = some d → f' x = some d) : ∀ {xs : List SV} {ds : List PyData}, dataAll f xs = some ds → dataAll f' xs = some ds
  | [], _, e => e
  | x :: xs, ds, e => by
    unfold dataAll at e ⊢
    cases e1 : f x with
    | none => rw [e1] at e; cases e
    | some d =>
      rw [e1] at e
      simp only at e
      rw [k x d e1]
      simp only
      cases e2 : dataAll f xs with
      | none => rw [e2] at e; cases e
      | some ds' =>
        rw [e2] at e
        rw [dataAll_mono k e2]
        exact e
theorem dataOf_le {h h' : SH} (l : Le h h') : ∀ (n : Nat) (v : SV) (d : PyData), dataOf n h v = some d → dataOf n h' v = some d
  | 0, _, _, e => by cases e
  | n + 1, v, d, e => by
    cases v with
    | ref i =>
      unfold dataOf at e ⊢
      dsimp only at e ⊢
      cases e1 : h[i]? with
      | none => simp only [e1] at e; cases e
      | some o =>
        rw [l i o e1]
        simp only [e1] at e
        cases o with
        | lst xs =>
          simp only at e ⊢
          cases e2 : dataAll (dataOf n h) xs with
          | none => rw [e2] at e; cases e
          | some ds => rw [e2] at e; rw [dataAll_mono (dataOf_le l n) e2]; exact e
        | tup xs =>
          simp only at e ⊢
          cases e2 : dataAll (dataOf n h) xs with
          | none => rw [e2] at e; cases e
          | some ds => rw [e2] at e; rw [dataAll_mono (dataOf_le l n) e2]; exact e
        | dK kvs =>
          simp only at e ⊢
          cases e2 : dataAll (dataOf n h) (kvs.map (·.2)) with
          | none => rw [e2] at e; cases e
          | some ds => rw [e2] at e; rw [dataAll_mono (dataOf_le l n) e2]; exact e
        | dT kvs => simp only at e; cases e
        | ins c vs => simp only at e; cases e
        | exo c vs => simp only at e; cases e
        | lk vs => simp only at e; cases e
    | _ => exact e
theorem dataOf_lst {h : SH} {n i : Nat} {xs : List SV} {ds : List PyData} (e : h[i]? = some (.lst xs)) (a : dataAll (dataOf n h) xs = some ds) : dataOf (n + 1) h (.ref i) = some (.list ds) := by
  unfold dataOf; simp only [e, a, Option.map_some]
theorem data_tup {h : SH} {n i : Nat} {xs : List SV} {ds : List PyData} (e : h[i]? = some (.tup xs)) (a : dataAll (dataOf n h) xs = some ds) : dataOf (n + 1) h (.ref i) = some (.tuple ds) := by
  unfold dataOf; simp only [e, a, Option.map_some]
theorem data_dct {h : SH} {n i : Nat} {kvs : List (Key × SV)} {ds : List PyData} (e : h[i]? = some (.dK kvs)) (a : dataAll (dataOf n h) (kvs.map (·.2)) = some ds) : dataOf (n + 1) h (.ref i) = some (.dict ((kvs.map fun p => keyD p.1).zip ds)) := by
  unfold dataOf; simp only [e, a, Option.map_some]
theorem data_two {h : SH} {n : Nat} {x y : SV} {dx dy : PyData} (ex : dataOf n h x = some dx) (ey : dataOf n h y = some dy) : dataAll (dataOf n h) [x, y] = some [dx, dy] := by
  simp only [dataAll, ex, ey]
theorem data_one {h : SH} {n : Nat} {x : SV} {dx : PyData} (ex : dataOf n h x = some dx) : dataAll (dataOf n h) [x] = some [dx] := by
  simp only [dataAll, ex]
/-- a text of at most n signs, each of which is one -/
def Sg (n : Nat) (x : Str) : Prop := x.cps.size ≤ n ∧ ∀ c ∈ x.cps, c < 0x110000
theorem Sg.app {a b : Nat} {x y : Str} (p : Sg a x) (q : Sg b y) : Sg (a + b) (x ++ y) := by
  refine ⟨?_, fun c hc => ?_⟩
  · show (x.cps ++ y.cps).size ≤ a + b
    rw [Array.size_append]
    have := p.1
    have := q.1
    omega
  · have hc' : c ∈ x.cps ++ y.cps := hc
    rcases Array.mem_append.mp hc' with h | h
    · exact p.2 c h
    · exact q.2 c h
theorem Sg.up {a b : Nat} {x : Str} (p : Sg a x) (h : a ≤ b) : Sg b x := ⟨Nat.le_trans p.1 h, p.2⟩
theorem Sg.lit {s : String} {n : Nat} (h : s.toList.length ≤ n) : Sg n (Str.ofString s) := by
  rw [Str.ofString_eq_toList]
  refine ⟨by simpa using h, fun c hc => ?_⟩
  obtain ⟨d, _, rfl⟩ : ∃ d, d ∈ s.toList ∧ Char.toNat d = c := by simpa using hc
  have := d.valid
  have h2 : d.toNat.isValidChar := this
  unfold Nat.isValidChar at h2
  omega
theorem Sg.num {i : Int} (h : i.natAbs < 10 ^ 13) : Sg 20 (Str.ofString (toString i)) := by
  refine Sg.lit ?_
  have k := PyProof.Rows.digits10_le (k := 13) (n := i.natAbs) (by omega) h
  cases i with
  | ofNat m =>
    show (Nat.repr m).toList.length ≤ 20
    have e : (Nat.repr m).toList = Nat.toDigits 10 m := by simp [Nat.repr]
    rw [e]
    have : (Nat.toDigits 10 m).length ≤ 13 := k
    omega
  | negSucc m =>
    show (("-" : String) ++ Nat.repr (m + 1)).toList.length ≤ 20
    have e : (("-" : String) ++ Nat.repr (m + 1)).toList = '-' :: Nat.toDigits 10 (m + 1) := by simp [Nat.repr]
    rw [e]
    have : (Nat.toDigits 10 (m + 1)).length ≤ 13 := k
    simp; omega
theorem Sg.from {b : Nat} : ∀ (ts : List Str) (k a : Nat) (acc : Str), Sg a acc → (∀ t ∈ ts, Sg b t) → Sg (a + ts.length * (b + 2)) (textFrom k acc ts)
  | [], k, a, acc, p, _ => by unfold textFrom; exact p.up (by omega)
  | t :: ts, k, a, acc, p, q => by
    unfold textFrom
    have s2 : Sg 2 (if k > 0 then ", " else "" : String) := by
      by_cases hk : k > 0
      · rw [if_pos hk]; exact Sg.lit (by decide)
      · rw [if_neg hk]; exact Sg.lit (by decide)
    refine (Sg.from ts (k + 1) _ _ ((p.app s2).app (q t List.mem_cons_self)) fun u hu => q u (List.mem_cons_of_mem _ hu)).up ?_
    simp only [List.length_cons, Nat.add_mul]
    omega
theorem Sg.list {b : Nat} {ts : List Str} (q : ∀ t ∈ ts, Sg b t) : Sg (2 + ts.length * (b + 2)) (listText ts) := by
  unfold listText
  exact ((Sg.from ts 0 1 _ (Sg.lit (by decide)) q).app (Sg.lit (n := 1) (by decide))).up (by omega)
theorem Sg.join {b : Nat} : ∀ {ts : List Str}, (∀ t ∈ ts, Sg b t) → Sg (ts.length * (b + 2)) (Str.join ", " ts)
  | [], _ => ⟨by show 0 ≤ _; omega, fun c hc => by exact absurd hc (by simp [Str.join, Str.empty])⟩
  | [x], q => (q x List.mem_cons_self).up (by simp)
  | x :: y :: r, q => by
    have ih := Sg.join (ts := y :: r) fun t ht => q t (List.mem_cons_of_mem _ ht)
    have e : Str.join ", " (x :: y :: r) = x ++ ", " ++ Str.join ", " (y :: r) := rfl
    rw [e]
    refine (((q x List.mem_cons_self).app (Sg.lit (n := 2) (by decide))).app ih).up ?_
    simp only [List.length_cons, Nat.add_mul]
    omega
theorem Sg.tup {b : Nat} {ts : List Str} (q : ∀ t ∈ ts, Sg b t) : Sg (3 + ts.length * (b + 2)) (tupleText ts) := by
  unfold tupleText
  have e : Sg 2 (if ts.length == 1 then ",)" else ")" : String) := by
    by_cases h : (ts.length == 1) = true
    · rw [if_pos h]; exact Sg.lit (by decide)
    · rw [if_neg h]; exact Sg.lit (by decide)
  exact (((Sg.lit (n := 1) (by decide)).app (Sg.join q)).app e).up (by omega)
/-- data that is shown by a text that is no longer than a text may be -/
structure Tx1 (d : PyData) : Prop where
  sh : d.showable = true
  dp : d.depth ≤ 60
  len : d.shown.length ≤ 16777216
  ok : PyData.strOk d.shown = true
theorem Tx1.of {n : Nat} {d : PyData} (h1 : d.showable = true) (h2 : d.depth ≤ 60) (h3 : Sg n d.shown) (hn : n ≤ 16777216) : Tx1 d :=
  ⟨h1, h2, Nat.le_trans h3.1 hn, by
    unfold PyData.strOk
    rw [Array.all_eq_true_iff_forall_mem]
    exact fun c hc => decide_eq_true (h3.2 c hc)⟩
theorem repr_d {h : SH} {a : SV} {d : PyData} {P : SV → SH → Prop} (e : dataOf 64 h a = some d) (t : Tx1 d) (p : P (.str d.shown) h) : ∃ v h3, un1 opRepr [a] h = some (v, h3) ∧ P v h3 := by
  refine ⟨_, _, ?_, p⟩
  show opRepr a h = _
  unfold opRepr
  rw [e]
  exact if_pos ⟨t.sh, by have := t.dp; omega, t.len⟩
theorem eqD_same {neg : Bool} {a b : SV} {h : SH} {d : PyData} {P : SV → SH → Prop} (ea : dataOf 64 h a = some d) (eb : dataOf 64 h b = some d) (sh : SeqAt.shaped d = true) (p : P (.bl (!neg)) h) : ∃ v h3, eqD neg a b h = some (v, h3) ∧ P v h3 := by
  refine ⟨_, _, ?_, p⟩
  unfold eqD
  rw [ea, eb]
  simp only [sh, Bool.and_self, if_true, SeqAt.eqv_refl d (SeqAt.canLay_of_shaped sh)]
  cases neg <;> rfl
theorem sh_pair {k : Int} {x : Str} (h : PyData.strOk x = true) : SeqAt.shaped (.list [.int k, .str x]) = true := by
  unfold SeqAt.shaped
  simp only [PyData.canLay0, PyData.canLayAll0, PyData.depth, PyData.depthAll, h]
  rfl
theorem is_ok {α : Type} {a : α} {h : SH} {P : α → SH → Prop} (p : P a h) : Is (.ok a h) P := p
end Fw
namespace Gn
open PySem PySem.Spec L2 Fw
theorem Lst.oks {h : SH} {L : Nat} {S : List Sx} (x : Lst h L S) : ∀ y ∈ S, y.Ok := fun y hy => by
  obtain ⟨⟨ts, e, hl, z⟩, f⟩ := x
  obtain ⟨i, hi, ey⟩ := List.getElem_of_mem hy
  obtain ⟨y', e1, _, ok⟩ := z i (ts[i]'(by omega)) (List.getElem?_eq_getElem _)
  rw [List.getElem?_eq_getElem hi, ey] at e1
  cases e1
  exact ok
/-- a suite that goes on, or ends in an error -/
def Ise (r : SR) (N : SS → SH → Prop) (E : Nat → List SV → SH → Prop) : Prop := match r with
  | .nx s h => N s h
  | .ex c xs _ h => E c xs h
  | _ => False
section
variable {N : SS → SH → Prop} {E : Nat → List SV → SH → Prop} {ss : SS} {h : SH}
theorem Ise.seq {m1 m2 : SM} (x : Ise (m1 ss h) (fun s h => Ise (m2 s h) N E) E) : Ise (mSeq m1 m2 ss h) N E := by
  unfold mSeq
  cases e : m1 ss h with
  | nx s h => rw [e] at x; exact x
  | ex c xs s h => rw [e] at x; exact x
  | rt v h => rw [e] at x; exact x.elim
  | bk s h => rw [e] at x; exact x.elim
  | ct s h => rw [e] at x; exact x.elim
  | stuck => rw [e] at x; exact x.elim
theorem Ise.ite {t : BM} {m1 m2 : SM} (x : Is (t ss h) fun b h1 => if b = true then Ise (m1 ss h1) N E else Ise (m2 ss h1) N E) : Ise (mIfS t m1 m2 ss h) N E := by
  unfold mIfS
  obtain ⟨b, h1, e, y⟩ := x.out
  rw [e]
  cases b with
  | true => exact y
  | false => exact y
theorem Ise.nil (x : N ss h) : Ise (mNil ss h) N E := x
theorem Ise.raise {c i : Nat} {v : SV} (e : ss[i]? = some (some v)) (x : E c [v] h) : Ise (mRaise c 1 (aCons (mVar i) aNil) ss h) N E := by
  unfold mRaise aCons mVar
  rw [e]
  exact x
theorem Ise.forM {g : GM} {wk : Wk} {body : SM} {I : Nat → SS → SH → Prop} {len : Nat}
    (hn : ∀ k s h, k < len → I k s h → ∃ x h1 s1, wk h k = some (some (x, h1)) ∧ g x s h1 = some s1 ∧ Ise (body s1 h1) (I (k + 1)) E) (he : ∀ s h, I len s h → wk h len = some none ∧ N s h) :
    ∀ (n i : Nat) (s : SS) (h : SH), i ≤ len → len - i < n → I i s h → Ise (Fw.forM g wk body n i s h) N E
  | 0, _, _, _, _, hl, _ => absurd hl (by omega)
  | n + 1, i, s, h, hi, hl, inv => by
    unfold Fw.forM
    by_cases e : i = len
    · subst e
      obtain ⟨e1, e2⟩ := he s h inv
      rw [e1]; exact e2
    · obtain ⟨x, h1, s1, e1, e2, e3⟩ := hn i s h (by omega) inv
      rw [e1]
      simp only [e2]
      cases e4 : body s1 h1 with
      | nx s2 h2 => rw [e4] at e3; exact Ise.forM hn he n (i + 1) s2 h2 (by omega) (by omega) e3
      | ex c xs s2 h2 => rw [e4] at e3; exact e3
      | ct s2 h2 => rw [e4] at e3; exact e3.elim
      | bk s2 h2 => rw [e4] at e3; exact e3.elim
      | rt v h2 => rw [e4] at e3; exact e3.elim
      | stuck => rw [e4] at e3; exact e3.elim
theorem Ise.for {m : IM} {g : GM} {body : SM} (x : Is (m ss h) fun wk h1 => ∃ (len : Nat) (I : Nat → SS → SH → Prop), len < many ∧ I 0 ss h1 ∧
      (∀ k s h, k < len → I k s h → ∃ x h1 s1, wk h k = some (some (x, h1)) ∧ g x s h1 = some s1 ∧ Ise (body s1 h1) (I (k + 1)) E) ∧ (∀ s h, I len s h → wk h len = some none ∧ N s h)) : Ise (mFor m g body ss h) N E := by
  unfold mFor
  obtain ⟨wk, h1, e, len, I, hl, i0, hn, he⟩ := x.out
  rw [e]
  exact Ise.forM hn he many 0 ss h1 (Nat.zero_le _) (by omega) i0
theorem Ise.fn {np n : Nat} {m : SM} {vs : List SV} {c : Nat} {xs : List SV} {h' : SH} (hl : vs.length = np) (x : Ise (m (vs.map some ++ List.replicate (n - vs.length) none) h) (fun _ _ => False) fun c' xs' h2 => c' = c ∧ xs' = xs ∧ h2 = h') : mFn np n m vs h = .ex c xs h' := by
  unfold mFn
  rw [if_pos hl]
  cases e : m (vs.map some ++ List.replicate (n - vs.length) none) h with
  | nx s h => rw [e] at x; exact x.elim
  | ex c xs s h => rw [e] at x; obtain ⟨rfl, rfl, rfl⟩ := x; rfl
  | rt v h => rw [e] at x; exact x.elim
  | bk s h => rw [e] at x; exact x.elim
  | ct s h => rw [e] at x; exact x.elim
  | stuck => rw [e] at x; exact x.elim
end
theorem isi_t {f : Tag → Option Bool} {a : SV} {h : SH} {t : Tag} {b : Bool} {P : SV → SH → Prop} (e : tagOf h a = some t) (ef : f t = some b) (p : P (.bl b) h) : ∃ v h', opIsi f a h = some (v, h') ∧ P v h' :=
  ⟨_, _, by unfold opIsi; simp only [e, ef], p⟩
theorem tag_lst {h : SH} {L : Nat} {xs : List SV} (e : h[L]? = some (.lst xs)) : tagOf h (.ref L) = some .lst := by unfold tagOf; simp only [e]
theorem tru_is {b : Bool} {h : SH} {P : Bool → SH → Prop} (p : P b h) : Is (opTru (.bl b) h) P := p
theorem f12_ok {S : List Sx} {h : SH} {L : Nat} {n : Int} (ls : Lst h L S) {P : SV → SH → Prop} (p : ∀ h', Le h h' → P (.bl (S.any fun y => heldL y n)) h') : Is (f12 [.ref L, .int n] h) P := by
  refine Is.fn rfl ?_
  unfold m12
  have oks := ls.oks
  have ls' := ls
  obtain ⟨⟨ts, e, hl, z⟩, few⟩ := ls
  refine Ist.seq (Ist.ite (Is.bnot (Is.bm (Is.o1 (Is.var (v := .ref L) rfl (isi_t (b := true) (tag_lst e) rfl ⟨true, rfl, ?_⟩))))))
  rw [if_neg (by decide)]
  refine Ist.nil (Ist.seq (Ist.for (Is.walkL (Is.var (v := .ref L) rfl ⟨L, _, rfl, e, ts.length, fun k s h' => h' = h ∧ s.length = 3 ∧ s[0]? = some (some (.ref L)) ∧ s[1]? = some (some (.int n)), by unfold many; omega, ⟨rfl, rfl, rfl, rfl⟩, ?_, ?_⟩))))
  · rintro k s _ hk ⟨rfl, q1, q2, q3⟩
    have ek : ts[k]? = some ts[k] := List.getElem?_eq_getElem hk
    obtain ⟨y, _, ey, ok⟩ := z k _ ek
    refine ⟨_, _, _, wkL_at e (by rw [List.getElem?_map, ek]; rfl), rfl, ?_⟩
    refine Ist.ite (Is.bnot (Is.tru (Is.call (Is.acons (Is.var (List.getElem?_set_self (by omega)) (Is.anil ?_))))))
    rw [f9_ok ey ok]
    refine is_ok (tru_is ?_)
    rw [if_neg (by decide)]
    exact Ist.nil ⟨rfl, by simp [q1], by rw [List.getElem?_set_ne (by decide)]; exact q2, by rw [List.getElem?_set_ne (by decide)]; exact q3⟩
  · rintro s _ ⟨rfl, q1, q2, q3⟩
    have w := wkL_end e
    rw [List.length_map] at w
    refine ⟨w, Ist.seq (Ist.ite (Is.bnot (Is.tru (Is.call (Is.acons (Is.var q3 (Is.anil ?_)))))))⟩
    rw [f7_int]
    refine is_ok (tru_is ?_)
    rw [if_neg (by decide)]
    refine Ist.nil (Ist.ret (Is.meth (Is.make (Is.acons (Is.var q2 (Is.anil ((init_is ls').mono fun v h1 ⟨ev, κ, si, ru, ra, x⟩ => ⟨ev, ?_⟩)))))))
    refine ⟨by unfold insOf; simp only [x.ho], Is.acons (Is.var q3 (Is.anil ?_))⟩
    exact holds_is x oks (by omega) p
/-- no list -/
theorem f12_E1 {h : SH} {v y : SV} {t : Tag} (e : tagOf h v = some t) (el : is_list t = some false) : f12 [v, y] h = .ex 2 [v] h := by
  refine Ise.fn rfl ?_
  unfold m12
  refine Ise.seq (Ise.ite (Is.bnot (Is.bm (Is.o1 (Is.var (v := v) rfl (isi_t (b := false) e el ⟨false, rfl, ?_⟩))))))
  rw [if_pos (by decide)]
  exact Ise.raise rfl ⟨rfl, rfl, rfl⟩
/-- an item that is no stretch -/
theorem f12_E2 {h : SH} {L : Nat} {xs : List SV} {y z : SV} {k : Nat} (e : h[L]? = some (.lst xs)) (hl : xs.length ≤ 1000) (ek : xs[k]? = some z) (good : ∀ i x, i < k → xs[i]? = some x → f9 [x] h = .ok (.bl true) h) (bad : f9 [z] h = .ok (.bl false) h) : f12 [.ref L, y] h = .ex 3 [z] h := by
  refine Ise.fn rfl ?_
  unfold m12
  refine Ise.seq (Ise.ite (Is.bnot (Is.bm (Is.o1 (Is.var (v := .ref L) rfl (isi_t (b := true) (tag_lst e) rfl ⟨true, rfl, ?_⟩))))))
  rw [if_neg (by decide)]
  have hk := (List.getElem?_eq_some_iff.mp ek).1
  refine Ise.nil (Ise.seq (Ise.for (Is.walkL (Is.var (v := .ref L) rfl ⟨L, xs, rfl, e, xs.length, fun j s h' => h' = h ∧ s.length = 3 ∧ j ≤ k, by unfold many; omega, ⟨rfl, rfl, by omega⟩, ?_, ?_⟩))))
  · rintro j s _ hj ⟨rfl, q1, q2⟩
    have ej : xs[j]? = some xs[j] := List.getElem?_eq_getElem hj
    refine ⟨_, _, _, wkL_at e ej, rfl, ?_⟩
    refine Ise.ite (Is.bnot (Is.tru (Is.call (Is.acons (Is.var (List.getElem?_set_self (by omega)) (Is.anil ?_))))))
    by_cases hjk : j < k
    · rw [good j _ hjk ej]
      refine is_ok (tru_is ?_)
      rw [if_neg (by decide)]
      exact Ise.nil ⟨rfl, by simp [q1], by omega⟩
    · obtain rfl : j = k := by omega
      rw [ej] at ek
      cases ek
      rw [bad]
      refine is_ok (tru_is ?_)
      rw [if_pos (by decide)]
      exact Ise.raise (List.getElem?_set_self (by omega)) ⟨rfl, rfl, rfl⟩
  · rintro s _ ⟨rfl, q1, q2⟩
    omega
/-- no whole number -/
theorem f12_E3 {S : List Sx} {h : SH} {L : Nat} {y : SV} (ls : Lst h L S) (bad : f7 [y] h = .ok (.bl false) h) : f12 [.ref L, y] h = .ex 1 [y] h := by
  refine Ise.fn rfl ?_
  unfold m12
  obtain ⟨⟨ts, e, hl, z⟩, few⟩ := ls
  refine Ise.seq (Ise.ite (Is.bnot (Is.bm (Is.o1 (Is.var (v := .ref L) rfl (isi_t (b := true) (tag_lst e) rfl ⟨true, rfl, ?_⟩))))))
  rw [if_neg (by decide)]
  refine Ise.nil (Ise.seq (Ise.for (Is.walkL (Is.var (v := .ref L) rfl ⟨L, _, rfl, e, ts.length, fun k s h' => h' = h ∧ s.length = 3 ∧ s[1]? = some (some y), by unfold many; omega, ⟨rfl, rfl, rfl⟩, ?_, ?_⟩))))
  · rintro k s _ hk ⟨rfl, q1, q3⟩
    have ek : ts[k]? = some ts[k] := List.getElem?_eq_getElem hk
    obtain ⟨y, _, ey, ok⟩ := z k _ ek
    refine ⟨_, _, _, wkL_at e (by rw [List.getElem?_map, ek]; rfl), rfl, ?_⟩
    refine Ise.ite (Is.bnot (Is.tru (Is.call (Is.acons (Is.var (List.getElem?_set_self (by omega)) (Is.anil ?_))))))
    rw [f9_ok ey ok]
    refine is_ok (tru_is ?_)
    rw [if_neg (by decide)]
    exact Ise.nil ⟨rfl, by simp [q1], by rw [List.getElem?_set_ne (by decide)]; exact q3⟩
  · rintro s _ ⟨rfl, q1, q3⟩
    have w := wkL_end e
    rw [List.length_map] at w
    refine ⟨w, Ise.seq (Ise.ite (Is.bnot (Is.tru (Is.call (Is.acons (Is.var q3 (Is.anil ?_)))))))⟩
    rw [bad]
    refine is_ok (tru_is ?_)
    rw [if_pos (by decide)]
    exact Ise.raise q3 ⟨rfl, rfl, rfl⟩
end Gn
namespace Gn
open PySem PySem.Spec L2 Fw
theorem Ist.tryC {N B C : SS → SH → Prop} {R : SV → SH → Prop} {ss ss1 : SS} {h h1 : SH} {i c : Nat} {xs : List SV} {sub : Nat → Option Bool} {mb ms : SM} (e : mb ss h = .ex c xs ss1 h1) (es : sub c = some true)
    (x : Ist (ms (ss1.set i (some (.ref h1.length))) (h1 ++ [.exo c xs])) (fun s h => N (s.set i none) h) R (fun s h => B (s.set i none) h) (fun s h => C (s.set i none) h)) : Ist (mTry i sub mb ms ss h) N R B C := by
  unfold mTry
  rw [e]
  simp only [es]
  cases er : ms (ss1.set i (some (.ref h1.length))) (h1 ++ [.exo c xs]) with
  | nx s h => rw [er] at x; exact x
  | rt v h => rw [er] at x; exact x
  | bk s h => rw [er] at x; exact x
  | ct s h => rw [er] at x; exact x
  | stuck => rw [er] at x; exact x.elim
  | ex c xs s h => rw [er] at x; exact x.elim
def idx : Nat → Int
  | 2 => 0
  | 3 => 1
  | _ => 2
theorem index_is {i : Nat} {h : SH} {b1 b2 b3 : Bool} {k : Int} {P : SV → SH → Prop} (e : h[i]? = some (.lst [.bl b1, .bl b2, .bl b3, .bl true])) (f : findS (.bl true) [.bl b1, .bl b2, .bl b3, .bl true] = some k.toNat) (hk : 0 ≤ k) (p : P (.int k) h) : ∃ v h3, opIndex (.ref i) [.bl true] h = some (v, h3) ∧ P v h3 := by
  refine ⟨.int k, h, ?_, p⟩
  unfold opIndex
  simp only [e, f]
  rw [if_pos (by rfl), Int.toNat_of_nonneg hk]
theorem caught_is {h : SH} {x y bv : SV} {c : Nat} {d : PyData} {P : SV → SH → Prop} (e : f12 [x, y] h = .ex c [bv] h) (hc : c = 1 ∨ c = 2 ∨ c = 3) (ed : dataOf 64 h bv = some d) (t : Tx1 d)
    (p : ∀ h' j, Le h h' → dataOf 64 h' (.ref j) = some (.list [.int (idx c), .str d.shown]) → P (.ref j) h') : Is (f21 [x, y] h) P := by
  refine Is.fn rfl ?_
  unfold m21
  refine Ist.seq (Ist.set (Is.c ?_))
  have ec : (mDrop (mCall f12 (aCons (mVar 0) (aCons (mVar 1) aNil)))) [some x, some y, some .non, none, none] h = .ex c [bv] [some x, some y, some .non, none, none] h := by
    show thenS (f12 [x, y] h) _ _ = _
    rw [e]; rfl
  have es : sub_WalkError c = some true := by rcases hc with rfl | rfl | rfl <;> rfl
  refine Ist.seq (Ist.tryC (ss1 := [some x, some y, some .non, none, none]) ec es (Ist.set (Is.var rfl ?_)))
  have le1 := Le.push h (.exo c [bv])
  have n1 := new_at h (.exo c [bv])
  generalize h ++ [SO.exo c [bv]] = h1 at le1 n1 ⊢
  have tg : tagOf h1 (.ref h.length) = some (.exo c) := by unfold tagOf; simp only [n1]
  have goal3 : ∀ (b1 b2 b3 : Bool), is_InvalidList (.exo c) = some b1 → is_InvalidItem (.exo c) = some b2 → is_InvalidNumber (.exo c) = some b3 → findS (.bl true) [.bl b1, .bl b2, .bl b3, .bl true] = some (idx c).toNat → 0 ≤ idx c → x_value[c]? = some (some 0) →
      Ist (mSeq (mSet 4 (mOA opLst (aCons (mO1 (opIsi is_InvalidList) (mVar 2)) (aCons (mO1 (opIsi is_InvalidItem) (mVar 2)) (aCons (mO1 (opIsi is_InvalidNumber) (mVar 2)) (aCons (mC (.bl true)) aNil)))))) (mRet (mOA opLst (aCons (mBm opIndex (mVar 4) (aCons (mC (.bl true)) aNil)) (aCons (mIf (mB (mO2 opIsN (mVar 2) (mC .non))) (mC .non) (mOA (un1 opRepr) (aCons (mO1 (opExf x_value) (mVar 2)) aNil))) aNil)))) [some x, some y, some (.ref h.length), none, none] h1) (fun _ h => P .non h) P (fun _ _ => False) (fun _ _ => False) := fun b1 b2 b3 q1 q2 q3 qf qk qx => by
    refine Ist.seq (Ist.set (Is.oa (Is.acons (Is.o1 (Is.var (v := .ref h.length) rfl (isi_t tg q1 (Is.acons (Is.o1 (Is.var (v := .ref h.length) rfl (isi_t tg q2 (Is.acons (Is.o1 (Is.var (v := .ref h.length) rfl (isi_t tg q3 (Is.acons (Is.c (Is.anil (lst_is (small_big (by simp)) ?_))))))))))))))))))
    have le2 := Le.push h1 (.lst [.bl b1, .bl b2, .bl b3, .bl true])
    have n2 := new_at h1 (.lst [.bl b1, .bl b2, .bl b3, .bl true])
    generalize h1 ++ [SO.lst [.bl b1, .bl b2, .bl b3, .bl true]] = h2 at le2 n2 ⊢
    refine Ist.ret (Is.oa (Is.acons (Is.bmL (Is.var (v := .ref h1.length) rfl ⟨lstB n2, Is.acons (Is.c (Is.anil (index_is n2 qf qk ?_)))⟩))))
    refine Is.acons (Is.ifx (Is.bm (Is.o2 (Is.var (v := .ref h.length) rfl (Is.c ⟨.bl false, h2, rfl, false, rfl, ?_⟩)))))
    rw [if_neg Bool.false_ne_true]
    refine Is.oa (Is.acons (Is.o1 (Is.var (v := .ref h.length) rfl ⟨bv, h2, by unfold opExf; simp only [le2 _ _ n1, qx]; rfl, Is.anil (repr_d (dataOf_le (le1.trans le2) 64 _ _ ed) t (Is.anil (lst_is (small_big (by simp)) ?_)))⟩)))
    exact p _ _ ((le1.trans le2).trans (Le.push _ _)) (dataOf_lst (new_at _ _) rfl)
  rcases hc with rfl | rfl | rfl
  · exact goal3 false false true rfl rfl rfl rfl (by decide) rfl
  · exact goal3 true false false rfl rfl rfl rfl (by decide) rfl
  · exact goal3 false true false rfl rfl rfl rfl (by decide) rfl
/-- caught, as it should be -/
def askM (a : AM) (k : Int) (r : EM) : SM := mIfS (mB (mO2 (eqD true) (mCall f21 a) (mOA opLst (aCons (mC (.int k)) (aCons (mOA (un1 opRepr) (aCons r aNil)) aNil))))) (mRet (mC (.bl false))) mNil
theorem ask_is {N B C : SS → SH → Prop} {R : SV → SH → Prop} {ss : SS} {h : SH} {a : AM} {k : Int} {i : Nat} {bv : SV} {d : PyData} (eb : ss[i]? = some (some bv)) (t : Tx1 d)
    (ha : Is (a ss h) fun vs h1 => ∃ x y c, vs = [x, y] ∧ Le h h1 ∧ f12 [x, y] h1 = .ex c [bv] h1 ∧ (c = 1 ∨ c = 2 ∨ c = 3) ∧ idx c = k ∧ dataOf 64 h1 bv = some d) (n : ∀ h', Le h h' → N ss h') : Ist (askM a k (mVar i) ss h) N R B C := by
  unfold askM
  refine Ist.ite (Is.bm (Is.o2 (Is.call (ha.mono fun vs h1 ⟨x, y, c, ev, le, e, hc, ek, ed⟩ => ?_))))
  subst ev; subst ek
  refine caught_is e hc ed t fun h2 j le2 e2 => ?_
  refine Is.oa (Is.acons (Is.c (Is.acons (Is.oa (Is.acons (Is.var eb (Is.anil (repr_d (dataOf_le le2 64 _ _ ed) t (Is.anil (lst_is (small_big (by simp)) ?_))))))))))
  refine eqD_same (dataOf_le (Le.push _ _) 64 _ _ e2) (dataOf_lst (new_at _ _) rfl) (sh_pair t.ok) ⟨_, rfl, ?_⟩
  rw [if_neg (by decide)]
  exact Ist.nil (n _ ((le.trans le2).trans (Le.push _ _)))
end Gn
namespace Gn
open PySem PySem.Spec L2 Fw
/-- displays whose items all have a property that stays -/
def Sta (Q : SH → SV → Prop) : Prop := ∀ h h' v, Le h h' → Q h v → Q h' v
def IsD (Q : SH → SV → Prop) (a : AM) (ss : SS) (h : SH) (n : Nat) : Prop := Is (a ss h) fun vs h' => Le h h' ∧ vs.length = n ∧ ∀ v ∈ vs, Q h' v
section
variable {Q : SH → SV → Prop} {ss : SS} {h : SH}
theorem IsD.nil : IsD Q aNil ss h 0 := ⟨Le.refl h, rfl, fun _ z => nomatch z⟩
theorem IsD.cons {m : EM} {r : AM} {n : Nat} (st : Sta Q) (x : Is (m ss h) fun v h1 => Le h h1 ∧ Q h1 v) (y : ∀ h1, Le h h1 → IsD Q r ss h1 n) : IsD Q (aCons m r) ss h (n + 1) := by
  refine Is.acons (x.mono fun v h1 ⟨l, q⟩ => (y h1 l).mono fun vs h2 ⟨l2, e, k⟩ => ⟨l.trans l2, by simp [e], fun w hw => ?_⟩)
  rcases List.mem_cons.mp hw with rfl | hw
  · exact st _ _ _ l2 q
  · exact k w hw
theorem IsD.c {v : SV} {r : AM} {n : Nat} (st : Sta Q) (q : Q h v) (y : ∀ h1, Le h h1 → IsD Q r ss h1 n) : IsD Q (aCons (mC v) r) ss h (n + 1) := IsD.cons st ⟨Le.refl h, q⟩ y
/-- the list that a display makes -/
theorem IsD.lst {a : AM} {n : Nat} {P : SV → SH → Prop} (st : Sta Q) (x : IsD Q a ss h n) (hn : n ≤ 1000) (p : ∀ h' j vs, Le h h' → h'[j]? = some (.lst vs) → vs.length = n → (∀ v ∈ vs, Q h' v) → P (.ref j) h') : Is (mOA opLst a ss h) P :=
  Is.oa (x.mono fun vs h1 ⟨l, e, k⟩ => lst_is (small_big (by omega)) (p _ _ vs (l.trans (Le.push _ _)) (new_at _ _) e fun v hv => st _ _ _ (Le.push _ _) (k v hv)))
/-- a loop over such a list -/
theorem loopQ {N B C : SS → SH → Prop} {R : SV → SH → Prop} {m : EM} {body : SM} {i : Nat} {n : Nat} (I : SS → Prop) (st : Sta Q) (hn : n ≤ 1000) (i0 : I ss) (x : Is (m ss h) fun v h1 => ∃ j vs, v = .ref j ∧ Le h h1 ∧ h1[j]? = some (.lst vs) ∧ vs.length = n ∧ ∀ v ∈ vs, Q h1 v)
    (turn : ∀ s h' v, I s → Le h h' → Q h' v → Ist (body (s.set i (some v)) h') (fun s2 h2 => I s2 ∧ Le h' h2) R (fun _ _ => False) (fun _ _ => False)) (n' : ∀ s h', I s → Le h h' → N s h') : Ist (mFor (mWalk m) (gVar i) body ss h) N R B C := by
  refine Ist.for (Is.walkL (x.mono fun v h1 ⟨j, vs, ev, le, e, hl, q⟩ => ⟨j, vs, ev, e, vs.length, fun k s h' => I s ∧ Le h1 h', by unfold many; omega, ⟨i0, Le.refl _⟩, ?_, ?_⟩))
  · rintro k s h' hk ⟨is_, l⟩
    have ek : vs[k]? = some vs[k] := List.getElem?_eq_getElem hk
    refine ⟨_, _, _, wkL_at (l _ _ e) ek, rfl, (turn s h' _ is_ (le.trans l) (st _ _ _ l (q _ (List.getElem_mem hk)))).mono (fun s2 h2 ⟨a, b⟩ => ⟨a, l.trans b⟩) (fun _ _ z => z) (fun _ _ z => z.elim) fun _ _ z => z.elim⟩
  · rintro s h' ⟨is_, l⟩
    exact ⟨wkL_end (l _ _ e), n' s h' is_ (le.trans l)⟩
end
/-! ### what is no list, no stretch, no whole number -/
def NL (h : SH) (v : SV) : Prop := ∃ d t, Tx1 d ∧ is_list t = some false ∧ ∀ h', Le h h' → dataOf 64 h' v = some d ∧ tagOf h' v = some t
def NS (h : SH) (v : SV) : Prop := ∃ d, Tx1 d ∧ ∀ h', Le h h' → dataOf 64 h' v = some d ∧ f9 [v] h' = .ok (.bl false) h'
def NW (h : SH) (v : SV) : Prop := ∃ d, Tx1 d ∧ ∀ h', Le h h' → dataOf 64 h' v = some d ∧ f7 [v] h' = .ok (.bl false) h'
theorem staL : Sta NL := fun h h' v l ⟨d, t, a, b, c⟩ => ⟨d, t, a, b, fun h2 l2 => c h2 (l.trans l2)⟩
theorem staS : Sta NS := fun h h' v l ⟨d, a, c⟩ => ⟨d, a, fun h2 l2 => c h2 (l.trans l2)⟩
theorem staW : Sta NW := fun h h' v l ⟨d, a, c⟩ => ⟨d, a, fun h2 l2 => c h2 (l.trans l2)⟩
theorem tx_c {d : PyData} (h : (d.showable && decide (d.depth ≤ 60) && decide (d.shown.length ≤ 16777216) && PyData.strOk d.shown) = true) : Tx1 d := by
  simp only [Bool.and_eq_true, decide_eq_true_eq] at h
  exact ⟨h.1.1.1, h.1.1.2, h.1.2, h.2⟩
section
variable {h : SH} {t : Nat} {x y z : SV}
theorem tag_tup {xs : List SV} (e : h[t]? = some (.tup xs)) : tagOf h (.ref t) = some .tup := by unfold tagOf; simp only [e]
theorem tag_dct {xs : List (Key × SV)} (e : h[t]? = some (.dK xs)) : tagOf h (.ref t) = some .dct := by unfold tagOf; simp only [e]
theorem f9_no {v : SV} {g : Tag} (e : tagOf h v = some g) (n : is_tuple g = some false) : f9 [v] h = .ok (.bl false) h := by
  unfold f9 m9
  simp [mFn, mSeq, mIfS, thenS, bOr, bNot, mB, mO1, mVar, mC, Res.bind, lift, opIsi, e, n, mRet, endF]
theorem f9_len {xs : List SV} (e : h[t]? = some (.tup xs)) (n : (xs.length : Int) ≠ 3) : f9 [.ref t] h = .ok (.bl false) h := by
  unfold f9 m9
  have n2 : decide ((xs.length : Int) = 3) = false := decide_eq_false n
  simp [mFn, mSeq, mIfS, thenS, bOr, bNot, mB, mO1, mO2, mOA, un1, mVar, mC, aCons, aNil, Res.bind, lift, opIsi, tagOf, e, is_tuple, opLen, eqD, dataOf, sh_int, ev_int, n, mRet, endF]
theorem f9_x (e : h[t]? = some (.tup [x, y, z])) (n : f7 [x] h = .ok (.bl false) h) : f9 [.ref t] h = .ok (.bl false) h := by
  unfold f9 m9
  simp [mFn, mSeq, mIfS, thenS, bOr, bNot, mB, mO1, mO2, mOA, un1, mVar, mC, aCons, aNil, Res.bind, lift, opIsi, tagOf, e, is_tuple, opLen, eqD, dataOf, sh_int, ev_int, mAsg, gTupM, gsCons, gsNil, gVar, mRet, mTru, mCall, n, opTru, endF, mNil]
theorem f9_x0 {a : Int} (e : h[t]? = some (.tup [.int a, y, z])) (n : a < 0) : f9 [.ref t] h = .ok (.bl false) h := by
  unfold f9 m9
  simp [mFn, mSeq, mIfS, thenS, bOr, bNot, mB, mO1, mO2, mOA, un1, mVar, mC, aCons, aNil, Res.bind, lift, opIsi, tagOf, e, is_tuple, opLen, eqD, dataOf, sh_int, ev_int, mAsg, gTupM, gsCons, gsNil, gVar, mRet, mTru, mCall, f7_int, opLt, n, opTru, endF, mNil]
theorem f9_y {a : Int} (e : h[t]? = some (.tup [.int a, y, z])) (n : f7 [y] h = .ok (.bl false) h) : f9 [.ref t] h = .ok (.bl false) h := by
  unfold f9 m9
  by_cases n0 : a < 0
  all_goals simp [mFn, mSeq, mIfS, thenS, bOr, bNot, mB, mO1, mO2, mOA, un1, mVar, mC, aCons, aNil, Res.bind, lift, opIsi, tagOf, e, is_tuple, opLen, eqD, dataOf, sh_int, ev_int, mAsg, gTupM, gsCons, gsNil, gVar, mRet, mTru, mCall, f7_int, opLt, n, n0, opTru, endF, mNil]
theorem f9_y0 {a s : Int} (e : h[t]? = some (.tup [.int a, .int s, z])) (n : s < 1) : f9 [.ref t] h = .ok (.bl false) h := by
  unfold f9 m9
  by_cases n0 : a < 0
  all_goals simp [mFn, mSeq, mIfS, thenS, bOr, bNot, mB, mO1, mO2, mOA, un1, mVar, mC, aCons, aNil, Res.bind, lift, opIsi, tagOf, e, is_tuple, opLen, eqD, dataOf, sh_int, ev_int, mAsg, gTupM, gsCons, gsNil, gVar, mRet, mTru, mCall, f7_int, opLt, n, n0, opTru, endF, mNil]
theorem f9_z {a s : Int} (e : h[t]? = some (.tup [.int a, .int s, z])) (nz : z ≠ .non) (n : f7 [z] h = .ok (.bl false) h) : f9 [.ref t] h = .ok (.bl false) h := by
  unfold f9 m9
  by_cases n0 : a < 0 <;> by_cases n1 : s < 1
  all_goals simp [mFn, mSeq, mIfS, thenS, bOr, bNot, mB, mO1, mO2, mOA, un1, mVar, mC, aCons, aNil, Res.bind, lift, opIsi, tagOf, e, is_tuple, opLen, eqD, dataOf, sh_int, ev_int, mAsg, gTupM, gsCons, gsNil, gVar, mRet, mTru, mCall, f7_int, opLt, n, n0, n1, nz, opTru, endF, mNil, mOr, mAnd, opIsN]
theorem f9_z0 {a s m : Int} (e : h[t]? = some (.tup [.int a, .int s, .int m])) (n : m < 1) : f9 [.ref t] h = .ok (.bl false) h := by
  have n2 : ¬ 1 ≤ m := by omega
  unfold f9 m9
  by_cases n0 : a < 0 <;> by_cases n1 : s < 1
  all_goals simp [mFn, mSeq, mIfS, thenS, bOr, bNot, mB, mO1, mO2, mOA, un1, mVar, mC, aCons, aNil, Res.bind, lift, opIsi, tagOf, e, is_tuple, opLen, eqD, dataOf, sh_int, ev_int, mAsg, gTupM, gsCons, gsNil, gVar, mRet, mTru, mCall, f7_int, opLt, n, n0, n1, n2, opTru, endF, mNil, mOr, mAnd, opIsN, opGe]
end
end Gn
namespace Gn
open PySem PySem.Spec L2 Fw
theorem f7_lst {h : SH} {t : Nat} {xs : List SV} (e : h[t]? = some (.lst xs)) : f7 [.ref t] h = .ok (.bl false) h := by
  unfold f7 m7
  simp [mFn, mRet, mAnd, mO1, mVar, Res.bind, lift, opIsi, tagOf, e, is_int, thenS, endF]
theorem f7_tup {h : SH} {t : Nat} {xs : List SV} (e : h[t]? = some (.tup xs)) : f7 [.ref t] h = .ok (.bl false) h := by
  unfold f7 m7
  simp [mFn, mRet, mAnd, mO1, mVar, Res.bind, lift, opIsi, tagOf, e, is_int, thenS, endF]
theorem f7_dct {h : SH} {t : Nat} {xs : List (Key × SV)} (e : h[t]? = some (.dK xs)) : f7 [.ref t] h = .ok (.bl false) h := by
  unfold f7 m7
  simp [mFn, mRet, mAnd, mO1, mVar, Res.bind, lift, opIsi, tagOf, e, is_int, thenS, endF]
def dAM : AM := (aCons (mC .non) (aCons (mC (.int 3)) (aCons (mOA opTup aNil) (aCons (mOA opTup (aCons (mC (.int 0)) (aCons (mC (.int 1)) aNil))) (aCons (mOA opTup (aCons (mC (.int 0)) (aCons (mC (.int 1)) (aCons (mC (.int 1)) (aCons (mC (.int 1)) aNil))))) (aCons (mOA opLst (aCons (mC (.int 0)) (aCons (mC (.int 1)) (aCons (mC (.int 1)) aNil)))) (aCons (mOA opTup (aCons (mO1 opNeg (mC (.int 1))) (aCons (mC (.int 1)) (aCons (mC (.int 1)) aNil)))) (aCons (mOA opTup (aCons (mC (.int 0)) (aCons (mC (.int 0)) (aCons (mC (.int 1)) aNil)))) (aCons (mOA opTup (aCons (mC (.int 0)) (aCons (mO1 opNeg (mC (.int 1))) (aCons (mC (.int 1)) aNil)))) (aCons (mOA opTup (aCons (mC (.int 0)) (aCons (mC (.int 1)) (aCons (mC (.int 0)) aNil)))) (aCons (mOA opTup (aCons (mC (.int 0)) (aCons (mC (.int 1)) (aCons (mO1 opNeg (mC (.int 1))) aNil)))) (aCons mDict0 aNil))))))))))))
theorem dA_is {ss : SS} {h : SH} : IsD NS dAM ss h 12 := by
  unfold dAM
  refine IsD.c staS ⟨.none, tx_c (by decide +kernel), fun h' l => ⟨rfl, f9_no (g := .non) rfl rfl⟩⟩ fun h1 l1 => ?_
  refine IsD.c staS ⟨(.int 3), tx_c (by decide +kernel), fun h' l => ⟨rfl, f9_no (g := .int) rfl rfl⟩⟩ fun h1 l1 => ?_
  refine IsD.cons staS (Is.oa (Is.anil (tup_is (small_big (by simp)) (⟨(Le.push _ _), ⟨(.tuple []), tx_c (by decide +kernel), fun h' l => ⟨data_tup (l _ _ (new_at _ _)) rfl, f9_len (l _ _ (new_at _ _)) (by decide)⟩⟩⟩)))) fun h1 l1 => ?_
  refine IsD.cons staS (Is.oa (Is.acons (Is.c (Is.acons (Is.c (Is.anil (tup_is (small_big (by simp)) (⟨(Le.push _ _), ⟨(.tuple [(.int 0), (.int 1)]), tx_c (by decide +kernel), fun h' l => ⟨data_tup (l _ _ (new_at _ _)) rfl, f9_len (l _ _ (new_at _ _)) (by decide)⟩⟩⟩)))))))) fun h1 l1 => ?_
  refine IsD.cons staS (Is.oa (Is.acons (Is.c (Is.acons (Is.c (Is.acons (Is.c (Is.acons (Is.c (Is.anil (tup_is (small_big (by simp)) (⟨(Le.push _ _), ⟨(.tuple [(.int 0), (.int 1), (.int 1), (.int 1)]), tx_c (by decide +kernel), fun h' l => ⟨data_tup (l _ _ (new_at _ _)) rfl, f9_len (l _ _ (new_at _ _)) (by decide)⟩⟩⟩)))))))))))) fun h1 l1 => ?_
  refine IsD.cons staS (Is.oa (Is.acons (Is.c (Is.acons (Is.c (Is.acons (Is.c (Is.anil (lst_is (small_big (by simp)) (⟨(Le.push _ _), ⟨(.list [(.int 0), (.int 1), (.int 1)]), tx_c (by decide +kernel), fun h' l => ⟨dataOf_lst (l _ _ (new_at _ _)) rfl, f9_no (tag_lst (l _ _ (new_at _ _))) rfl⟩⟩⟩)))))))))) fun h1 l1 => ?_
  refine IsD.cons staS (Is.oa (Is.acons (Is.o1 (Is.c ⟨_, _, rfl, Is.acons (Is.c (Is.acons (Is.c (Is.anil (tup_is (small_big (by simp)) (⟨(Le.push _ _), ⟨(.tuple [(.int (-1)), (.int 1), (.int 1)]), tx_c (by decide +kernel), fun h' l => ⟨data_tup (l _ _ (new_at _ _)) rfl, f9_x0 (l _ _ (new_at _ _)) (by decide)⟩⟩⟩))))))⟩)))) fun h1 l1 => ?_
  refine IsD.cons staS (Is.oa (Is.acons (Is.c (Is.acons (Is.c (Is.acons (Is.c (Is.anil (tup_is (small_big (by simp)) (⟨(Le.push _ _), ⟨(.tuple [(.int 0), (.int 0), (.int 1)]), tx_c (by decide +kernel), fun h' l => ⟨data_tup (l _ _ (new_at _ _)) rfl, f9_y0 (l _ _ (new_at _ _)) (by decide)⟩⟩⟩)))))))))) fun h1 l1 => ?_
  refine IsD.cons staS (Is.oa (Is.acons (Is.c (Is.acons (Is.o1 (Is.c ⟨_, _, rfl, Is.acons (Is.c (Is.anil (tup_is (small_big (by simp)) (⟨(Le.push _ _), ⟨(.tuple [(.int 0), (.int (-1)), (.int 1)]), tx_c (by decide +kernel), fun h' l => ⟨data_tup (l _ _ (new_at _ _)) rfl, f9_y0 (l _ _ (new_at _ _)) (by decide)⟩⟩⟩))))⟩)))))) fun h1 l1 => ?_
  refine IsD.cons staS (Is.oa (Is.acons (Is.c (Is.acons (Is.c (Is.acons (Is.c (Is.anil (tup_is (small_big (by simp)) (⟨(Le.push _ _), ⟨(.tuple [(.int 0), (.int 1), (.int 0)]), tx_c (by decide +kernel), fun h' l => ⟨data_tup (l _ _ (new_at _ _)) rfl, f9_z0 (l _ _ (new_at _ _)) (by decide)⟩⟩⟩)))))))))) fun h1 l1 => ?_
  refine IsD.cons staS (Is.oa (Is.acons (Is.c (Is.acons (Is.c (Is.acons (Is.o1 (Is.c ⟨_, _, rfl, Is.anil (tup_is (small_big (by simp)) (⟨(Le.push _ _), ⟨(.tuple [(.int 0), (.int 1), (.int (-1))]), tx_c (by decide +kernel), fun h' l => ⟨data_tup (l _ _ (new_at _ _)) rfl, f9_z0 (l _ _ (new_at _ _)) (by decide)⟩⟩⟩))⟩)))))))) fun h1 l1 => ?_
  refine IsD.cons staS (Is.dict0 ⟨(Le.push _ _), ⟨(.dict []), tx_c (by decide +kernel), fun h' l => ⟨data_dct (l _ _ (new_at _ _)) rfl, f9_no (tag_dct (l _ _ (new_at _ _))) rfl⟩⟩⟩) fun h1 l1 => ?_
  exact IsD.nil
def dBM : AM := (aCons (mOA opTup (aCons (mC (.bl true)) (aCons (mC (.int 1)) (aCons (mC (.int 1)) aNil)))) (aCons (mOA opTup (aCons (mC (.int 0)) (aCons (mC (.bl true)) (aCons (mC (.int 1)) aNil)))) (aCons (mOA opTup (aCons (mC (.int 0)) (aCons (mC (.int 1)) (aCons (mC (.bl true)) aNil)))) (aCons (mOA opTup (aCons (mC (.int 0)) (aCons (mC (.int 1)) (aCons (mC (.bl false)) aNil)))) (aCons (mOA opTup (aCons (mC (.str "0")) (aCons (mC (.int 1)) (aCons (mC (.int 1)) aNil)))) (aCons (mOA opTup (aCons (mC (.int 0)) (aCons (mC .non) (aCons (mC (.int 1)) aNil)))) (aCons (mOA opTup (aCons (mC .non) (aCons (mC (.int 1)) (aCons (mC (.int 1)) aNil)))) aNil)))))))
theorem dB_is {ss : SS} {h : SH} : IsD NS dBM ss h 7 := by
  unfold dBM
  refine IsD.cons staS (Is.oa (Is.acons (Is.c (Is.acons (Is.c (Is.acons (Is.c (Is.anil (tup_is (small_big (by simp)) (⟨(Le.push _ _), ⟨(.tuple [(.bool true), (.int 1), (.int 1)]), tx_c (by decide +kernel), fun h' l => ⟨data_tup (l _ _ (new_at _ _)) rfl, f9_x (l _ _ (new_at _ _)) rfl⟩⟩⟩)))))))))) fun h1 l1 => ?_
  refine IsD.cons staS (Is.oa (Is.acons (Is.c (Is.acons (Is.c (Is.acons (Is.c (Is.anil (tup_is (small_big (by simp)) (⟨(Le.push _ _), ⟨(.tuple [(.int 0), (.bool true), (.int 1)]), tx_c (by decide +kernel), fun h' l => ⟨data_tup (l _ _ (new_at _ _)) rfl, f9_y (l _ _ (new_at _ _)) rfl⟩⟩⟩)))))))))) fun h1 l1 => ?_
  refine IsD.cons staS (Is.oa (Is.acons (Is.c (Is.acons (Is.c (Is.acons (Is.c (Is.anil (tup_is (small_big (by simp)) (⟨(Le.push _ _), ⟨(.tuple [(.int 0), (.int 1), (.bool true)]), tx_c (by decide +kernel), fun h' l => ⟨data_tup (l _ _ (new_at _ _)) rfl, f9_z (l _ _ (new_at _ _)) (fun z => nomatch z) rfl⟩⟩⟩)))))))))) fun h1 l1 => ?_
  refine IsD.cons staS (Is.oa (Is.acons (Is.c (Is.acons (Is.c (Is.acons (Is.c (Is.anil (tup_is (small_big (by simp)) (⟨(Le.push _ _), ⟨(.tuple [(.int 0), (.int 1), (.bool false)]), tx_c (by decide +kernel), fun h' l => ⟨data_tup (l _ _ (new_at _ _)) rfl, f9_z (l _ _ (new_at _ _)) (fun z => nomatch z) rfl⟩⟩⟩)))))))))) fun h1 l1 => ?_
  refine IsD.cons staS (Is.oa (Is.acons (Is.c (Is.acons (Is.c (Is.acons (Is.c (Is.anil (tup_is (small_big (by simp)) (⟨(Le.push _ _), ⟨(.tuple [(.str "0"), (.int 1), (.int 1)]), tx_c (by decide +kernel), fun h' l => ⟨data_tup (l _ _ (new_at _ _)) rfl, f9_x (l _ _ (new_at _ _)) rfl⟩⟩⟩)))))))))) fun h1 l1 => ?_
  refine IsD.cons staS (Is.oa (Is.acons (Is.c (Is.acons (Is.c (Is.acons (Is.c (Is.anil (tup_is (small_big (by simp)) (⟨(Le.push _ _), ⟨(.tuple [(.int 0), .none, (.int 1)]), tx_c (by decide +kernel), fun h' l => ⟨data_tup (l _ _ (new_at _ _)) rfl, f9_y (l _ _ (new_at _ _)) rfl⟩⟩⟩)))))))))) fun h1 l1 => ?_
  refine IsD.cons staS (Is.oa (Is.acons (Is.c (Is.acons (Is.c (Is.acons (Is.c (Is.anil (tup_is (small_big (by simp)) (⟨(Le.push _ _), ⟨(.tuple [.none, (.int 1), (.int 1)]), tx_c (by decide +kernel), fun h' l => ⟨data_tup (l _ _ (new_at _ _)) rfl, f9_x (l _ _ (new_at _ _)) rfl⟩⟩⟩)))))))))) fun h1 l1 => ?_
  exact IsD.nil
def dCM : AM := (aCons (mOA opTup (aCons (mC (.int 0)) (aCons (mC (.int 1)) (aCons (mC (.str "1")) aNil)))) (aCons (mOA opTup (aCons (mOA opLst (aCons (mC (.int 0)) aNil)) (aCons (mC (.int 1)) (aCons (mC (.int 1)) aNil)))) (aCons (mOA opTup (aCons (mC (.int 0)) (aCons (mC (.int 1)) (aCons (mOA opLst (aCons (mC (.int 1)) aNil)) aNil)))) (aCons (mC (.bl true)) aNil))))
theorem dC_is {ss : SS} {h : SH} : IsD NS dCM ss h 4 := by
  unfold dCM
  refine IsD.cons staS (Is.oa (Is.acons (Is.c (Is.acons (Is.c (Is.acons (Is.c (Is.anil (tup_is (small_big (by simp)) (⟨(Le.push _ _), ⟨(.tuple [(.int 0), (.int 1), (.str "1")]), tx_c (by decide +kernel), fun h' l => ⟨data_tup (l _ _ (new_at _ _)) rfl, f9_z (l _ _ (new_at _ _)) (fun z => nomatch z) rfl⟩⟩⟩)))))))))) fun h1 l1 => ?_
  refine IsD.cons staS (Is.oa (Is.acons (Is.oa (Is.acons (Is.c (Is.anil (lst_is (small_big (by simp)) (Is.acons (Is.c (Is.acons (Is.c (Is.anil (tup_is (small_big (by simp)) (⟨((Le.push _ _).trans (Le.push _ _)), ⟨(.tuple [(.list [(.int 0)]), (.int 1), (.int 1)]), tx_c (by decide +kernel), fun h' l => ⟨data_tup (l _ _ (new_at _ _)) (by
        have q := dataOf_lst (n := 62) (ds := [(.int 0)]) (l _ _ (Le.push _ _ _ _ (new_at _ _))) rfl
        simp only [dataAll, q]
        rfl), f9_x (l _ _ (new_at _ _)) (f7_lst (l _ _ (Le.push _ _ _ _ (new_at _ _))))⟩⟩⟩)))))))))))))) fun h1 l1 => ?_
  refine IsD.cons staS (Is.oa (Is.acons (Is.c (Is.acons (Is.c (Is.acons (Is.oa (Is.acons (Is.c (Is.anil (lst_is (small_big (by simp)) (Is.anil (tup_is (small_big (by simp)) (⟨((Le.push _ _).trans (Le.push _ _)), ⟨(.tuple [(.int 0), (.int 1), (.list [(.int 1)])]), tx_c (by decide +kernel), fun h' l => ⟨data_tup (l _ _ (new_at _ _)) (by
        have q := dataOf_lst (n := 62) (ds := [(.int 1)]) (l _ _ (Le.push _ _ _ _ (new_at _ _))) rfl
        simp only [dataAll, q]
        rfl), f9_z (l _ _ (new_at _ _)) (fun z => nomatch z) (f7_lst (l _ _ (Le.push _ _ _ _ (new_at _ _))))⟩⟩⟩)))))))))))))) fun h1 l1 => ?_
  refine IsD.c staS ⟨(.bool true), tx_c (by decide +kernel), fun h' l => ⟨rfl, f9_no (g := .bl) rfl rfl⟩⟩ fun h1 l1 => ?_
  exact IsD.nil
def dWM : AM := (aCons (mC .non) (aCons (mC (.bl true)) (aCons (mC (.bl false)) (aCons (mC (.str "1")) (aCons (mOA opLst (aCons (mC (.int 1)) aNil)) (aCons (mOA opTup (aCons (mC (.int 1)) aNil)) (aCons mDict0 aNil)))))))
theorem dW_is {ss : SS} {h : SH} : IsD NW dWM ss h 7 := by
  unfold dWM
  refine IsD.c staW ⟨.none, tx_c (by decide +kernel), fun h' l => ⟨rfl, rfl⟩⟩ fun h1 l1 => ?_
  refine IsD.c staW ⟨(.bool true), tx_c (by decide +kernel), fun h' l => ⟨rfl, rfl⟩⟩ fun h1 l1 => ?_
  refine IsD.c staW ⟨(.bool false), tx_c (by decide +kernel), fun h' l => ⟨rfl, rfl⟩⟩ fun h1 l1 => ?_
  refine IsD.c staW ⟨(.str "1"), tx_c (by decide +kernel), fun h' l => ⟨rfl, rfl⟩⟩ fun h1 l1 => ?_
  refine IsD.cons staW (Is.oa (Is.acons (Is.c (Is.anil (lst_is (small_big (by simp)) (⟨(Le.push _ _), ⟨(.list [(.int 1)]), tx_c (by decide +kernel), fun h' l => ⟨dataOf_lst (l _ _ (new_at _ _)) rfl, f7_lst (l _ _ (new_at _ _))⟩⟩⟩)))))) fun h1 l1 => ?_
  refine IsD.cons staW (Is.oa (Is.acons (Is.c (Is.anil (tup_is (small_big (by simp)) (⟨(Le.push _ _), ⟨(.tuple [(.int 1)]), tx_c (by decide +kernel), fun h' l => ⟨data_tup (l _ _ (new_at _ _)) rfl, f7_tup (l _ _ (new_at _ _))⟩⟩⟩)))))) fun h1 l1 => ?_
  refine IsD.cons staW (Is.dict0 ⟨(Le.push _ _), ⟨(.dict []), tx_c (by decide +kernel), fun h' l => ⟨data_dct (l _ _ (new_at _ _)) rfl, f7_dct (l _ _ (new_at _ _))⟩⟩⟩) fun h1 l1 => ?_
  exact IsD.nil
def dLM : AM := (aCons (mC (.str "stretch")) (aCons mDict0 (aCons (mC (.bl true)) (aCons (mOA opTup (aCons (mC (.int 0)) (aCons (mC (.int 1)) (aCons (mC (.int 1)) aNil)))) aNil))))
theorem dL_is {ss : SS} {h : SH} : IsD NL dLM ss h 4 := by
  unfold dLM
  refine IsD.c staL ⟨(.str "stretch"), .str, tx_c (by decide +kernel), rfl, fun h' l => ⟨rfl, rfl⟩⟩ fun h1 l1 => ?_
  refine IsD.cons staL (Is.dict0 ⟨(Le.push _ _), ⟨(.dict []), .dct, tx_c (by decide +kernel), rfl, fun h' l => ⟨data_dct (l _ _ (new_at _ _)) rfl, tag_dct (l _ _ (new_at _ _))⟩⟩⟩) fun h1 l1 => ?_
  refine IsD.c staL ⟨(.bool true), .bl, tx_c (by decide +kernel), rfl, fun h' l => ⟨rfl, rfl⟩⟩ fun h1 l1 => ?_
  refine IsD.cons staL (Is.oa (Is.acons (Is.c (Is.acons (Is.c (Is.acons (Is.c (Is.anil (tup_is (small_big (by simp)) (⟨(Le.push _ _), ⟨(.tuple [(.int 0), (.int 1), (.int 1)]), .tup, tx_c (by decide +kernel), rfl, fun h' l => ⟨data_tup (l _ _ (new_at _ _)) rfl, tag_tup (l _ _ (new_at _ _))⟩⟩⟩)))))))))) fun h1 l1 => ?_
  exact IsD.nil
end Gn
namespace Gn
open PySem PySem.Spec L2 Fw
theorem num40 {i : Int} (h : i.natAbs < 10 ^ 40) : Sg 50 (Str.ofString (toString i)) := by
  refine Sg.lit ?_
  have k := PyProof.Rows.digits10_le (k := 40) (n := i.natAbs) (by omega) h
  cases i with
  | ofNat m =>
    show (Nat.repr m).toList.length ≤ 50
    have e : (Nat.repr m).toList = Nat.toDigits 10 m := by simp [Nat.repr]
    rw [e]
    have : (Nat.toDigits 10 m).length ≤ 40 := k
    omega
  | negSucc m =>
    show (("-" : String) ++ Nat.repr (m + 1)).toList.length ≤ 50
    have e : (("-" : String) ++ Nat.repr (m + 1)).toList = '-' :: Nat.toDigits 10 (m + 1) := by simp [Nat.repr]
    rw [e]
    have : (Nat.toDigits 10 (m + 1)).length ≤ 40 := k
    simp; omega
theorem log40 {i : Int} (h : i.natAbs < 10 ^ 40) : i.natAbs.log2 < 1920 := by
  by_cases z : i.natAbs = 0
  · rw [z]; decide
  · exact Nat.lt_trans ((Nat.log2_lt (k := 200) z).mpr (Nat.lt_trans h (by decide))) (by decide)
def mD : Option Int → PyData
  | none => .none
  | some i => .int i
def Sx.d (x : Sx) : PyData := .tuple [.int x.a, .int x.s, mD x.m]
theorem mD_data {h : SH} {n : Nat} {m : Option Int} : dataOf (n + 1) h (mSV m) = some (mD m) := by
  cases m <;> rfl
theorem Sx.data {h : SH} {t n : Nat} {x : Sx} (e : h[t]? = some x.so) : dataOf (n + 2) h (.ref t) = some x.d := by
  refine data_tup e ?_
  have e1 : dataOf (n + 1) h (.int x.a) = some (.int x.a) := rfl
  have e2 : dataOf (n + 1) h (.int x.s) = some (.int x.s) := rfl
  simp only [dataAll, e1, e2, mD_data]
theorem Sx.small {x : Sx} (k : x.Ok) : x.a.natAbs < 10 ^ 40 ∧ x.s.natAbs < 10 ^ 40 ∧ ∀ i, x.m = some i → i.natAbs < 10 ^ 40 := by
  obtain ⟨a0, a1, s0, s1, m0⟩ := k
  refine ⟨by omega, by omega, fun i e => ?_⟩
  have := m0 i e
  omega
theorem Sx.sg {x : Sx} (k : x.Ok) : Sg 160 x.d.shown := by
  obtain ⟨h1, h2, h3⟩ := Sx.small k
  unfold Sx.d
  rw [PyData.shown]
  simp only [PyData.shownAll]
  have g3 : Sg 50 (mD x.m).shown := by
    cases em : x.m with
    | none => unfold mD; rw [PyData.shown]; exact Sg.lit (by decide)
    | some i => unfold mD; rw [PyData.shown]; exact num40 (h3 i em)
  refine (Sg.tup (b := 50) fun t ht => ?_).up (by simp)
  simp only [List.mem_cons, List.not_mem_nil, or_false] at ht
  rcases ht with rfl | rfl | rfl
  · rw [PyData.shown]; exact num40 h1
  · rw [PyData.shown]; exact num40 h2
  · exact g3
theorem Sx.show {x : Sx} (k : x.Ok) : x.d.showable = true ∧ x.d.depth ≤ 1 ∧ x.d.canLay0 = true := by
  obtain ⟨h1, h2, h3⟩ := Sx.small k
  unfold Sx.d
  cases em : x.m with
  | none => exact ⟨by simp only [PyData.showable, PyData.showableAll, mD, decide_eq_true (log40 h1), decide_eq_true (log40 h2), Bool.and_self], by simp only [PyData.depth, PyData.depthAll, mD]; omega, by simp only [PyData.canLay0, PyData.canLayAll0, mD, Bool.and_self]⟩
  | some i => exact ⟨by simp only [PyData.showable, PyData.showableAll, mD, decide_eq_true (log40 h1), decide_eq_true (log40 h2), decide_eq_true (log40 (h3 i em)), Bool.and_self], by simp only [PyData.depth, PyData.depthAll, mD]; omega, by simp only [PyData.canLay0, PyData.canLayAll0, mD, Bool.and_self]⟩
theorem all_S : ∀ {S : List Sx}, (∀ y ∈ S, y.Ok) → PyData.showableAll (S.map Sx.d) = true ∧ PyData.depthAll (S.map Sx.d) ≤ 1 ∧ PyData.canLayAll0 (S.map Sx.d) = true ∧ ∀ t ∈ PyData.shownAll (S.map Sx.d), Sg 160 t
  | [], _ => by simp [PyData.showableAll, PyData.depthAll, PyData.canLayAll0, PyData.shownAll]
  | x :: S, h => by
    obtain ⟨i1, i2, i3, i4⟩ := all_S (S := S) fun y hy => h y (List.mem_cons_of_mem _ hy)
    have k := h x List.mem_cons_self
    obtain ⟨j1, j2, j3⟩ := Sx.show k
    refine ⟨by simp only [List.map_cons, PyData.showableAll, i1, j1, Bool.and_self], by simp only [List.map_cons, PyData.depthAll]; omega, by simp only [List.map_cons, PyData.canLayAll0, i3, j3, Bool.and_self], fun t ht => ?_⟩
    simp only [List.map_cons, PyData.shownAll] at ht
    rcases List.mem_cons.mp ht with rfl | ht
    · exact Sx.sg k
    · exact i4 t ht
theorem shownAll_len : ∀ ds : List PyData, (PyData.shownAll ds).length = ds.length
  | [] => rfl
  | d :: ds => by simp only [PyData.shownAll, List.length_cons, shownAll_len ds]
theorem tx_tup {S : List Sx} (h : ∀ y ∈ S, y.Ok) (few : S.length ≤ 5) : Tx1 (.tuple (S.map Sx.d)) := by
  obtain ⟨i1, i2, i3, i4⟩ := all_S h
  refine Tx1.of (n := 3 + 5 * 162) (by rw [PyData.showable]; exact i1) (by rw [PyData.depth]; omega) ?_ (by omega)
  rw [PyData.shown]
  refine (Sg.tup i4).up ?_
  rw [shownAll_len, List.length_map]
  omega
theorem sh_list {S : List Sx} (h : ∀ y ∈ S, y.Ok) : SeqAt.shaped (.list (S.map Sx.d)) = true := by
  obtain ⟨i1, i2, i3, i4⟩ := all_S h
  unfold SeqAt.shaped
  rw [PyData.canLay0, PyData.depth, i3, Bool.true_and]
  exact decide_eq_true (by omega)
theorem Lst.all {h : SH} {L n : Nat} {S : List Sx} {ts : List Nat} (hl : ts.length = S.length) (z : ∀ (i t : Nat), ts[i]? = some t → ∃ x, S[i]? = some x ∧ h[t]? = some x.so ∧ x.Ok) : dataAll (dataOf (n + 2) h) (ts.map SV.ref) = some (S.map Sx.d) :=
  dataAll_of (by simp [hl]) fun k x ex => by
    rw [List.getElem?_map] at ex
    cases et : ts[k]? with
    | none => rw [et] at ex; cases ex
    | some t =>
      rw [et] at ex
      cases ex
      obtain ⟨y, e1, e2, _⟩ := z k t et
      exact ⟨y.d, by rw [List.getElem?_map, e1]; rfl, Sx.data e2⟩
theorem Lst.data {h : SH} {L n : Nat} {S : List Sx} (ls : Lst h L S) : dataOf (n + 3) h (.ref L) = some (.list (S.map Sx.d)) := by
  obtain ⟨⟨ts, e, hl, z⟩, few⟩ := ls
  exact dataOf_lst e (Lst.all (L := L) hl z)
end Gn
namespace Gn
open PySem PySem.Spec L2 Fw
theorem add_is {i j : Nat} {xs ys : List SV} {h : SH} {P : SV → SH → Prop} (e1 : h[i]? = some (.lst xs)) (e2 : h[j]? = some (.lst ys)) (k : xs.length + ys.length ≤ big) (p : P (.ref h.length) (h ++ [.lst (xs ++ ys)])) : ∃ v h3, opAdd (.ref i) (.ref j) h = some (v, h3) ∧ P v h3 :=
  ⟨_, _, by unfold opAdd; simp only [e1, e2, if_pos k]; rfl, p⟩
theorem list_is {i : Nat} {xs : List SV} {h : SH} {P : SV → SH → Prop} (e : h[i]? = some (.lst xs)) (p : P (.ref h.length) (h ++ [.lst xs])) : ∃ v h3, un1 opList [.ref i] h = some (v, h3) ∧ P v h3 :=
  ⟨_, _, by show opList (.ref i) h = _; unfold opList; simp only [e]; rfl, p⟩
theorem tuple_is {i : Nat} {xs : List SV} {h : SH} {P : SV → SH → Prop} (e : h[i]? = some (.lst xs)) (p : P (.ref h.length) (h ++ [.tup xs])) : ∃ v h3, un1 opTuple [.ref i] h = some (v, h3) ∧ P v h3 :=
  ⟨_, _, by show opTuple (.ref i) h = _; unfold opTuple; simp only [e]; rfl, p⟩
def Is3 (L : Nat) (s : SS) : Prop := s.length = 3 ∧ s[0]? = some (some (.ref L))
theorem Is3.set {L i : Nat} {s : SS} {v : SV} (x : Is3 L s) (hi : 0 < i) : Is3 L (s.set i (some v)) := ⟨by simp [x.1], by rw [List.getElem?_set_ne (by omega)]; exact x.2⟩
theorem one_at {L i : Nat} {s : SS} {v : SV} (x : Is3 L s) (hi : i < 3) : (s.set i (some v))[i]? = some (some v) := List.getElem?_set_self (by rw [x.1]; exact hi)
theorem f22_is {S : List Sx} {h : SH} {L : Nat} (ls : Lst h L S) {P : SV → SH → Prop} (p : ∀ h', Le h h' → P (.bl true) h') : Is (f22 [.ref L] h) P := by
  refine Is.fn rfl ?_
  unfold m22
  have oks := ls.oks
  have i0 : Is3 L ([SV.ref L].map some ++ List.replicate (3 - [SV.ref L].length) none) := ⟨rfl, rfl⟩
  generalize ([SV.ref L].map some ++ List.replicate (3 - [SV.ref L].length) none) = s0 at i0 ⊢
  refine Ist.seq (loopQ (n := 8) (Is3 L) staL (by omega) i0 ?_ ?_ ?_)
  · refine IsD.lst (Q := NL) (n := 8) staL ?_ (by omega) fun h' j vs l e hn q => ⟨j, vs, rfl, l, e, hn, q⟩
    refine IsD.c staL ⟨.none, .non, tx_c (by decide +kernel), rfl, fun h' l => ⟨rfl, rfl⟩⟩ fun h1 l1 => ?_
    refine IsD.c staL ⟨(.int 3), .int, tx_c (by decide +kernel), rfl, fun h' l => ⟨rfl, rfl⟩⟩ fun h2 l2 => ?_
    refine IsD.cons staL (Is.oa (Is.anil (tup_is (small_big (by simp)) (⟨(Le.push _ _), ⟨(.tuple []), .tup, tx_c (by decide +kernel), rfl, fun h' l => ⟨data_tup (l _ _ (new_at _ _)) rfl, tag_tup (l _ _ (new_at _ _))⟩⟩⟩)))) fun h3 l3 => ?_
    have ls3 := ls.le ((l1.trans l2).trans l3)
    obtain ⟨⟨ts, e, hl, z⟩, few⟩ := ls3
    refine IsD.cons staL (Is.oa (Is.acons (Is.var i0.2 (Is.anil (tuple_is e ⟨Le.push _ _, .tuple (S.map Sx.d), .tup, tx_tup oks few, rfl, fun h' l => ⟨data_tup (l _ _ (new_at _ _)) (Lst.all (L := L) hl fun i t et => ?_), tag_tup (l _ _ (new_at _ _))⟩⟩))))) fun h4 l4 => dL_is
    obtain ⟨x, a, b, c⟩ := z i t et
    exact ⟨x, a, l _ _ (Le.push _ _ _ _ b), c⟩
  · intro s h' v is_ le ⟨d, t, tx, il, f⟩
    show Ist (askM (aCons (mVar 1) (aCons (mC .non) aNil)) 0 (mVar 1) _ _) _ _ _ _
    have eb := one_at (v := v) is_ (show 1 < 3 by decide)
    exact ask_is eb tx (Is.acons (Is.var eb (Is.acons (Is.c (Is.anil ⟨v, .non, 2, rfl, Le.refl _, f12_E1 (f _ (Le.refl _)).2 il, .inr (.inl rfl), rfl, (f _ (Le.refl _)).1⟩))))) fun h'' l => ⟨is_.set (by decide), l⟩
  intro s1 h1 i1 le1
  refine Ist.seq (Ist.set (IsD.lst (n := 12) staS dA_is (by omega) fun h2 jA vA lA eA nA qA => ?_))
  have i2 := i1.set (i := 2) (v := .ref jA) (by decide)
  have v2 := one_at (v := .ref jA) i1 (show 2 < 3 by decide)
  generalize s1.set 2 (some (.ref jA)) = s2 at i2 v2 ⊢
  refine Ist.seq (Ist.set (Is.o2 (Is.var v2 (IsD.lst (n := 7) staS dB_is (by omega) fun h3 jB vB lB eB nB qB => ?_))))
  refine add_is (lB _ _ eA) eB (small_big (by omega)) ?_
  have lC := Le.push h3 (.lst (vA ++ vB))
  have eC := new_at h3 (.lst (vA ++ vB))
  have qC : ∀ v ∈ vA ++ vB, NS (h3 ++ [SO.lst (vA ++ vB)]) v := fun v hv => by
    rcases List.mem_append.mp hv with hv | hv
    · exact staS _ _ _ (lB.trans lC) (qA v hv)
    · exact staS _ _ _ lC (qB v hv)
  have leC : Le h (h3 ++ [SO.lst (vA ++ vB)]) := ((le1.trans lA).trans lB).trans lC
  have i3 := i2.set (i := 2) (v := .ref h3.length) (by decide)
  have v3 := one_at (v := .ref h3.length) i2 (show 2 < 3 by decide)
  generalize h3 ++ [SO.lst (vA ++ vB)] = h4 at lC eC qC leC ⊢
  generalize s2.set 2 (some (.ref h3.length)) = s3 at i3 v3 ⊢
  refine Ist.seq (loopQ (n := 23) (Is3 L) staS (by omega) i3 ?_ ?_ ?_)
  · refine Is.o2 (Is.var v3 (IsD.lst (n := 4) staS dC_is (by omega) fun h5 jD vD lD eD nD qD => ?_))
    refine add_is (lD _ _ eC) eD (small_big (by simp; omega)) ⟨_, _, rfl, lD.trans (Le.push _ _), new_at _ _, by simp; omega, fun v hv => ?_⟩
    rcases List.mem_append.mp hv with hv | hv
    · exact staS _ _ _ (lD.trans (Le.push _ _)) (qC v hv)
    · exact staS _ _ _ (Le.push _ _) (qD v hv)
  · intro s h' v is_ le ⟨d, tx, f⟩
    show Ist (askM (aCons (mO2 opAdd (mVar 0) (mOA opLst (aCons (mVar 1) (aCons (mC .non) aNil)))) (aCons (mC .non) aNil)) 1 (mVar 1) _ _) _ _ _ _
    have eb := one_at (v := v) is_ (show 1 < 3 by decide)
    have es := (is_.set (v := v) (show 0 < 1 by decide)).2
    have ls' := ls.le (leC.trans le)
    obtain ⟨⟨ts, e, hl, z⟩, few⟩ := ls'
    refine ask_is eb tx (Is.acons (Is.o2 (Is.var es (Is.oa (Is.acons (Is.var eb (Is.acons (Is.c (Is.anil (lst_is (small_big (by simp)) ?_))))))))) ) fun h'' l => ⟨is_.set (by decide), l⟩
    have la := Le.push h' (.lst [v, .non])
    refine add_is (la _ _ e) (new_at _ _) (small_big (by simp; omega)) ?_
    have lb := la.trans (Le.push (h' ++ [.lst [v, .non]]) (.lst (ts.map SV.ref ++ [v, .non])))
    have en := new_at (h' ++ [.lst [v, .non]]) (.lst (ts.map SV.ref ++ [v, .non]))
    refine Is.acons (Is.c (Is.anil ⟨_, _, 3, rfl, lb, f12_E2 (k := ts.length) en (by simp; omega) (by rw [List.getElem?_append_right (by simp)]; simp) (fun i x hi ex => ?_) (f _ lb).2, .inr (.inr rfl), rfl, (f _ lb).1⟩))
    rw [List.getElem?_append_left (by simpa using hi), List.getElem?_map, List.getElem?_eq_getElem hi] at ex
    cases ex
    obtain ⟨y, _, b, c⟩ := z i _ (List.getElem?_eq_getElem hi)
    exact f9_ok (lb _ _ b) c
  intro s5 h5 i5 le5
  refine Ist.seq (loopQ (n := 7) (Is3 L) staW (by omega) i5 ?_ ?_ ?_)
  · exact IsD.lst (n := 7) staW dW_is (by omega) fun h' j vs l e hn q => ⟨j, vs, rfl, l, e, hn, q⟩
  · intro s h' v is_ le ⟨d, tx, f⟩
    show Ist (askM (aCons (mOA (un1 opList) (aCons (mVar 0) aNil)) (aCons (mVar 1) aNil)) 2 (mVar 1) _ _) _ _ _ _
    have eb := one_at (v := v) is_ (show 1 < 3 by decide)
    have es := (is_.set (v := v) (show 0 < 1 by decide)).2
    have ls' := ls.le ((leC.trans le5).trans le)
    obtain ⟨⟨ts, e, hl, z⟩, few⟩ := ls'
    refine ask_is eb tx (Is.acons (Is.oa (Is.acons (Is.var es (Is.anil (list_is e ?_)))))) fun h'' l => ⟨is_.set (by decide), l⟩
    have la := Le.push h' (.lst (ts.map SV.ref))
    have l2 : Lst (h' ++ [.lst (ts.map SV.ref)]) h'.length S := ⟨⟨ts, new_at _ _, hl, fun i t et => let ⟨x, a, b, c⟩ := z i t et; ⟨x, a, la _ _ b, c⟩⟩, few⟩
    exact Is.acons (Is.var eb (Is.anil ⟨_, _, 1, rfl, la, f12_E3 l2 (f _ la).2, .inl rfl, rfl, (f _ la).1⟩))
  intro s6 h6 i6 le6
  exact Ist.ret (Is.c (p _ ((leC.trans le5).trans le6)))
end Gn
namespace Gn
open PySem PySem.Spec L2 Fw
theorem gs {α : Type} {s : List α} {i j : Nat} {x : α} {v : Option α} (h : s[j]? = v) (n : i ≠ j) : (s.set i x)[j]? = v := by rw [List.getElem?_set_ne n]; exact h
theorem gx {α : Type} {s : List α} {i n : Nat} {x : α} (h : s.length = n) (hi : i < n) : (s.set i x)[i]? = some x := List.getElem?_set_self (by rw [h]; exact hi)
theorem Kp.refl {g : Nat} {h : SH} : Kp g h h := fun _ _ _ e => e
theorem Kp.trans {g : Nat} {a b c : SH} (x : Kp g a b) (y : Kp g b c) : Kp g a c := fun j o n e => y j o n (x j o n e)
theorem Le.kp {g : Nat} {a b : SH} (x : Le a b) : Kp g a b := fun j o _ e => x j o e
/-- the generator's list -/
def GenOk (h : SH) (g : Nat) (B : Int) : Prop := ∃ a b c : Int, h[g]? = some (.lst [.int a, .int b, .int c]) ∧ 0 ≤ a ∧ 0 ≤ c ∧ c ≤ B
theorem GenOk.le {h h' : SH} {g : Nat} {B B' : Int} (x : GenOk h g B) (l : Le h h') (hB : B ≤ B') : GenOk h' g B' := by
  obtain ⟨a, b, c, e, h1, h2, h3⟩ := x
  exact ⟨a, b, c, l _ _ e, h1, h2, by omega⟩
theorem draw {h : SH} {g : Nat} {B n : Int} (G : GenOk h g B) (hB : B ≤ 1000000000000) (hn : 0 < n) (hl : n.natAbs.log2 < 9000) (hb : Builtin.Int.intBits n < 100000) {P : SV → SH → Prop}
    (p : ∀ r h', 0 ≤ r → r < n → Kp g h h' → h'.length = h.length → GenOk h' g (B + 4000) → P (.int r) h') : Is (f17 [.ref g, .int n] h) P := by
  obtain ⟨a, b, c, e, h1, h2, h3⟩ := G
  show Is (mFn 2 4 randM [.ref g, .int n] h) P
  refine rand_is e hn hl hb h1 h2 (by omega) fun r a' c' r0 r1 a0 c1 c2 => p r _ r0 r1 kp_set (by simp) ⟨a', b, c', set_at e, a0, by omega, by omega⟩
theorem Lst.kp {h h' : SH} {L g : Nat} {S : List Sx} {gs : List SV} (x : Lst h L S) (k : Kp g h h') (eg : h[g]? = some (.lst gs)) (ne : L ≠ g) : Lst h' L S := by
  obtain ⟨⟨ts, e, hl, z⟩, f⟩ := x
  refine ⟨⟨ts, k _ _ ne e, hl, fun i t e => ?_⟩, f⟩
  obtain ⟨x, a, b, c⟩ := z i t e
  exact ⟨x, a, k _ _ (fun w => by rw [w, eg] at b; cases b) b, c⟩
theorem GenOk.at {h : SH} {g : Nat} {B : Int} (x : GenOk h g B) : ∃ gs, h[g]? = some (.lst gs) := let ⟨a, b, c, e, _⟩ := x; ⟨_, e⟩
/-- a list of whole numbers -/
def Nums (h : SH) (j : Nat) (n : Nat) : Prop := ∃ is : List Int, h[j]? = some (.lst (is.map SV.int)) ∧ is.length ≤ n
theorem Nums.up {h h' : SH} {j n m : Nat} (x : Nums h j n) (k : ∀ o, h[j]? = some o → h'[j]? = some o) (hn : n ≤ m) : Nums h' j m := let ⟨is, e, hl⟩ := x; ⟨is, k _ e, by omega⟩
/-- five more numbers -/
def fiveM : SM := mSet 2 (mO2 opAdd (mVar 2) (mOA opLst (aCons (mO2 opSub (mVar 9) (mC (.int 1))) (aCons (mVar 9) (aCons (mO2 opAdd (mVar 9) (mC (.int 1))) (aCons (mO2 opAdd (mVar 9) (mVar 6)) (aCons (mO2 opSub (mVar 9) (mVar 6)) aNil)))))))
theorem five_is {N B C : SS → SH → Prop} {R : SV → SH → Prop} {ss : SS} {h : SH} {j n : Nat} {x s : Int} (s2 : ss[2]? = some (some (.ref j))) (s6 : ss[6]? = some (some (.int s))) (s9 : ss[9]? = some (some (.int x))) (nm : Nums h j n) (hn : n ≤ 900)
    (p : ∀ h' j', Le h h' → h.length ≤ j' → Nums h' j' (n + 5) → N (ss.set 2 (some (.ref j'))) h') : Ist (fiveM ss h) N R B C := by
  unfold fiveM
  obtain ⟨is, e, hl⟩ := nm
  refine Ist.set (Is.o2 (Is.var s2 (Is.oa (Is.acons (Is.o2 (Is.var s9 (Is.c ⟨_, _, rfl, ?_⟩)))))))
  refine Is.acons (Is.var s9 (Is.acons (Is.o2 (Is.var s9 (Is.c ⟨_, _, rfl, ?_⟩)))))
  refine Is.acons (Is.o2 (Is.var s9 (Is.var s6 ⟨_, _, rfl, ?_⟩)))
  refine Is.acons (Is.o2 (Is.var s9 (Is.var s6 ⟨_, _, rfl, ?_⟩)))
  refine Is.anil (lst_is (small_big (by simp)) ?_)
  refine add_is (Le.push _ _ _ _ e) (new_at _ _) (small_big (by simp; omega)) ?_
  refine p _ _ ((Le.push _ _).trans (Le.push _ _)) (by simp) ⟨is ++ [x - 1, x, x + 1, x + s, x - s], ?_, by simp; omega⟩
  rw [new_at, List.map_append]
  rfl
/-- what is kept while the numbers are gathered -/
structure Nst (g L : Nat) (S : List Sx) (h0 : SH) (B : Int) (n : Nat) (s : SS) (h : SH) : Prop where
  len : s.length = 11
  s0 : s[0]? = some (some (.ref g))
  s1 : s[1]? = some (some (.ref L))
  kp : Kp g h0 h
  le : h0.length ≤ h.length
  gen : GenOk h g B
  lst : Lst h L S
  nm : ∃ j, s[2]? = some (some (.ref j)) ∧ j ≠ g ∧ Nums h j n
def turnN : SM := mSeq (mSet 8 (mO2 opAdd (mVar 5) (mO2 opMul (mIf (mB (mO2 opIsN (mVar 7) (mC .non))) (mC (.int 3)) (mO2 opSub (mVar 7) (mC (.int 1)))) (mVar 6)))) (mFor (mWalk (mOA opLst (aCons (mVar 5) (aCons (mVar 8) (aCons (mO2 opAdd (mVar 5) (mO2 opMul (mVar 6) (mCall f17 (aCons (mVar 0) (aCons (mO2 opPow (mC (.int 10)) (mC (.int 20))) aNil))))) aNil))))) (gVar 9) fiveM)
theorem turnN_is {B' C' : SS → SH → Prop} {R : SV → SH → Prop} {N : SS → SH → Prop} {g L n : Nat} {S : List Sx} {h0 h : SH} {B : Int} {s : SS} (ng : L ≠ g) (x : Nst g L S h0 B n s h) (hB : B ≤ 1000000000) (hn : n ≤ 800) {y : Sx} (ok : y.Ok) (s5 : s[5]? = some (some (.int y.a))) (s6 : s[6]? = some (some (.int y.s))) (s7 : s[7]? = some (some (mSV y.m)))
    (p : ∀ s' h', Nst g L S h0 (B + 4000) (n + 15) s' h' → N s' h') : Ist (turnN s h) N R B' C' := by
  unfold turnN
  obtain ⟨len, q0, q1, kp, le, gen, lst, j, q2, nj, nm⟩ := x
  have k0 := ok.s0
  have k1 := ok.s1
  obtain ⟨gl, egl⟩ := gen.at
  have part2 : ∀ z : Int, Ist (mFor (mWalk (mOA opLst (aCons (mVar 5) (aCons (mVar 8) (aCons (mO2 opAdd (mVar 5) (mO2 opMul (mVar 6) (mCall f17 (aCons (mVar 0) (aCons (mO2 opPow (mC (.int 10)) (mC (.int 20))) aNil))))) aNil))))) (gVar 9) fiveM (s.set 8 (some (.int z))) h) N R B' C' := fun z => by
    have t0 := gs (i := 8) (x := some (SV.int z)) q0 (by decide)
    have t1 := gs (i := 8) (x := some (SV.int z)) q1 (by decide)
    have t2 := gs (i := 8) (x := some (SV.int z)) q2 (by decide)
    have t5 := gs (i := 8) (x := some (SV.int z)) s5 (by decide)
    have t6 := gs (i := 8) (x := some (SV.int z)) s6 (by decide)
    have t8 := gx (i := 8) (x := some (SV.int z)) len (by decide)
    have tl : (s.set 8 (some (SV.int z))).length = 11 := by simp [len]
    generalize s.set 8 (some (.int z)) = s' at t0 t1 t2 t5 t6 t8 tl ⊢
    refine Ist.for (Is.walkL (Is.oa (Is.acons (Is.var t5 (Is.acons (Is.var t8 (Is.acons (Is.o2 (Is.var t5 (Is.o2 (Is.var t6 (Is.call (Is.acons (Is.var t0 (Is.acons (Is.o2 (Is.c (Is.c (pow_is (by decide +kernel) (Is.anil ?_))))))))))))))))))))
    have e20 : (10 : Int) ^ (20 : Int).toNat = 100000000000000000000 := by decide +kernel
    rw [e20]
    refine draw gen (by omega) (by decide) (by decide +kernel) (by decide +kernel) fun r h1 r0 r1 kp1 hl1 g1 => ?_
    refine mul_is (okMul_l (by omega) (by omega)) ⟨_, _, rfl, Is.anil (lst_is (small_big (by simp)) ?_)⟩
    have le1 := Le.push h1 (.lst [.int y.a, .int z, .int (y.a + y.s * r)])
    have e1 := new_at h1 (.lst [.int y.a, .int z, .int (y.a + y.s * r)])
    have lst1 := (lst.kp kp1 egl ng).le le1
    have kp2 := (kp.trans kp1).trans (Le.kp (g := g) le1)
    have nm1 : Nums (h1 ++ [.lst [.int y.a, .int z, .int (y.a + y.s * r)]]) j n := nm.up (fun o eo => le1 _ _ (kp1 _ _ nj eo)) (Nat.le_refl n)
    have g2 := g1.le le1 (Int.le_refl _)
    have l2 : h0.length ≤ (h1 ++ [SO.lst [.int y.a, .int z, .int (y.a + y.s * r)]]).length := by simp; omega
    have hgl : g < h1.length := by obtain ⟨_, e⟩ := g1.at; exact lt_of e
    have hg1 : h1.length ≠ g := by omega
    generalize eh2 : h1 ++ [SO.lst [.int y.a, .int z, .int (y.a + y.s * r)]] = h2 at le1 e1 lst1 kp2 nm1 g2 l2 ⊢
    have hg2 : g < h2.length := by rw [← eh2]; simp; omega
    refine ⟨h1.length, _, rfl, e1, 3, fun k s' h' => s'.length = 11 ∧ s'[0]? = some (some (.ref g)) ∧ s'[1]? = some (some (.ref L)) ∧ s'[6]? = some (some (.int y.s)) ∧ Le h2 h' ∧ ∃ j, s'[2]? = some (some (.ref j)) ∧ j ≠ g ∧ Nums h' j (n + 5 * k), by unfold many; omega, ⟨tl, t0, t1, t6, Le.refl _, j, t2, nj, nm1⟩, ?_, ?_⟩
    · rintro k s3 h3 hk ⟨v1, v2, v3, v4, v5, j3, v6, v7, v8⟩
      have e3 := v5 _ _ e1
      obtain ⟨w, ew⟩ : ∃ w, [SV.int y.a, .int z, .int (y.a + y.s * r)][k]? = some (.int w) := by
        have q : k = 0 ∨ k = 1 ∨ k = 2 := by omega
        rcases q with rfl | rfl | rfl <;> exact ⟨_, rfl⟩
      refine ⟨_, _, _, wkL_at e3 ew, rfl, ?_⟩
      refine five_is (gs v6 (by decide)) (gs v4 (by decide)) (gx v1 (by decide)) v8 (by omega) fun h4 j4 l4 l5 l6 => ?_
      refine ⟨by simp [v1], gs (gs v2 (by decide)) (by decide), gs (gs v3 (by decide)) (by decide), gs (gs v4 (by decide)) (by decide), v5.trans l4, j4, gx (n := 11) (by simp [v1]) (by decide), ?_, by rw [show n + 5 * (k + 1) = n + 5 * k + 5 from by omega]; exact l6⟩
      have := v5.len
      omega
    · rintro s3 h3 ⟨v1, v2, v3, v4, v5, j3, v6, v7, v8⟩
      exact ⟨wkL_end (v5 _ _ e1), p _ _ ⟨v1, v2, v3, kp2.trans (Le.kp v5), by have := v5.len; omega, g2.le v5 (by omega), lst1.le v5, j3, v6, v7, v8⟩⟩
  refine Ist.seq (Ist.set (Is.o2 (Is.var s5 (Is.o2 (Is.ifx (Is.bm (Is.o2 (Is.var s7 (Is.c (isN_is ⟨_, rfl, ?_⟩))))))))))
  by_cases mn : y.m = none
  · rw [if_pos (decide_eq_true mn)]
    exact Is.c (Is.var s6 (mul_is (okMul_r (by omega) (by omega)) ⟨_, _, rfl, part2 _⟩))
  · rw [if_neg (by simpa using mn)]
    obtain ⟨i, hi⟩ : ∃ i, y.m = some i := Option.ne_none_iff_exists'.mp mn
    rw [hi] at s7
    exact Is.o2 (Is.var s7 (Is.c ⟨_, _, rfl, Is.var s6 (mul_is (okMul_r (by omega) (by omega)) ⟨_, _, rfl, part2 _⟩)⟩))
end Gn
namespace Gn
open PySem PySem.Spec L2 Fw
theorem comp_is {ss : SS} {h : SH} {S : List Sx} {L : Nat} {n : Int} (hl : ss.length = 11) (s1 : ss[1]? = some (some (.ref L))) (s4 : ss[4]? = some (some (.int n))) (ls : Lst h L S) {P : SV → SH → Prop}
    (p : ∀ h' D (S' : List Sx), Le h h' → dataOf 64 h' (.ref D) = some (.list (S'.map Sx.d)) → (∀ y ∈ S', y.Ok) → (S' = [] ↔ (S.any fun y => heldL y n) = false) → P (.ref D) h') :
    Is (mLc (mWalk (mVar 1)) (gVar 9) (mTru (mCall f19 (aCons (mVar 9) (aCons (mVar 4) aNil)))) (mVar 9) [9] ss h) P := by
  obtain ⟨⟨ts, e, hts, z⟩, few⟩ := ls
  refine Is.lc (Is.walkL (Is.var s1 ⟨L, _, rfl, e, ts.length, fun k acc h' => Le h h' ∧ ∃ tS : List (Nat × Sx), acc = tS.map (fun p => SV.ref p.1) ∧ tS.length ≤ k ∧ (∀ p ∈ tS, h[p.1]? = some p.2.so ∧ p.2.Ok) ∧ (tS = [] ↔ ((S.take k).any fun y => heldL y n) = false), by unfold many; omega, ⟨Le.push _ _, [], rfl, Nat.le_refl _, (fun _ z => nomatch z), by simp⟩, ?_, ?_⟩))
  · rintro k acc h' hk hD ⟨le, tS, rfl, q1, q2, q3⟩
    have ek : ts[k]? = some ts[k] := List.getElem?_eq_getElem hk
    obtain ⟨y, ey, et, ok⟩ := z k _ ek
    have tk : ((S.take (k + 1)).any fun y => heldL y n) = (((S.take k).any fun y => heldL y n) || heldL y n) := by
      have hkS : k < S.length := by omega
      have ey' : S[k] = y := by rw [List.getElem?_eq_getElem hkS] at ey; exact Option.some.inj ey
      rw [List.take_succ_eq_append_getElem hkS, List.any_append, ey']
      simp
    have w9 : ((wipeS ss [9]).set 9 (some (SV.ref ts[k])))[9]? = some (some (.ref ts[k])) := gx (n := 11) (by simp [wipeS, hl]) (by decide)
    have w4 : ((wipeS ss [9]).set 9 (some (SV.ref ts[k])))[4]? = some (some (.int n)) := gs (by show (ss.set 9 none)[4]? = _; exact gs s4 (by decide)) (by decide)
    refine ⟨_, _, _, wkL_at (le _ _ e) (by rw [List.getElem?_map, ek]; rfl), rfl, Is.tru (Is.call (Is.acons (Is.var w9 (Is.acons (Is.var w4 (Is.anil ?_))))))⟩
    rw [f19_ok (le _ _ et) ok]
    refine is_ok (tru_is ?_)
    by_cases c : heldL y n = true
    · rw [if_pos c]
      refine Is.var w9 ⟨hD, small_lt (by simp; omega), fun j o ej => ?_, tS ++ [(ts[k], y)], by simp, by simp; omega, fun p hp => ?_, ?_⟩
      · have hj : h.length ≠ j := by have := lt_of ej; omega
        rw [set_ne hj]; exact le _ _ ej
      · rcases List.mem_append.mp hp with hp | hp
        · exact q2 p hp
        · rw [List.mem_singleton.mp hp]; exact ⟨et, ok⟩
      · rw [tk, c]; simp
    · rw [if_neg c]
      refine ⟨hD, le, tS, rfl, by omega, q2, ?_⟩
      rw [tk, q3]
      simp [c]
  · rintro acc h' hD ⟨le, tS, rfl, q1, q2, q3⟩
    have w := wkL_end (le _ _ e)
    rw [List.length_map] at w
    refine ⟨w, p h' h.length (tS.map (·.2)) le ?_ (fun y hy => ?_) ?_⟩
    · refine dataOf_lst hD (dataAll_of (by simp) fun k x ex => ?_)
      rw [List.getElem?_map] at ex
      cases et : tS[k]? with
      | none => rw [et] at ex; cases ex
      | some pr =>
        rw [et] at ex
        cases ex
        obtain ⟨h1, _⟩ := q2 pr (List.mem_of_getElem? et)
        exact ⟨pr.2.d, by rw [List.getElem?_map, List.getElem?_map, et]; rfl, Sx.data (le _ _ h1)⟩
    · obtain ⟨pr, hp, rfl⟩ := List.mem_map.mp hy
      exact (q2 pr hp).2
    · rw [List.map_eq_nil_iff, q3, hts, List.take_length]
theorem eqvAll_nil : ∀ ds : List PyData, PyData.eqvAll ds [] = ds.isEmpty
  | [] => by rw [PyData.eqvAll]; rfl
  | d :: ds => by rw [PyData.eqvAll]; rfl
theorem tx_bool {b : Bool} : Tx1 (.bool b) := by cases b <;> exact tx_c (by decide +kernel)
theorem sh_str {x : Str} (h : PyData.strOk x = true) : SeqAt.shaped (.str x) = true := by
  unfold SeqAt.shaped
  rw [PyData.canLay0, PyData.depth, h]
  rfl
def numM : SM := mSeq (mSet 10 (mO2 (eqD true) (mLc (mWalk (mVar 1)) (gVar 9) (mTru (mCall f19 (aCons (mVar 9) (aCons (mVar 4) aNil)))) (mVar 9) [9]) (mOA opLst aNil))) (mIfS (bOr (mB (mO2 (eqD true) (mOA (un1 opRepr) (aCons (mCall f12 (aCons (mVar 3) (aCons (mVar 4) aNil))) aNil)) (mOA (un1 opRepr) (aCons (mVar 10) aNil)))) (mB (mO2 (eqD true) (mVar 3) (mVar 1)))) (mRet (mC (.bl false))) mNil)
theorem num_is {N B C : SS → SH → Prop} {R : SV → SH → Prop} {ss : SS} {h : SH} {S : List Sx} {L M : Nat} {n : Int} (hl : ss.length = 11) (s1 : ss[1]? = some (some (.ref L))) (s3 : ss[3]? = some (some (.ref M))) (s4 : ss[4]? = some (some (.int n))) (ls : Lst h L S) (lm : Lst h M S)
    (p : ∀ v h', Le h h' → N (ss.set 10 (some v)) h') : Ist (numM ss h) N R B C := by
  unfold numM
  have oks := ls.oks
  refine Ist.seq (Ist.set (Is.o2 (comp_is hl s1 s4 ls fun h1 D S' le1 ed ok' em => Is.oa (Is.anil (lst_is (small_big (by simp)) ?_)))))
  have le2 := Le.push h1 (.lst [])
  have ed2 := dataOf_le le2 64 _ _ ed
  have ee : dataOf 64 (h1 ++ [.lst []]) (.ref h1.length) = some (.list []) := dataOf_lst (new_at _ _) rfl
  generalize h1 ++ [SO.lst []] = h2 at le2 ed2 ee ⊢
  have fin : ∃ v h3, eqD true (.ref D) (.ref h1.length) h2 = some (v, h3) ∧ (v = .bl (S.any fun y => heldL y n) ∧ h3 = h2) := by
    refine ⟨_, _, ?_, rfl, rfl⟩
    unfold eqD
    rw [ed2, ee]
    have sh0 : SeqAt.shaped (.list []) = true := by decide +kernel
    simp only [sh_list ok', sh0, Bool.and_self, if_true]
    rw [PyData.eqv, eqvAll_nil]
    congr 2
    cases c : (S.any fun y => heldL y n) with
    | true =>
      cases S' with
      | nil => have := em.mp rfl; rw [c] at this; cases this
      | cons a b => rfl
    | false => rw [em.mpr c]; rfl
  obtain ⟨v, h3, e3, ev, eh⟩ := fin
  subst ev; subst eh
  refine ⟨_, _, e3, ?_⟩
  have t1 := gs (i := 10) (x := some (SV.bl (S.any fun y => heldL y n))) s1 (by decide)
  have t3 := gs (i := 10) (x := some (SV.bl (S.any fun y => heldL y n))) s3 (by decide)
  have t4 := gs (i := 10) (x := some (SV.bl (S.any fun y => heldL y n))) s4 (by decide)
  have t10 := gx (i := 10) (x := some (SV.bl (S.any fun y => heldL y n))) hl (by decide)
  have pp := p (.bl (S.any fun y => heldL y n))
  generalize ss.set 10 (some (SV.bl (S.any fun y => heldL y n))) = s' at t1 t3 t4 t10 pp ⊢
  have l13 := le1.trans le2
  refine Ist.ite (Is.bor (Is.bm (Is.o2 (Is.oa (Is.acons (Is.call (Is.acons (Is.var t3 (Is.acons (Is.var t4 (Is.anil (f12_ok (lm.le l13) fun h4 le4 => ?_))))))))))))
  refine Is.anil (repr_d (d := .bool (S.any fun y => heldL y n)) rfl tx_bool ?_)
  refine Is.oa (Is.acons (Is.var t10 (Is.anil (repr_d (d := .bool (S.any fun y => heldL y n)) rfl tx_bool ?_))))
  refine eqD_same (d := .str (PyData.shown (.bool (S.any fun y => heldL y n)))) rfl rfl (sh_str tx_bool.ok) ⟨_, rfl, ?_⟩
  rw [if_neg (by decide)]
  have l14 := l13.trans le4
  refine Is.bm (Is.o2 (Is.var t3 (Is.var t1 ?_)))
  refine eqD_same ((lm.le l14).data (n := 61)) ((ls.le l14).data (n := 61)) (sh_list oks) ⟨_, rfl, ?_⟩
  rw [if_neg (by decide)]
  exact Ist.nil (pp _ l14)
end Gn
namespace Gn
open PySem PySem.Spec L2 Fw
theorem f20_is {g L : Nat} {h : SH} {B : Int} {S : List Sx} (G : GenOk h g B) (hB : B ≤ 900000000) (ls : Lst h L S) (ng : L ≠ g) {P : SV → SH → Prop} (p : ∀ h', Kp g h h' → h.length ≤ h'.length → GenOk h' g (B + 20000) → P (.bl true) h') : Is (f20 [.ref g, .ref L] h) P := by
  refine Is.fn rfl ?_
  unfold m20
  have z0 : ([SV.ref g, SV.ref L].map some ++ List.replicate (11 - [SV.ref g, SV.ref L].length) none)[0]? = some (some (.ref g)) := rfl
  have z1 : ([SV.ref g, SV.ref L].map some ++ List.replicate (11 - [SV.ref g, SV.ref L].length) none)[1]? = some (some (.ref L)) := rfl
  have zl : ([SV.ref g, SV.ref L].map some ++ List.replicate (11 - [SV.ref g, SV.ref L].length) none).length = 11 := rfl
  generalize ([SV.ref g, SV.ref L].map some ++ List.replicate (11 - [SV.ref g, SV.ref L].length) none) = s0 at z0 z1 zl ⊢
  refine Ist.seq (Ist.set (Is.o2 (Is.o2 (Is.o1 (Is.c ⟨_, _, rfl, Is.c ⟨.ref h.length, h ++ [.lst (rngS (-3) 60)], ?_, ?_⟩⟩)))))
  · unfold opLR2
    exact if_pos (by decide)
  have n1 : Nums (h ++ [.lst (rngS (-3) 60)]) h.length 63 := ⟨(List.range 63).map fun i : Nat => (-3 : Int) + (i : Nat), by rw [new_at, List.map_map]; rfl, by simp⟩
  have l1 := Le.push h (.lst (rngS (-3) 60))
  have hl1 : (h ++ [SO.lst (rngS (-3) 60)]).length = h.length + 1 := by simp
  generalize h ++ [SO.lst (rngS (-3) 60)] = h1 at n1 l1 hl1 ⊢
  refine Is.oa (Is.acons (Is.o2 (Is.c (Is.c (pow_is (by decide +kernel) ?_)))))
  refine Is.acons (Is.o1 (Is.o2 (Is.c (Is.c (pow_is (by decide +kernel) ⟨_, _, rfl, Is.anil (lst_is (small_big (by simp)) ?_)⟩)))))
  obtain ⟨is, e1, hn1⟩ := n1
  refine add_is (Le.push _ _ _ _ e1) (new_at _ _) (small_big (by simp; omega)) ?_
  have l2 := (Le.push h1 (.lst [.int ((10 : Int) ^ (30 : Int).toNat), .int (-(10 : Int) ^ (30 : Int).toNat)])).trans (Le.push _ (.lst (is.map SV.int ++ [.int ((10 : Int) ^ (30 : Int).toNat), .int (-(10 : Int) ^ (30 : Int).toNat)])))
  have n2 : Nums ((h1 ++ [.lst [.int ((10 : Int) ^ (30 : Int).toNat), .int (-(10 : Int) ^ (30 : Int).toNat)]]) ++ [.lst (is.map SV.int ++ [.int ((10 : Int) ^ (30 : Int).toNat), .int (-(10 : Int) ^ (30 : Int).toNat)])]) (h1 ++ [SO.lst [.int ((10 : Int) ^ (30 : Int).toNat), .int (-(10 : Int) ^ (30 : Int).toNat)]]).length 65 := ⟨is ++ [(10 : Int) ^ (30 : Int).toNat, -(10 : Int) ^ (30 : Int).toNat], by rw [new_at, List.map_append]; rfl, by simp; omega⟩
  have hgl : g < h.length := by obtain ⟨_, e⟩ := G.at; exact lt_of e
  have hj2 : (h1 ++ [SO.lst [.int ((10 : Int) ^ (30 : Int).toNat), .int (-(10 : Int) ^ (30 : Int).toNat)]]).length ≠ g := by simp; omega
  generalize (h1 ++ [SO.lst [.int ((10 : Int) ^ (30 : Int).toNat), .int (-(10 : Int) ^ (30 : Int).toNat)]]).length = j2 at n2 hj2 ⊢
  generalize (h1 ++ [SO.lst [.int ((10 : Int) ^ (30 : Int).toNat), .int (-(10 : Int) ^ (30 : Int).toNat)]]) ++ [SO.lst (is.map SV.int ++ [.int ((10 : Int) ^ (30 : Int).toNat), .int (-(10 : Int) ^ (30 : Int).toNat)])] = h2 at l2 n2 ⊢
  have lh2 := l1.trans l2
  have x0 : Nst g L S h B 65 (s0.set 2 (some (.ref j2))) h2 := ⟨by simp [zl], gs z0 (by decide), gs z1 (by decide), Le.kp lh2, lh2.len, G.le lh2 (Int.le_refl _), ls.le lh2, j2, gx zl (by decide), hj2, n2⟩
  have few := ls.few
  have ls2 := ls.le lh2
  obtain ⟨⟨ts, e, hts, z⟩, _⟩ := ls2
  refine Ist.seq (Ist.for (Is.walkL (Is.var x0.s1 ⟨L, _, rfl, e, ts.length, fun k s h' => Nst g L S h (B + 4000 * k) (65 + 15 * k) s h', by unfold many; omega, by simpa using x0, ?_, ?_⟩)))
  · intro k s h' hk x
    obtain ⟨⟨ts', e', hts', z'⟩, _⟩ := x.lst
    have ek : ts'[k]? = some ts'[k] := List.getElem?_eq_getElem (by omega)
    obtain ⟨y, _, et, ok⟩ := z' k _ ek
    refine ⟨_, _, _, wkL_at e' (by rw [List.getElem?_map, ek]; rfl), g3_is et, ?_⟩
    have x' : Nst g L S h (B + 4000 * k) (65 + 15 * k) (((s.set 5 (some (.int y.a))).set 6 (some (.int y.s))).set 7 (some (mSV y.m))) h' := by
      obtain ⟨len, q0, q1, kp, le, gen, lst, j, q2, nj, nm⟩ := x
      exact ⟨by simp [len], gs (gs (gs q0 (by decide)) (by decide)) (by decide), gs (gs (gs q1 (by decide)) (by decide)) (by decide), kp, le, gen, lst, j, gs (gs (gs q2 (by decide)) (by decide)) (by decide), nj, nm⟩
    refine turnN_is ng x' (by omega) (by omega) ok (gs (gs (gx x.len (by decide)) (by decide)) (by decide)) (gs (gx (n := 11) (by simp [x.len]) (by decide)) (by decide)) (gx (n := 11) (by simp [x.len]) (by decide)) fun s' h'' w => ?_
    show Nst g L S h (B + 4000 * ((k + 1 : Nat) : Int)) (65 + 15 * (k + 1)) s' h''
    rw [show B + 4000 * ((k + 1 : Nat) : Int) = B + 4000 * k + 4000 from by omega, show 65 + 15 * (k + 1) = 65 + 15 * k + 15 from by omega]
    exact w
  intro s h3 x
  obtain ⟨len, q0, q1, kp, le, gen, lst, j, q2, nj, ns, en, hn⟩ := x
  obtain ⟨⟨ts', e', hts', z'⟩, _⟩ := lst
  refine ⟨by have w := wkL_end e'; rwa [List.length_map, hts', ← hts] at w, ?_⟩
  refine Ist.seq (Ist.set (Is.oa (Is.acons (Is.var q1 (Is.anil (list_is e' ?_))))))
  have l4 := Le.push h3 (.lst (ts'.map SV.ref))
  have lm : Lst (h3 ++ [.lst (ts'.map SV.ref)]) h3.length S := ⟨⟨ts', new_at _ _, hts', fun i t et => let ⟨x, a, b, c⟩ := z' i t et; ⟨x, a, l4 _ _ b, c⟩⟩, few⟩
  have lst4 : Lst (h3 ++ [.lst (ts'.map SV.ref)]) L S := ⟨⟨ts', l4 _ _ e', hts', fun i t et => let ⟨x, a, b, c⟩ := z' i t et; ⟨x, a, l4 _ _ b, c⟩⟩, few⟩
  have en4 := l4 _ _ en
  have g4 := gen.le l4 (Int.le_refl _)
  have kp4 := kp.trans (Le.kp (g := g) l4)
  have le4 : h.length ≤ (h3 ++ [SO.lst (ts'.map SV.ref)]).length := by simp; omega
  have t1 := gs (i := 3) (x := some (SV.ref h3.length)) q1 (by decide)
  have t2 := gs (i := 3) (x := some (SV.ref h3.length)) q2 (by decide)
  have t3 := gx (i := 3) (x := some (SV.ref h3.length)) len (by decide)
  have tl : (s.set 3 (some (SV.ref h3.length))).length = 11 := by simp [len]
  generalize s.set 3 (some (SV.ref h3.length)) = s4 at t1 t2 t3 tl ⊢
  generalize h3 ++ [SO.lst (ts'.map SV.ref)] = h4 at l4 lm lst4 en4 g4 kp4 le4 ⊢
  generalize h3.length = M at lm t3
  refine Ist.seq (Ist.for (Is.walkL (Is.var t2 ⟨j, _, rfl, en4, ns.length, fun k s h' => s.length = 11 ∧ s[1]? = some (some (.ref L)) ∧ s[3]? = some (some (.ref M)) ∧ Le h4 h', by unfold many; omega, ⟨tl, t1, t3, Le.refl _⟩, ?_, ?_⟩)))
  · rintro k s h' hk ⟨v1, v2, v3, v4⟩
    have ek : ns[k]? = some ns[k] := List.getElem?_eq_getElem hk
    refine ⟨_, _, _, wkL_at (v4 _ _ en4) (by rw [List.getElem?_map, ek]; rfl), rfl, ?_⟩
    refine num_is (by simp [v1]) (gs v2 (by decide)) (gs v3 (by decide)) (gx v1 (by decide)) (lst4.le v4) (lm.le v4) fun v h'' w => ⟨by simp [v1], gs (gs v2 (by decide)) (by decide), gs (gs v3 (by decide)) (by decide), v4.trans w⟩
  · rintro s h' ⟨v1, v2, v3, v4⟩
    have w := wkL_end (v4 _ _ en4)
    rw [List.length_map] at w
    exact ⟨w, Ist.ret (Is.c (p _ (kp4.trans (Le.kp v4)) (Nat.le_trans le4 v4.len) (g4.le v4 (by omega))))⟩
theorem atI_mem {xs : List SV} {r : Int} (h0 : 0 ≤ r) (h1 : r < xs.length) : ∃ x, L2.atI xs r = some x ∧ x ∈ xs := by
  have hr : r.toNat < xs.length := by omega
  refine ⟨xs[r.toNat], ?_, List.getElem_mem hr⟩
  unfold L2.atI L2.ixN
  rw [if_pos (by omega), if_pos (by omega)]
  simp [List.getElem?_eq_getElem hr]
end Gn
namespace Gn
open PySem PySem.Spec L2 Fw
/-- one of a written list, drawn -/
theorem pick {h : SH} {g : Nat} {B : Int} {xs : List SV} {n : Int} {ss : SS} (G : GenOk h g B) (hB : B ≤ 1000000000) (s0 : ss[0]? = some (some (.ref g))) (hn : n = xs.length) (h0 : 0 < n) (h1 : n ≤ 100) {m : EM} (hm : ∀ h, Is (m ss h) fun v h' => v = .ref h.length ∧ h' = h ++ [.lst xs]) {P : SV → SH → Prop}
    (p : ∀ x h', x ∈ xs → Kp g h h' → h.length ≤ h'.length → GenOk h' g (B + 4000) → P x h') : Is (mO2 opIx m (mCall f17 (aCons (mVar 0) (aCons (mC (.int n)) aNil))) ss h) P := by
  refine Is.o2 ((hm h).mono fun v h2 ⟨ev, eh⟩ => ?_)
  subst ev; subst eh
  refine Is.call (Is.acons (Is.var s0 (Is.acons (Is.c (Is.anil ?_)))))
  have l := Le.push h (.lst xs)
  have hg : g < h.length := by obtain ⟨_, e⟩ := G.at; exact lt_of e
  refine draw (G.le l (Int.le_refl _)) (by omega) h0 ?_ ?_ fun r h3 r0 r1 kp hl G3 => ?_
  · have : n.natAbs.log2 < 8 := (Nat.log2_lt (by omega)).mpr (by omega)
    omega
  · have : n = 1 ∨ 2 ≤ n := by omega
    obtain ⟨k, rfl⟩ := Int.eq_ofNat_of_zero_le (Int.le_of_lt h0)
    have hk : k ≤ 100 := by omega
    clear hn p
    have all : ∀ k : Nat, k ≤ 100 → Builtin.Int.intBits (k : Int) < 100000 := by
      intro k hk
      have : ∀ k : Fin 101, Builtin.Int.intBits ((k.1 : Nat) : Int) < 100000 := by decide +kernel
      exact this ⟨k, by omega⟩
    exact all k hk
  · obtain ⟨x, ex, mx⟩ := atI_mem r0 (by rw [← hn]; exact r1)
    refine ix_is (kp _ _ (by omega) (new_at _ _)) ex (p x h3 mx ((Le.kp l).trans kp) ?_ G3)
    rw [hl]; simp
theorem f18_is {g : Nat} {h : SH} {B : Int} (G : GenOk h g B) (hB : B ≤ 900000000) {P : SV → SH → Prop} (p : ∀ h' t x, Kp g h h' → h.length ≤ h'.length → GenOk h' g (B + 16000) → h'[t]? = some (Sx.so x) → x.Ok → h.length ≤ t → P (.ref t) h') : Is (f18 [.ref g] h) P := by
  refine Is.fn rfl ?_
  unfold m18
  have e30 : (10 : Int) ^ (30 : Int).toNat = 1000000000000000000000000000000 := by decide +kernel
  have e25 : (10 : Int) ^ (25 : Int).toNat = 10000000000000000000000000 := by decide +kernel
  refine Ist.seq (Ist.set (Is.call (Is.acons (Is.var (v := .ref g) rfl (Is.acons ?_)))))
  refine pick (n := 3) (xs := [.int 30, .int 30, .int 1000000000000000000000000000000]) G (by omega) rfl rfl (by decide) (by decide) (fun h => Is.oa (Is.acons (Is.c (Is.acons (Is.c (Is.acons (Is.o2 (Is.c (Is.c (pow_is (by decide +kernel) (by rw [e30]; exact Is.anil (lst_is (small_big (by simp)) ⟨rfl, rfl⟩)))))))))))) fun x h1 mx kp1 l1 G1 => ?_
  refine Is.anil ?_
  have hx : ∃ m : Int, x = .int m ∧ 0 < m ∧ m ≤ 1000000000000000000000000000000 ∧ m.natAbs.log2 < 9000 ∧ Builtin.Int.intBits m < 100000 := by
    simp only [List.mem_cons, List.not_mem_nil, or_false] at mx
    rcases mx with rfl | rfl | rfl
    · exact ⟨30, rfl, by decide, by decide, by decide +kernel, by decide +kernel⟩
    · exact ⟨30, rfl, by decide, by decide, by decide +kernel, by decide +kernel⟩
    · exact ⟨_, rfl, by decide, by decide, by decide +kernel, by decide +kernel⟩
  obtain ⟨m, rfl, m0, m1, m2, m3⟩ := hx
  refine draw G1 (by omega) m0 m2 m3 fun a h2 a0 a1 kp2 l2 G2 => ?_
  refine Ist.seq (Ist.set ?_)
  refine pick (n := 5) (xs := [.non, .int 1, .int 2, .int 5, .int 10000000000000000000000000]) G2 (by omega) rfl rfl (by decide) (by decide) (fun h => Is.oa (Is.acons (Is.c (Is.acons (Is.c (Is.acons (Is.c (Is.acons (Is.c (Is.acons (Is.o2 (Is.c (Is.c (pow_is (by decide +kernel) (by rw [e25]; exact Is.anil (lst_is (small_big (by simp)) ⟨rfl, rfl⟩)))))))))))))))) fun y h3 my kp3 l3 G3 => ?_
  have hy : ∃ mo : Option Int, y = mSV mo ∧ ∀ i, mo = some i → 1 ≤ i ∧ i ≤ 10 ^ 25 := by
    simp only [List.mem_cons, List.not_mem_nil, or_false] at my
    rcases my with rfl | rfl | rfl | rfl | rfl
    · exact ⟨none, rfl, fun i z => by cases z⟩
    · exact ⟨some 1, rfl, fun i z => by cases z; decide⟩
    · exact ⟨some 2, rfl, fun i z => by cases z; decide⟩
    · exact ⟨some 5, rfl, fun i z => by cases z; decide⟩
    · exact ⟨some 10000000000000000000000000, rfl, fun i z => by cases z; decide⟩
  obtain ⟨mo, rfl, hm⟩ := hy
  refine Ist.ret (Is.oa (Is.acons (Is.var (v := .int a) rfl (Is.acons ?_))))
  refine pick (n := 8) (xs := [.int 1, .int 2, .int 3, .int 4, .int 5, .int 6, .int 10, .int 12]) G3 (by omega) rfl rfl (by decide) (by decide) (fun h => Is.oa (Is.acons (Is.c (Is.acons (Is.c (Is.acons (Is.c (Is.acons (Is.c (Is.acons (Is.c (Is.acons (Is.c (Is.acons (Is.c (Is.acons (Is.c (Is.anil (lst_is (small_big (by simp)) ⟨rfl, rfl⟩))))))))))))))))))) fun z h4 mz kp4 l4 G4 => ?_
  have hz : ∃ s : Int, z = .int s ∧ 1 ≤ s ∧ s ≤ 12 := by
    simp only [List.mem_cons, List.not_mem_nil, or_false] at mz
    rcases mz with rfl | rfl | rfl | rfl | rfl | rfl | rfl | rfl <;> exact ⟨_, rfl, by decide, by decide⟩
  obtain ⟨s, rfl, s0, s1⟩ := hz
  refine Is.acons (Is.var (v := mSV mo) rfl (Is.anil (tup_is (small_big (by simp)) ?_)))
  have l5 := Le.push h4 (.tup [.int a, .int s, mSV mo])
  refine p _ h4.length ⟨a, s, mo⟩ ((((kp1.trans kp2).trans kp3).trans kp4).trans (Le.kp l5)) (by simp; omega) (G4.le l5 (by omega)) (new_at _ _) ⟨a0, ?_, s0, s1, hm⟩ (by omega)
  have : (10 : Int) ^ 31 = 10000000000000000000000000000000 := by decide +kernel
  show a < 10 ^ 31
  omega
theorem law_true : ∀ ns : List Int, ns.length ≤ 63 → (∀ z ∈ ns, PySem.Builtin.Int.intBits z ≤ 1048576) → ∃ h2, Fw.mFn 1 5 Gn.m23 [.scr ns] [] = .ok (.bl true) h2 := by
  intro ns _ _
  have main : Is (Fw.mFn 1 5 m23 [.scr ns] []) fun v _ => v = .bl true := by
    refine Is.fn rfl ?_
    unfold m23
    refine Ist.seq (Ist.for (Is.rng1 (Is.acons (Is.c (Is.anil ⟨6, rfl, by decide, 6, fun k s h => s.length = 5 ∧ s[0]? = some (some (.scr ns)), by unfold many; omega, ⟨rfl, rfl⟩, ?_, ?_⟩)))))
    · rintro k s h hk ⟨q1, q2⟩
      refine ⟨_, _, _, wkRng_at hk, rfl, ?_⟩
      have t0 := gs (i := 1) (x := some (SV.int (0 + (k : Int)))) q2 (by decide)
      have t1 := gx (i := 1) (x := some (SV.int (0 + (k : Int)))) q1 (by decide)
      have tl : (s.set 1 (some (SV.int (0 + (k : Int))))).length = 5 := by simp [q1]
      generalize s.set 1 (some (SV.int (0 + (k : Int)))) = s1 at t0 t1 tl ⊢
      rw [show (0 : Int) + (k : Int) = (k : Nat) from by omega] at t1
      refine Ist.seq (Ist.set (Is.call (Is.acons (Is.var t0 (Is.acons (Is.var t1 (Is.anil ?_)))))))
      show Is (mFn 2 3 genM [.scr ns, .int ((k : Nat) : Int)] _) _
      refine gen_is fun a b a0 b0 b1 => ?_
      have G0 : GenOk (h ++ [.lst [.int a, .int b, .int (1000 * (k : Int))]]) h.length 6000 := ⟨a, b, _, new_at _ _, a0, by omega, by omega⟩
      have hg : h.length < (h ++ [SO.lst [.int a, .int b, .int (1000 * (k : Int))]]).length := by simp
      generalize eg : h.length = g at G0 hg ⊢
      generalize h ++ [SO.lst [.int a, .int b, .int (1000 * (k : Int))]] = h0 at G0 hg ⊢
      have u0 := gs (i := 2) (x := some (SV.ref g)) t0 (by decide)
      have u2 := gx (i := 2) (x := some (SV.ref g)) tl (by decide)
      have ul : (s1.set 2 (some (SV.ref g))).length = 5 := by simp [tl]
      generalize s1.set 2 (some (SV.ref g)) = s2 at u0 u2 ul ⊢
      refine Ist.seq (Ist.set (Is.lc (Is.rng1 (Is.acons (Is.call (Is.acons (Is.var u2 (Is.acons (Is.c (Is.anil ?_))))))))))
      refine draw G0 (by decide) (by decide) (by decide +kernel) (by decide +kernel) fun r h1 r0 r1 kp1 l1 G1 => ?_
      refine Is.anil ⟨r, rfl, decide_eq_true (by omega), r.toNat, fun q acc hh => GenOk hh g (10000 + 16000 * q) ∧ g < h1.length ∧ h1.length + 1 ≤ hh.length ∧ acc.length = q ∧ ∃ (ts : List Nat) (S : List Sx), acc = ts.map SV.ref ∧ ts.length = S.length ∧ ∀ (i t : Nat), ts[i]? = some t → ∃ x, S[i]? = some x ∧ hh[t]? = some x.so ∧ x.Ok, by unfold many; omega, ⟨?_, by omega, by simp, rfl, [], [], rfl, rfl, fun i t e => by simp at e⟩, ?_, ?_⟩
      · exact G1.le (Le.push _ _) (by omega)
      · rintro q acc hh hq hD ⟨G2, hg2, hl2, ha, ts, S, rfl, hts, hz⟩
        have ha' : ts.length = q := by simpa using ha
        refine ⟨_, _, _, wkRng_at hq, rfl, ?_⟩
        show Is (Res.ok true hh) _
        refine is_ok ?_
        rw [if_pos rfl]
        refine Is.call (Is.acons (Is.var (v := .ref g) (gs (by show (s2.set 4 none)[2]? = _; exact gs u2 (by decide)) (by decide)) (Is.anil ?_)))
        refine f18_is G2 (by omega) fun h3 t x kp3 l3 G3 et ok ht => ?_
        have nDg : h1.length ≠ g := by omega
        refine ⟨kp3 _ _ nDg hD, small_lt (by simp; omega), ?_, hg2, by simp; omega, by simp [ha], ts ++ [t], S ++ [x], by simp, by simp [hts], fun i u eu => ?_⟩
        · obtain ⟨a, b, c, e, c1, c2, c3⟩ := G3
          exact ⟨a, b, c, by rw [set_ne nDg]; exact e, c1, c2, by omega⟩
        · by_cases hi : i < ts.length
          · rw [List.getElem?_append_left hi] at eu
            obtain ⟨y, a, b, c⟩ := hz i u eu
            have ng : u ≠ g := fun w => by obtain ⟨gl, egl⟩ := G2.at; rw [w, egl] at b; cases b
            have nD : h1.length ≠ u := fun w => by rw [← w, hD] at b; cases b
            exact ⟨y, by rw [List.getElem?_append_left (by omega)]; exact a, by rw [set_ne nD]; exact kp3 _ _ ng b, c⟩
          · have hi2 : i = ts.length := by have := (List.getElem?_eq_some_iff.mp eu).1; simp at this; omega
            subst hi2
            rw [List.getElem?_append_right (Nat.le_refl _)] at eu
            simp at eu
            subst eu
            have nD : h1.length ≠ t := by omega
            exact ⟨x, by rw [hts, List.getElem?_append_right (Nat.le_refl _)]; simp, by rw [set_ne nD]; exact et, ok⟩
      · rintro acc hh hD ⟨G2, hg2, hl2, ha, ts, S, rfl, hts, hz⟩
        refine ⟨wkRng_end, ?_⟩
        have ls : Lst hh h1.length S := ⟨⟨ts, hD, hts, hz⟩, by simp at ha; omega⟩
        have w2 := gs (i := 3) (x := some (SV.ref h1.length)) u2 (by decide)
        have w3 := gx (i := 3) (x := some (SV.ref h1.length)) ul (by decide)
        have w0 := gs (i := 3) (x := some (SV.ref h1.length)) u0 (by decide)
        have wl : (s2.set 3 (some (SV.ref h1.length))).length = 5 := by simp [ul]
        generalize s2.set 3 (some (SV.ref h1.length)) = s3 at w0 w2 w3 wl ⊢
        have nDg : h1.length ≠ g := by omega
        refine Ist.ite (Is.bor (Is.bnot (Is.tru (Is.call (Is.acons (Is.var w2 (Is.acons (Is.var w3 (Is.anil (f20_is G2 (by omega) ls nDg fun h4 kp4 l4 G4 => ?_))))))))))
        refine tru_is ?_
        rw [if_neg (by decide)]
        obtain ⟨gl, egl⟩ := G2.at
        refine Is.bnot (Is.tru (Is.call (Is.acons (Is.var w3 (Is.anil (f22_is (ls.kp kp4 egl nDg) fun h5 l5 => ?_))))))
        refine tru_is ?_
        rw [if_neg (by decide)]
        exact Ist.nil ⟨wl, w0⟩
    · rintro s h ⟨q1, q2⟩
      exact ⟨wkRng_end, Ist.ret (Is.c rfl)⟩
  obtain ⟨v, h2, e, rfl⟩ := main.out
  exact ⟨h2, e⟩
end Gn
open PySem PySem.W PyProof.Rows in
set_option maxRecDepth 100000 in
set_option maxHeartbeats 0 in
theorem PySem.Challenge.cw_floorwalks_k30_stretches_that_hold_holds : PySem.Challenge.rw_floorwalks_k30_stretches_that_hold.Holds := by
  w_on; o_law; k_head; (case hw => w_witness2)
  k_fill
  refine Fw.walk_ofG (l := PySem.Challenge.rw_floorwalks_k30_stretches_that_hold) (m := Gn.m23) (nn := 5) (k := 6) (x := "_law_script") rfl (by decide) rfl ⟨rfl, by decide, by decide⟩ (by decide +kernel) (fun w h Y => PySem.W.kIn_of Y) ?F Gn.law_true
  case F =>
    intro w mg fa h KX G hmg
    refine' Gn.all_mk KX G hmg ?aC0 ?ga0 ?gg0 ?kC0 ?ex0 ?ty0 ?hd0 ?ic0 ?ha0 ?mo0 ?aC1 ?ga1 ?gg1 ?kC1 ?ex1 ?ty1 ?hd1 ?ic1 ?ha1 ?mo1 ?xL1 ?rv1 ?al1 ?sa1 ?no1 ?iC1 ?tF1 ?ve1 ?mr1 ?lF1 ?cF1 ?lD1 ?hv1 ?hf1 ?lcc1 ?lT1 ?aC2 ?ga2 ?gg2 ?kC2 ?ex2 ?ty2 ?hd2 ?ic2 ?ha2 ?mo2 ?xL2 ?rv2 ?al2 ?sa2 ?no2 ?iC2 ?tF2 ?ve2 ?mr2 ?lF2 ?cF2 ?lD2 ?hv2 ?hf2 ?lcc2 ?lT2 ?aC3 ?ga3 ?gg3 ?kC3 ?ex3 ?ty3 ?hd3 ?ic3 ?ha3 ?mo3 ?xL3 ?rv3 ?al3 ?sa3 ?no3 ?iC3 ?tF3 ?ve3 ?mr3 ?lF3 ?cF3 ?lD3 ?hv3 ?hf3 ?lcc3 ?lT3 ?aC4 ?pg4 ?hd4 ?po4 ?sa4 ?mk4 ?kc4 ?no4_0 ?no4_1 ?no4_2 ?opq ?sup ?hn ?ht ?htop ?b_bool ?b_int ?b_isinstance ?b_len ?b_list ?b_max ?b_range ?b_repr ?b_tuple ?o0_InvalidItem ?o1_InvalidItem ?o2_InvalidItem ?o3_InvalidItem ?o0_InvalidList ?o1_InvalidList ?o2_InvalidList ?o3_InvalidList ?o0_InvalidNumber ?o1_InvalidNumber ?o2_InvalidNumber ?o3_InvalidNumber ?u0_WalkError ?u1_WalkError ?u2_WalkError ?u3_WalkError ?a14d ?l14d ?c14d ?k14d ?a16d ?l16d ?c16d ?k16d ?a15d ?l15d ?c15d ?k15d ?a17d ?l17d ?c17d ?k17d ?a18d ?l18d ?c18d ?k18d ?a19d ?l19d ?c19d ?k19d ?a7d ?l7d ?c7d ?k7d ?a9d ?l9d ?c9d ?k9d ?a_Held___init__d ?i_Held___init__d ?l_Held___init__d ?c_Held___init__d ?k_Held___init__d ?a_Held_holdsd ?i_Held_holdsd ?l_Held_holdsd ?c_Held_holdsd ?k_Held_holdsd ?a12d ?l12d ?c12d ?k12d ?a20d ?l20d ?c20d ?k20d ?a21d ?l21d ?c21d ?k21d ?a22d ?l22d ?c22d ?k22d ?a23d ?l23d ?c23d ?k23d
    (case aC0 => k_is)
    (case ga0 => k_is)
    (case gg0 => k_is)
    (case kC0 => k_is)
    (case ex0 => k_is)
    (case ty0 => k_is)
    (case hd0 => k_is)
    (case ic0 => k_is)
    (case ha0 => k_is)
    (case mo0 => k_is)
    (case aC1 => k_is)
    (case ga1 => k_is)
    (case gg1 => k_is)
    (case kC1 => k_is)
    (case ex1 => k_is)
    (case ty1 => k_is)
    (case hd1 => k_is)
    (case ic1 => k_is)
    (case ha1 => k_is)
    (case mo1 => k_is)
    (case xL1 => k_is)
    (case rv1 => first | rfl | decide +kernel | k_is)
    (case al1 => ks_is)
    (case sa1 => k_is)
    (case no1 => k_is)
    (case iC1 => k_is)
    (case tF1 => k_is)
    (case ve1 => k_is)
    (case mr1 => k_is)
    (case lF1 => k_is)
    (case cF1 => k_is)
    (case lD1 => k_is)
    (case hv1 => first | rfl | k_is)
    (case hf1 => first | rfl | decide +kernel | k_is)
    (case lcc1 => k_is)
    (case lT1 => k_is)
    (case aC2 => k_is)
    (case ga2 => k_is)
    (case gg2 => k_is)
    (case kC2 => k_is)
    (case ex2 => k_is)
    (case ty2 => k_is)
    (case hd2 => k_is)
    (case ic2 => k_is)
    (case ha2 => k_is)
    (case mo2 => k_is)
    (case xL2 => k_is)
    (case rv2 => first | rfl | decide +kernel | k_is)
    (case al2 => ks_is)
    (case sa2 => k_is)
    (case no2 => k_is)
    (case iC2 => k_is)
    (case tF2 => k_is)
    (case ve2 => k_is)
    (case mr2 => k_is)
    (case lF2 => k_is)
    (case cF2 => k_is)
    (case lD2 => k_is)
    (case hv2 => first | rfl | k_is)
    (case hf2 => first | rfl | decide +kernel | k_is)
    (case lcc2 => k_is)
    (case lT2 => k_is)
    (case aC3 => k_is)
    (case ga3 => k_is)
    (case gg3 => k_is)
    (case kC3 => k_is)
    (case ex3 => k_is)
    (case ty3 => k_is)
    (case hd3 => k_is)
    (case ic3 => k_is)
    (case ha3 => k_is)
    (case mo3 => k_is)
    (case xL3 => k_is)
    (case rv3 => first | rfl | decide +kernel | k_is)
    (case al3 => ks_is)
    (case sa3 => k_is)
    (case no3 => k_is)
    (case iC3 => k_is)
    (case tF3 => k_is)
    (case ve3 => k_is)
    (case mr3 => k_is)
    (case lF3 => k_is)
    (case cF3 => k_is)
    (case lD3 => k_is)
    (case hv3 => first | rfl | k_is)
    (case hf3 => first | rfl | decide +kernel | k_is)
    (case lcc3 => k_is)
    (case lT3 => k_is)
    (case aC4 => k_is)
    (case pg4 => k_is)
    (case hd4 => k_is)
    (case po4 => k_is)
    (case sa4 => k_is)
    (case mk4 => k_is)
    (case kc4 => k_is)
    (case no4_0 => k_is)
    (case no4_1 => k_is)
    (case no4_2 => k_is)
    (case opq => k_is)
    (case sup => k_is)
    (case hn => k_is)
    (case ht => k_is)
    (case htop => first | rfl | decide +kernel)
    (case b_bool => k_is)
    (case b_int => k_is)
    (case b_isinstance => k_is)
    (case b_len => k_is)
    (case b_list => k_is)
    (case b_max => k_is)
    (case b_range => k_is)
    (case b_repr => k_is)
    (case b_tuple => k_is)
    (case o0_InvalidItem => kit_is)
    (case o1_InvalidItem => kit_is)
    (case o2_InvalidItem => kit_is)
    (case o3_InvalidItem => kit_is)
    (case o0_InvalidList => kit_is)
    (case o1_InvalidList => kit_is)
    (case o2_InvalidList => kit_is)
    (case o3_InvalidList => kit_is)
    (case o0_InvalidNumber => kit_is)
    (case o1_InvalidNumber => kit_is)
    (case o2_InvalidNumber => kit_is)
    (case o3_InvalidNumber => kit_is)
    (case u0_WalkError => k_is)
    (case u1_WalkError => k_is)
    (case u2_WalkError => k_is)
    (case u3_WalkError => k_is)
    (case a14d => k_is)
    (case l14d => k_is)
    (case c14d => k_is)
    (case k14d => k_is)
    (case a16d => k_is)
    (case l16d => k_is)
    (case c16d => k_is)
    (case k16d => k_is)
    (case a15d => k_is)
    (case l15d => k_is)
    (case c15d => k_is)
    (case k15d => k_is)
    (case a17d => k_is)
    (case l17d => k_is)
    (case c17d => k_is)
    (case k17d => k_is)
    (case a18d => k_is)
    (case l18d => k_is)
    (case c18d => k_is)
    (case k18d => k_is)
    (case a19d => k_is)
    (case l19d => k_is)
    (case c19d => k_is)
    (case k19d => k_is)
    (case a7d => k_is)
    (case l7d => k_is)
    (case c7d => k_is)
    (case k7d => k_is)
    (case a9d => k_is)
    (case l9d => k_is)
    (case c9d => k_is)
    (case k9d => k_is)
    (case a_Held___init__d => k_is)
    (case i_Held___init__d => k_is)
    (case l_Held___init__d => k_is)
    (case c_Held___init__d => k_is)
    (case k_Held___init__d => k_is)
    (case a_Held_holdsd => k_is)
    (case i_Held_holdsd => k_is)
    (case l_Held_holdsd => k_is)
    (case c_Held_holdsd => k_is)
    (case k_Held_holdsd => k_is)
    (case a12d => k_is)
    (case l12d => k_is)
    (case c12d => k_is)
    (case k12d => k_is)
    (case a20d => k_is)
    (case l20d => k_is)
    (case c20d => k_is)
    (case k20d => k_is)
    (case a21d => k_is)
    (case l21d => k_is)
    (case c21d => k_is)
    (case k21d => k_is)
    (case a22d => k_is)
    (case l22d => k_is)
    (case c22d => k_is)
    (case k22d => k_is)
    (case a23d => k_is)
    (case l23d => k_is)
    (case c23d => k_is)
    (case k23d => k_is)
