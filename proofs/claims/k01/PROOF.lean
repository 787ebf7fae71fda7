import PyProof.Rows.All
import Wide.All
import OpenK.AllK
import Wide.FinOn
import HandS.ForMost
import HandS.Exc
import HandS.ExcOwn
import HandS.WordsExc
import HandS.IsInst
import HandS.Wide
import HandS.Gcd
import PyProof.ReprRoads
import HandS.Dict
import HandS.WideBits
import HandS.WordsList
import HandS.NoneIn
import HandS.Iter
import HandS.Comp
import HandS.ExcSuper
import KE.KExcSuper
import HandS.ExcValue
import KE.KExcIs
import HandS.EndBits
import PySem.Challenge.RW_floorwalks_k01_errors
set_option Elab.async false
set_option linter.all false
set_option maxRecDepth 100000
set_option maxHeartbeats 4000000
/-! Fw: what a program does, as plain functions over numbered objects; each construct's function is tied to the hand layer once. -/
namespace Fw
open PySem PySem.Spec L2
/-- a value; objects by their number -/
inductive SV where
  | non | bl (b : Bool) | int (i : Int) | str (x : Str) | ref (i : Nat) | scr (ns : List Int)
  deriving DecidableEq, Inhabited
/-- an object -/
inductive SO where
  | lst (xs : List SV) | tup (xs : List SV) | dK (kvs : List (Key × SV)) | dT (kvs : List (List Key × SV)) | ins (c : Nat) (vs : List SV)
  | exo (c : Nat) (vs : List SV)
  deriving DecidableEq, Inhabited
abbrev SH := List SO
abbrev SS := List (Option SV)
inductive Res (α : Type) where
  | stuck | ok (a : α) (h : SH) | ex (c : Nat) (vs : List SV) (h : SH)
@[inline] def Res.bind {α β : Type} (r : Res α) (k : α → SH → Res β) : Res β := match r with
  | .stuck => .stuck
  | .ok a h => k a h
  | .ex c vs h => .ex c vs h
abbrev EM := SS → SH → Res SV
abbrev BM := SS → SH → Res Bool
abbrev AM := SS → SH → Res (List SV)
/-- what stands behind a statement -/
inductive SR where
  | stuck | nx (ss : SS) (h : SH) | rt (v : SV) (h : SH) | bk (ss : SS) (h : SH) | ct (ss : SS) (h : SH) | ex (c : Nat) (vs : List SV) (ss : SS) (h : SH)
abbrev SM := SS → SH → SR
abbrev FM := List SV → SH → Res SV
/-- the classes' places and fields, the written part, the script -/
structure En where
  cl : List (Addr × List Str)
  K : PySem.W.Frag
  a0 : Addr
  ns : List Int
/-! ### what is held -/
def RS (en : En) (ρ : List Addr) : SV → V → Prop
  | .non, v => v = .non
  | .bl b, v => v = .bl b
  | .int i, v => v = .int i
  | .str x, v => v = .str x
  | .ref i, v => ∃ a, ρ[i]? = some a ∧ v = .ref a
  | .scr ns, v => v = .ref en.a0 ∧ ns = en.ns
abbrev RSs (en : En) (ρ : List Addr) : List SV → List V → Prop := Paired (RS en ρ)
/-- the fields of an error: in its dict, or none -/
def HasF (ρ : List Addr) (H : Hp) (d : Option Addr) (kvs : List (Str × V)) : Prop := (d = none ∧ kvs = []) ∨ ∃ dx, d = some dx ∧ H dx = some (.xd kvs) ∧ dx ∉ ρ
def exoφ (a : Addr) (cls : Value) (d : Option Addr) : Heap → Prop := fun h => ∃ oe us, h.get? a = some oe ∧ Zc cls d oe ∧ oe.data = .fields us
def RO (en : En) (ρ : List Addr) (H : Hp) (a : Addr) : SO → Prop
  | .lst xs => ∃ vs, H a = some (.lst vs) ∧ RSs en ρ xs vs
  | .tup xs => ∃ vs, H a = some (.tup vs) ∧ RSs en ρ xs vs
  | .dK kvs => ∃ kws, H a = some (.dK kws) ∧ Paired (fun p q => p.1 = q.1 ∧ RS en ρ p.2 q.2) kvs kws
  | .dT kvs => ∃ kws, H a = some (.dT kws) ∧ Paired (fun p q => p.1 = q.1 ∧ RS en ρ p.2 q.2) kvs kws
  | .ins c xs => ∃ C ns dx vs, en.cl[c]? = some (C, ns) ∧ H a = some (.ins C dx (ns.zip vs)) ∧ xs.length ≤ ns.length ∧ RSs en ρ xs vs
  | .exo c xs => ∃ C ns d vs, en.cl[c]? = some (C, ns) ∧ H a = some (.ext (exoφ a (.ref C) d)) ∧ HasF ρ H d (ns.zip vs) ∧ xs.length = ns.length ∧ RSs en ρ xs vs
structure Rel (en : En) (ρ : List Addr) (h : SH) (H : Hp) : Prop where
  len : ρ.length = h.length
  nd : ρ.Nodup
  ob : ∀ (i : Nat) (a : Addr) (o : SO), ρ[i]? = some a → h[i]? = some o → RO en ρ H a o
  sc : (∃ o, H en.a0 = some (.frz o (.lst (en.ns.map V.int))) ∧ en.a0 ∉ ρ) ∨ SqL en.K (fun _ => none) en.a0 (en.ns.map V.int)
theorem sqL_none {K : PySem.W.Frag} {a : Addr} {xs : List V} (h : SqL K (fun _ => none) a xs) (H : Hp) : SqL K H a xs := by
  rcases h with (h | ⟨o, h⟩) | h
  · cases h
  · cases h
  · exact .inr h
theorem Rel.scr {en : En} {ρ : List Addr} {h : SH} {H : Hp} (R : Rel en ρ h H) : SqL en.K H en.a0 (en.ns.map V.int) := by
  rcases R.sc with ⟨o, e, _⟩ | z
  · exact .inl (.inr ⟨o, e⟩)
  · exact sqL_none z H
structure RSl (en : En) (ρ : List Addr) (ss : SS) (σ : St) : Prop where
  len : ss.length = σ.length
  at_ : ∀ (i : Nat) (v : SV), ss[i]? = some (some v) → ∃ u, σ[i]? = some (some u) ∧ RS en ρ v u
/-- an error in the air: its class, its fields -/
def RX (en : En) (ρ : List Addr) (H : Hp) (c : Nat) (xs : List SV) (cls : Value) (d : Option Addr) : Prop :=
  ∃ C ns vs, en.cl[c]? = some (C, ns) ∧ cls = .ref C ∧ HasF ρ H d (ns.zip vs) ∧ xs.length = ns.length ∧ RSs en ρ xs vs
def Pre (ρ ρ' : List Addr) : Prop := ∃ e, ρ' = ρ ++ e
theorem Pre.refl (ρ : List Addr) : Pre ρ ρ := ⟨[], by simp⟩
theorem Pre.trans {a b c : List Addr} (h : Pre a b) (k : Pre b c) : Pre a c := by
  obtain ⟨x, rfl⟩ := h; obtain ⟨y, rfl⟩ := k; exact ⟨x ++ y, by simp⟩
theorem Pre.one (ρ : List Addr) (p : Addr) : Pre ρ (ρ ++ [p]) := ⟨[p], rfl⟩
theorem Pre.get {ρ ρ' : List Addr} (h : Pre ρ ρ') {i : Nat} {a : Addr} (e : ρ[i]? = some a) : ρ'[i]? = some a := by
  obtain ⟨x, rfl⟩ := h
  rw [List.getElem?_append_left (List.getElem?_eq_some_iff.mp e).1]; exact e
theorem RS.mono {en : En} {ρ ρ' : List Addr} (h : Pre ρ ρ') {x : SV} {v : V} (r : RS en ρ x v) : RS en ρ' x v := by
  cases x <;> first | exact r | (obtain ⟨a, e, q⟩ := r; exact ⟨a, h.get e, q⟩)
theorem paired_mono {α β : Type} {R R' : α → β → Prop} (f : ∀ a b, R a b → R' a b) : ∀ {xs : List α} {ys : List β}, Paired R xs ys → Paired R' xs ys
  | _, _, .nil => .nil
  | _, _, .cons r t => .cons (f _ _ r) (paired_mono f t)
theorem RSs.mono {en : En} {ρ ρ' : List Addr} (h : Pre ρ ρ') {xs : List SV} {vs : List V} (r : RSs en ρ xs vs) : RSs en ρ' xs vs := paired_mono (fun _ _ q => q.mono h) r
theorem RSl.mono {en : En} {ρ ρ' : List Addr} (h : Pre ρ ρ') {ss : SS} {σ : St} (r : RSl en ρ ss σ) : RSl en ρ' ss σ :=
  ⟨r.len, fun i v e => let ⟨u, e', q⟩ := r.at_ i v e; ⟨u, e', q.mono h⟩⟩
theorem RSl.set {en : En} {ρ : List Addr} {ss : SS} {σ : St} (r : RSl en ρ ss σ) {x : SV} {v : V} (q : RS en ρ x v) (i : Nat) : RSl en ρ (ss.set i (some x)) (σ.set i (some v)) := by
  refine ⟨by simp [r.len], fun j y e => ?_⟩
  by_cases hj : i = j
  · subst hj
    by_cases hl : i < ss.length
    · rw [List.getElem?_set_self hl] at e
      cases e
      exact ⟨v, List.getElem?_set_self (by rw [← r.len]; exact hl), q⟩
    · rw [List.getElem?_eq_none (by simpa using hl)] at e; cases e
  · rw [List.getElem?_set_ne hj] at e ⊢
    exact r.at_ j y e
theorem RSl.clear {en : En} {ρ : List Addr} {ss : SS} {σ : St} (r : RSl en ρ ss σ) (i : Nat) : RSl en ρ (ss.set i none) (σ.set i none) := by
  refine ⟨by simp [r.len], fun j y e => ?_⟩
  by_cases hj : i = j
  · subst hj
    by_cases hl : i < ss.length
    · rw [List.getElem?_set_self hl] at e; cases e
    · rw [List.getElem?_eq_none (by simpa using hl)] at e; cases e
  · rw [List.getElem?_set_ne hj] at e ⊢
    exact r.at_ j y e
theorem Rel.at {en : En} {ρ : List Addr} {h : SH} {H : Hp} (R : Rel en ρ h H) {i : Nat} {o : SO} (e : h[i]? = some o) : ∃ a, ρ[i]? = some a ∧ RO en ρ H a o := by
  have hl : i < ρ.length := by rw [R.len]; exact (List.getElem?_eq_some_iff.mp e).1
  exact ⟨ρ[i], List.getElem?_eq_getElem hl, R.ob i _ o (List.getElem?_eq_getElem hl) e⟩
theorem Rel.at2 {en : En} {ρ : List Addr} {h : SH} {H : Hp} (R : Rel en ρ h H) {i : Nat} {o : SO} {a : Addr} (ea : ρ[i]? = some a) (e : h[i]? = some o) : RO en ρ H a o := R.ob i a o ea e
/-- what a held object is stays so where its own place and its error's dict are as they were -/
theorem RO.keep {en : En} {ρ ρ' : List Addr} {H H' : Hp} {a : Addr} {o : SO} (p : Pre ρ ρ') (r : RO en ρ H a o) (k : H' a = H a) (kx : ∀ d fs, d ∉ ρ → H d = some (.xd fs) → H' d = some (.xd fs) ∧ d ∉ ρ') : RO en ρ' H' a o := by
  cases o with
  | lst xs => obtain ⟨vs, e, q⟩ := r; exact ⟨vs, k.trans e, q.mono p⟩
  | tup xs => obtain ⟨vs, e, q⟩ := r; exact ⟨vs, k.trans e, q.mono p⟩
  | dK kvs => obtain ⟨vs, e, q⟩ := r; exact ⟨vs, k.trans e, paired_mono (fun _ _ z => ⟨z.1, z.2.mono p⟩) q⟩
  | dT kvs => obtain ⟨vs, e, q⟩ := r; exact ⟨vs, k.trans e, paired_mono (fun _ _ z => ⟨z.1, z.2.mono p⟩) q⟩
  | ins c xs => obtain ⟨C, ns, dx, vs, e1, e, l, q⟩ := r; exact ⟨C, ns, dx, vs, e1, k.trans e, l, q.mono p⟩
  | exo c xs =>
    obtain ⟨C, ns, d, vs, e1, e, hf, l, q⟩ := r
    refine ⟨C, ns, d, vs, e1, k.trans e, ?_, l, q.mono p⟩
    rcases hf with z | ⟨dx, ed, hd, nd⟩
    · exact .inl z
    · obtain ⟨kd, nd'⟩ := kx dx _ nd hd
      exact .inr ⟨dx, ed, kd, nd'⟩
/-- a held place is tracked -/
theorem RO.some {en : En} {ρ : List Addr} {H : Hp} {a : Addr} {o : SO} (r : RO en ρ H a o) : ∃ u, H a = some u ∧ ∀ fs, u ≠ .xd fs := by
  cases o with
  | lst xs => obtain ⟨vs, e, q⟩ := r; exact ⟨_, e, fun _ z => by cases z⟩
  | tup xs => obtain ⟨vs, e, q⟩ := r; exact ⟨_, e, fun _ z => by cases z⟩
  | dK kvs => obtain ⟨vs, e, q⟩ := r; exact ⟨_, e, fun _ z => by cases z⟩
  | dT kvs => obtain ⟨vs, e, q⟩ := r; exact ⟨_, e, fun _ z => by cases z⟩
  | ins c xs => obtain ⟨C, ns, dx, vs, e1, e, l, q⟩ := r; exact ⟨_, e, fun _ z => by cases z⟩
  | exo c xs => obtain ⟨C, ns, d, vs, e1, e, hf, l, q⟩ := r; exact ⟨_, e, fun _ z => by cases z⟩
theorem Rel.mem {en : En} {ρ : List Addr} {h : SH} {H : Hp} (R : Rel en ρ h H) {a : Addr} (m : a ∈ ρ) : ∃ u, H a = some u ∧ ∀ fs, u ≠ .xd fs := by
  obtain ⟨i, hl, e⟩ := List.getElem_of_mem m
  have e2 : h[i]? = some (h[i]'(by rw [← R.len]; exact hl)) := List.getElem?_eq_getElem _
  exact (R.ob i a _ (by rw [List.getElem?_eq_getElem hl, e]) e2).some
/-- one object anew -/
theorem Rel.push {en : En} {ρ : List Addr} {h : SH} {H : Hp} (R : Rel en ρ h H) {p : Addr} {u : HO} {o : SO} (hp : H p = none) (r : RO en (ρ ++ [p]) (upd H p u) p o) : Rel en (ρ ++ [p]) (h ++ [o]) (upd H p u) := by
  have np : p ∉ ρ := fun m => by obtain ⟨u, e, _⟩ := R.mem m; rw [hp] at e; cases e
  refine ⟨by simp [R.len], ?_, fun i a ob ea eo => ?_, ?_⟩
  · rw [List.nodup_append]
    exact ⟨R.nd, by simp, fun a ha b hb => by simp at hb; subst hb; exact fun z => np (z ▸ ha)⟩
  · by_cases hi : i < ρ.length
    · rw [List.getElem?_append_left hi] at ea
      rw [List.getElem?_append_left (by rw [← R.len]; exact hi)] at eo
      have ra := R.ob i a ob ea eo
      obtain ⟨w, ew, _⟩ := ra.some
      refine ra.keep (Pre.one ρ p) (upd_ne (ne_of_none ew hp)) fun d fs nd ed => ⟨by rw [upd_ne (ne_of_none ed hp)]; exact ed, fun m => ?_⟩
      rcases List.mem_append.mp m with m | m
      · exact nd m
      · simp at m; subst m; rw [hp] at ed; cases ed
    · have hi2 : ¬ i < h.length := by rw [← R.len]; exact hi
      rw [List.getElem?_append_right (by omega)] at ea
      rw [List.getElem?_append_right (by omega)] at eo
      have e0 : i - ρ.length = 0 := by
        have := (List.getElem?_eq_some_iff.mp ea).1
        simp at this; omega
      have e1 : i - h.length = 0 := by rw [← R.len]; exact e0
      rw [e0] at ea; rw [e1] at eo
      cases ea; cases eo
      exact r
  · rcases R.sc with ⟨ob, e, n⟩ | z
    · refine .inl ⟨ob, by rw [upd_ne (ne_of_none e hp)]; exact e, fun m => ?_⟩
      rcases List.mem_append.mp m with m | m
      · exact n m
      · simp at m; rw [m, hp] at e; cases e
    · exact .inr z
/-- one object changed -/
theorem Rel.put {en : En} {ρ : List Addr} {h : SH} {H : Hp} (R : Rel en ρ h H) {i : Nat} {p : Addr} {u : HO} {o : SO} (hp : ρ[i]? = some p) (r : RO en ρ (upd H p u) p o) : Rel en ρ (h.set i o) (upd H p u) := by
  refine ⟨by simp [R.len], R.nd, fun j a ob ea eo => ?_, ?_⟩
  by_cases hj : i = j
  · subst hj
    rw [hp] at ea; cases ea
    have hl : i < h.length := by rw [← R.len]; exact (List.getElem?_eq_some_iff.mp hp).1
    rw [List.getElem?_set_self hl] at eo; cases eo
    exact r
  · rw [List.getElem?_set_ne hj] at eo
    have ne : a ≠ p := fun z => by
      subst z
      exact hj (nd_ix R.nd hp ea)
    have mp : p ∈ ρ := List.mem_of_getElem? hp
    have kx : ∀ (d : Addr) (fs : List (Str × V)), d ∉ ρ → H d = some (.xd fs) → upd H p u d = some (.xd fs) ∧ d ∉ ρ := fun d fs nd ed => by
      have nd2 : d ≠ p := fun z => nd (by rw [z]; exact mp)
      exact ⟨by rw [upd_ne nd2]; exact ed, nd⟩
    exact (R.ob j a ob ea eo).keep (Pre.refl ρ) (upd_ne ne) kx
  · rcases R.sc with ⟨ob, e, n⟩ | z
    · have ne : en.a0 ≠ p := fun q => n (by rw [q]; exact List.mem_of_getElem? hp)
      exact .inl ⟨ob, by rw [upd_ne ne]; exact e, n⟩
    · exact .inr z
/-- what is not held may change -/
theorem Rel.keep {en : En} {ρ : List Addr} {h : SH} {H H' : Hp} (R : Rel en ρ h H) (k : ∀ a u, H a = some u → H' a = some u) : Rel en ρ h H' :=
  ⟨R.len, R.nd, fun i a o ea eo => by
    have r := R.ob i a o ea eo
    obtain ⟨w, ew, _⟩ := r.some
    exact r.keep (Pre.refl ρ) ((k a w ew).trans ew.symm) fun d fs nd ed => ⟨k d _ ed, nd⟩,
   R.sc.imp (fun ⟨o, e, n⟩ => ⟨o, k _ _ e, n⟩) id⟩
end Fw
namespace Fw
open PySem PySem.Spec L2
/-- what is wanted behind a run r from the places rho -/
def fin {α β : Type} (en : En) (W : WX) (R : List Addr → α → β → Prop) (σ : L2.St) (ρ : List Addr) (r : Res α) (Q : β → Hp → Prop) : Prop := match r with
  | .stuck => False
  | .ok a h => ∀ ρ' H b, Pre ρ ρ' → Rel en ρ' h H → R ρ' a b → Q b H
  | .ex c xs h => ∀ ρ' H cls d, Pre ρ ρ' → Rel en ρ' h H → RX en ρ' H c xs cls d → W cls d σ H
/-- the reading of a meaning m -/
def tM {α β : Type} (en : En) (W : WX) (R : List Addr → α → β → Prop) (m : SS → SH → Res α) : L2.St → Hp → (β → Hp → Prop) → Prop := fun σ H Q =>
  ∃ ρ ss h, Rel en ρ h H ∧ RSl en ρ ss σ ∧ fin en W R σ ρ (m ss h) Q
abbrev RB : List Addr → Bool → Bool → Prop := fun _ a b => a = b
abbrev tE (en : En) (W : WX) (m : EM) : TE := tM en W (RS en) m
abbrev tT (en : En) (W : WX) (m : BM) : TT := tM en W RB m
abbrev tA (en : En) (W : WX) (m : AM) : TA := tM en W (RSs en) m
theorem fin.mono {α β : Type} {en : En} {W : WX} {R : List Addr → α → β → Prop} {σ : L2.St} {ρ ρ' : List Addr} {r : Res α} {Q : β → Hp → Prop} (p : Pre ρ ρ') (f : fin en W R σ ρ r Q) : fin en W R σ ρ' r Q := by
  cases r with
  | stuck => exact f
  | ok a h => exact fun ρ2 H b p2 => f ρ2 H b (p.trans p2)
  | ex c xs h => exact fun ρ2 H cls d p2 => f ρ2 H cls d (p.trans p2)
theorem tM.bind {α β γ δ : Type} {en : En} {W : WX} {R1 : List Addr → α → β → Prop} {R2 : List Addr → γ → δ → Prop} {ma : SS → SH → Res α} {k : α → SS → SH → Res γ} {σ : L2.St} {H : Hp} {Q : δ → Hp → Prop}
    (t : tM en W R2 (fun ss h => (ma ss h).bind fun a h1 => k a ss h1) σ H Q) :
    tM en W R1 ma σ H fun b H1 => ∃ ρ ss h a, Rel en ρ h H1 ∧ RSl en ρ ss σ ∧ R1 ρ a b ∧ fin en W R2 σ ρ (k a ss h) Q := by
  obtain ⟨ρ, ss, h, rel, rs, f⟩ := t
  refine ⟨ρ, ss, h, rel, rs, ?_⟩
  cases e : ma ss h with
  | stuck => simp only [e, Res.bind, fin] at f
  | ok a h1 =>
    simp only [e, Res.bind] at f
    exact fun ρ' H' b p rel' rb => ⟨ρ', ss, h1, a, rel', rs.mono p, rb, f.mono p⟩
  | ex c xs h1 =>
    simp only [e, Res.bind, fin] at f
    exact f
theorem tM.imp {α β : Type} {en : En} {W : WX} {R : List Addr → α → β → Prop} {m : SS → SH → Res α} {σ : L2.St} {H : Hp} {Q Q' : β → Hp → Prop} (t : tM en W R m σ H Q) (k : ∀ b H, Q b H → Q' b H) : tM en W R m σ H Q' := by
  obtain ⟨ρ, ss, h, rel, rs, f⟩ := t
  refine ⟨ρ, ss, h, rel, rs, ?_⟩
  cases e : m ss h with
  | stuck => rw [e] at f; exact f
  | ok a h1 => rw [e] at f; exact fun ρ' H' b p r q => k _ _ (f ρ' H' b p r q)
  | ex c xs h1 => rw [e] at f; exact f
theorem PEimp {X : Cx} {e : Expr} {t t' : TE} (h : PE X e t) (k : ∀ σ H Q, t' σ H Q → t σ H Q) : PE X e t' := ⟨fun pins s σ H Q I q => h.run pins s σ H Q I (k σ H Q q)⟩
theorem PTimp {X : Cx} {e : Expr} {t t' : TT} (h : PT X e t) (k : ∀ σ H Q, t' σ H Q → t σ H Q) : PT X e t' := ⟨fun pins s σ H Q I q => h.run pins s σ H Q I (k σ H Q q)⟩
theorem PWimp {X : Cx} {e : Expr} {t t' : TT} (h : PW X e t) (k : ∀ σ H Q, t' σ H Q → t σ H Q) : PW X e t' := ⟨fun wh pins s σ H Q I q => h.run wh pins s σ H Q I (k σ H Q q)⟩
theorem PAimp {X : Cx} {e : List Expr} {t t' : TA} (h : PA X e t) (k : ∀ σ H Q, t' σ H Q → t σ H Q) : PA X e t' := ⟨fun ps pins s σ H Q I q => h.run ps pins s σ H Q I (k σ H Q q)⟩
theorem PSimp {X : Cx} {e : Stmt} {t t' : TS} (h : PS X e t) (k : ∀ D σ H, t' D σ H → t D σ H) : PS X e t' := ⟨fun pins s σ H D I q => h.run pins s σ H D I (k D σ H q)⟩
theorem PSsimp {X : Cx} {e : List Stmt} {t t' : TS} (h : PSs X e t) (k : ∀ D σ H, t' D σ H → t D σ H) : PSs X e t' := ⟨fun pins s σ H D I q => h.run pins s σ H D I (k D σ H q)⟩
/-! ### operations by values -/
abbrev O1 := SV → SH → Option (SV × SH)
abbrev O2 := SV → SV → SH → Option (SV × SH)
abbrev OA := List SV → SH → Option (SV × SH)
def lift {α : Type} (o : Option (α × SH)) : Res α := match o with
  | some (a, h) => .ok a h
  | none => .stuck
/-- what is wanted of an operation's answer -/
def finO (en : En) (ρ : List Addr) (o : Option (SV × SH)) (Q : V → Hp → Prop) : Prop := ∃ a h, o = some (a, h) ∧ ∀ ρ' H b, Pre ρ ρ' → Rel en ρ' h H → RS en ρ' a b → Q b H
theorem fin.lift {en : En} {W : WX} {σ : L2.St} {ρ : List Addr} {o : Option (SV × SH)} {Q : V → Hp → Prop} (f : fin en W (RS en) σ ρ (lift o) Q) : finO en ρ o Q := by
  cases o with
  | none => exact f.elim
  | some p => exact ⟨p.1, p.2, rfl, f⟩
def rO2 (en : En) (op : O2) : R2 := fun x y H Q => ∃ ρ h a b, Rel en ρ h H ∧ RS en ρ a x ∧ RS en ρ b y ∧ finO en ρ (op a b h) Q
def rO1 (en : En) (op : O1) : V → Hp → VK → Prop := fun x H Q => ∃ ρ h a, Rel en ρ h H ∧ RS en ρ a x ∧ finO en ρ (op a h) Q
def rOA (en : En) (op : OA) : List V → Hp → VK → Prop := fun xs H Q => ∃ ρ h as, Rel en ρ h H ∧ RSs en ρ as xs ∧ finO en ρ (op as h) Q
def mO2 (op : O2) (ma mb : EM) : EM := fun ss h => (ma ss h).bind fun a h1 => (mb ss h1).bind fun b h2 => lift (op a b h2)
def mO1 (op : O1) (ma : EM) : EM := fun ss h => (ma ss h).bind fun a h1 => lift (op a h1)
def mOA (op : OA) (ma : AM) : EM := fun ss h => (ma ss h).bind fun a h1 => lift (op a h1)
section
variable {X : Cx} {en : En} {W : WX} {a b : Expr} {ma mb : EM} {pos : Pos}
theorem tO2 {op : O2} (σ : L2.St) (H : Hp) (Q : VK) (t : tE en W (mO2 op ma mb) σ H Q) : tOp (rO2 en op) (tE en W ma) (tE en W mb) σ H Q := by
  refine (tM.bind (R1 := RS en) (k := fun a ss h => (mb ss h).bind fun b h2 => lift (op a b h2)) t).imp fun x H1 ⟨ρ, ss, h, a, rel, rs, ra, f⟩ => ?_
  have t2 : tM en W (RS en) (fun ss h => (mb ss h).bind fun b h2 => (fun b (ss : SS) h2 => lift (op a b h2)) b ss h2) σ H1 Q := ⟨ρ, ss, h, rel, rs, f⟩
  obtain ⟨ρ2, ss2, h2, rel2, rs2, f2⟩ := t2
  -- keep a's relation: rebuild with the places at hand
  refine ⟨ρ, ss, h, rel, rs, ?_⟩
  cases e : mb ss h with
  | stuck => simp only [e, Res.bind, fin] at f
  | ok b h1 =>
    simp only [e, Res.bind] at f
    exact fun ρ' H' u p rel' rb => ⟨ρ', h1, a, b, rel', ra.mono p, rb, (f.mono p).lift⟩
  | ex c xs h1 =>
    simp only [e, Res.bind, fin] at f
    exact f
theorem PE.o2 {op : Operator} {o : O2} (ho : OpR X (binaryOp op) (rO2 en o)) (ha : PE X a (tE en W ma)) (hb : PE X b (tE en W mb)) : PE X (.BinOp a op b pos) (tE en W (mO2 o ma mb)) := PEimp (pe_op ho ha hb) fun σ H Q t => tO2 σ H Q t
theorem PE.cmp {op : CmpOp} {o : O2} (ho : OpR X (compareOp op) (rO2 en o)) (ha : PE X a (tE en W ma)) (hb : PE X b (tE en W mb)) (hm : behindInMarks op b = false) : PE X (.Compare a [op] [b] pos) (tE en W (mO2 o ma mb)) := PEimp (pe_cmpR ho ha hb hm) fun σ H Q t => tO2 σ H Q t
/-- a meaning that gives a Bool, as a test -/
def mB (m : EM) : BM := fun ss h => (m ss h).bind fun v h1 => match v with
  | .bl b => .ok b h1
  | _ => .stuck
theorem tBool {m : EM} (σ : L2.St) (H : Hp) (Q : Bool → Hp → Prop) (t : tT en W (mB m) σ H Q) : tB (tE en W m) σ H Q := by
  refine (tM.bind (R1 := RS en) (k := fun v ss h1 => match v with | .bl b => .ok b h1 | _ => .stuck) t).imp fun x H1 ⟨ρ, ss, h, v, rel, rs, rv, f⟩ => ?_
  cases v with
  | bl b =>
    cases rv
    exact ⟨b, rfl, f ρ H1 b (Pre.refl ρ) rel rfl⟩
  | _ => exact f.elim
theorem PT.val {e : Expr} {m : EM} (h : PE X e (tE en W m)) (he : ∀ whole, isTrue e X.env whole = (do let v ← whole; standAt e.pos; holding [v] (truthy v)) := by intro _; rfl) : PT X e (tT en W (mB m)) := PTimp (pt_val h he) fun σ H Q t => tBool σ H Q t
/-! names, constants -/
def mVar (i : Nat) : EM := fun ss h => match ss[i]? with
  | some (some v) => .ok v h
  | _ => .stuck
def mC (v : SV) : EM := fun _ h => .ok v h
theorem PE.var (i : Nat) {x : Str} (hN : X.N[i]? = some x := by rfl) (hv : Vis X.env.scope x := by first | exact Or.inl rfl | exact Or.inr (Or.inl rfl) | exact Or.inr (Or.inr rfl)) (hd : (x == ("__debug__" : Str)) = false := by decide)
    (hcd : (x == ("__classdict__" : Str)) = false := by decide) : PE X (.Name x pos) (tE en W (mVar i)) := by
  refine PEimp (pe_var hN hv hd hcd) fun σ H Q ⟨ρ, ss, h, rel, rs, f⟩ => ?_
  unfold mVar at f
  cases e : ss[i]? with
  | none => rw [e] at f; exact f.elim
  | some o =>
    cases o with
    | none => rw [e] at f; exact f.elim
    | some v =>
      rw [e] at f
      obtain ⟨u, eu, r⟩ := rs.at_ i v e
      exact ⟨u, eu, f ρ H u (Pre.refl ρ) rel r⟩
theorem constOf {v : SV} {u : V} (hr : ∀ ρ, RS en ρ v u) (σ : L2.St) (H : Hp) (Q : VK) (t : tE en W (mC v) σ H Q) : tC u σ H Q := by
  obtain ⟨ρ, ss, h, rel, rs, f⟩ := t
  exact f ρ H u (Pre.refl ρ) rel (hr ρ)
theorem PE.int {i : Int} {j : Nat} : PE X (.Constant (.int i) j pos) (tE en W (mC (.int i))) := PEimp pe_int (constOf fun _ => rfl)
theorem PE.bl {i : Bool} {j : Nat} : PE X (.Constant (.bool i) j pos) (tE en W (mC (.bl i))) := PEimp pe_bl (constOf fun _ => rfl)
theorem PE.non {j : Nat} : PE X (.Constant .none j pos) (tE en W (mC .non)) := PEimp pe_non (constOf fun _ => rfl)
theorem PE.str {x : Str} {j : Nat} : PE X (.Constant (.str x) j pos) (tE en W (mC (.str x))) := PEimp pe_str (constOf fun _ => rfl)
end
end Fw
namespace Fw
open PySem PySem.Spec L2
theorem OpRimp {X : Cx} {f : Value → Value → Sem Value} {r r' : R2} (h : OpR X f r) (k : ∀ x y H Q, r' x y H Q → r x y H Q) : OpR X f r' := fun pins s σ H x y v u Q I rx ry q => h pins s σ H x y v u Q I rx ry (k _ _ _ _ q)
theorem CallRimp {X : Cx} {f : Value} {r r' : List V → Hp → VK → Prop} (h : CallR X f r) (k : ∀ xs H Q, r' xs H Q → r xs H Q) : CallR X f r' := fun pins s σ H xs us Q I r q => h pins s σ H xs us Q I r (k _ _ _ q)
def big : Nat := 16777216
theorem big_eq : (sizeLine : Nat) = big := by rw [sizeLine_eq]; rfl
/-- a new object -/
def alloc (o : SO) : SH → Option (SV × SH) := fun h => some (.ref h.length, h ++ [o])
section
variable {X : Cx} {en : En}
/-- what stays: the places at hand, the answer without objects -/
theorem finO.here {ρ : List Addr} {h : SH} {H : Hp} {a : SV} {b : V} {Q : V → Hp → Prop} (f : finO en ρ (some (a, h)) Q) (rel : Rel en ρ h H) (r : RS en ρ a b) : Q b H := by
  obtain ⟨a', h', e, k⟩ := f
  cases e
  exact k ρ H b (Pre.refl ρ) rel r
theorem finO.new {ρ : List Addr} {h : SH} {H : Hp} {o : SO} {Q : V → Hp → Prop} (f : finO en ρ (alloc o h) Q) (rel : Rel en ρ h H) {p : Addr} {u : HO} (hp : H p = none) (r : RO en (ρ ++ [p]) (upd H p u) p o) : Q (.ref p) (upd H p u) := by
  obtain ⟨a', h', e, k⟩ := f
  cases e
  exact k (ρ ++ [p]) _ _ (Pre.one ρ p) (rel.push hp r) ⟨p, by rw [← rel.len, List.getElem?_append_right (Nat.le_refl _)]; simp, rfl⟩
theorem finO.newLst {ρ : List Addr} {h : SH} {H : Hp} {xs : List SV} {vs : List V} {Q : V → Hp → Prop} (f : finO en ρ (alloc (.lst xs) h) Q) (rel : Rel en ρ h H) (r : RSs en ρ xs vs) : ∀ p, H p = none → Q (.ref p) (upd H p (.lst vs)) :=
  fun p hp => f.new rel hp ⟨vs, upd_same, r.mono (Pre.one ρ p)⟩
theorem finO.newTup {ρ : List Addr} {h : SH} {H : Hp} {xs : List SV} {vs : List V} {Q : V → Hp → Prop} (f : finO en ρ (alloc (.tup xs) h) Q) (rel : Rel en ρ h H) (r : RSs en ρ xs vs) : ∀ p, H p = none → Q (.ref p) (upd H p (.tup vs)) :=
  fun p hp => f.new rel hp ⟨vs, upd_same, r.mono (Pre.one ρ p)⟩
theorem finO.put {ρ : List Addr} {h : SH} {H : Hp} {a : SV} {b : V} {i : Nat} {o : SO} {Q : V → Hp → Prop} (f : finO en ρ (some (a, h.set i o)) Q) (rel : Rel en ρ h H) {p : Addr} {u : HO} (hp : ρ[i]? = some p) (r : RO en ρ (upd H p u) p o) (rb : RS en ρ a b) : Q b (upd H p u) := by
  obtain ⟨a', h', e, k⟩ := f
  cases e
  exact k ρ _ _ (Pre.refl ρ) (rel.put hp r) rb
theorem RSs.len {en : En} {ρ : List Addr} : ∀ {xs : List SV} {vs : List V}, RSs en ρ xs vs → xs.length = vs.length := fun r => Paired.length r
theorem RSs.app {en : En} {ρ : List Addr} : ∀ {xs ys : List SV} {vs ws : List V}, RSs en ρ xs vs → RSs en ρ ys ws → RSs en ρ (xs ++ ys) (vs ++ ws)
  | _, _, _, _, .nil, s => s
  | _, _, _, _, .cons r t, s => .cons r (RSs.app t s)
theorem RSs.get {en : En} {ρ : List Addr} : ∀ {xs : List SV} {vs : List V} {i : Nat} {x : SV}, RSs en ρ xs vs → xs[i]? = some x → ∃ v, vs[i]? = some v ∧ RS en ρ x v
  | _, _, _, _, .nil, e => by simp at e
  | _, _, 0, _, .cons r _, e => by simp at e; subst e; exact ⟨_, rfl, r⟩
  | _, _, i + 1, x, .cons _ t, e => by
    obtain ⟨u, h1, h2⟩ := RSs.get (i := i) (x := x) t (by simpa using e)
    exact ⟨u, by simpa using h1, h2⟩
theorem RSs.set {en : En} {ρ : List Addr} {x : SV} {v : V} (r : RS en ρ x v) : ∀ {xs : List SV} {vs : List V} (i : Nat), RSs en ρ xs vs → RSs en ρ (xs.set i x) (vs.set i v)
  | _, _, _, .nil => .nil
  | _, _, 0, .cons _ t => .cons r t
  | _, _, i + 1, .cons q t => .cons q (RSs.set r i t)
theorem RSs.take {en : En} {ρ : List Addr} : ∀ {xs : List SV} {vs : List V} (n : Nat), RSs en ρ xs vs → RSs en ρ (xs.take n) (vs.take n)
  | _, _, 0, _ => .nil
  | _, _, _ + 1, .nil => .nil
  | _, _, n + 1, .cons r t => .cons r (RSs.take n t)
theorem RSs.drop {en : En} {ρ : List Addr} : ∀ {xs : List SV} {vs : List V} (n : Nat), RSs en ρ xs vs → RSs en ρ (xs.drop n) (vs.drop n)
  | _, _, 0, r => r
  | _, _, _ + 1, .nil => .nil
  | _, _, n + 1, .cons _ t => RSs.drop n t
/-- a list's object -/
theorem Rel.lst {ρ : List Addr} {h : SH} {H : Hp} (R : Rel en ρ h H) {i : Nat} {xs : List SV} {v : V} (e : h[i]? = some (.lst xs)) (r : RS en ρ (.ref i) v) : ∃ p vs, v = .ref p ∧ ρ[i]? = some p ∧ H p = some (.lst vs) ∧ RSs en ρ xs vs := by
  obtain ⟨p, ep, rfl⟩ := r
  obtain ⟨vs, e1, q⟩ := R.at2 ep e
  exact ⟨p, vs, rfl, ep, e1, q⟩
theorem Rel.tup {ρ : List Addr} {h : SH} {H : Hp} (R : Rel en ρ h H) {i : Nat} {xs : List SV} {v : V} (e : h[i]? = some (.tup xs)) (r : RS en ρ (.ref i) v) : ∃ p vs, v = .ref p ∧ ρ[i]? = some p ∧ H p = some (.tup vs) ∧ RSs en ρ xs vs := by
  obtain ⟨p, ep, rfl⟩ := r
  obtain ⟨vs, e1, q⟩ := R.at2 ep e
  exact ⟨p, vs, rfl, ep, e1, q⟩
/-! ### + - * // % ** -/
def opAdd : O2 := fun a b h => match a, b with
  | .int i, .int j => some (.int (i + j), h)
  | .str x, .str y => if x.length + y.length ≤ big then some (.str (x ++ y), h) else none
  | .ref i, .ref j => match h[i]?, h[j]? with
    | some (.lst xs), some (.lst ys) => if xs.length + ys.length ≤ big then alloc (.lst (xs ++ ys)) h else none
    | _, _ => none
  | _, _ => none
theorem op_addM : OpR X (binaryOp .Add) (rO2 en opAdd) := by
  refine OpRimp (op_add.or (op_add_str.or op_cat)) fun x y H Q ⟨ρ, h, a, b, rel, ra, rb, v, h', e, k⟩ => ?_
  unfold opAdd at e
  split at e
  · cases ra; cases rb
    exact .inl ⟨_, _, rfl, rfl, finO.here ⟨_, _, e, k⟩ rel rfl⟩
  · cases ra; cases rb
    split at e
    · exact .inr (.inl ⟨_, _, rfl, rfl, by rw [big_eq]; assumption, finO.here ⟨_, _, e, k⟩ rel rfl⟩)
    · cases e
  · split at e
    · rename_i ei ej
      split at e
      · obtain ⟨p, vs, rfl, ep, e1, r1⟩ := rel.lst ei ra
        obtain ⟨q, ws, rfl, eq, e2, r2⟩ := rel.lst ej rb
        exact .inr (.inr ⟨p, q, vs, ws, rfl, rfl, e1, e2, by rw [big_eq, ← r1.len, ← r2.len]; assumption, finO.newLst ⟨_, _, e, k⟩ rel (r1.app r2)⟩)
      · cases e
    · cases e
  · cases e
end
end Fw
namespace Fw
open PySem PySem.Spec L2
section
variable {X : Cx} {en : En}
def opSub : O2 := fun a b h => match a, b with
  | .int i, .int j => some (.int (i - j), h)
  | _, _ => none
theorem op_subM : OpR X (binaryOp .Sub) (rO2 en opSub) := by
  refine OpRimp op_sub fun x y H Q ⟨ρ, h, a, b, rel, ra, rb, v, h', e, k⟩ => ?_
  unfold opSub at e
  split at e
  · cases ra; cases rb
    exact ⟨_, _, rfl, rfl, finO.here ⟨_, _, e, k⟩ rel rfl⟩
  · cases e
def okMul (i j : Int) : Bool := decide ((-18446744073709551616 < i ∧ i < 18446744073709551616) ∨ (-18446744073709551616 < j ∧ j < 18446744073709551616))
theorem okMul_of {i j : Int} (h : okMul i j = true) : CMul i j := by
  have e : (2 : Int) ^ 64 = 18446744073709551616 := by decide
  unfold CMul
  rw [e]
  exact of_decide_eq_true h
/-- k times the items -/
def repS : Nat → List SV → List SV
  | 0, _ => []
  | n + 1, xs => xs ++ repS n xs
theorem repS_rel {ρ : List Addr} {xs : List SV} {vs : List V} (r : RSs en ρ xs vs) : ∀ n, RSs en ρ (repS n xs) (List.replicate n vs).flatten
  | 0 => .nil
  | n + 1 => by
    rw [List.replicate_succ, List.flatten_cons]
    exact r.app (repS_rel r n)
def opMul : O2 := fun a b h => match a, b with
  | .int i, .int j => if okMul i j = true then some (.int (i * j), h) else none
  | .ref i, .int k => match h[i]? with
    | some (.lst xs) => if k ≤ 16777216 ∧ -16777216 ≤ k ∧ xs.length * k.toNat ≤ big then alloc (.lst (repS k.toNat xs)) h else none
    | _ => none
  | _, _ => none
theorem op_mulM : OpR X (binaryOp .Mult) (rO2 en opMul) := by
  refine OpRimp (op_mul.or op_rep) fun x y H Q ⟨ρ, h, a, b, rel, ra, rb, v, h', e, k⟩ => ?_
  unfold opMul at e
  split at e
  · cases ra; cases rb
    split at e
    · rename_i hk
      exact .inl ⟨_, _, rfl, rfl, okMul_of hk, finO.here ⟨_, _, e, k⟩ rel rfl⟩
    · cases e
  · split at e
    · rename_i ei
      split at e
      · rename_i hk
        cases rb
        obtain ⟨p, vs, rfl, ep, e1, r1⟩ := rel.lst ei ra
        exact .inr ⟨p, _, vs, rfl, rfl, e1, by omega, by omega, by rw [big_eq, ← r1.len]; exact hk.2.2, finO.newLst ⟨_, _, e, k⟩ rel (repS_rel r1 _)⟩
      · cases e
    · cases e
  · cases e
def opFdiv : O2 := fun a b h => match a, b with
  | .int i, .int j => if 0 < j ∧ j.natAbs.log2 < 9000 then some (.int (i / j), h) else none
  | _, _ => none
theorem op_fdivM : OpR X (binaryOp .FloorDiv) (rO2 en opFdiv) := by
  refine OpRimp op_fdivW fun x y H Q ⟨ρ, h, a, b, rel, ra, rb, v, h', e, k⟩ => ?_
  unfold opFdiv at e
  split at e
  · cases ra; cases rb
    split at e
    · rename_i hk
      exact ⟨_, _, rfl, rfl, hk, finO.here ⟨_, _, e, k⟩ rel rfl⟩
    · cases e
  · cases e
def opMod : O2 := fun a b h => match a, b with
  | .int i, .int j => if 0 < j then some (.int (i % j), h) else none
  | _, _ => none
theorem op_modM : OpR X (binaryOp .Mod) (rO2 en opMod) := by
  refine OpRimp op_mod fun x y H Q ⟨ρ, h, a, b, rel, ra, rb, v, h', e, k⟩ => ?_
  unfold opMod at e
  split at e
  · cases ra; cases rb
    split at e
    · rename_i hk
      exact ⟨_, _, rfl, rfl, hk, finO.here ⟨_, _, e, k⟩ rel rfl⟩
    · cases e
  · cases e
def opPow : O2 := fun a b h => match a, b with
  | .int i, .int j => if 0 ≤ j ∧ (Builtin.Int.intBits i : Int) * j ≤ 134217728 then some (.int (i ^ j.toNat), h) else none
  | _, _ => none
theorem op_powW : OpR X (binaryOp .Pow) (rI (fun i j => 0 ≤ j ∧ (Builtin.Int.intBits i : Int) * j ≤ 134217728) fun i j => .int (i ^ j.toNat)) := opI fun i j _ _ _ _ _ hc q => PyProof.Rows.pow_int hc.1 hc.2 q
theorem op_powM : OpR X (binaryOp .Pow) (rO2 en opPow) := by
  refine OpRimp op_powW fun x y H Q ⟨ρ, h, a, b, rel, ra, rb, v, h', e, k⟩ => ?_
  unfold opPow at e
  split at e
  · cases ra; cases rb
    split at e
    · rename_i hk
      exact ⟨_, _, rfl, rfl, hk, finO.here ⟨_, _, e, k⟩ rel rfl⟩
    · cases e
  · cases e
def opNeg : O1 := fun a h => match a with
  | .int i => some (.int (-i), h)
  | _ => none
theorem op_negM : UnR X (unaryOp .USub) (rO1 en opNeg) := fun pins s σ H x v Q I rx ⟨ρ, h, a, rel, ra, w, h', e, k⟩ => by
  unfold opNeg at e
  split at e
  · cases ra
    exact un_neg pins s σ H _ v Q I rx ⟨_, rfl, finO.here ⟨_, _, e, k⟩ rel rfl⟩
  · cases e
theorem PE.un {W : WX} {a : Expr} {ma : EM} {pos : Pos} {op : UnaryOp} {o : O1} (ho : UnR X (unaryOp op) (rO1 en o)) (ha : PE X a (tE en W ma)) : PE X (.UnaryOp op a pos) (tE en W (mO1 o ma)) :=
  PEimp (pe_un ho ha) fun σ H Q t => (tM.bind (R1 := RS en) (k := fun a ss h => lift (o a h)) t).imp fun x H1 ⟨ρ, ss, h, a, rel, rs, ra, f⟩ => ⟨ρ, h, a, rel, ra, f.lift⟩
/-! ### < <= > >= of ints (and <= of one-sign texts), is None -/
def opLt : O2 := fun a b h => match a, b with
  | .int i, .int j => some (.bl (decide (i < j)), h)
  | _, _ => none
def opLe : O2 := fun a b h => match a, b with
  | .int i, .int j => some (.bl (decide (i ≤ j)), h)
  | .str x, .str y => some (.bl (!decide (y.cps.toList < x.cps.toList)), h)
  | _, _ => none
def opGt : O2 := fun a b h => match a, b with
  | .int i, .int j => some (.bl (decide (j < i)), h)
  | _, _ => none
def opGe : O2 := fun a b h => match a, b with
  | .int i, .int j => some (.bl (decide (j ≤ i)), h)
  | _, _ => none
theorem op_ltM : OpR X (compareOp .Lt) (rO2 en opLt) := by
  refine OpRimp op_lt fun x y H Q ⟨ρ, h, a, b, rel, ra, rb, v, h', e, k⟩ => ?_
  unfold opLt at e
  split at e
  · cases ra; cases rb
    exact ⟨_, _, rfl, rfl, finO.here ⟨_, _, e, k⟩ rel rfl⟩
  · cases e
theorem op_gtM : OpR X (compareOp .Gt) (rO2 en opGt) := by
  refine OpRimp op_gt fun x y H Q ⟨ρ, h, a, b, rel, ra, rb, v, h', e, k⟩ => ?_
  unfold opGt at e
  split at e
  · cases ra; cases rb
    exact ⟨_, _, rfl, rfl, finO.here ⟨_, _, e, k⟩ rel rfl⟩
  · cases e
theorem op_geM : OpR X (compareOp .GtE) (rO2 en opGe) := by
  refine OpRimp op_ge fun x y H Q ⟨ρ, h, a, b, rel, ra, rb, v, h', e, k⟩ => ?_
  unfold opGe at e
  split at e
  · cases ra; cases rb
    exact ⟨_, _, rfl, rfl, finO.here ⟨_, _, e, k⟩ rel rfl⟩
  · cases e
theorem op_leM : OpR X (compareOp .LtE) (rO2 en opLe) := by
  refine OpRimp (op_le.or op_le_str) fun x y H Q ⟨ρ, h, a, b, rel, ra, rb, v, h', e, k⟩ => ?_
  unfold opLe at e
  split at e
  · cases ra; cases rb
    exact .inl ⟨_, _, rfl, rfl, finO.here ⟨_, _, e, k⟩ rel rfl⟩
  · cases ra; cases rb
    exact .inr ⟨_, _, rfl, rfl, finO.here ⟨_, _, e, k⟩ rel rfl⟩
  · cases e
def opIsN : O2 := fun a b h => match b with
  | .non => some (.bl (decide (a = .non)), h)
  | _ => none
def opNotN : O2 := fun a b h => match b with
  | .non => some (.bl (!decide (a = .non)), h)
  | _ => none
theorem RS.non_iff {en : En} {ρ : List Addr} {a : SV} {x : V} (r : RS en ρ a x) : decide (a = .non) = decide (x = .non) := by
  cases a with
  | ref i => obtain ⟨p, _, rfl⟩ := r; rfl
  | scr ns => obtain ⟨rfl, _⟩ := r; rfl
  | _ => cases r; rfl
theorem op_isNM : OpR X (compareOp .Is) (rO2 en opIsN) := by
  refine OpRimp op_isN fun x y H Q ⟨ρ, h, a, b, rel, ra, rb, v, h', e, k⟩ => ?_
  unfold opIsN at e
  split at e
  · cases rb
    refine ⟨rfl, ?_⟩
    rw [← ra.non_iff]
    exact finO.here ⟨_, _, e, k⟩ rel rfl
  · cases e
theorem op_notNM : OpR X (compareOp .IsNot) (rO2 en opNotN) := by
  refine OpRimp op_notN fun x y H Q ⟨ρ, h, a, b, rel, ra, rb, v, h', e, k⟩ => ?_
  unfold opNotN at e
  split at e
  · cases rb
    refine ⟨rfl, ?_⟩
    rw [← ra.non_iff]
    exact finO.here ⟨_, _, e, k⟩ rel rfl
  · cases e
end
end Fw
namespace Fw
open PySem PySem.Spec L2
/-- an object's places read as data -/
def dataAll (f : SV → Option PyData) : List SV → Option (List PyData)
  | [] => some []
  | x :: xs => match f x with
    | none => none
    | some d => match dataAll f xs with
      | none => none
      | some ds => some (d :: ds)
def keyD : Key → PyData
  | .inl i => .int i
  | .inr x => .str x
def dataOf : Nat → SH → SV → Option PyData
  | 0, _, _ => none
  | n + 1, h, v => match v with
    | .non => some .none
    | .bl b => some (.bool b)
    | .int i => some (.int i)
    | .str x => some (.str x)
    | .scr _ => none
    | .ref i => match h[i]? with
      | some (.lst xs) => (dataAll (dataOf n h) xs).map .list
      | some (.tup xs) => (dataAll (dataOf n h) xs).map .tuple
      | some (.dK kvs) => (dataAll (dataOf n h) (kvs.map (·.2))).map fun ds => .dict ((kvs.map fun p => keyD p.1).zip ds)
      | _ => none
theorem paired_map {α β γ δ : Type} {R : α → β → Prop} {R' : γ → δ → Prop} {f : α → γ} {g : β → δ} (k : ∀ a b, R a b → R' (f a) (g b)) : ∀ {xs : List α} {ys : List β}, Paired R xs ys → Paired R' (xs.map f) (ys.map g)
  | _, _, .nil => .nil
  | _, _, .cons r t => .cons (k _ _ r) (paired_map k t)
theorem paired_eq {α : Type} : ∀ {xs ys : List α}, Paired Eq xs ys → xs = ys
  | _, _, .nil => rfl
  | _, _, .cons r t => by rw [r, paired_eq t]
theorem readsAll_len {h : Heap} : ∀ {vs : List Value} {ds : List PyData} {as : List Addr}, ReadsAll h vs ds as → vs.length = ds.length
  | _, _, _, .nil => rfl
  | _, _, _, .cons _ t => by rw [List.length_cons, List.length_cons, readsAll_len t]
section
variable {X : Cx} {en : En} {pins : List (Addr × Obj)} {σ : L2.St} {H : Hp} {s : Shared} {ρ : List Addr} {h : SH}
theorem pairs_keys {P : Program} {w : World} : ∀ {es : List DictEntry} {kvs : List (Key × Value)}, Pairs (mixKind P w) es kvs → ReadsAll s.heap (es.map (·.key)) (kvs.map fun p => keyD p.1) []
  | _, _, .nil => .nil
  | e :: es, (k, v) :: kvs, .cons hk hv t => by
    have r : Reads s.heap e.key (keyD k) [] := by
      have hk' : keyIs k e.key = true := hk
      rcases keyIs_shape hk' with ⟨i, u, e1, e2⟩ | ⟨x, u, e1, e2⟩
      · have e1' : k = .inl i := e1
        subst e1'; rw [e2]; exact Reads.int i u
      · have e1' : k = .inr x := e1
        subst e1'; rw [e2]; exact Reads.str x u
    exact ReadsAll.cons r (pairs_keys t)
theorem pairs_vals {P : Program} {w : World} : ∀ {es : List DictEntry} {kvs : List (Key × Value)}, Pairs (mixKind P w) es kvs → es.map (·.val) = kvs.map (·.2)
  | _, _, .nil => rfl
  | e :: es, (k, v) :: kvs, .cons hk hv t => by
    show e.val :: es.map (·.val) = v :: kvs.map (·.2)
    rw [pairs_vals t, hv]
/-- the trackable places of data are not sys.modules -/
theorem reads_of (I : Inv X pins σ H s) (hsm : ∃ o, X.base.get? sysModules = some o) (rel : Rel en ρ h H) : ∀ (n : Nat) (v : SV) (d : PyData) (x : V) (u : Value), dataOf n h v = some d → RS en ρ v x → RelV x u → ∃ as, Reads s.heap u d as ∧ sysModules ∉ as := by
  have ns : ∀ a o, H a = some o → a ≠ sysModules := fun a o e z => by
    obtain ⟨ob, eb⟩ := hsm
    have := (I.bs _ _ eb).2
    rw [← z, e] at this; cases this
  intro n
  induction n with
  | zero => intro v d x u e; cases e
  | succ n ih =>
    have all : ∀ (vs : List SV) (ds : List PyData) (xs : List V) (us : List Value), dataAll (dataOf n h) vs = some ds → RSs en ρ vs xs → Vals xs us → ∃ as, ReadsAll s.heap us ds as ∧ sysModules ∉ as := by
      intro vs
      induction vs with
      | nil => intro ds xs us e r r2; cases r; cases r2; cases e; exact ⟨_, .nil, by simp⟩
      | cons v vs ihv =>
        intro ds xs us e r r2
        cases r with
        | cons r rt =>
          cases r2 with
          | cons r2 rt2 =>
            unfold dataAll at e
            split at e
            · cases e
            · rename_i d ed
              split at e
              · cases e
              · rename_i ds' eds
                cases e
                obtain ⟨as, q1, n1⟩ := ih _ _ _ _ ed r r2
                obtain ⟨bs, q2, n2⟩ := ihv _ _ _ eds rt rt2
                exact ⟨_, .cons q1 q2, by simp [n1, n2]⟩
    intro v d x u e r r2
    unfold dataOf at e
    split at e
    · cases e; cases r; cases r2; exact ⟨_, Reads.none, by simp⟩
    · cases e; cases r; cases r2; exact ⟨_, Reads.bool _, by simp⟩
    · cases e; cases r; obtain ⟨t, rfl⟩ := r2; exact ⟨_, Reads.int _ t, by simp⟩
    · cases e; cases r; obtain ⟨t, rfl⟩ := r2; exact ⟨_, Reads.str _ t, by simp⟩
    · cases e
    · split at e
      · rename_i xs ei
        obtain ⟨p, vs, rfl, ep, e1, r1⟩ := rel.lst ei r
        cases r2
        cases eds : dataAll (dataOf n h) xs with
        | none => rw [eds] at e; cases e
        | some ds =>
          rw [eds] at e; cases e
          obtain ⟨its, rv, ⟨o, n', ho, hc, _, hd⟩, _⟩ := I.list (SqL.of (K := X.K) e1)
          obtain ⟨as, hr, hn⟩ := all _ _ _ _ eds r1 rv
          exact ⟨_, Reads.list ho hc hd hr, by simp [hn]; exact fun z => ns _ _ e1 z.symm⟩
      · rename_i xs ei
        obtain ⟨p, vs, rfl, ep, e1, r1⟩ := rel.tup ei r
        cases r2
        cases eds : dataAll (dataOf n h) xs with
        | none => rw [eds] at e; cases e
        | some ds =>
          rw [eds] at e; cases e
          obtain ⟨its, rv, ⟨o, ho, hc, n', hd⟩, _⟩ := I.tuple (SqT.of (K := X.K) e1)
          obtain ⟨as, hr, hn⟩ := all _ _ _ _ eds r1 rv
          exact ⟨_, Reads.tuple ho hc hd hr, hn⟩
      · rename_i kvs ei
        obtain ⟨p, ep, rfl⟩ := r
        obtain ⟨kws, e1, r1⟩ := rel.at2 ep ei
        cases r2
        cases eds : dataAll (dataOf n h) (kvs.map (·.2)) with
        | none => rw [eds] at e; cases e
        | some ds =>
          rw [eds] at e; cases e
          obtain ⟨_, hsm', vs, rv, o, es, epp, ho, hx, hd, _, hp, _⟩ := dk_of I.hok e1
          have rs : RSs en ρ (kvs.map (·.2)) (kws.map (·.2)) := paired_map (fun _ _ q => q.2) r1
          have rvs : Vals (kws.map (·.2)) (vs.map (·.2)) := paired_map (fun _ _ q => q.2) rv
          have ks : (kvs.map fun p => keyD p.1) = vs.map fun p => keyD p.1 := by
            have k1 : kvs.map (·.1) = kws.map (·.1) := paired_eq (paired_map (fun _ _ q => q.1) r1)
            have k2 : kws.map (·.1) = vs.map (·.1) := paired_eq (paired_map (fun _ _ q => q.1) rv)
            have k3 := congrArg (List.map keyD) (k1.trans k2)
            rw [List.map_map, List.map_map] at k3
            exact k3
          obtain ⟨as, hr, hn⟩ := all _ _ _ _ eds rs rvs
          have hl : ds.length = (vs.map fun p => keyD p.1).length := by
            have l1 := readsAll_len hr
            rw [List.length_map] at l1 ⊢
            exact l1.symm
          refine ⟨_, Reads.dict (kvs := (kvs.map fun p => keyD p.1).zip ds) (as := []) (bs := as) ho hx.1 hd ?_ ?_, ?_⟩
          · rw [ks, List.map_fst_zip (by omega)]
            exact pairs_keys hp
          · rw [ks, List.map_snd_zip (by omega), pairs_vals hp]
            exact hr
          · simp [hn]; exact fun z => ns _ _ e1 z.symm
      · cases e
/-! ### ==, !=, repr of data -/
def eqD (neg : Bool) : O2 := fun a b h => match dataOf 64 h a, dataOf 64 h b with
  | some d, some e => if (SeqAt.shaped d && SeqAt.shaped e) = true then some (.bl (if neg = true then !PyData.eqv d e else PyData.eqv d e), h) else none
  | _, _ => none
theorem op_eqM (hsm : ∃ o, X.base.get? sysModules = some o) (hu : X.A.units + 64 < cLine) : OpR X (compareOp .Eq) (rO2 en (eqD false)) := by
  intro pins s σ H x y v u Q I rx ry ⟨ρ, h, a, b, rel, ra, rb, w, h', e, k⟩
  unfold eqD at e
  split at e
  · rename_i d e' ed ee
    split at e
    · rename_i hs
      obtain ⟨as, r1, _⟩ := reads_of I hsm rel _ _ _ _ _ ed ra rx
      obtain ⟨bs, r2, _⟩ := reads_of I hsm rel _ _ _ _ _ ee rb ry
      have z := Bool.and_eq_true_iff.mp hs
      exact SeqAt.compareEq_shaped r1 r2 z.1 z.2 hu ⟨.bl _, H, I, rfl, finO.here ⟨_, _, e, k⟩ rel rfl⟩
    · cases e
  · cases e
theorem op_neM (hsm : ∃ o, X.base.get? sysModules = some o) (hu : X.A.units + 64 < cLine) : OpR X (compareOp .NotEq) (rO2 en (eqD true)) := by
  intro pins s σ H x y v u Q I rx ry ⟨ρ, h, a, b, rel, ra, rb, w, h', e, k⟩
  unfold eqD at e
  split at e
  · rename_i d e' ed ee
    split at e
    · rename_i hs
      obtain ⟨as, r1, _⟩ := reads_of I hsm rel _ _ _ _ _ ed ra rx
      obtain ⟨bs, r2, _⟩ := reads_of I hsm rel _ _ _ _ _ ee rb ry
      have z := Bool.and_eq_true_iff.mp hs
      exact SeqAt.compareNe_shaped r1 r2 z.1 z.2 hu ⟨.bl _, H, I, rfl, finO.here ⟨_, _, e, k⟩ rel rfl⟩
    · cases e
  · cases e
def opRepr : O1 := fun a h => match dataOf 64 h a with
  | some d => if d.showable = true ∧ d.depth ≤ 64 ∧ d.shown.length ≤ big then some (.str d.shown, h) else none
  | none => none
def un1 (o : O1) : OA := fun as h => match as with
  | [a] => o a h
  | _ => none
def bin2 (o : O2) : OA := fun as h => match as with
  | [a, b] => o a b h
  | _ => none
theorem vals1' {en : En} {ρ : List Addr} {a : SV} {xs : List V} {us : List Value} (r : RSs en ρ [a] xs) (r2 : Vals xs us) : ∃ x u, xs = [x] ∧ us = [u] ∧ RS en ρ a x ∧ RelV x u := by
  cases r with
  | cons r t =>
    cases t
    cases r2 with
    | cons r2 t2 =>
      cases t2
      exact ⟨_, _, rfl, rfl, r, r2⟩
theorem call_reprM (hsm : ∃ o, X.base.get? sysModules = some o) (hg : X.A.guards = some []) (hu : X.A.units + 66 < cLine) : CallR X (.builtin "repr") (rOA en (un1 opRepr)) := by
  intro pins s σ H xs us Q I r ⟨ρ, h, as, rel, ra, w, h', e, k⟩
  unfold un1 at e
  split at e
  · rename_i a
    obtain ⟨x, u, rfl, rfl, rx, ru⟩ := vals1' ra r
    unfold opRepr at e
    split at e
    · rename_i d ed
      split at e
      · rename_i hs
        obtain ⟨hs1, hs2, hs3⟩ := hs
        have hsz : d.shown.length ≤ sizeLine := by rw [big_eq]; exact hs3
        obtain ⟨bs, r1, n1⟩ := reads_of I hsm rel _ _ _ _ _ ed rx ru
        have fin : ∀ (u : Tok) (s' : Shared), Inv X pins σ H s' → EP X pins σ Q (.str d.shown u) s' := fun u s' I' => ⟨.str _, H, I', ⟨u, rfl⟩, finO.here ⟨_, _, e, k⟩ rel rfl⟩
        cases r1 with
        | none => exact PySem.P.repr_of_none (fin _ _ (I.tok _))
        | bool b => exact PySem.P.repr_of_bool (fin _ _ (I.tok _))
        | int i t => exact PySem.P.repr_of_int (by simpa [PyData.showable] using hs1) (fin _ _ (I.tok _))
        | str z t => exact PySem.P.repr_of_str (fin _ _ (I.tok _)) 
        | list h1 h2 h3 h4 => exact PySem.repr_of_reads' (Reads.list h1 h2 h3 h4) hs1 (fun _ => n1) hg (by omega) (fun _ _ z => z) (fun h' u tk hk => fin u _ (I.kept (t' := tk) hk)) hsz
        | tuple h1 h2 h3 h4 => exact PySem.repr_of_reads' (Reads.tuple h1 h2 h3 h4) hs1 (fun _ => n1) hg (by omega) (fun _ _ z => z) (fun h' u tk hk => fin u _ (I.kept (t' := tk) hk)) hsz
        | dict h1 h2 h3 h4 h5 => exact PySem.repr_of_reads' (Reads.dict h1 h2 h3 h4 h5) hs1 (fun _ => n1) hg (by omega) (fun _ _ z => z) (fun h' u tk hk => fin u _ (I.kept (t' := tk) hk)) hsz
      · cases e
    · cases e
  · cases e
end
end Fw
namespace Fw
open PySem PySem.Spec L2
section
variable {X : Cx} {en : En} {W : WX} {a b c : Expr} {ma mb mc : EM} {ta tb : BM} {pos : Pos} {rest : List Expr}
/-- from a meaning's reading to the reading of its first part, the places kept -/
theorem tM.bind2 {α β γ δ : Type} {R1 : List Addr → α → β → Prop} {R2 : List Addr → γ → δ → Prop} {m1 : SS → SH → Res α} {k : α → SS → SH → Res γ} {σ : L2.St} {H : Hp} {Q : δ → Hp → Prop} {Q' : β → Hp → Prop}
    (t : tM en W R2 (fun ss h => (m1 ss h).bind fun a h1 => k a ss h1) σ H Q)
    (f : ∀ ρ ss h a b H1, Rel en ρ h H1 → RSl en ρ ss σ → R1 ρ a b → fin en W R2 σ ρ (k a ss h) Q → Q' b H1) : tM en W R1 m1 σ H Q' :=
  (tM.bind (R1 := R1) t).imp fun b H1 ⟨ρ, ss, h, a, rel, rs, ra, q⟩ => f ρ ss h a b H1 rel rs ra q
/-! ### and, or, not, if else, as values and as tests -/
def mAnd (ma mb : EM) : EM := fun ss h => (ma ss h).bind fun v h1 => match v with
  | .bl true => mb ss h1
  | .bl false => .ok (.bl false) h1
  | _ => .stuck
def mOr (ma mb : EM) : EM := fun ss h => (ma ss h).bind fun v h1 => match v with
  | .bl true => .ok (.bl true) h1
  | .bl false => mb ss h1
  | _ => .stuck
def mNot (ma : EM) : EM := fun ss h => (ma ss h).bind fun v h1 => match v with
  | .bl b => .ok (.bl (!b)) h1
  | _ => .stuck
def mIf (ta : BM) (ma mb : EM) : EM := fun ss h => (ta ss h).bind fun b h1 => if b = true then ma ss h1 else mb ss h1
def bAnd (ta tb : BM) : BM := fun ss h => (ta ss h).bind fun b h1 => if b = true then tb ss h1 else .ok false h1
def bOr (ta tb : BM) : BM := fun ss h => (ta ss h).bind fun b h1 => if b = true then .ok true h1 else tb ss h1
def bNot (ta : BM) : BM := fun ss h => (ta ss h).bind fun b h1 => .ok (!b) h1
theorem PE.and1 {op : PySem.BoolOp} (h : PE X a (tE en W ma)) : PE X (.BoolOp op [a] pos) (tE en W ma) := pe_one h
theorem PE.and (ha : PE X a (tE en W ma)) (hb : PE X (.BoolOp .And (b :: rest) pos) (tE en W mb)) : PE X (.BoolOp .And (a :: b :: rest) pos) (tE en W (mAnd ma mb)) :=
  PEimp (pe_and ha hb) fun σ H Q t => tM.bind2 (R1 := RS en) (k := fun v ss h1 => match v with | .bl true => mb ss h1 | .bl false => .ok (.bl false) h1 | _ => .stuck) t fun ρ ss h v x H1 rel rs r f => by
    cases v with
    | bl b =>
      cases r
      cases b with
      | true => exact ⟨true, rfl, ρ, ss, h, rel, rs, f⟩
      | false => exact ⟨false, rfl, f ρ H1 _ (Pre.refl ρ) rel rfl⟩
    | _ => exact f.elim
theorem PE.or (ha : PE X a (tE en W ma)) (hb : PE X (.BoolOp .Or (b :: rest) pos) (tE en W mb)) : PE X (.BoolOp .Or (a :: b :: rest) pos) (tE en W (mOr ma mb)) :=
  PEimp (pe_or ha hb) fun σ H Q t => tM.bind2 (R1 := RS en) (k := fun v ss h1 => match v with | .bl true => .ok (.bl true) h1 | .bl false => mb ss h1 | _ => .stuck) t fun ρ ss h v x H1 rel rs r f => by
    cases v with
    | bl b =>
      cases r
      cases b with
      | true => exact ⟨true, rfl, f ρ H1 _ (Pre.refl ρ) rel rfl⟩
      | false => exact ⟨false, rfl, ρ, ss, h, rel, rs, f⟩
    | _ => exact f.elim
theorem PE.not (ha : PE X a (tE en W ma)) : PE X (.UnaryOp .Not a pos) (tE en W (mNot ma)) :=
  PEimp (pe_not ha) fun σ H Q t => tM.bind2 (R1 := RS en) (R2 := RS en) (k := fun v (ss : SS) h1 => match v with | .bl b => (Res.ok (SV.bl (!b)) h1 : Res SV) | _ => .stuck) t fun ρ ss h v x H1 rel rs r f => by
    cases v with
    | bl b => cases r; exact ⟨b, rfl, f ρ H1 _ (Pre.refl ρ) rel rfl⟩
    | _ => exact f.elim
theorem PE.ifx (hc : PT X c (tT en W ta)) (ha : PE X a (tE en W ma)) (hb : PE X b (tE en W mb)) : PE X (.IfExp c a b pos) (tE en W (mIf ta ma mb)) :=
  PEimp (pe_ifExp hc ha hb) fun σ H Q t => tM.bind2 (R1 := RB) (k := fun b ss h1 => if b = true then ma ss h1 else mb ss h1) t fun ρ ss h v x H1 rel rs r f => by
    cases r
    cases v with
    | true => exact ⟨ρ, ss, h, rel, rs, f⟩
    | false => exact ⟨ρ, ss, h, rel, rs, f⟩
theorem PW.and1 (ha : PT X a (tT en W ta)) : PW X (.BoolOp .And [a] pos) (tT en W ta) := pw_and1 ha
theorem PW.or1 (ha : PT X a (tT en W ta)) : PW X (.BoolOp .Or [a] pos) (tT en W ta) := pw_or1 ha
theorem PW.and (ha : PT X a (tT en W ta)) (hb : PW X (.BoolOp .And (b :: rest) pos) (tT en W tb)) : PW X (.BoolOp .And (a :: b :: rest) pos) (tT en W (bAnd ta tb)) :=
  PWimp (pw_and ha hb) fun σ H Q t => tM.bind2 (R1 := RB) (k := fun b ss h1 => if b = true then tb ss h1 else .ok false h1) t fun ρ ss h v x H1 rel rs r f => by
    cases r
    cases v with
    | true => exact ⟨ρ, ss, h, rel, rs, f⟩
    | false => exact f ρ H1 _ (Pre.refl ρ) rel rfl
theorem PW.or (ha : PT X a (tT en W ta)) (hb : PW X (.BoolOp .Or (b :: rest) pos) (tT en W tb)) : PW X (.BoolOp .Or (a :: b :: rest) pos) (tT en W (bOr ta tb)) :=
  PWimp (pw_or ha hb) fun σ H Q t => tM.bind2 (R1 := RB) (k := fun b ss h1 => if b = true then .ok true h1 else tb ss h1) t fun ρ ss h v x H1 rel rs r f => by
    cases r
    cases v with
    | true => exact f ρ H1 _ (Pre.refl ρ) rel rfl
    | false => exact ⟨ρ, ss, h, rel, rs, f⟩
theorem PT.not (ha : PT X a (tT en W ta)) : PT X (.UnaryOp .Not a pos) (tT en W (bNot ta)) :=
  PTimp (pt_not ha) fun σ H Q t => tM.bind2 (R1 := RB) (k := fun b ss h1 => .ok (!b) h1) t fun ρ ss h v x H1 rel rs r f => by
    cases r
    exact f ρ H1 _ (Pre.refl ρ) rel rfl
/-! ### a < b < c -/
def mChain (o1 o2 : O2) (ma mb mc : EM) : EM := fun ss h => (ma ss h).bind fun x h1 => (mb ss h1).bind fun y h2 => (lift (o1 x y h2)).bind fun z h3 => match z with
  | .bl true => (mc ss h3).bind fun w h4 => lift (o2 y w h4)
  | .bl false => .ok (.bl false) h3
  | _ => .stuck
theorem chain_read {o1 o2 : O2} (σ : L2.St) (H : Hp) (Q : VK) (t : tE en W (mChain o1 o2 ma mb mc) σ H Q) : tChain (rO2 en o1) (rO2 en o2) (tE en W ma) (tE en W mb) (tE en W mc) σ H Q := by
    obtain ⟨ρ, ss, h, rel, rs, f⟩ := t
    refine ⟨ρ, ss, h, rel, rs, ?_⟩
    unfold mChain at f
    cases e : ma ss h with
    | stuck => simp only [e, Res.bind, fin] at f
    | ex cc xs h1 => simp only [e, Res.bind, fin] at f; exact f
    | ok x h1 =>
      simp only [e, Res.bind] at f
      intro ρ1 H1 u p1 rel1 ru
      refine ⟨ρ1, ss, h1, rel1, rs.mono p1, ?_⟩
      cases e2 : mb ss h1 with
      | stuck => simp only [e2, fin] at f
      | ex cc xs h1 => simp only [e2, fin] at f ⊢; exact fun ρ' H cls d p => f ρ' H cls d (p1.trans p)
      | ok y h2 =>
        simp only [e2] at f
        intro ρ2 H2 v p2 rel2 rv
        refine ⟨ρ2, h2, x, y, rel2, ru.mono p2, rv, ?_⟩
        cases e3 : o1 x y h2 with
        | none => simp only [e3, lift, fin] at f
        | some q =>
          obtain ⟨z, h3⟩ := q
          simp only [e3, lift] at f
          refine ⟨z, h3, rfl, fun ρ3 H3 w p3 rel3 rw' => ?_⟩
          cases z with
          | bl k =>
            cases rw'
            cases k with
            | false => exact ⟨false, rfl, f ρ3 H3 _ ((p1.trans p2).trans p3) rel3 rfl⟩
            | true =>
              refine ⟨true, rfl, ρ3, ss, h3, rel3, ((rs.mono p1).mono p2).mono p3, ?_⟩
              have f' := (f : fin en W (RS en) σ ρ ((mc ss h3).bind fun w h4 => lift (o2 y w h4)) Q)
              cases e4 : mc ss h3 with
              | stuck => simp only [e4, Res.bind, fin] at f'
              | ex cc xs h1 => simp only [e4, Res.bind, fin] at f' ⊢; exact fun ρ' H cls d p => f' ρ' H cls d (((p1.trans p2).trans p3).trans p)
              | ok w' h4 =>
                simp only [e4, Res.bind] at f'
                intro ρ4 H4 uu p4 rel4 ruu
                exact ⟨ρ4, h4, y, w', rel4, (rv.mono p3).mono p4, ruu, ((f'.mono (((p1.trans p2).trans p3).trans p4))).lift⟩
          | _ => exact (f : False).elim
theorem PE.chain {op op' : CmpOp} {o1 o2 : O2} (h1 : OpR X (compareOp op) (rO2 en o1)) (h2 : OpR X (compareOp op') (rO2 en o2)) (ha : PE X a (tE en W ma)) (hb : PE X b (tE en W mb)) (hc : PE X c (tE en W mc))
    (hm : lastMarks [op, op'] [b, c] = false := by with_unfolding_all rfl) : PE X (.Compare a [op, op'] [b, c] pos) (tE en W (mChain o1 o2 ma mb mc)) :=
  PEimp (pe_chain h1 h2 ha hb hc hm) fun σ H Q t => chain_read σ H Q t
theorem PT.chain {op op' : CmpOp} {o1 o2 : O2} (h1 : OpR X (compareOp op) (rO2 en o1)) (h2 : OpR X (compareOp op') (rO2 en o2)) (ha : PE X a (tE en W ma)) (hb : PE X b (tE en W mb)) (hc : PE X c (tE en W mc))
    (hm : lastMarks [op, op'] [b, c] = false := by with_unfolding_all rfl) : PT X (.Compare a [op, op'] [b, c] pos) (tT en W (mB (mChain o1 o2 ma mb mc))) :=
  PTimp (pt_chain h1 h2 ha hb hc hm) fun σ H Q t => chain_read σ H _ (tBool σ H Q t)
theorem PT.cmp {op : CmpOp} {o : O2} (ho : OpR X (compareOp op) (rO2 en o)) (ha : PE X a (tE en W ma)) (hb : PE X b (tE en W mb)) (hm : behindInMarks op b = false) : PT X (.Compare a [op] [b] pos) (tT en W (mB (mO2 o ma mb))) :=
  PTimp (pt_cmpR ho ha hb hm) fun σ H Q t => tO2 σ H _ (tBool σ H Q t)
/-! ### arguments -/
def aNil : AM := fun _ h => .ok [] h
def aCons (ma : EM) (mr : AM) : AM := fun ss h => (ma ss h).bind fun x h1 => (mr ss h1).bind fun xs h2 => .ok (x :: xs) h2
theorem PA.nil : PA X [] (tA en W aNil) := PAimp pa_nil fun σ H Q ⟨ρ, ss, h, rel, rs, f⟩ => f ρ H [] (Pre.refl ρ) rel .nil
theorem PA.cons {es : List Expr} {mr : AM} (ha : PE X a (tE en W ma)) (hr : PA X es (tA en W mr)) (hs : starEach (a :: es) X.env = (false, eval a X.env) :: starEach es X.env := by rfl) : PA X (a :: es) (tA en W (aCons ma mr)) :=
  PAimp (pa_cons ha hr hs) fun σ H Q t => by
    obtain ⟨ρ, ss, h, rel, rs, f⟩ := t
    refine ⟨ρ, ss, h, rel, rs, ?_⟩
    unfold aCons at f
    cases e : ma ss h with
    | stuck => simp only [e, Res.bind, fin] at f
    | ex cc xs h1 => simp only [e, Res.bind, fin] at f; exact f
    | ok x h1 =>
      simp only [e, Res.bind] at f
      intro ρ1 H1 u p1 rel1 ru
      refine ⟨ρ1, ss, h1, rel1, rs.mono p1, ?_⟩
      cases e2 : mr ss h1 with
      | stuck => simp only [e2, fin] at f
      | ex cc xs h1 => simp only [e2, fin] at f ⊢; exact fun ρ' H cls d p => f ρ' H cls d (p1.trans p)
      | ok ys h2 =>
        simp only [e2] at f
        exact fun ρ2 H2 v p2 rel2 rv => f ρ2 H2 _ (p1.trans p2) rel2 (.cons (ru.mono p2) rv)
/-- an operation on an argument list -/
theorem tOA {op : OA} {m : AM} (σ : L2.St) (H : Hp) (Q : VK) (t : tE en W (mOA op m) σ H Q) : tA en W m σ H fun xs H1 => rOA en op xs H1 Q :=
  tM.bind2 (R1 := RSs en) (k := fun as ss h1 => lift (op as h1)) t fun ρ ss h as xs H1 rel rs r f => ⟨ρ, h, as, rel, r, f.lift⟩
theorem PE.callB {x : Str} {id : String} {op : OA} {e : Expr} {es : List Expr} {m : AM} {p : Pos} (hc : CallR X (.builtin id) (rOA en op)) (hg : Gl X x) (hm : X.mg x = none) (hv : bootBuiltins x = some (.builtin id)) (ha : PA X (e :: es) (tA en W m)) (hn : x ≠ "__name__" := by decide) (hdb : (x == ("__debug__" : Str)) = false := by decide)
    (he : starEach (e :: es) X.env = (false, eval e X.env) :: starEach es X.env := by rfl) (hpl : (backTo pos (starEach es X.env)).any (·.1) = false := by rfl) : PE X (.Call (.Name x p) (e :: es) [] pos) (tE en W (mOA op m)) :=
  PEimp (pe_callB hc hg hm hv ha hn hdb he hpl) fun σ H Q t => tOA σ H Q t
theorem PE.callTy {x : Str} {T : String} {op : OA} {e : Expr} {es : List Expr} {m : AM} {p : Pos} (hc : CallR X (.type T) (rOA en op)) (hg : Gl X x) (hm : X.mg x = none) (hv : bootBuiltins x = some (.type T)) (ha : PA X (e :: es) (tA en W m)) (hn : x ≠ "__name__" := by decide) (hdb : (x == ("__debug__" : Str)) = false := by decide)
    (he : starEach (e :: es) X.env = (false, eval e X.env) :: starEach es X.env := by rfl) (hpl : (backTo pos (starEach es X.env)).any (·.1) = false := by rfl) : PE X (.Call (.Name x p) (e :: es) [] pos) (tE en W (mOA op m)) :=
  PEimp (pe_callTy hc hg hm hv ha hn hdb he hpl) fun σ H Q t => tOA σ H Q t
/-- displays -/
def opLst : OA := fun as h => if as.length ≤ big then alloc (.lst as) h else none
def opTup : OA := fun as h => if as.length ≤ big then alloc (.tup as) h else none
theorem PE.lst {es : List Expr} {m : AM} (ha : PA X es (tA en W m)) : PE X (.List es pos) (tE en W (mOA opLst m)) :=
  PEimp (pe_lst ha) fun σ H Q t => tM.imp (tOA σ H Q t) fun xs H1 ⟨ρ, h, as, rel, r, v, h', e, k⟩ => by
    unfold opLst at e
    split at e
    · exact ⟨by rw [big_eq, ← r.len]; assumption, finO.newLst ⟨_, _, e, k⟩ rel r⟩
    · cases e
theorem PE.tup {es : List Expr} {m : AM} {x1 : Nat} (ha : PA X es (tA en W m)) : PE X (.Tuple es x1 pos) (tE en W (mOA opTup m)) :=
  PEimp (pe_tup ha) fun σ H Q t => tM.imp (tOA σ H Q t) fun xs H1 ⟨ρ, h, as, rel, r, v, h', e, k⟩ => by
    unfold opTup at e
    split at e
    · exact ⟨by rw [big_eq, ← r.len]; assumption, finO.newTup ⟨_, _, e, k⟩ rel r⟩
    · cases e
end
end Fw
namespace Fw
open PySem PySem.Spec L2
/-! ### dicts -/
section
variable {κ : Type} [DecidableEq κ]
def getS (kvs : List (κ × SV)) (k : κ) : Option SV := (kvs.find? fun kv => decide (kv.1 = k)).map (·.2)
def putS (kvs : List (κ × SV)) (k : κ) (v : SV) : List (κ × SV) :=
  if (kvs.any fun kv => decide (kv.1 = k)) = true then kvs.map (fun kv => if kv.1 = k then (kv.1, v) else kv) else kvs ++ [(k, v)]
abbrev RK (en : En) (ρ : List Addr) : List (κ × SV) → List (κ × V) → Prop := Paired (fun p q => p.1 = q.1 ∧ RS en ρ p.2 q.2)
theorem RK.get {en : En} {ρ : List Addr} {k : κ} : ∀ {kvs : List (κ × SV)} {kws : List (κ × V)}, RK en ρ kvs kws → (∀ x, getS kvs k = some x → ∃ v, valV kws k = some v ∧ RS en ρ x v) ∧ (getS kvs k = none → valV kws k = none)
  | _, _, .nil => ⟨fun x e => by simp [getS] at e, fun _ => rfl⟩
  | p :: kvs, q :: kws, .cons r t => by
    by_cases h : p.1 = k
    · have h2 : q.1 = k := by rw [← r.1]; exact h
      refine ⟨fun x e => ?_, fun e => ?_⟩
      · simp [getS, List.find?_cons, h] at e
        exact ⟨q.2, valV_pos h2, e ▸ r.2⟩
      · simp [getS, List.find?_cons, h] at e
    · have h2 : ¬ q.1 = k := by rw [← r.1]; exact h
      have e1 : getS (p :: kvs) k = getS kvs k := by simp [getS, List.find?_cons, h]
      rw [e1, valV_neg h2]
      exact RK.get t
theorem RK.any {en : En} {ρ : List Addr} {k : κ} : ∀ {kvs : List (κ × SV)} {kws : List (κ × V)}, RK en ρ kvs kws → (kvs.any fun kv => decide (kv.1 = k)) = (kws.any fun kv => decide (kv.1 = k))
  | _, _, .nil => rfl
  | p :: kvs, q :: kws, .cons r t => by rw [List.any_cons, List.any_cons, r.1, RK.any t]
theorem RK.app {en : En} {ρ : List Addr} {k : κ} {x : SV} {v : V} (h : RS en ρ x v) : ∀ {kvs : List (κ × SV)} {kws : List (κ × V)}, RK en ρ kvs kws → RK en ρ (kvs ++ [(k, x)]) (kws ++ [(k, v)])
  | _, _, .nil => .cons ⟨rfl, h⟩ .nil
  | _, _, .cons r t => .cons r (RK.app h t)
theorem RK.put {en : En} {ρ : List Addr} {k : κ} {x : SV} {v : V} (h : RS en ρ x v) {kvs : List (κ × SV)} {kws : List (κ × V)} (r : RK en ρ kvs kws) : RK en ρ (putS kvs k x) (putK kws k v) := by
  unfold putS putK
  rw [r.any]
  split
  · refine paired_map (fun p q z => ?_) r
    by_cases e : p.1 = k
    · have e2 : q.1 = k := by rw [← z.1]; exact e
      rw [if_pos e, if_pos e2]; exact ⟨z.1, h⟩
    · have e2 : ¬ q.1 = k := by rw [← z.1]; exact e
      rw [if_neg e, if_neg e2]; exact z
  · exact RK.app h r
end
def keyOf : SV → Option Key
  | .int i => some (.inl i)
  | .str x => some (.inr x)
  | _ => none
def keysOf : List SV → Option (List Key)
  | [] => some []
  | x :: xs => match keyOf x with
    | none => none
    | some k => match keysOf xs with
      | none => none
      | some ks => some (k :: ks)
theorem keyOf_rel {en : En} {ρ : List Addr} {a : SV} {v : V} {k : Key} (e : keyOf a = some k) (r : RS en ρ a v) : v = kV k := by
  cases a with
  | int i => cases e; cases r; rfl
  | str x => cases e; cases r; rfl
  | _ => cases e
theorem keysOf_rel {en : En} {ρ : List Addr} : ∀ {xs : List SV} {vs : List V} {ks : List Key}, keysOf xs = some ks → RSs en ρ xs vs → vs = ks.map kV
  | [], _, _, e, r => by cases r; cases e; rfl
  | x :: xs, _, _, e, r => by
    cases r with
    | cons r t =>
      unfold keysOf at e
      split at e
      · cases e
      · rename_i k ek
        split at e
        · cases e
        · rename_i ks eks
          cases e
          rw [List.map_cons, keyOf_rel ek r, keysOf_rel eks t]
/-- what a dict's object holds at a key; none: that can't be asked here -/
def dictGet (h : SH) (o : SO) (k : SV) : Option (Option SV) := match o with
  | .dK kvs => (keyOf k).map fun k => getS kvs k
  | .dT kvs => match k with
    | .ref j => match h[j]? with
      | some (.tup xs) => (keysOf xs).map fun ks => getS kvs ks
      | _ => none
    | _ => none
  | _ => none
section
variable {X : Cx} {en : En} {W : WX} {ρ : List Addr} {h : SH} {H : Hp}
theorem dictGet_rel (rel : Rel en ρ h H) {i : Nat} {o : SO} {a : Addr} {k : SV} {y : V} {r : Option SV} (eo : h[i]? = some o) (ea : ρ[i]? = some a) (e : dictGet h o k = some r) (ry : RS en ρ k y) :
    (∀ x, r = some x → ∃ v, DGet H a y (some v) ∧ RS en ρ x v) ∧ (r = none → DGet H a y none) := by
  unfold dictGet at e
  split at e
  · rename_i kvs
    obtain ⟨kws, e1, rk⟩ := rel.at2 ea eo
    cases ek : keyOf k with
    | none => rw [ek] at e; cases e
    | some kk =>
      rw [ek] at e
      cases e
      obtain rfl := keyOf_rel ek ry
      refine ⟨fun x hx => ?_, fun hn => ?_⟩
      · obtain ⟨v, ev, rv⟩ := (RK.get rk).1 x hx
        exact ⟨v, by rw [← ev]; exact DGet.k e1, rv⟩
      · rw [← (RK.get rk).2 hn]; exact DGet.k e1
  · rename_i kvs
    obtain ⟨kws, e1, rk⟩ := rel.at2 ea eo
    split at e
    · rename_i j
      split at e
      · rename_i xs ej
        cases ek : keysOf xs with
        | none => rw [ek] at e; cases e
        | some ks =>
          rw [ek] at e
          cases e
          obtain ⟨b, vs, rfl, eb, e2, rvs⟩ := rel.tup ej ry
          obtain rfl := keysOf_rel ek rvs
          refine ⟨fun x hx => ?_, fun hn => ?_⟩
          · obtain ⟨v, ev, rv⟩ := (RK.get rk).1 x hx
            exact ⟨v, by rw [← ev]; exact DGet.t e1 e2, rv⟩
          · rw [← (RK.get rk).2 hn]; exact DGet.t e1 e2
      · cases e
    · cases e
  · cases e
/-! ### a[b] -/
def atS {α : Type} (xs : List α) (i : Int) : Option α := atI xs i
theorem RSs.atI {xs : List SV} {vs : List V} (r : RSs en ρ xs vs) {i : Int} {x : SV} (e : L2.atI xs i = some x) : ∃ v, L2.atI vs i = some v ∧ RS en ρ x v := by
  unfold L2.atI at e ⊢
  rw [← r.len]
  cases q : L2.ixN xs.length i with
  | none => rw [q] at e; cases e
  | some j => rw [q] at e; exact r.get e
def opIx : O2 := fun a b h => match a with
  | .scr ns => match b with
    | .int i => match L2.atI ns i with
      | some n => some (.int n, h)
      | none => none
    | _ => none
  | .str z => match b with
    | .int i => if z.length ≤ big then match L2.atI z.cps.toList i with
      | some c => some (.str ⟨#[c]⟩, h)
      | none => none
      else none
    | _ => none
  | .ref i => match h[i]? with
    | some (.lst xs) => match b with
      | .int i => match L2.atI xs i with
        | some x => some (x, h)
        | none => none
      | _ => none
    | some (.tup xs) => match b with
      | .int i => match L2.atI xs i with
        | some x => some (x, h)
        | none => none
      | _ => none
    | some o => match dictGet h o b with
      | some (some x) => some (x, h)
      | _ => none
    | none => none
  | _ => none
theorem atI_map {α β : Type} (f : α → β) (xs : List α) (i : Int) : L2.atI (xs.map f) i = (L2.atI xs i).map f := by
  unfold L2.atI
  rw [List.length_map]
  cases L2.ixN xs.length i with
  | none => rfl
  | some j => simp
theorem subTail {A : Around} {E : Value → Shared → Prop} {s : Shared} {prog : Program} {w : World} {value slice : Expr} {o i : Value} {T id : String} {Q : Value → Shared → Prop} (hT : s.TypeIs o T) (hl : typeLookup (.type T) "__getitem__" = pure (some (.builtin id)))
    (hg : wpAny (model prog w) A (getItem o i) Q E s) (hs : subscripted slice false o i = operate [o, i] (getItem o i)) : wpAny (model prog w) A (PyProof.Rows.subscriptTail value slice o i) Q E s := by
  unfold PyProof.Rows.subscriptTail
  refine wpAny_bind ?_
  rw [getitemInPython_of_ne hT.not_modules]
  refine wpAny_bind (wpAny_specialOf hT hl ?_)
  have z : wpAny (model prog w) A (subscripted slice false o i) (fun r s2 => wpAny (model prog w) A (letTemporaryGo value o r >>= fun _ => pure r) Q E s2) E s := by
    rw [hs]
    exact wpAny_operating (wpAny_mono hg (fun r s2 hq => wpAny_bind (wpAny_letTemporaryGo (wpAny_pure hq))) fun _ _ x => x)
  first
    | exact wpAny_pure (wpAny_bind z)
    | exact wpAny_bind (wpAny_pure (wpAny_bind z))
    | exact wpAny_bind z
theorem ix_dict (hu : X.A.units + 1 < cLine) : IxR X (fun x y H Q => ∃ a v, x = .ref a ∧ DGet H a y (some v) ∧ Q v H) := by
  intro value slice pins s σ H x y v u Q I rx ry ⟨a, w, e, g, q⟩ hs
  subst e
  obtain rfl : v = Value.ref a := rx
  exact subTail (dict_typeIs I g) PySem.F.slot_dict_getitem.lookup (d_getItem hu I g ry fun w' s3 I3 rw' => ⟨w, H, I3, rw', q⟩) hs
theorem IxRimp {r r' : R2} (h : IxR X r) (k : ∀ x y H Q, r' x y H Q → r x y H Q) : IxR X r' := fun value slice pins s σ H x y v u Q I rx ry q hs => h value slice pins s σ H x y v u Q I rx ry (k _ _ _ _ q) hs
theorem ixM (hK : X.K = en.K) (hu : X.A.units + 1 < cLine) : IxR X (rO2 en opIx) := by
  refine IxRimp (ix_list.or (ix_tup.or (ix_str.or (ix_dict hu)))) fun x y H Q ⟨ρ, h, a, b, rel, ra, rb, v, h', e, k⟩ => ?_
  unfold opIx at e
  split at e
  · split at e
    · split at e
      · rename_i en'
        cases rb
        obtain ⟨rfl, rfl⟩ := ra
        refine .inl ⟨_, _, _, _, rfl, rfl, by rw [hK]; exact rel.scr, by rw [atI_map, en']; rfl, finO.here ⟨_, _, e, k⟩ rel rfl⟩
      · cases e
    · cases e
  · split at e
    · split at e
      · rename_i hz
        split at e
        · rename_i ec
          cases ra; cases rb
          exact .inr (.inr (.inl ⟨_, _, _, rfl, rfl, by rw [big_eq]; exact hz, ec, finO.here ⟨_, _, e, k⟩ rel rfl⟩))
        · cases e
      · cases e
    · cases e
  · split at e
    · rename_i xs ei
      split at e
      · split at e
        · rename_i ex
          obtain ⟨p, vs, rfl, ep, e1, r1⟩ := rel.lst ei ra
          cases rb
          obtain ⟨w, ew, rw'⟩ := r1.atI ex
          exact .inl ⟨_, _, _, w, rfl, rfl, SqL.of e1, ew, finO.here ⟨_, _, e, k⟩ rel rw'⟩
        · cases e
      · cases e
    · rename_i xs ei
      split at e
      · split at e
        · rename_i ex
          obtain ⟨p, vs, rfl, ep, e1, r1⟩ := rel.tup ei ra
          cases rb
          obtain ⟨w, ew, rw'⟩ := r1.atI ex
          exact .inr (.inl ⟨_, _, _, w, rfl, rfl, SqT.of e1, ew, finO.here ⟨_, _, e, k⟩ rel rw'⟩)
        · cases e
      · cases e
    · rename_i o _ _ ei
      split at e
      · rename_i ex
        obtain ⟨p, ep, rfl⟩ := ra
        obtain ⟨w, ew, rw'⟩ := (dictGet_rel rel ei ep ex rb).1 _ rfl
        exact .inr (.inr (.inr ⟨p, w, rfl, ew, finO.here ⟨_, _, e, k⟩ rel rw'⟩))
      · cases e
    · cases e
  · cases e
theorem PE.ix {a b : Expr} {ma mb : EM} {pos : Pos} (hK : X.K = en.K) (hu : X.A.units + 1 < cLine) (ha : PE X a (tE en W ma)) (hb : PE X b (tE en W mb)) (hs : PlainIx b) : PE X (.Subscript a b pos) (tE en W (mO2 opIx ma mb)) :=
  PEimp (pe_ix (ixM hK hu) ha hb hs) fun σ H Q t => tO2 σ H Q t
end
end Fw
namespace Fw
open PySem PySem.Spec L2
section
variable {X : Cx} {en : En} {W : WX} {ρ : List Addr} {h : SH} {H : Hp}
/-! ### slices -/
abbrev PM := SS → SH → Res (Option Int)
abbrev RP : List Addr → Option Int → Option Int → Prop := fun _ a b => a = b
def pNone : PM := fun _ h => .ok none h
def pSome (ma : EM) : PM := fun ss h => (ma ss h).bind fun v h1 => match v with
  | .int i => .ok (some i) h1
  | _ => .stuck
abbrev tP (en : En) (W : WX) (m : PM) : TO := tM en W RP m
theorem POimp {e : Option Expr} {t t' : TO} (h : PO X e t) (k : ∀ σ H Q, t' σ H Q → t σ H Q) : PO X e t' := ⟨fun pins s σ H Q I q => h.run pins s σ H Q I (k σ H Q q)⟩
theorem PO.non : PO X none (tP en W pNone) := POimp po_none fun σ H Q ⟨ρ, ss, h, rel, rs, f⟩ => f ρ H none (Pre.refl ρ) rel rfl
theorem PO.som {e : Expr} {ma : EM} (ha : PE X e (tE en W ma)) : PO X (some e) (tP en W (pSome ma)) :=
  POimp (po_some ha) fun σ H Q t => tM.bind2 (R1 := RS en) (R2 := RP) (k := fun v (ss : SS) h1 => match v with | .int i => (Res.ok (some i) h1 : Res (Option Int)) | _ => .stuck) t fun ρ ss h v x H1 rel rs r f => by
    cases v with
    | int i => cases r; exact ⟨i, rfl, f ρ H1 _ (Pre.refl ρ) rel rfl⟩
    | _ => exact f.elim
def cutS {α : Type} (xs : List α) (lo hi : Option Int) : List α := (xs.drop (HT.sIx xs.length 0 lo)).take (HT.sIx xs.length xs.length hi - HT.sIx xs.length 0 lo)
theorem RSs.cut {xs : List SV} {vs : List V} (r : RSs en ρ xs vs) (lo hi : Option Int) : RSs en ρ (cutS xs lo hi) (cutV vs lo hi) := by
  unfold cutS cutV
  rw [r.len]
  exact (r.drop _).take _
def opCut (a : SV) (lo hi : Option Int) (h : SH) : Option (SV × SH) := match a with
  | .ref i => match h[i]? with
    | some (.lst xs) => alloc (.lst (cutS xs lo hi)) h
    | _ => none
  | _ => none
def mCut (ma : EM) (pl pu : PM) : EM := fun ss h => (ma ss h).bind fun a h1 => (pl ss h1).bind fun lo h2 => (pu ss h2).bind fun hi h3 => lift (opCut a lo hi h3)
theorem PE.cut {e : Expr} {lo hi : Option Expr} {ma : EM} {pl pu : PM} {p2 pos : Pos} (ha : PE X e (tE en W ma)) (hl : PO X lo (tP en W pl)) (hu : PO X hi (tP en W pu)) : PE X (.Subscript e (.Slice lo hi none p2) pos) (tE en W (mCut ma pl pu)) :=
  PEimp (pe_slice sl_list ha hl hu) fun σ H Q t => by
    obtain ⟨ρ, ss, h, rel, rs, f⟩ := t
    refine ⟨ρ, ss, h, rel, rs, ?_⟩
    unfold mCut at f
    cases e : ma ss h with
    | stuck => simp only [e, Res.bind, fin] at f
    | ex cc xs h1 => simp only [e, Res.bind, fin] at f; exact f
    | ok x h1 =>
      simp only [e, Res.bind] at f
      intro ρ1 H1 u p1 rel1 ru
      refine ⟨ρ1, ss, h1, rel1, rs.mono p1, ?_⟩
      cases e2 : pl ss h1 with
      | stuck => simp only [e2, fin] at f
      | ex cc xs h1 => simp only [e2, fin] at f ⊢; exact fun ρ' H cls d p => f ρ' H cls d (p1.trans p)
      | ok y h2 =>
        simp only [e2] at f
        intro ρ2 H2 v p2 rel2 rv
        refine ⟨ρ2, ss, h2, rel2, (rs.mono p1).mono p2, ?_⟩
        cases e3 : pu ss h2 with
        | stuck => simp only [e3, fin] at f
        | ex cc xs h1 => simp only [e3, fin] at f ⊢; exact fun ρ' H cls d p => f ρ' H cls d ((p1.trans p2).trans p)
        | ok z h3 =>
          simp only [e3] at f
          intro ρ3 H3 w p3 rel3 rw'
          obtain ⟨a', h', e4, k⟩ := (f.mono ((p1.trans p2).trans p3)).lift
          unfold opCut at e4
          cases rv; cases rw'
          split at e4
          · split at e4
            · rename_i ei
              obtain ⟨p, vs, rfl, ep, ee, r1⟩ := rel3.lst ei ((ru.mono p2).mono p3)
              exact ⟨p, vs, rfl, SqL.of ee, finO.newLst ⟨_, _, e4, k⟩ rel3 (r1.cut _ _)⟩
            · cases e4
          · cases e4
/-! ### in, not in -/
def flatS : SV → Bool
  | .non => true
  | .bl _ => true
  | .int _ => true
  | .str _ => true
  | _ => false
def eqS : SV → SV → Bool
  | .non, .non => true
  | .bl a, .bl b => a == b
  | .bl a, .int b => (if a then 1 else 0) == b
  | .int a, .bl b => a == (if b then 1 else 0)
  | .int a, .int b => a == b
  | .str a, .str b => a == b
  | _, _ => false
theorem flatS_rel {a : SV} {v : V} (r : RS en ρ a v) (f : flatS a = true) : flatV v = true := by
  cases a <;> first | (cases r; rfl) | cases f
theorem flatS_all : ∀ {xs : List SV} {vs : List V}, RSs en ρ xs vs → xs.all flatS = true → vs.all flatV = true
  | _, _, .nil, _ => rfl
  | _, _, .cons r t, f => by
    rw [List.all_cons, Bool.and_eq_true] at f ⊢
    exact ⟨flatS_rel r f.1, flatS_all t f.2⟩
theorem eqS_rel {a b : SV} {v u : V} (ra : RS en ρ a v) (rb : RS en ρ b u) (fa : flatS a = true) (fb : flatS b = true) : eqV v u = eqS a b := by
  cases a <;> cases b <;> first | (cases ra; cases rb; rfl) | exact absurd fa Bool.false_ne_true | exact absurd fb Bool.false_ne_true
theorem anyS_rel {x : SV} {v : V} (rx : RS en ρ x v) (fx : flatS x = true) : ∀ {xs : List SV} {vs : List V}, RSs en ρ xs vs → xs.all flatS = true → inV v vs = xs.any fun y => eqS y x
  | _, _, .nil, _ => rfl
  | _, _, .cons r t, f => by
    rw [List.all_cons, Bool.and_eq_true] at f
    have z := anyS_rel rx fx t f.2
    unfold inV at z ⊢
    rw [List.any_cons, List.any_cons, eqS_rel r rx f.1 fx, z]
def opIn (neg : Bool) : O2 := fun a b h => match b with
  | .ref i => match h[i]? with
    | some (.lst xs) => if (flatS a && xs.all flatS) = true then some (.bl (if neg then !(xs.any fun y => eqS y a) else (xs.any fun y => eqS y a)), h) else none
    | some (.tup xs) => if (flatS a && xs.all flatS) = true then some (.bl (if neg then !(xs.any fun y => eqS y a) else (xs.any fun y => eqS y a)), h) else none
    | some o => match dictGet h o a with
      | some r => some (.bl (if neg then !r.isSome else r.isSome), h)
      | none => none
    | none => none
  | _ => none
theorem op_in_dict (hu : X.A.units + 1 < cLine) : OpR X (compareOp .In) (fun y x H Q => ∃ a o, x = .ref a ∧ DGet H a y o ∧ Q (.bl o.isSome) H) := by
  intro pins s σ H y x u v Q I ry rx ⟨a, o, e, g, q⟩
  subst e
  obtain rfl : v = Value.ref a := rx
  exact d_in hu I g ry fun s3 I3 => ⟨.bl o.isSome, H, I3, rfl, q⟩
theorem op_notin_dict (hu : X.A.units + 1 < cLine) : OpR X (compareOp .NotIn) (fun y x H Q => ∃ a o, x = .ref a ∧ DGet H a y o ∧ Q (.bl (!o.isSome)) H) := by
  intro pins s σ H y x u v Q I ry rx ⟨a, o, e, g, q⟩
  subst e
  obtain rfl : v = Value.ref a := rx
  exact d_notIn hu I g ry fun s3 I3 => ⟨.bl (!o.isSome), H, I3, rfl, q⟩
theorem inCore {neg : Bool} {x y : V} {a b : SV} {Q : VK} (rel : Rel en ρ h H) (ra : RS en ρ a x) (rb : RS en ρ b y) (f : finO en ρ (opIn neg a b h) Q) :
    (∃ p xs, y = .ref p ∧ (SqL X.K H p xs ∨ SqT X.K H p xs) ∧ flatV x = true ∧ xs.all flatV = true ∧ Q (.bl (if neg then !inV x xs else inV x xs)) H) ∨ (∃ a o, y = .ref a ∧ DGet H a x o ∧ Q (.bl (if neg then !o.isSome else o.isSome)) H) := by
  obtain ⟨v, h', e, k⟩ := f
  unfold opIn at e
  split at e
  · split at e
    · rename_i ei
      split at e
      · rename_i hf
        obtain ⟨p, vs, rfl, ep, e1, r1⟩ := rel.lst ei rb
        have z := Bool.and_eq_true_iff.mp hf
        refine .inl ⟨p, vs, rfl, .inl (SqL.of e1), flatS_rel ra z.1, flatS_all r1 z.2, ?_⟩
        rw [anyS_rel ra z.1 r1 z.2]
        exact finO.here ⟨_, _, e, k⟩ rel rfl
      · cases e
    · rename_i ei
      split at e
      · rename_i hf
        obtain ⟨p, vs, rfl, ep, e1, r1⟩ := rel.tup ei rb
        have z := Bool.and_eq_true_iff.mp hf
        refine .inl ⟨p, vs, rfl, .inr (SqT.of e1), flatS_rel ra z.1, flatS_all r1 z.2, ?_⟩
        rw [anyS_rel ra z.1 r1 z.2]
        exact finO.here ⟨_, _, e, k⟩ rel rfl
      · cases e
    · rename_i o _ _ ei
      split at e
      · rename_i r er
        obtain ⟨p, ep, rfl⟩ := rb
        obtain ⟨g1, g2⟩ := dictGet_rel rel ei ep er ra
        cases r with
        | none => exact .inr ⟨p, none, rfl, g2 rfl, finO.here ⟨_, _, e, k⟩ rel rfl⟩
        | some w =>
          obtain ⟨u, ug, _⟩ := g1 w rfl
          exact .inr ⟨p, some u, rfl, ug, finO.here ⟨_, _, e, k⟩ rel rfl⟩
      · cases e
    · cases e
  · cases e
theorem op_inM (hu : X.A.units + 1 < cLine) : OpR X (compareOp .In) (rO2 en (opIn false)) := by
  refine OpRimp (op_in_seq.or (op_in_dict hu)) fun x y H Q ⟨ρ, h, a, b, rel, ra, rb, f⟩ => ?_
  exact (inCore (X := X) rel ra rb f).imp (fun z => by simpa [rIn] using z) fun z => by simpa using z
theorem op_notInM (hu : X.A.units + 1 < cLine) : OpR X (compareOp .NotIn) (rO2 en (opIn true)) := by
  refine OpRimp (op_notIn_seq.or (op_notin_dict hu)) fun x y H Q ⟨ρ, h, a, b, rel, ra, rb, f⟩ => ?_
  exact (inCore (X := X) rel ra rb f).imp (fun z => by simpa [rIn] using z) fun z => by simpa using z
/-! ### len, int, bool, max, min, abs, list, tuple -/
def opLen : O1 := fun a h => match a with
  | .scr ns => some (.int ns.length, h)
  | .str z => if z.length ≤ big then some (.int z.length, h) else none
  | .ref i => match h[i]? with
    | some (.lst xs) => some (.int xs.length, h)
    | some (.tup xs) => some (.int xs.length, h)
    | some (.dK kvs) => some (.int kvs.length, h)
    | _ => none
  | _ => none
theorem CallRor {f : Value} {r r' : List V → Hp → VK → Prop} (h : CallR X f r) (h' : CallR X f r') : CallR X f (fun xs H Q => r xs H Q ∨ r' xs H Q) := fun pins s σ H xs us Q I r2 q => q.elim (h pins s σ H xs us Q I r2) (h' pins s σ H xs us Q I r2)
theorem RSs.one {a : SV} {xs : List V} (r : RSs en ρ [a] xs) : ∃ x, xs = [x] ∧ RS en ρ a x := by
  cases r with
  | cons r t => cases t; exact ⟨_, rfl, r⟩
theorem RSs.two {a b : SV} {xs : List V} (r : RSs en ρ [a, b] xs) : ∃ x y, xs = [x, y] ∧ RS en ρ a x ∧ RS en ρ b y := by
  cases r with
  | cons r t =>
    obtain ⟨y, rfl, ry⟩ := RSs.one t
    exact ⟨_, _, rfl, r, ry⟩
theorem un1_of {o : O1} {xs : List V} {H : Hp} {Q : VK} (q : rOA en (un1 o) xs H Q) : ∃ ρ h a x, xs = [x] ∧ Rel en ρ h H ∧ RS en ρ a x ∧ finO en ρ (o a h) Q := by
  obtain ⟨ρ, h, as, rel, r, v, h', e, k⟩ := q
  unfold un1 at e
  split at e
  · obtain ⟨x, rfl, rx⟩ := RSs.one r
    exact ⟨ρ, h, _, x, rfl, rel, rx, v, h', e, k⟩
  · cases e
theorem bin2_of {o : O2} {xs : List V} {H : Hp} {Q : VK} (q : rOA en (bin2 o) xs H Q) : ∃ ρ h a b x y, xs = [x, y] ∧ Rel en ρ h H ∧ RS en ρ a x ∧ RS en ρ b y ∧ finO en ρ (o a b h) Q := by
  obtain ⟨ρ, h, as, rel, r, v, h', e, k⟩ := q
  unfold bin2 at e
  split at e
  · obtain ⟨x, y, rfl, rx, ry⟩ := RSs.two r
    exact ⟨ρ, h, _, _, x, y, rfl, rel, rx, ry, v, h', e, k⟩
  · cases e
theorem call_lenM (hK : X.K = en.K) : CallR X (.builtin "len") (rOA en (un1 opLen)) := by
  refine CallRimp (CallRor call_len_seq (CallRor call_len_str call_lenD)) fun xs H Q q => ?_
  obtain ⟨ρ, h, a, x, rfl, rel, ra, v, h', e, k⟩ := un1_of q
  unfold opLen at e
  split at e
  · obtain ⟨rfl, rfl⟩ := ra
    refine .inl ⟨_, _, rfl, .inl (by rw [hK]; exact rel.scr), ?_⟩
    rw [List.length_map]
    exact finO.here ⟨_, _, e, k⟩ rel rfl
  · split at e
    · cases ra
      exact .inr (.inl ⟨_, rfl, by rw [big_eq]; assumption, finO.here ⟨_, _, e, k⟩ rel rfl⟩)
    · cases e
  · split at e
    · rename_i ei
      obtain ⟨p, vs, rfl, ep, e1, r1⟩ := rel.lst ei ra
      refine .inl ⟨_, _, rfl, .inl (SqL.of e1), ?_⟩
      rw [← r1.len]
      exact finO.here ⟨_, _, e, k⟩ rel rfl
    · rename_i ei
      obtain ⟨p, vs, rfl, ep, e1, r1⟩ := rel.tup ei ra
      refine .inl ⟨_, _, rfl, .inr (SqT.of e1), ?_⟩
      rw [← r1.len]
      exact finO.here ⟨_, _, e, k⟩ rel rfl
    · rename_i kvs ei
      obtain ⟨p, ep, rfl⟩ := ra
      obtain ⟨kws, e1, r1⟩ := rel.at2 ep ei
      refine .inr (.inr ⟨p, kws, rfl, e1, ?_⟩)
      rw [← Paired.length r1]
      exact finO.here ⟨_, _, e, k⟩ rel rfl
    · cases e
  · cases e
def opInt : O1 := fun a h => match a with
  | .int i => some (.int i, h)
  | .bl b => some (.int (if b then 1 else 0), h)
  | _ => none
theorem call_intM : CallR X (.type "int") (rOA en (un1 opInt)) := by
  refine CallRimp call_int1 fun xs H Q q => ?_
  obtain ⟨ρ, h, a, x, rfl, rel, ra, v, h', e, k⟩ := un1_of q
  unfold opInt at e
  split at e
  · cases ra; exact .inl ⟨_, rfl, finO.here ⟨_, _, e, k⟩ rel rfl⟩
  · cases ra; exact .inr ⟨_, rfl, finO.here ⟨_, _, e, k⟩ rel rfl⟩
  · cases e
def opMax : O2 := fun a b h => match a, b with
  | .int i, .int j => some (.int (if j > i then j else i), h)
  | _, _ => none
def opMin : O2 := fun a b h => match a, b with
  | .int i, .int j => some (.int (if j < i then j else i), h)
  | _, _ => none
def opAbs : O1 := fun a h => match a with
  | .int i => some (.int (if i < 0 then -i else i), h)
  | _ => none
theorem call_maxM (hc : X.calm = true) : CallR X (.builtin "max") (rOA en (bin2 opMax)) := by
  refine CallRimp (call_max2 hc) fun xs H Q q => ?_
  obtain ⟨ρ, h, a, b, x, y, rfl, rel, ra, rb, v, h', e, k⟩ := bin2_of q
  unfold opMax at e
  split at e
  · cases ra; cases rb; exact ⟨_, _, rfl, finO.here ⟨_, _, e, k⟩ rel rfl⟩
  · cases e
theorem call_minM (hc : X.calm = true) : CallR X (.builtin "min") (rOA en (bin2 opMin)) := by
  refine CallRimp (call_min2 hc) fun xs H Q q => ?_
  obtain ⟨ρ, h, a, b, x, y, rfl, rel, ra, rb, v, h', e, k⟩ := bin2_of q
  unfold opMin at e
  split at e
  · cases ra; cases rb; exact ⟨_, _, rfl, finO.here ⟨_, _, e, k⟩ rel rfl⟩
  · cases e
theorem call_absM : CallR X (.builtin "abs") (rOA en (un1 opAbs)) := by
  refine CallRimp call_abs fun xs H Q q => ?_
  obtain ⟨ρ, h, a, x, rfl, rel, ra, v, h', e, k⟩ := un1_of q
  unfold opAbs at e
  split at e
  · cases ra; exact ⟨_, rfl, finO.here ⟨_, _, e, k⟩ rel rfl⟩
  · cases e
def opList : O1 := fun a h => match a with
  | .ref i => match h[i]? with
    | some (.lst xs) => alloc (.lst xs) h
    | some (.tup xs) => alloc (.lst xs) h
    | _ => none
  | _ => none
theorem call_listM : CallR X (.type "list") (rOA en (un1 opList)) := by
  refine CallRimp call_list_of fun xs H Q q => ?_
  obtain ⟨ρ, h, a, x, rfl, rel, ra, v, h', e, k⟩ := un1_of q
  unfold opList at e
  split at e
  · split at e
    · rename_i ei
      obtain ⟨p, vs, rfl, ep, e1, r1⟩ := rel.lst ei ra
      exact ⟨_, _, rfl, .inl (SqL.of e1), finO.newLst ⟨_, _, e, k⟩ rel r1⟩
    · rename_i ei
      obtain ⟨p, vs, rfl, ep, e1, r1⟩ := rel.tup ei ra
      exact ⟨_, _, rfl, .inr (SqT.of e1), finO.newLst ⟨_, _, e, k⟩ rel r1⟩
    · cases e
  · cases e
def opTuple : O1 := fun a h => match a with
  | .ref i => match h[i]? with
    | some (.lst xs) => alloc (.tup xs) h
    | some (.tup xs) => some (a, h)
    | _ => none
  | _ => none
theorem call_tupleM : CallR X (.type "tuple") (rOA en (un1 opTuple)) := by
  refine CallRimp call_tuple_of fun xs H Q q => ?_
  obtain ⟨ρ, h, a, x, rfl, rel, ra, v, h', e, k⟩ := un1_of q
  unfold opTuple at e
  split at e
  · split at e
    · rename_i ei
      obtain ⟨p, vs, rfl, ep, e1, r1⟩ := rel.lst ei ra
      exact ⟨_, _, rfl, .inl ⟨SqL.of e1, finO.newTup ⟨_, _, e, k⟩ rel r1⟩⟩
    · rename_i ei
      obtain ⟨p, vs, rfl, ep, e1, r1⟩ := rel.tup ei ra
      exact ⟨_, _, rfl, .inr ⟨SqT.of e1, finO.here ⟨_, _, e, k⟩ rel ⟨p, ep, rfl⟩⟩⟩
    · cases e
  · cases e
end
end Fw
namespace Fw
open PySem PySem.Spec L2
def finS (en : En) (W : WX) (ρ : List Addr) (r : SR) (D : Ends) : Prop := match r with
  | .stuck => False
  | .nx ss h => ∀ ρ' σ H, Pre ρ ρ' → Rel en ρ' h H → RSl en ρ' ss σ → D.nx σ H
  | .rt v h => ∀ ρ' H u, Pre ρ ρ' → Rel en ρ' h H → RS en ρ' v u → D.rt u H
  | .bk ss h => ∀ ρ' σ H, Pre ρ ρ' → Rel en ρ' h H → RSl en ρ' ss σ → D.bk σ H
  | .ct ss h => ∀ ρ' σ H, Pre ρ ρ' → Rel en ρ' h H → RSl en ρ' ss σ → D.ct σ H
  | .ex c xs ss h => ∀ ρ' σ H cls d, Pre ρ ρ' → Rel en ρ' h H → RSl en ρ' ss σ → RX en ρ' H c xs cls d → W cls d σ H
def tS (en : En) (W : WX) (m : SM) : TS := fun D σ H => ∃ ρ ss h, Rel en ρ h H ∧ RSl en ρ ss σ ∧ finS en W ρ (m ss h) D
theorem finS.mono {en : En} {W : WX} {ρ ρ' : List Addr} {r : SR} {D : Ends} (p : Pre ρ ρ') (f : finS en W ρ r D) : finS en W ρ' r D := by
  cases r with
  | stuck => exact f
  | nx ss h => exact fun ρ2 σ H p2 => f ρ2 σ H (p.trans p2)
  | rt v h => exact fun ρ2 σ H p2 => f ρ2 σ H (p.trans p2)
  | bk ss h => exact fun ρ2 σ H p2 => f ρ2 σ H (p.trans p2)
  | ct ss h => exact fun ρ2 σ H p2 => f ρ2 σ H (p.trans p2)
  | ex c xs ss h => exact fun ρ2 σ H cls d p2 => f ρ2 σ H cls d (p.trans p2)
/-- an expression's run goes on as a statement's -/
def thenS {α : Type} (r : Res α) (ss : SS) (k : α → SH → SR) : SR := match r with
  | .stuck => .stuck
  | .ok a h => k a h
  | .ex c xs h => .ex c xs ss h
section
variable {X : Cx} {en : En} {W : WX} {pos : Pos}
theorem tS.bind {α β : Type} {R1 : List Addr → α → β → Prop} {m1 : SS → SH → Res α} {k : SS → α → SH → SR} {D : Ends} {σ : L2.St} {H : Hp} {Q' : β → Hp → Prop}
    (t : tS en W (fun ss h => thenS (m1 ss h) ss (k ss)) D σ H)
    (f : ∀ ρ ss h a b H1, Rel en ρ h H1 → RSl en ρ ss σ → R1 ρ a b → finS en W ρ (k ss a h) D → Q' b H1) : tM en W R1 m1 σ H Q' := by
  obtain ⟨ρ, ss, h, rel, rs, q⟩ := t
  refine ⟨ρ, ss, h, rel, rs, ?_⟩
  cases e : m1 ss h with
  | stuck => simp only [e, thenS, finS] at q
  | ok a h1 =>
    simp only [e, thenS] at q
    exact fun ρ' H' b p rel' rb => f ρ' ss h1 a b H' rel' (rs.mono p) rb (q.mono p)
  | ex c xs h1 =>
    simp only [e, thenS, finS] at q
    exact fun ρ' H' cls d p rel' rx => q ρ' σ H' cls d p rel' (rs.mono p) rx
/-! ### one after the other, if, return, an expression -/
def mNil : SM := fun ss h => .nx ss h
def mSeq (m1 m2 : SM) : SM := fun ss h => match m1 ss h with
  | .nx ss h => m2 ss h
  | r => r
def mIfS (t : BM) (m1 m2 : SM) : SM := fun ss h => thenS (t ss h) ss fun b h1 => if b = true then m1 ss h1 else m2 ss h1
def mRet (m : EM) : SM := fun ss h => thenS (m ss h) ss fun v h1 => .rt v h1
def mRetN : SM := fun _ h => .rt .non h
def mDrop (m : EM) : SM := fun ss h => thenS (m ss h) ss fun _ h1 => .nx ss h1
def mBrk : SM := fun ss h => .bk ss h
def mCnt : SM := fun ss h => .ct ss h
theorem PSs.nil : PSs X [] (tS en W mNil) := PSsimp pss_nil fun D σ H ⟨ρ, ss, h, rel, rs, f⟩ => f ρ σ H (Pre.refl ρ) rel rs
theorem tS.seq {m1 m2 : SM} (D : Ends) (σ : L2.St) (H : Hp) (t : tS en W (mSeq m1 m2) D σ H) : tSeq (tS en W m1) (tS en W m2) D σ H := by
  obtain ⟨ρ, ss, h, rel, rs, f⟩ := t
  refine ⟨ρ, ss, h, rel, rs, ?_⟩
  unfold mSeq at f
  cases e : m1 ss h with
  | nx ss' h' => simp only [e] at f; exact fun ρ' σ' H' p rel' rs' => ⟨ρ', ss', h', rel', rs', f.mono p⟩
  | stuck => simp only [e] at f; exact f
  | rt v h => simp only [e] at f; exact f
  | bk v h => simp only [e] at f; exact f
  | ct v h => simp only [e] at f; exact f
  | ex c xs v h => simp only [e] at f; exact f
theorem PSs.cons {st : Stmt} {rest : List Stmt} {m1 m2 : SM} (h1 : PS X st (tS en W m1)) (h2 : PSs X rest (tS en W m2)) : PSs X (st :: rest) (tS en W (mSeq m1 m2)) := PSsimp (pss_cons h1 h2) tS.seq
theorem PSs.one {st : Stmt} {m1 : SM} (h1 : PS X st (tS en W m1)) : PSs X [st] (tS en W m1) := pss_one h1
theorem PS.pass : PS X (.Pass pos) (tS en W mNil) := PSimp ps_pass fun D σ H ⟨ρ, ss, h, rel, rs, f⟩ => f ρ σ H (Pre.refl ρ) rel rs
theorem PS.doc {x : Str} {j : Nat} {pos' : Pos} : PS X (.Expr (.Constant (.str x) j pos) pos') (tS en W mNil) := PSimp ps_doc fun D σ H ⟨ρ, ss, h, rel, rs, f⟩ => f ρ σ H (Pre.refl ρ) rel rs
theorem PS.brk : PS X (.Break pos) (tS en W mBrk) := PSimp ps_break fun D σ H ⟨ρ, ss, h, rel, rs, f⟩ => f ρ σ H (Pre.refl ρ) rel rs
theorem PS.cnt : PS X (.Continue pos) (tS en W mCnt) := PSimp ps_continue fun D σ H ⟨ρ, ss, h, rel, rs, f⟩ => f ρ σ H (Pre.refl ρ) rel rs
theorem PS.retN : PS X (.Return none pos) (tS en W mRetN) := PSimp ps_retN fun D σ H ⟨ρ, ss, h, rel, rs, f⟩ => f ρ H .non (Pre.refl ρ) rel rfl
theorem PS.ret {e : Expr} {m : EM} (he : PE X e (tE en W m)) : PS X (.Return (some e) pos) (tS en W (mRet m)) :=
  PSimp (ps_ret he) fun D σ H t => tS.bind (R1 := RS en) (k := fun _ v h1 => .rt v h1) t fun ρ ss h a b H1 rel rs r f => f ρ H1 b (Pre.refl ρ) rel r
theorem PS.expr {e : Expr} {m : EM} (he : PE X e (tE en W m)) (hs : swapsWith e none pos.line X.env = pure false := by rfl) : PS X (.Expr e pos) (tS en W (mDrop m)) :=
  PSimp (ps_expr he hs) fun D σ H t => tS.bind (R1 := RS en) (k := fun ss _ h1 => .nx ss h1) t fun ρ ss h a b H1 rel rs r f => f ρ σ H1 (Pre.refl ρ) rel rs
theorem PS.if {c : Expr} {a b : List Stmt} {t : BM} {m1 m2 : SM} (hc : PT X c (tT en W t)) (ha : PSs X a (tS en W m1)) (hb : PSs X b (tS en W m2)) : PS X (.If c a b pos) (tS en W (mIfS t m1 m2)) :=
  PSimp (ps_if hc ha hb) fun D σ H q => tS.bind (R1 := RB) (k := fun ss b h1 => if b = true then m1 ss h1 else m2 ss h1) q fun ρ ss h a b H1 rel rs r f => by
    cases r
    cases a with
    | true => exact ⟨ρ, ss, h, rel, rs, f⟩
    | false => exact ⟨ρ, ss, h, rel, rs, f⟩
/-! ### truth of any value -/
def opTru (v : SV) (h : SH) : Res Bool := match v with
  | .non => .ok false h
  | .bl b => .ok b h
  | .int i => .ok (i != 0) h
  | .str y => if y.length ≤ big then .ok ((y.length : Int) != 0) h else .stuck
  | .scr ns => .ok (!ns.isEmpty) h
  | .ref i => match h[i]? with
    | some (.lst xs) => .ok (!xs.isEmpty) h
    | some (.tup xs) => .ok (!xs.isEmpty) h
    | some (.dK kvs) => .ok (!kvs.isEmpty) h
    | _ => .stuck
def mTru (m : EM) : BM := fun ss h => (m ss h).bind fun v h1 => opTru v h1
theorem Paired.isEmpty {α β : Type} {R : α → β → Prop} : ∀ {xs : List α} {ys : List β}, Paired R xs ys → xs.isEmpty = ys.isEmpty
  | _, _, .nil => rfl
  | _, _, .cons _ _ => rfl
theorem PT.tru {e : Expr} {m : EM} (hK : X.K = en.K) (he : PE X e (tE en W m)) (hi : ∀ whole, isTrue e X.env whole = (do let v ← whole; standAt e.pos; holding [v] (truthy v)) := by intro _; rfl) : PT X e (tT en W (mTru m)) :=
  PTimp (pt_truth he hi) fun σ H Q t => tM.bind2 (R1 := RS en) (R2 := RB) (k := fun v (ss : SS) h1 => opTru v h1) t fun ρ ss h v x H1 rel rs r f => by
    have go : ∀ k : Bool, opTru v h = .ok k h → TruV X.K x H1 k → ∃ k, TruV X.K x H1 k ∧ Q k H1 := fun k e z => by
      rw [e] at f
      exact ⟨k, z, f ρ H1 k (Pre.refl ρ) rel rfl⟩
    have nostuck : opTru v h ≠ .stuck := fun e => by rw [e] at f; exact f
    cases v with
    | non => cases r; exact go _ rfl rfl
    | bl b => cases r; exact go _ rfl rfl
    | int i => cases r; exact go _ rfl rfl
    | str y =>
      cases r
      by_cases hl : y.length ≤ big
      · exact go ((y.length : Int) != 0) (by simp only [opTru, if_pos hl]) ⟨by rw [big_eq]; exact hl, rfl⟩
      · exact (nostuck (by simp only [opTru, if_neg hl])).elim
    | scr ns =>
      obtain ⟨rfl, rfl⟩ := r
      refine go (!en.ns.isEmpty) rfl (.inl ⟨_, by rw [hK]; exact rel.scr, by cases en.ns <;> rfl⟩)
    | ref i =>
      cases ei : h[i]? with
      | none => exact (nostuck (by simp only [opTru, ei])).elim
      | some o =>
        cases o with
        | lst xs =>
          obtain ⟨p, vs, rfl, ep, e1, r1⟩ := rel.lst ei r
          exact go (!xs.isEmpty) (by simp only [opTru, ei]) (.inl ⟨vs, SqL.of e1, by rw [Paired.isEmpty r1]⟩)
        | tup xs =>
          obtain ⟨p, vs, rfl, ep, e1, r1⟩ := rel.tup ei r
          exact go (!xs.isEmpty) (by simp only [opTru, ei]) (.inr (.inl ⟨vs, SqT.of e1, by rw [Paired.isEmpty r1]⟩))
        | dK kvs =>
          obtain ⟨p, ep, rfl⟩ := r
          obtain ⟨kws, e1, r1⟩ := rel.at2 ep ei
          exact go (!kvs.isEmpty) (by simp only [opTru, ei]) (.inr (.inr ⟨kws, e1, by rw [Paired.isEmpty r1]⟩))
        | _ => exact (nostuck (by simp only [opTru, ei])).elim
/-! ### targets -/
abbrev GM := SV → SS → SH → Option SS
abbrev GMs := List SV → SS → SH → Option SS
/-- two slots' lists that differ at the places is alone -/
structure SameOut (is : List Nat) (σ σ' : L2.St) : Prop where
  len : σ'.length = σ.length
  out : ∀ j, j ∉ is → σ'[j]? = σ[j]?
theorem SameOut.refl (is : List Nat) (σ : L2.St) : SameOut is σ σ := ⟨rfl, fun _ _ => rfl⟩
theorem SameOut.set {is : List Nat} {σ : L2.St} {i : Nat} {v : Option V} : SameOut (i :: is) σ (σ.set i v) := ⟨by simp, fun j h => by
  have : i ≠ j := fun e => h (by rw [e]; exact List.mem_cons_self)
  rw [List.getElem?_set_ne this]⟩
theorem SameOut.trans {is js : List Nat} {a b c : L2.St} (h : SameOut is a b) (k : SameOut js b c) : SameOut (is ++ js) a c := ⟨k.len.trans h.len, fun j m => (k.out j fun z => m (List.mem_append_right _ z)).trans (h.out j fun z => m (List.mem_append_left _ z))⟩
def tG (en : En) (is : List Nat) (g : GM) : TG := fun v σ H Q => ∃ ρ ss h x ss', Rel en ρ h H ∧ RSl en ρ ss σ ∧ RS en ρ x v ∧ g x ss h = some ss' ∧ ∀ σ', RSl en ρ ss' σ' → SameOut is σ σ' → Q σ' H
def tGs (en : En) (is : List Nat) (g : GMs) : TGs := fun vs σ H Q => ∃ ρ ss h xs ss', Rel en ρ h H ∧ RSl en ρ ss σ ∧ RSs en ρ xs vs ∧ g xs ss h = some ss' ∧ ∀ σ', RSl en ρ ss' σ' → SameOut is σ σ' → Q σ' H
theorem PGimp {e : Expr} {t t' : TG} (h : PG X e t) (k : ∀ v σ H Q, t' v σ H Q → t v σ H Q) : PG X e t' := ⟨fun pins s σ H v u Q I r q => h.run pins s σ H v u Q I r (k v σ H Q q)⟩
theorem PGsimp {e : List Expr} {t t' : TGs} (h : PGs X e t) (k : ∀ v σ H Q, t' v σ H Q → t v σ H Q) : PGs X e t' := ⟨fun pins s σ H v u Q I r q => h.run pins s σ H v u Q I r (k v σ H Q q)⟩
theorem PGor {e : Expr} {t t' : TG} (h : PG X e t) (h' : PG X e t') : PG X e (fun v σ H Q => t v σ H Q ∨ t' v σ H Q) := ⟨fun pins s σ H v u Q I r q => q.elim (h.run pins s σ H v u Q I r) (h'.run pins s σ H v u Q I r)⟩
def gVar (i : Nat) : GM := fun v ss _ => some (ss.set i (some v))
def gsNil : GMs := fun vs ss _ => match vs with
  | [] => some ss
  | _ => none
def gsCons (g : GM) (gs : GMs) : GMs := fun vs ss h => match vs with
  | v :: r => match g v ss h with
    | some ss' => gs r ss' h
    | none => none
  | [] => none
def gTupM (n : Nat) (g : GMs) : GM := fun v ss h => match v with
  | .ref i => match h[i]? with
    | some (.tup xs) => if xs.length = n then g xs ss h else none
    | some (.lst xs) => if xs.length = n then g xs ss h else none
    | _ => none
  | _ => none
theorem PG.var {i : Nat} {x : Str} (hN : X.N.Nodup) (hi : X.N[i]? = some x) (hx : Loc X.env.scope x) (hf : X.fn x = true ∨ X.env.scope.names.lookup x = some .local := by first | exact .inl rfl | exact .inr rfl | assumption) : PG X (.Name x pos) (tG en [i] (gVar i)) :=
  PGimp (pg_name hN hi hx hf) fun v σ H Q ⟨ρ, ss, h, x, ss', rel, rs, r, e, f⟩ => by
    cases e
    exact f _ (rs.set r i) SameOut.set
theorem PGs.nil : PGs X [] (tGs en [] gsNil) := PGsimp pgs_nil fun vs σ H Q ⟨ρ, ss, h, xs, ss', rel, rs, r, e, f⟩ => by
  cases r with
  | nil => cases e; exact ⟨rfl, f _ rs (SameOut.refl _ _)⟩
  | cons _ _ => cases e
theorem PGs.cons {e : Expr} {es : List Expr} {g : GM} {gs : GMs} {is js : List Nat} (h1 : PG X e (tG en is g)) (h2 : PGs X es (tGs en js gs))
    (hs : (assignEach (e :: es) X.env).map (·.2) = assign e X.env :: (assignEach es X.env).map (·.2) := by rfl) : PGs X (e :: es) (tGs en (is ++ js) (gsCons g gs)) :=
  PGsimp (pgs_cons h1 h2 hs) fun vs σ H Q ⟨ρ, ss, h, xs, ss', rel, rs, r, e, f⟩ => by
    cases r with
    | nil => cases e
    | cons r t =>
      unfold gsCons at e
      split at e
      · rename_i ez
        cases ez
        split at e
        · rename_i ss1 e1
          exact ⟨_, _, rfl, ρ, ss, h, _, ss1, rel, rs, r, e1, fun σ' rs' o => ⟨ρ, ss1, h, _, ss', rel, rs', t, e, fun σ2 rs2 o2 => f σ2 rs2 (o.trans o2)⟩⟩
        · cases e
      · cases e
theorem PG.tup {es : List Expr} {k n : Nat} {g : GMs} {is : List Nat} (hc : X.calm = true) (h : PGs X es (tGs en is g)) (hn : (assignEach es X.env).length = n := by rfl) (hst : (assignEach es X.env).findIdx? (·.1) = none := by rfl) : PG X (.Tuple es k pos) (tG en is (gTupM n g)) :=
  PGimp (PGor (pg_tup hc h hn hst) (pg_unl hc h hn hst)) fun v σ H Q ⟨ρ, ss, h, x, ss', rel, rs, r, e, f⟩ => by
    unfold gTupM at e
    split at e
    · split at e
      · rename_i ei
        split at e
        · obtain ⟨p, vs, rfl, ep, e1, r1⟩ := rel.tup ei r
          exact .inl ⟨p, vs, rfl, SqT.of e1, by rw [← r1.len]; assumption, ρ, ss, h, _, ss', rel, rs, r1, e, f⟩
        · cases e
      · rename_i ei
        split at e
        · obtain ⟨p, vs, rfl, ep, e1, r1⟩ := rel.lst ei r
          exact .inr ⟨p, vs, rfl, SqL.of e1, by rw [← r1.len]; assumption, ρ, ss, h, _, ss', rel, rs, r1, e, f⟩
        · cases e
      · cases e
    · cases e
/-! ### assignments -/
def mSet (i : Nat) (m : EM) : SM := fun ss h => thenS (m ss h) ss fun v h1 => .nx (ss.set i (some v)) h1
def mAsg (g : GM) (m : EM) : SM := fun ss h => thenS (m ss h) ss fun v h1 => match g v ss h1 with
  | some ss' => .nx ss' h1
  | none => .stuck
theorem PS.set {i : Nat} {x : Str} {e : Expr} {m : EM} {pos' : Pos} (hN : X.N.Nodup) (hi : X.N[i]? = some x) (hx : Loc X.env.scope x) (he : PE X e (tE en W m)) (hs : swapsWith e (some (.Name x pos')) pos.line X.env = pure false := by rfl)
    (hf : X.fn x = true ∨ X.env.scope.names.lookup x = some .local := by first | exact .inl rfl | exact .inr rfl | assumption) : PS X (.Assign [.Name x pos'] e pos) (tS en W (mSet i m)) :=
  PSimp (ps_set hN hi hx he hs hf) fun D σ H t => tS.bind (R1 := RS en) (k := fun ss v h1 => .nx (ss.set i (some v)) h1) t fun ρ ss h a b H1 rel rs r f => f ρ _ H1 (Pre.refl ρ) rel (rs.set r i)
theorem PS.asg {tg e : Expr} {g : GM} {m : EM} {is : List Nat} (he : PE X e (tE en W m)) (hg : PG X tg (tG en is g)) (hs : swapsWithSole [tg] e pos.line X.env = pure false := by rfl) (hw : swappedStores [tg] e X.env = pure none := by rfl)
    (h1 : (assignEach [tg] X.env).map (·.2) = [assign tg X.env] := by rfl) : PS X (.Assign [tg] e pos) (tS en W (mAsg g m)) :=
  PSimp (ps_asg he hg hs hw h1) fun D σ H t => tS.bind (R1 := RS en) (k := fun ss v h1 => match g v ss h1 with | some ss' => .nx ss' h1 | none => .stuck) t fun ρ ss h a b H1 rel rs r f => by
    cases e : g a ss h with
    | none => simp only [e, finS] at f
    | some ss' =>
      simp only [e] at f
      exact ⟨ρ, ss, h, a, ss', rel, rs, r, e, fun σ' rs' _ => f ρ σ' H1 (Pre.refl ρ) rel rs'⟩
def mPar (i j : Nat) (m : AM) : SM := fun ss h => thenS (m ss h) ss fun vs h1 => match vs with
  | [v, w] => .nx ((ss.set i (some v)).set j (some w)) h1
  | _ => .stuck
theorem PS.par {i j : Nat} {x y : Str} {a b : Expr} {m : AM} {px py pt pos : Pos} {kt k2 : Nat} {pt2 : Pos} (hc : X.calm = true) (hN : X.N.Nodup) (hi : X.N[i]? = some x) (hj : X.N[j]? = some y) (hij : i ≠ j)
    (hx : X.env.scope.names.lookup x = some .local) (hy : X.env.scope.names.lookup y = some .local) (ha : PA X [a, b] (tA en W m))
    (hw : swappedStores [.Tuple [.Name x px, .Name y py] kt pt] (.Tuple [a, b] k2 pt2) X.env = pure (some [x, y]))
    (hs : swapsWithSole [.Tuple [.Name x px, .Name y py] kt pt] (.Tuple [a, b] k2 pt2) pos.line X.env = pure false := by rfl) :
    PS X (.Assign [.Tuple [.Name x px, .Name y py] kt pt] (.Tuple [a, b] k2 pt2) pos) (tS en W (mPar i j m)) :=
  PSimp (ps_par hc hN hi hj hij hx hy ha hw hs) fun D σ H t => tS.bind (R1 := RSs en) (k := fun ss vs h1 => match vs with | [v, w] => .nx ((ss.set i (some v)).set j (some w)) h1 | _ => .stuck) t fun ρ ss h as bs H1 rel rs r f => by
    split at f
    · obtain ⟨x, y, rfl, rx, ry⟩ := RSs.two r
      exact ⟨x, y, rfl, f ρ _ H1 (Pre.refl ρ) rel ((rs.set rx i).set ry j)⟩
    · exact f.elim
/-- x += e, x -= e -/
def mAug (i : Nat) (o : O2) (m : EM) : SM := fun ss h => match ss[i]? with
  | some (some x) => thenS (m ss h) ss fun v h1 => thenS (lift (o x v h1)) ss fun w h2 => .nx (ss.set i (some w)) h2
  | _ => .stuck
end
end Fw
namespace Fw
open PySem PySem.Spec L2
section
variable {X : Cx} {en : En} {W : WX} {pos : Pos}
def opAddI : O2 := fun a b h => match a, b with
  | .int i, .int j => some (.int (i + j), h)
  | .str x, .str y => if x.length + y.length ≤ big then some (.str (x ++ y), h) else none
  | _, _ => none
theorem ip_addM : PIp X .Add (rO2 en opAddI) := by
  intro pins s σ H x y v u Q I rx ry ⟨ρ, h, a, b, rel, ra, rb, w, h', e, k⟩
  unfold opAddI at e
  split at e
  · cases ra; cases rb
    exact iop_add pins s σ H _ _ v u Q I rx ry ⟨_, _, rfl, rfl, finO.here ⟨_, _, e, k⟩ rel rfl⟩
  · cases ra; cases rb
    split at e
    · exact iop_add_str pins s σ H _ _ v u Q I rx ry ⟨_, _, rfl, rfl, by rw [big_eq]; assumption, finO.here ⟨_, _, e, k⟩ rel rfl⟩
    · cases e
  · cases e
theorem ip_subM : PIp X .Sub (rO2 en opSub) := by
  intro pins s σ H x y v u Q I rx ry ⟨ρ, h, a, b, rel, ra, rb, w, h', e, k⟩
  unfold opSub at e
  split at e
  · cases ra; cases rb
    exact iop_sub pins s σ H _ _ v u Q I rx ry ⟨_, _, rfl, rfl, finO.here ⟨_, _, e, k⟩ rel rfl⟩
  · cases e
theorem PS.aug {i : Nat} {x : Str} {e : Expr} {m : EM} {op : Operator} {o : O2} {pos' : Pos} (hN : X.N.Nodup) (hi : X.N[i]? = some x) (hx : Loc X.env.scope x) (he : PE X e (tE en W m)) (ho : PIp X op (rO2 en o))
    (hf : X.fn x = true ∨ X.env.scope.names.lookup x = some .local := by first | exact .inl rfl | exact .inr rfl | assumption) : PS X (.AugAssign (.Name x pos') op e pos) (tS en W (mAug i o m)) :=
  PSimp (ps_aug hN hi hx he ho hf) fun D σ H ⟨ρ, ss, h, rel, rs, f⟩ => by
    unfold mAug at f
    split at f
    · rename_i x ex
      obtain ⟨u, eu, ru⟩ := rs.at_ i x ex
      refine ⟨u, eu, ρ, ss, h, rel, rs, ?_⟩
      cases e1 : m ss h with
      | stuck => simp only [e1, thenS, finS] at f
      | ex c xs h1 => simp only [e1, thenS, finS] at f; exact fun ρ' H' cls d p rel' rx => f ρ' σ H' cls d p rel' (rs.mono p) rx
      | ok v h1 =>
        simp only [e1, thenS] at f
        intro ρ1 H1 w p1 rel1 rw1
        refine ⟨ρ1, h1, x, v, rel1, ru.mono p1, rw1, ?_⟩
        cases e2 : o x v h1 with
        | none => simp only [e2, lift, finS] at f
        | some q =>
          obtain ⟨z, h2⟩ := q
          simp only [e2, lift] at f
          exact ⟨z, h2, rfl, fun ρ2 H2 b p2 rel2 rb => f ρ2 _ H2 (p1.trans p2) rel2 (((rs.mono p1).mono p2).set rb i)⟩
    · exact f.elim
/-! ### o[i] = e, o.f = e -/
def opSt (o i v : SV) (h : SH) : Option SH := match o with
  | .ref a => match h[a]? with
    | some (.lst xs) => match i with
      | .int k => match L2.ixN xs.length k with
        | some j => some (h.set a (.lst (xs.set j v)))
        | none => none
      | _ => none
    | some (.dK kvs) => match keyOf i with
      | some k => if kvs.length < big then some (h.set a (.dK (putS kvs k v))) else none
      | none => none
    | some (.dT kvs) => match i with
      | .ref b => match h[b]? with
        | some (.tup xs) => match keysOf xs with
          | some ks => if kvs.length < big then some (h.set a (.dT (putS kvs ks v))) else none
          | none => none
        | _ => none
      | _ => none
    | _ => none
  | _ => none
def mSt (me mo mi : EM) : SM := fun ss h => thenS (me ss h) ss fun v h1 => thenS (mo ss h1) ss fun o h2 => thenS (mi ss h2) ss fun i h3 => match opSt o i v h3 with
  | some h4 => .nx ss h4
  | none => .stuck
def rSt (en : En) : TSet := fun o i v H Q => ∃ ρ h a b c h', Rel en ρ h H ∧ RS en ρ a o ∧ RS en ρ b i ∧ RS en ρ c v ∧ opSt a b c h = some h' ∧ ∀ H', Rel en ρ h' H' → Q H'
theorem PSetOr {t t' : TSet} (h : PSet X t) (h' : PSet X t') : PSet X (fun o i v H Q => t o i v H Q ∨ t' o i v H Q) := fun pins s σ H o i v ov iv u Q I ro ri rv q => q.elim (h pins s σ H o i v ov iv u Q I ro ri rv) (h' pins s σ H o i v ov iv u Q I ro ri rv)
theorem set_dict (hu : X.A.units + 1 < cLine) : PSet X (fun o i v H Q => ∃ a H', o = .ref a ∧ DPut H a i v H' ∧ Q H') := by
  intro pins s σ H o i v ov iv u Q I ro ri rv ⟨a, H', e, g, q⟩
  subst e
  obtain rfl : ov = Value.ref a := ro
  exact d_setItem hu I g ri rv fun s4 I4 => ⟨H', I4, q⟩
theorem setM (hu : X.A.units + 1 < cLine) : PSet X (rSt en) := by
  have base := PSetOr (X := X) set_list (set_dict hu)
  intro pins s σ H o i v ov iv u Q I ro ri rv ⟨ρ, h, a, b, c, h', rel, ra, rb, rc, e, k⟩
  refine base pins s σ H o i v ov iv u Q I ro ri rv ?_
  unfold opSt at e
  split at e
  · split at e
    · rename_i ei
      split at e
      · split at e
        · rename_i ej
          cases e
          obtain ⟨p, vs, rfl, ep, e1, r1⟩ := rel.lst ei ra
          cases rb
          refine .inl ⟨p, vs, _, _, rfl, rfl, e1, by rw [← r1.len]; exact ej, k _ (rel.put ep ⟨_, upd_same, r1.set rc _⟩)⟩
        · cases e
      · cases e
    · rename_i ei
      split at e
      · rename_i kk ek
        split at e
        · rename_i hl
          cases e
          obtain ⟨p, ep, rfl⟩ := ra
          obtain ⟨kws, e1, r1⟩ := rel.at2 ep ei
          obtain rfl := keyOf_rel ek rb
          exact .inr ⟨p, _, rfl, DPut.k e1 (by rw [big_eq, ← Paired.length r1]; exact hl), k _ (rel.put ep ⟨_, upd_same, RK.put rc r1⟩)⟩
        · cases e
      · cases e
    · rename_i ei
      split at e
      · split at e
        · rename_i ej
          split at e
          · rename_i ks ek
            split at e
            · rename_i hl
              cases e
              obtain ⟨p, ep, rfl⟩ := ra
              obtain ⟨kws, e1, r1⟩ := rel.at2 ep ei
              obtain ⟨q, ws, rfl, eq, e2, r2⟩ := rel.tup ej rb
              obtain rfl := keysOf_rel ek r2
              exact .inr ⟨p, _, rfl, DPut.t e1 e2 (by rw [big_eq, ← Paired.length r1]; exact hl), k _ (rel.put ep ⟨_, upd_same, RK.put rc r1⟩)⟩
            · cases e
          · cases e
        · cases e
      · cases e
    · cases e
  · cases e
theorem PS.st {o i e : Expr} {me mo mi : EM} {pos' : Pos} (hu : X.A.units + 1 < cLine) (he : PE X e (tE en W me)) (ho : PE X o (tE en W mo)) (hi : PE X i (tE en W mi)) (hs : swapsWithSole [.Subscript o i pos'] e pos.line X.env = pure false := by rfl) (hw : swappedStores [.Subscript o i pos'] e X.env = pure none := by rfl)
    (h1 : (assignEach [.Subscript o i pos'] X.env).map (·.2) = [assign (.Subscript o i pos') X.env] := by rfl)
    (ha : ∀ v, assign (.Subscript o i pos') X.env v = (do
      let ov ← holding [v] (eval o X.env)
      let iv ← holding [v, ov] (eval i X.env)
      standAt pos'
      holding [v, ov, iv] (setItem ov iv v)
      release [v, ov, iv] []) := by intro _; rfl) : PS X (.Assign [.Subscript o i pos'] e pos) (tS en W (mSt me mo mi)) :=
  PSimp (ps_asg he (pg_sub ho hi (setM hu) ha) hs hw h1) fun D σ H t => tS.bind (R1 := RS en) (k := fun ss v h1 => thenS (mo ss h1) ss fun o h2 => thenS (mi ss h2) ss fun i h3 => match opSt o i v h3 with | some h4 => .nx ss h4 | none => .stuck) t fun ρ ss h v x H1 rel rs rv f => by
    refine ⟨ρ, ss, h, rel, rs, ?_⟩
    cases e1 : mo ss h with
    | stuck => simp only [e1, thenS, finS] at f
    | ex c xs h1 => simp only [e1, thenS, finS] at f; exact fun ρ' H' cls d p rel' rx => f ρ' σ H' cls d p rel' (rs.mono p) rx
    | ok o h1 =>
      simp only [e1, thenS] at f
      intro ρ1 H2 y p1 rel1 ro
      refine ⟨ρ1, ss, h1, rel1, rs.mono p1, ?_⟩
      cases e2 : mi ss h1 with
      | stuck => simp only [e2, thenS, finS] at f
      | ex c xs h1 => simp only [e2, thenS, finS] at f; exact fun ρ' H' cls d p rel' rx => f ρ' σ H' cls d (p1.trans p) rel' ((rs.mono p1).mono p) rx
      | ok i h2 =>
        simp only [e2, thenS] at f
        intro ρ2 H3 z p2 rel2 ri
        cases e3 : opSt o i v h2 with
        | none => simp only [e3, finS] at f
        | some h4 =>
          simp only [e3] at f
          exact ⟨ρ2, h2, o, i, v, h4, rel2, ro.mono p2, ri, (rv.mono p1).mono p2, e3, fun H' rel' => f ρ2 σ H' (p1.trans p2) rel' ((rs.mono p1).mono p2)⟩
end
end Fw
namespace Fw
open PySem PySem.Spec L2
/-- what the written part says of the class with the number c: its place, its fields' names in order -/
structure ClsF (en : En) (c : Nat) (C : Addr) (ns : List Str) : Prop where
  at_ : en.cl[c]? = some (C, ns)
  cls : L2.Cls en.K C
  no : ∀ f ∈ ns, NoAttr en.K C f
  nd : ns.Nodup
  few : ns.length ≤ 900
/-- the place of the field f by the class's number: right for the classes that it names -/
def FldOk (en : En) (f : Str) (ix : List (Option Nat)) : Prop := ∀ (c k : Nat), ix[c]? = some (some k) → ∃ C ns, ClsF en c C ns ∧ ns[k]? = some f
theorem zip_lookup {f : Str} : ∀ {ns : List Str} {vs : List V} {k : Nat} {v : V}, ns.Nodup → ns[k]? = some f → vs[k]? = some v → (ns.zip vs).lookup f = some v
  | [], _, _, _, _, h, _ => by simp at h
  | _ :: _, [], _, _, _, _, h => by simp at h
  | n :: ns, w :: vs, 0, v, nd, h1, h2 => by
    simp at h1 h2; subst h1; subst h2
    simp [List.lookup]
  | n :: ns, w :: vs, k + 1, v, nd, h1, h2 => by
    have h1' : ns[k]? = some f := by simpa using h1
    have hn : n ≠ f := fun e => (List.nodup_cons.mp nd).1 (by rw [e]; exact List.mem_of_getElem? h1')
    have hb : (f == n) = false := by simpa using fun e : f = n => hn e.symm
    rw [List.zip_cons_cons, List.lookup_cons, hb]
    exact zip_lookup (List.nodup_cons.mp nd).2 h1' (by simpa using h2)
theorem zip_put {f : Str} {y : V} : ∀ {ns : List Str} {vs : List V} {k : Nat}, ns.Nodup → ns[k]? = some f → k < vs.length → putF f y (ns.zip vs) = ns.zip (vs.set k y)
  | [], _, _, _, h, _ => by simp at h
  | _ :: _, [], _, _, _, h => by simp at h
  | n :: ns, w :: vs, 0, nd, h1, h2 => by
    simp at h1; subst h1
    simp [putF]
  | n :: ns, w :: vs, k + 1, nd, h1, h2 => by
    have h1' : ns[k]? = some f := by simpa using h1
    have hn : n ≠ f := fun e => (List.nodup_cons.mp nd).1 (by rw [e]; exact List.mem_of_getElem? h1')
    rw [List.zip_cons_cons, List.set_cons_succ, List.zip_cons_cons]
    unfold putF
    rw [if_neg hn, zip_put (List.nodup_cons.mp nd).2 h1' (by simpa using h2)]
theorem zip_new {f : Str} {y : V} : ∀ {ns : List Str} {vs : List V}, ns.Nodup → ns[vs.length]? = some f → putF f y (ns.zip vs) = ns.zip (vs ++ [y])
  | [], _, _, h => by simp at h
  | n :: ns, [], nd, h1 => by
    simp at h1; subst h1
    simp [putF]
  | n :: ns, w :: vs, nd, h1 => by
    have h1' : ns[vs.length]? = some f := by simpa using h1
    have hn : n ≠ f := fun e => (List.nodup_cons.mp nd).1 (by rw [e]; exact List.mem_of_getElem? h1')
    rw [List.zip_cons_cons, List.cons_append, List.zip_cons_cons]
    unfold putF
    rw [if_neg hn, zip_new (List.nodup_cons.mp nd).2 h1']
section
variable {X : Cx} {en : En} {W : WX} {pos : Pos}
def opFld (ix : List (Option Nat)) : O1 := fun a h => match a with
  | .ref i => match h[i]? with
    | some (.ins c vs) => match ix[c]? with
      | some (some k) => match vs[k]? with
        | some v => some (v, h)
        | none => none
      | _ => none
    | _ => none
  | _ => none
theorem PE.fld {e : Expr} {f : Str} {m : EM} {ix : List (Option Nat)} (hK : X.K = en.K) (hf : FldOk en f ix) (he : PE X e (tE en W m)) (hb : attributeBase e f X.env (eval e X.env) = eval e X.env := by rfl) : PE X (.Attribute e f pos) (tE en W (mO1 (opFld ix) m)) :=
  PEimp (pe_fld he hb) fun σ H Q t => tM.bind2 (R1 := RS en) (R2 := RS en) (k := fun a (ss : SS) h => lift (opFld ix a h)) t fun ρ ss h a x H1 rel rs ra fn => by
    obtain ⟨v, h', e, k⟩ := fn.lift
    unfold opFld at e
    split at e
    · split at e
      · rename_i ei
        split at e
        · rename_i kk ek
          split at e
          · rename_i ev
            obtain ⟨C, ns, F, en'⟩ := hf _ _ ek
            obtain ⟨p, ep, rfl⟩ := ra
            obtain ⟨C', ns', dx, ws, e1, e2, l, r⟩ := rel.at2 ep ei
            rw [F.at_] at e1; cases e1
            obtain ⟨w, ew, rw'⟩ := r.get ev
            exact ⟨p, C, dx, _, w, rfl, e2, by rw [hK]; exact F.cls, by rw [hK]; exact F.no _ (List.mem_of_getElem? en'), zip_lookup F.nd en' ew, finO.here ⟨_, _, e, k⟩ rel rw'⟩
          · cases e
        · cases e
      · cases e
    · cases e
def opFst (ix : List (Option Nat)) (o v : SV) (h : SH) : Option SH := match o with
  | .ref i => match h[i]? with
    | some (.ins c vs) => match ix[c]? with
      | some (some k) => if k < vs.length then some (h.set i (.ins c (vs.set k v))) else if k = vs.length then some (h.set i (.ins c (vs ++ [v]))) else none
      | _ => none
    | _ => none
  | _ => none
def mFst (ix : List (Option Nat)) (me mo : EM) : SM := fun ss h => thenS (me ss h) ss fun v h1 => thenS (mo ss h1) ss fun o h2 => match opFst ix o v h2 with
  | some h3 => .nx ss h3
  | none => .stuck
theorem PS.fst {o e : Expr} {f : Str} {me mo : EM} {ix : List (Option Nat)} {pos' : Pos} (hK : X.K = en.K) (hf : FldOk en f ix) (ho : PE X o (tE en W mo)) (he : PE X e (tE en W me)) (hs : swapsWith e (some (.Attribute o f pos')) pos.line X.env = pure false := by rfl) :
    PS X (.Assign [.Attribute o f pos'] e pos) (tS en W (mFst ix me mo)) :=
  PSimp (ps_fld ho he hs) fun D σ H t => tS.bind (R1 := RS en) (k := fun ss v h1 => thenS (mo ss h1) ss fun o h2 => match opFst ix o v h2 with | some h3 => .nx ss h3 | none => .stuck) t fun ρ ss h v x H1 rel rs rv fn => by
    refine ⟨ρ, ss, h, rel, rs, ?_⟩
    cases e1 : mo ss h with
    | stuck => simp only [e1, thenS, finS] at fn
    | ex c xs h1 => simp only [e1, thenS, finS] at fn; exact fun ρ' H' cls d p rel' rx => fn ρ' σ H' cls d p rel' (rs.mono p) rx
    | ok o h1 =>
      simp only [e1, thenS] at fn
      intro ρ1 H2 y p1 rel1 ro
      cases e2 : opFst ix o v h1 with
      | none => simp only [e2, finS] at fn
      | some h3 =>
        simp only [e2] at fn
        unfold opFst at e2
        split at e2
        · split at e2
          · rename_i ei
            split at e2
            · rename_i kk ek
              obtain ⟨C, ns, F, en'⟩ := hf _ _ ek
              obtain ⟨p, ep, rfl⟩ := ro
              obtain ⟨C', ns', dx, ws, e1', e2', l, r⟩ := rel1.at2 ep ei
              rw [F.at_] at e1'; cases e1'
              have few : (ns.zip ws).length < 1000 := by
                have := F.few
                rw [List.length_zip]; omega
              refine ⟨p, C, dx, _, rfl, e2', by rw [hK]; exact F.cls, by rw [hK]; exact F.no _ (List.mem_of_getElem? en'), few, ?_⟩
              split at e2
              · rename_i hk
                cases e2
                rw [zip_put F.nd en' (by rw [← r.len]; exact hk)]
                exact fn ρ1 σ _ p1 (rel1.put ep ⟨C, ns, dx, _, F.at_, upd_same, by simpa using l, RSs.set (rv.mono p1) _ r⟩) (rs.mono p1)
              · split at e2
                · rename_i hk
                  cases e2
                  have hl : kk = ws.length := by rw [← r.len]; exact hk
                  rw [zip_new F.nd (by rw [← hl]; exact en')]
                  have hlt : kk < ns.length := (List.getElem?_eq_some_iff.mp en').1
                  exact fn ρ1 σ _ p1 (rel1.put ep ⟨C, ns, dx, _, F.at_, upd_same, by rw [List.length_append, List.length_singleton]; omega, RSs.app r (.cons (rv.mono p1) .nil)⟩) (rs.mono p1)
                · cases e2
            · cases e2
          · cases e2
        · cases e2
end
end Fw
namespace Fw
open PySem PySem.Spec L2
/-- what a loop walks: at turn i an item, or the end -/
abbrev Wk := SH → Nat → Option (Option (SV × SH))
abbrev IM := SS → SH → Res Wk
def ItOk (en : En) (ρ : List Addr) (J : It) (wk : Wk) : Prop := ∀ ρ2 h2 H2 i, Pre ρ ρ2 → Rel en ρ2 h2 H2 →
  (wk h2 i = some none → J.stop i H2) ∧ ∀ x h3, wk h2 i = some (some (x, h3)) → J.go i H2 ∧ ∀ v H3, J.yld i H2 v H3 → ∃ ρ3, Pre ρ2 ρ3 ∧ Rel en ρ3 h3 H3 ∧ RS en ρ3 x v
def tI (en : En) (W : WX) (m : IM) : TI := fun σ H R => ∃ ρ ss h, Rel en ρ h H ∧ RSl en ρ ss σ ∧ match m ss h with
  | .stuck => False
  | .ok wk h1 => ∀ ρ' H' J, Pre ρ ρ' → Rel en ρ' h1 H' → ItOk en ρ' J wk → R J H'
  | .ex c xs h1 => ∀ ρ' H' cls d, Pre ρ ρ' → Rel en ρ' h1 H' → RX en ρ' H' c xs cls d → W cls d σ H'
theorem PIimp {X : Cx} {tg e : Expr} {t t' : TI} (h : PI X tg e t) (k : ∀ σ H R, t' σ H R → t σ H R) : PI X tg e t' := ⟨fun pins s σ H R I q => h.run pins s σ H R I (k σ H R q)⟩
theorem PIor {X : Cx} {tg e : Expr} {t t' : TI} (h : PI X tg e t) (h' : PI X tg e t') : PI X tg e (fun σ H R => t σ H R ∨ t' σ H R) := ⟨fun pins s σ H R I q => q.elim (h.run pins s σ H R I) (h'.run pins s σ H R I)⟩
/-- the walk of a list, of a tuple, as it stands at each turn -/
def wkL (r : Nat) : Wk := fun h i => match h[r]? with
  | some (.lst xs) => match xs[i]? with
    | some x => some (some (x, h))
    | none => some none
  | _ => none
def wkT (r : Nat) : Wk := fun h i => match h[r]? with
  | some (.tup xs) => match xs[i]? with
    | some x => some (some (x, h))
    | none => some none
  | _ => none
def wkScr (ns : List Int) : Wk := fun h i => match ns[i]? with
  | some n => some (some (.int n, h))
  | none => some none
def wkStr (z : Str) : Wk := fun h i => match z.cps[i]? with
  | some c => some (some (.str ⟨#[c]⟩, h))
  | none => some none
def wkRng (lo : Int) (n : Nat) : Wk := fun h i => if i < n then some (some (.int (lo + i), h)) else some none
/-- the walk of enumerate over a list -/
def wkEnum (r : Nat) : Wk := fun h i => match h[r]? with
  | some (.lst xs) => match xs[i]? with
    | some x => some (some (.ref h.length, h ++ [.tup [.int (i : Nat), x]]))
    | none => some none
  | _ => none
def mWalk (m : EM) : IM := fun ss h => (m ss h).bind fun v h1 => match v with
  | .scr ns => .ok (wkScr ns) h1
  | .str z => .ok (wkStr z) h1
  | .ref r => match h1[r]? with
    | some (.lst _) => .ok (wkL r) h1
    | some (.tup _) => .ok (wkT r) h1
    | _ => .stuck
  | _ => .stuck
def mEnum (m : AM) : IM := fun ss h => (m ss h).bind fun vs h1 => match vs with
  | [.ref r] => match h1[r]? with
    | some (.lst _) => .ok (wkEnum r) h1
    | _ => .stuck
  | _ => .stuck
def rngB (i : Int) : Bool := decide (-4611686018427387904 ≤ i ∧ i < 4611686018427387904)
def mRng1 (m : AM) : IM := fun ss h => (m ss h).bind fun vs h1 => match vs with
  | [.int j] => if rngB j = true then .ok (wkRng 0 j.toNat) h1 else .stuck
  | _ => .stuck
def mRng2 (m : AM) : IM := fun ss h => (m ss h).bind fun vs h1 => match vs with
  | [.int i, .int j] => if (rngB i && rngB j) = true then .ok (wkRng i (j - i).toNat) h1 else .stuck
  | _ => .stuck
section
variable {X : Cx} {en : En} {W : WX} {pos : Pos}
theorem rngB_of {i : Int} (h : rngB i = true) : -(2 ^ 62) ≤ i ∧ i < 2 ^ 62 := by
  have e : (2 : Int) ^ 62 = 4611686018427387904 := by decide
  rw [e]
  exact of_decide_eq_true h
theorem itL {ρ : List Addr} {r : Nat} {p : Addr} (K : PySem.W.Frag) (ep : ρ[r]? = some p) : ItOk en ρ (Itl K p) (wkL r) := fun ρ2 h2 H2 i pr rel => by
  have ep2 := pr.get ep
  unfold wkL
  refine ⟨fun e => ?_, fun x h3 e => ?_⟩
  · split at e
    · rename_i ei
      obtain ⟨p', vs, e0, ep', e1, r1⟩ := rel.lst ei ⟨p, ep2, rfl⟩
      cases e0
      split at e
      · cases e
      · rename_i en'
        exact ⟨vs, SqL.of e1, by rw [← r1.len]; exact List.getElem?_eq_none_iff.mp en'⟩
    · cases e
  · split at e
    · rename_i ei
      obtain ⟨p', vs, e0, ep', e1, r1⟩ := rel.lst ei ⟨p, ep2, rfl⟩
      cases e0
      split at e
      · rename_i ex
        cases e
        obtain ⟨w, ew, rw'⟩ := r1.get ex
        refine ⟨⟨vs, w, SqL.of e1, ew⟩, fun v H3 ⟨eh, q⟩ => ?_⟩
        have z := q vs (SqL.of e1)
        rw [ew] at z; cases z; subst eh
        exact ⟨ρ2, Pre.refl ρ2, rel, rw'⟩
      · cases e
    · cases e
theorem itT {ρ : List Addr} {r : Nat} {p : Addr} (K : PySem.W.Frag) (ep : ρ[r]? = some p) : ItOk en ρ (Itt K p) (wkT r) := fun ρ2 h2 H2 i pr rel => by
  have ep2 := pr.get ep
  unfold wkT
  refine ⟨fun e => ?_, fun x h3 e => ?_⟩
  · split at e
    · rename_i ei
      obtain ⟨p', vs, e0, ep', e1, r1⟩ := rel.tup ei ⟨p, ep2, rfl⟩
      cases e0
      split at e
      · cases e
      · rename_i en'
        exact ⟨vs, SqT.of e1, by rw [← r1.len]; exact List.getElem?_eq_none_iff.mp en'⟩
    · cases e
  · split at e
    · rename_i ei
      obtain ⟨p', vs, e0, ep', e1, r1⟩ := rel.tup ei ⟨p, ep2, rfl⟩
      cases e0
      split at e
      · rename_i ex
        cases e
        obtain ⟨w, ew, rw'⟩ := r1.get ex
        refine ⟨⟨vs, w, SqT.of e1, ew⟩, fun v H3 ⟨eh, q⟩ => ?_⟩
        have z := q vs (SqT.of e1)
        rw [ew] at z; cases z; subst eh
        exact ⟨ρ2, Pre.refl ρ2, rel, rw'⟩
      · cases e
    · cases e
theorem itScr {ρ : List Addr} : ItOk en ρ (Itl en.K en.a0) (wkScr en.ns) := fun ρ2 h2 H2 i pr rel => by
  unfold wkScr
  have s := rel.scr
  have m : (en.ns.map V.int)[i]? = (en.ns[i]?).map V.int := List.getElem?_map
  refine ⟨fun e => ?_, fun x h3 e => ?_⟩
  · split at e
    · cases e
    · rename_i en'
      exact ⟨_, s, by rw [List.length_map]; exact List.getElem?_eq_none_iff.mp en'⟩
  · split at e
    · rename_i ex
      cases e
      rw [ex] at m
      refine ⟨⟨_, _, s, m⟩, fun v H3 ⟨eh, q⟩ => ?_⟩
      have z := q _ s
      rw [m] at z; cases z; subst eh
      exact ⟨ρ2, Pre.refl ρ2, rel, rfl⟩
    · cases e
theorem itStr {ρ : List Addr} (z : Str) : ItOk en ρ (Its z) (wkStr z) := fun ρ2 h2 H2 i pr rel => by
  unfold wkStr
  refine ⟨fun e => ?_, fun x h3 e => ?_⟩
  · split at e
    · cases e
    · rename_i en'
      exact Array.getElem?_eq_none_iff.mp en'
  · split at e
    · rename_i ex
      cases e
      refine ⟨(Array.getElem?_eq_some_iff.mp ex).1, fun v H3 ⟨eh, c, ec, q⟩ => ?_⟩
      rw [ex] at ec; cases ec; subst eh; subst q
      exact ⟨ρ2, Pre.refl ρ2, rel, rfl⟩
    · cases e
theorem itRng {ρ : List Addr} (lo : Int) (n : Nat) : ItOk en ρ (Itr lo n) (wkRng lo n) := fun ρ2 h2 H2 i pr rel => by
  unfold wkRng
  refine ⟨fun e => ?_, fun x h3 e => ?_⟩
  · split at e
    · cases e
    · exact Nat.le_of_not_lt (by assumption)
  · split at e
    · cases e
      refine ⟨by assumption, fun v H3 ⟨eh, q⟩ => ?_⟩
      subst eh; subst q
      exact ⟨ρ2, Pre.refl ρ2, rel, rfl⟩
    · cases e
theorem itEnum {ρ : List Addr} {r : Nat} {p : Addr} (K : PySem.W.Frag) (ep : ρ[r]? = some p) : ItOk en ρ (Ite K p) (wkEnum r) := fun ρ2 h2 H2 i pr rel => by
  have ep2 := pr.get ep
  unfold wkEnum
  refine ⟨fun e => ?_, fun x h3 e => ?_⟩
  · split at e
    · rename_i ei
      obtain ⟨p', vs, e0, ep', e1, r1⟩ := rel.lst ei ⟨p, ep2, rfl⟩
      cases e0
      split at e
      · cases e
      · rename_i en'
        exact ⟨vs, SqL.of e1, by rw [← r1.len]; exact List.getElem?_eq_none_iff.mp en'⟩
    · cases e
  · split at e
    · rename_i ei
      obtain ⟨p', vs, e0, ep', e1, r1⟩ := rel.lst ei ⟨p, ep2, rfl⟩
      cases e0
      split at e
      · rename_i ex
        cases e
        obtain ⟨w, ew, rw'⟩ := r1.get ex
        refine ⟨⟨vs, w, SqL.of e1, ew⟩, fun v H3 ⟨T, x, ev, nT, eh, q⟩ => ?_⟩
        have z := q vs (SqL.of e1)
        rw [ew] at z; cases z; subst eh; subst ev
        exact ⟨ρ2 ++ [T], Pre.one ρ2 T, rel.push nT ⟨_, upd_same, .cons rfl (.cons (rw'.mono (Pre.one ρ2 T)) .nil)⟩, ⟨T, by rw [← rel.len, List.getElem?_append_right (Nat.le_refl _)]; simp, rfl⟩⟩
      · cases e
    · cases e
theorem tI.bind {α β : Type} {R1 : List Addr → α → β → Prop} {m1 : SS → SH → Res α} {k : α → SH → Res Wk} {σ : L2.St} {H : Hp} {R : It → Hp → Prop} {Q' : β → Hp → Prop} (t : tI en W (fun ss h => (m1 ss h).bind k) σ H R)
    (f : ∀ ρ h a b H1, Rel en ρ h H1 → R1 ρ a b → (match k a h with | .stuck => False | .ok wk h1 => ∀ ρ' H' J, Pre ρ ρ' → Rel en ρ' h1 H' → ItOk en ρ' J wk → R J H' | .ex c xs h1 => ∀ ρ' H' cls d, Pre ρ ρ' → Rel en ρ' h1 H' → RX en ρ' H' c xs cls d → W cls d σ H') → Q' b H1) : tM en W R1 m1 σ H Q' := by
  obtain ⟨ρ, ss, h, rel, rs, q⟩ := t
  refine ⟨ρ, ss, h, rel, rs, ?_⟩
  cases e : m1 ss h with
  | stuck => simp only [e, Res.bind] at q
  | ex c xs h1 => simp only [e, Res.bind] at q; exact q
  | ok a h1 =>
    simp only [e, Res.bind] at q
    intro ρ1 H1 b p rel1 r
    refine f ρ1 h1 a b H1 rel1 r ?_
    cases e2 : k a h1 with
    | stuck => simp only [e2] at q
    | ok wk h2 => simp only [e2] at q ⊢; exact fun ρ' H' J p' => q ρ' H' J (p.trans p')
    | ex c xs h2 => simp only [e2] at q ⊢; exact fun ρ' H' cls d p' => q ρ' H' cls d (p.trans p')
theorem PI.walk {tg e : Expr} {m : EM} (hK : X.K = en.K) (he : PE X e (tE en W m)) : PI X tg e (tI en W (mWalk m)) := by
  refine PIimp (PIor (pi_list he) (PIor (pi_tup he) (pi_str he))) fun σ H R t => ?_
  have t' := t
  obtain ⟨ρ, ss, h, rel, rs, q⟩ := t
  unfold mWalk at q
  cases e1 : m ss h with
  | stuck => simp only [e1, Res.bind] at q
  | ex c xs h1 => simp only [e1, Res.bind] at q; exact .inl ⟨ρ, ss, h, rel, rs, by rw [e1]; exact q⟩
  | ok v h1 =>
    simp only [e1, Res.bind] at q
    cases v with
    | scr ns =>
      refine .inl ⟨ρ, ss, h, rel, rs, ?_⟩
      rw [e1]
      intro ρ1 H1 b p rel1 ⟨eb, en'⟩
      subst eb; subst en'
      exact ⟨en.a0, rfl, ⟨_, by rw [hK]; exact rel1.scr⟩, q ρ1 H1 _ p rel1 (by rw [hK]; exact itScr)⟩
    | str z =>
      refine .inr (.inr ⟨ρ, ss, h, rel, rs, ?_⟩)
      rw [e1]
      intro ρ1 H1 b p rel1 r
      cases r
      exact ⟨z, rfl, q ρ1 H1 _ p rel1 (itStr z)⟩
    | ref r =>
      cases ei : h1[r]? with
      | none => simp only [ei] at q
      | some o =>
        cases o with
        | lst xs =>
          simp only [ei] at q
          refine .inl ⟨ρ, ss, h, rel, rs, ?_⟩
          rw [e1]
          intro ρ1 H1 b p rel1 ⟨a, ea, eb⟩
          subst eb
          obtain ⟨p', vs, e0, ep', e3, r1⟩ := rel1.lst ei ⟨a, ea, rfl⟩
          cases e0
          exact ⟨a, rfl, ⟨_, SqL.of e3⟩, q ρ1 H1 _ p rel1 (itL _ ea)⟩
        | tup xs =>
          simp only [ei] at q
          refine .inr (.inl ⟨ρ, ss, h, rel, rs, ?_⟩)
          rw [e1]
          intro ρ1 H1 b p rel1 ⟨a, ea, eb⟩
          subst eb
          obtain ⟨p', vs, e0, ep', e3, r1⟩ := rel1.tup ei ⟨a, ea, rfl⟩
          cases e0
          exact ⟨a, rfl, ⟨_, SqT.of e3⟩, q ρ1 H1 _ p rel1 (itT _ ea)⟩
        | _ => simp only [ei] at q
    | _ => exact q.elim
theorem PI.rng1 {tg a : Expr} {m : AM} {p : Pos} (hg : Gl X "range") (hm : X.mg "range" = none) (ha : PA X [a] (tA en W m)) (hs : starEach [a] X.env = [(false, eval a X.env)] := by rfl) : PI X tg (.Call (.Name "range" p) [a] [] pos) (tI en W (mRng1 m)) :=
  PIimp (pi_range1 hg hm ha hs) fun σ H R t => tI.bind (R1 := RSs en) t fun ρ h as bs H1 rel r q => by
    split at q
    · exact q.elim
    · rename_i e2
      split at e2
      · split at e2
        · rename_i hb
          cases e2
          obtain ⟨x, rfl, rx⟩ := RSs.one r
          cases rx
          exact ⟨_, rfl, (rngB_of hb).1, (rngB_of hb).2, q ρ H1 _ (Pre.refl ρ) rel (itRng 0 _)⟩
        · cases e2
      · cases e2
    · rename_i e2
      split at e2
      · split at e2 <;> cases e2
      · cases e2
theorem PI.rng2 {tg a b : Expr} {m : AM} {p : Pos} (hg : Gl X "range") (hm : X.mg "range" = none) (ha : PA X [a, b] (tA en W m)) (hs : starEach [a, b] X.env = [(false, eval a X.env), (false, eval b X.env)] := by rfl) (hs2 : starEach [b] X.env = [(false, eval b X.env)] := by rfl) : PI X tg (.Call (.Name "range" p) [a, b] [] pos) (tI en W (mRng2 m)) :=
  PIimp (pi_range2 hg hm ha hs hs2) fun σ H R t => tI.bind (R1 := RSs en) t fun ρ h as bs H1 rel r q => by
    split at q
    · exact q.elim
    · rename_i e2
      split at e2
      · split at e2
        · rename_i hb
          cases e2
          obtain ⟨x, y, rfl, rx, ry⟩ := RSs.two r
          cases rx; cases ry
          have z := Bool.and_eq_true_iff.mp hb
          exact ⟨_, _, rfl, ⟨(rngB_of z.1).1, (rngB_of z.1).2, (rngB_of z.2).1, (rngB_of z.2).2⟩, q ρ H1 _ (Pre.refl ρ) rel (itRng _ _)⟩
        · cases e2
      · cases e2
    · rename_i e2
      split at e2
      · split at e2 <;> cases e2
      · cases e2
theorem PI.enm {e : Expr} {m : AM} {p tpos : Pos} {elts : List Expr} {kk : Nat} (hg : Gl X "enumerate") (hm : X.mg "enumerate" = none) (ha : PA X [e] (tA en W m)) (hs : starEach [e] X.env = [(false, eval e X.env)] := by rfl) : PI X (.Tuple elts kk tpos) (.Call (.Name "enumerate" p) [e] [] pos) (tI en W (mEnum m)) :=
  PIimp (pi_enum hg hm ha hs) fun σ H R t => tI.bind (R1 := RSs en) t fun ρ h as bs H1 rel r q => by
    split at q
    · exact q.elim
    · rename_i e2
      split at e2
      · split at e2
        · rename_i ei
          cases e2
          obtain ⟨x, rfl, rx⟩ := RSs.one r
          obtain ⟨p', vs, rfl, ep', e3, r1⟩ := rel.lst ei rx
          exact ⟨p', vs, rfl, SqL.of e3, q ρ H1 _ (Pre.refl ρ) rel (itEnum _ ep')⟩
        · cases e2
      · cases e2
    · rename_i e2
      split at e2
      · split at e2 <;> cases e2
      · cases e2
end
end Fw
namespace Fw
open PySem PySem.Spec L2
/-- the turns of a for -/
def forM (g : GM) (wk : Wk) (body : SM) : Nat → Nat → SM
  | 0, _ => fun _ _ => .stuck
  | n + 1, i => fun ss h => match wk h i with
    | none => .stuck
    | some none => .nx ss h
    | some (some (x, h1)) => match g x ss h1 with
      | none => .stuck
      | some ss1 => match body ss1 h1 with
        | .nx ss2 h2 => forM g wk body n (i + 1) ss2 h2
        | .ct ss2 h2 => forM g wk body n (i + 1) ss2 h2
        | .bk ss2 h2 => .nx ss2 h2
        | r => r
/-- more turns than there are -/
def many : Nat := 18446744073709551616
def mFor (m : IM) (g : GM) (body : SM) : SM := fun ss h => match m ss h with
  | .stuck => .stuck
  | .ex c xs h1 => .ex c xs ss h1
  | .ok wk h1 => forM g wk body many 0 ss h1
/-- the turns of a while -/
def whileM (t : BM) (body : SM) : Nat → SM
  | 0 => fun _ _ => .stuck
  | n + 1 => fun ss h => thenS (t ss h) ss fun b h1 => if b = true then (match body ss h1 with
    | .nx ss2 h2 => whileM t body n ss2 h2
    | .ct ss2 h2 => whileM t body n ss2 h2
    | .bk ss2 h2 => .nx ss2 h2
    | r => r) else .nx ss h1
def mWhile (t : BM) (body : SM) : SM := whileM t body many
section
variable {X : Cx} {en : En} {W : WX} {pos : Pos}
theorem PS.for {tg iter : Expr} {body : List Stmt} {m : IM} {g : GM} {mb : SM} {is : List Nat} (hp : PassesOwn (model X.prog X.w) X.A X.env X.xe) (hc : X.calm = true) (hi : PI X tg iter (tI en W m)) (hg : PG X tg (tG en is g)) (hb : PSs X body (tS en W mb))
    (hs : ∀ x, foldedSetIterable iter X.env x = pure x := by intro _; rfl) : PS X (.For tg iter body [] pos) (tS en W (mFor m g mb)) :=
  PSimp (ps_for hp hc hi hg hb hs) fun D σ H t => by
    obtain ⟨ρ, ss, h, rel, rs, f⟩ := t
    refine ⟨ρ, ss, h, rel, rs, ?_⟩
    unfold mFor at f
    cases e : m ss h with
    | stuck => simp only [e, finS] at f
    | ex c xs h1 => simp only [e, finS] at f ⊢; exact fun ρ' H' cls d p rel' rx => f ρ' σ H' cls d p rel' (rs.mono p) rx
    | ok wk h1 =>
      simp only [e] at f ⊢
      intro ρ1 H1 J p1 rel1 ok
      refine ⟨fun i n σ2 H2 => ∃ ρ2 ss2 h2, Pre ρ1 ρ2 ∧ Rel en ρ2 h2 H2 ∧ RSl en ρ2 ss2 σ2 ∧ finS en W ρ2 (forM g wk mb n i ss2 h2) D, ⟨many, ρ1, ss, h1, Pre.refl ρ1, rel1, rs.mono p1, f.mono p1⟩, ?_⟩
      rintro i n σ2 H2 ⟨ρ2, ss2, h2, p2, rel2, rs2, f2⟩
      cases n with
      | zero => exact f2.elim
      | succ n =>
        unfold forM at f2
        obtain ⟨k1, k2⟩ := ok ρ2 h2 H2 i p2 rel2
        cases e2 : wk h2 i with
        | none => simp only [e2, finS] at f2
        | some o =>
          cases o with
          | none =>
            simp only [e2] at f2
            exact .inl ⟨k1 e2, f2 ρ2 σ2 H2 (Pre.refl ρ2) rel2 rs2⟩
          | some q =>
            obtain ⟨x, h3⟩ := q
            simp only [e2] at f2
            obtain ⟨go, yl⟩ := k2 x h3 e2
            refine .inr ⟨go, fun σ' H' => ∃ ρ4 ss4 h4, Pre ρ2 ρ4 ∧ Rel en ρ4 h4 H' ∧ RSl en ρ4 ss4 σ' ∧ finS en W ρ4 (forM g wk mb n (i + 1) ss4 h4) D, fun σ' H' ⟨ρ4, ss4, h4, p4, rel4, rs4, f4⟩ => ⟨n, Nat.lt_succ_self n, ρ4, ss4, h4, p2.trans p4, rel4, rs4, f4⟩, fun v H3 yv => ?_⟩
            obtain ⟨ρ3, p3, rel3, rv⟩ := yl v H3 yv
            cases e3 : g x ss2 h3 with
            | none => simp only [e3, finS] at f2
            | some ss1 =>
              simp only [e3] at f2
              refine ⟨ρ3, ss2, h3, x, ss1, rel3, rs2.mono p3, rv, e3, fun σ' rs' _ => ⟨ρ3, ss1, h3, rel3, rs', ?_⟩⟩
              cases e4 : mb ss1 h3 with
              | stuck => simp only [e4] at f2; exact f2
              | nx ss5 h5 => simp only [e4] at f2; exact fun ρ5 σ5 H5 p5 rel5 rs5 => ⟨ρ5, ss5, h5, p3.trans p5, rel5, rs5, f2.mono (p3.trans p5)⟩
              | ct ss5 h5 => simp only [e4] at f2; exact fun ρ5 σ5 H5 p5 rel5 rs5 => ⟨ρ5, ss5, h5, p3.trans p5, rel5, rs5, f2.mono (p3.trans p5)⟩
              | bk ss5 h5 => simp only [e4] at f2; exact fun ρ5 σ5 H5 p5 rel5 rs5 => f2 ρ5 σ5 H5 (p3.trans p5) rel5 rs5
              | rt v h5 => simp only [e4] at f2; exact f2.mono p3
              | ex c xs ss5 h5 => simp only [e4] at f2; exact f2.mono p3
theorem PS.while {c : Expr} {body : List Stmt} {t : BM} {mb : SM} (hp : PassesOwn (model X.prog X.w) X.A X.env X.xe) (hc : PT X c (tT en W t)) (hb : PSs X body (tS en W mb)) : PS X (.While c body [] pos) (tS en W (mWhile t mb)) :=
  PSimp (ps_while hp hc hb) fun D σ H q => by
    obtain ⟨ρ, ss, h, rel, rs, f⟩ := q
    refine ⟨fun n σ2 H2 => ∃ ρ2 ss2 h2, Rel en ρ2 h2 H2 ∧ RSl en ρ2 ss2 σ2 ∧ finS en W ρ2 (whileM t mb n ss2 h2) D, ⟨many, ρ, ss, h, rel, rs, f⟩, ?_⟩
    rintro n σ2 H2 ⟨ρ2, ss2, h2, rel2, rs2, f2⟩
    cases n with
    | zero => exact f2.elim
    | succ n =>
      unfold whileM at f2
      refine tS.bind (D := D) (R1 := RB) (k := fun ss b h1 => if b = true then (match mb ss h1 with
        | .nx ss2 h2 => whileM t mb n ss2 h2
        | .ct ss2 h2 => whileM t mb n ss2 h2
        | .bk ss2 h2 => .nx ss2 h2
        | r => r) else .nx ss h1) ⟨ρ2, ss2, h2, rel2, rs2, f2⟩ fun ρ3 ss3 h3 a b H3 rel3 rs3 r f3 => ?_
      cases r
      cases a with
      | false => exact f3 ρ3 σ2 H3 (Pre.refl ρ3) rel3 rs3
      | true =>
        rw [if_pos rfl] at f3
        refine ⟨fun σ' H' => ∃ ρ4 ss4 h4, Rel en ρ4 h4 H' ∧ RSl en ρ4 ss4 σ' ∧ finS en W ρ4 (whileM t mb n ss4 h4) D, fun σ' H' z => ⟨n, Nat.lt_succ_self n, z⟩, ρ3, ss3, h3, rel3, rs3, ?_⟩
        cases e4 : mb ss3 h3 with
        | stuck => simp only [e4] at f3; exact f3
        | nx ss5 h5 => simp only [e4] at f3; exact fun ρ5 σ5 H5 p5 rel5 rs5 => ⟨ρ5, ss5, h5, rel5, rs5, f3.mono p5⟩
        | ct ss5 h5 => simp only [e4] at f3; exact fun ρ5 σ5 H5 p5 rel5 rs5 => ⟨ρ5, ss5, h5, rel5, rs5, f3.mono p5⟩
        | bk ss5 h5 => simp only [e4] at f3; exact fun ρ5 σ5 H5 p5 rel5 rs5 => f3 ρ5 σ5 H5 p5 rel5 rs5
        | rt v h5 => simp only [e4] at f3; exact f3
        | ex c xs ss5 h5 => simp only [e4] at f3; exact f3
end
end Fw
namespace Fw
open PySem PySem.Spec L2
/-- what a run of a def's meaning is to bring -/
def finF (en : En) (ρ : List Addr) (r : Res SV) (Q : VK) (E : XK) : Prop := match r with
  | .stuck => False
  | .ok v h => ∀ ρ' H u, Pre ρ ρ' → Rel en ρ' h H → RS en ρ' v u → Q u H
  | .ex c xs h => ∀ ρ' H cls d, Pre ρ ρ' → Rel en ρ' h H → RX en ρ' H c xs cls d → E cls d H
def spM (en : En) (n : Nat) (m : FM) : Sp := fun vs H Q E => vs.length = n ∧ ∃ ρ svs h, Rel en ρ h H ∧ RSs en ρ svs vs ∧ finF en ρ (m svs h) Q E
/-- a def keeps a promise wherever no text is being shown and sys.modules stands -/
structure FnG (P : Program) (w : World) (K : PySem.W.Frag) (mg : Str → Option Value) (base : Heap) (k : Nat) (f : Addr) (fd : FuncData) (ps : List Str) (sp : Sp) : Prop where
  len : ∀ vs H Q E, sp vs H Q E → vs.length = ps.length
  run : ∀ (A : Around) (outer : List Env) (s : Shared) (H : Hp) (args : Args) (us : List Value) (vs : List V) (Q : VK) (E : XK), Room k A → A.guards = some [] → Env0 P w K mg base A outer s H → BindsTo s fd args (ps.zip us) → Vals vs us → sp vs H Q E →
    codeAny (model P w) A (.call (.ref f) args) (CR (L2.CX P w) outer P w H s Q E) s
theorem FnG.mono {P : Program} {w : World} {K : PySem.W.Frag} {mg : Str → Option Value} {base : Heap} {j k : Nat} {f : Addr} {fd : FuncData} {ps : List Str} {sp : Sp} (F : FnG P w K mg base j f fd ps sp) (h : j ≤ k) : FnG P w K mg base k f fd ps sp :=
  ⟨F.len, fun A outer s H args us vs Q E hr => F.run A outer s H args us vs Q E (hr.mono h)⟩
/-- a def's body, at its entry -/
structure Good (en : En) (X : Cx) (W : WX) (k : Nat) : Prop where
  tk : Takes X W
  pass : PassesOwn (model X.prog X.w) X.A X.env X.xe
  room : Room k X.A
  gd : X.A.guards = some []
  sm : ∃ o, X.base.get? sysModules = some o
  calm : X.calm = true
  K : X.K = en.K
theorem Good.u64 {en : En} {X : Cx} {W : WX} {k : Nat} (G : Good en X W k) : X.A.units + 64 < cLine := G.room.units
theorem Good.u1 {en : En} {X : Cx} {W : WX} {k : Nat} (G : Good en X W k) : X.A.units + 1 < cLine := by have := G.room.un; omega
theorem Good.u66 {en : En} {X : Cx} {W : WX} {k : Nat} (G : Good en X W k) : X.A.units + 66 < cLine := by have := G.room.un; omega
def endF (r : SR) : Res SV := match r with
  | .stuck => .stuck
  | .nx _ h => .ok .non h
  | .rt v h => .ok v h
  | .bk _ _ => .stuck
  | .ct _ _ => .stuck
  | .ex c xs _ h => .ex c xs h
/-- what is wanted behind a body -/
theorem finS.body {en : En} {ρ : List Addr} {m : SM} {ss : SS} {h : SH} {Q : VK} {E : XK} (f : finF en ρ (endF (m ss h)) Q E) :
    finS en (fun cls d _ H => E cls d H) ρ (m ss h) { nx := fun _ H' => Q .non H', rt := Q } := by
  cases e : m ss h with
  | stuck => rw [e] at f; exact f
  | nx ss' h' => rw [e] at f; exact fun ρ' σ H p rel rs => f ρ' H .non p rel rfl
  | rt v h' => rw [e] at f; exact f
  | bk ss' h' => rw [e] at f; exact f.elim
  | ct ss' h' => rw [e] at f; exact f.elim
  | ex c xs ss' h' => rw [e] at f; exact fun ρ' σ H cls d p rel rs rx => f ρ' H cls d p rel rx
/-- a def's meaning by its body's: n slots, the first for the arguments -/
def mFn (np n : Nat) (m : SM) : FM := fun vs h => if vs.length = np then endF (m (vs.map some ++ List.replicate (n - vs.length) none) h) else .stuck
theorem mFn_fin {en : En} {ρ : List Addr} {np n : Nat} {m : SM} {svs : List SV} {vs : List V} {h : SH} {Q : VK} {E : XK} (hl : vs.length = np) (r : RSs en ρ svs vs) (f : finF en ρ (mFn np n m svs h) Q E) : finF en ρ (endF (m (svs.map some ++ List.replicate (n - svs.length) none) h)) Q E := by
  unfold mFn at f
  rw [if_pos (by rw [r.len]; exact hl)] at f
  exact f
theorem mFn_len {np n : Nat} {m : SM} {vs : List SV} {h : SH} (e : mFn np n m vs h ≠ .stuck) : vs.length = np := by
  unfold mFn at e
  split at e
  · assumption
  · exact absurd rfl e
theorem start_rel {en : En} {ρ : List Addr} {svs : List SV} {vs : List V} {N : List Str} (r : RSs en ρ svs vs) : RSl en ρ (svs.map some ++ List.replicate (N.length - svs.length) none) (L2.start N vs) := by
  unfold L2.start
  rw [r.len]
  refine ⟨by simp [r.len], fun i v e => ?_⟩
  by_cases hi : i < svs.length
  · rw [List.getElem?_append_left (by simpa using hi), List.getElem?_map] at e
    cases q : svs[i]? with
    | none => rw [q] at e; cases e
    | some x =>
      rw [q] at e; cases e
      obtain ⟨u, eu, ru⟩ := r.get q
      exact ⟨u, by rw [List.getElem?_append_left (by rw [List.length_map, ← r.len]; exact hi), List.getElem?_map, eu]; rfl, ru⟩
  · rw [List.getElem?_append_right (by simpa using hi), List.getElem?_replicate] at e
    split at e <;> cases e
section
variable {P : Program} {w : World} {K : PySem.W.Frag} {mg : Str → Option Value} {base : Heap} {en : En}
/-- THE RULE for a def -/
theorem fnG_of {k : Nat} {f : Addr} {name qual : Str} {params : Arguments} {body : List Stmt} {scope : Scope} {dV kV doc pm cdv ct oc : Value} {an od : Option Addr} {osl : Array (Option Value)} {N ps : List Str} {m : SM}
    (lk : K.lookup f = some ⟨oc, od, .func (PySem.W.fnOf name qual params body scope dV kV doc pm an cdv ct), osl⟩) (hcd : PySem.W.codeIn K cdv qual = true) (S : FnScope N ps scope) (hK : K = en.K) (hsm : ∃ o, base.get? sysModules = some o)
    (hb : ∀ (A : Around) (outer : List Env) (s : Shared) (H : Hp) (E : XK), Good en (cxOf (L2.CX P w) P w K mg base N qual scope f cdv A outer s H E) (fun cls d _ H => E cls d H) k → PSs (cxOf (L2.CX P w) P w K mg base N qual scope f cdv A outer s H E) body (tS en (fun cls d _ H => E cls d H) m)) :
    FnG P w K mg base (k + 1) f (PySem.W.fnOf name qual params body scope dV kV doc pm an cdv ct) ps (spM en ps.length (mFn ps.length N.length m)) := by
  refine ⟨fun vs H Q E h => h.1, fun A outer s H args us vs Q E hr hgd e0 hbd r hsp => ?_⟩
  obtain ⟨hl, ρ, svs, h, rel, rvs, fq⟩ := hsp
  have inK : K.In s.heap := e0.mod.kin.keeps fun b o e => (e0.bs b o e).1
  have noL : s.heap.NoLimit := e0.mod.nolimit.keeps fun b o e => (e0.bs b o e).1
  have kinds : ∀ y ∈ ps.zip us, scope.names.lookup y.1 = some .local ∨ (scope.names.lookup y.1 = some .cell ∧ ((cellsFrom (s.heap.objs.size + 1) scope.names []).lookup y.1).isSome = true) := by
    intro y hy
    rcases S.par y.1 (List.of_mem_zip (show (y.1, y.2) ∈ ps.zip us from hy)).1 with q | q
    · exact .inl q
    · exact .inr ⟨q, PySem.W.cellsFrom_some _ _ _ (.inl q)⟩
  refine codeAny_call_function hr.depth (inK _ _ lk) rfl S.co S.gen rfl (PySem.W.codeRec_of inK hcd) (hbd _ _ _ _ ?_)
  refine wpAny_newFunctionEnv_cells S.kind kinds fun env he s1 x => ?_
  subst he
  refine ⟨noL.keeps x.toInCall.keep, codeAny_func ?_⟩
  obtain ⟨X, hX⟩ : ∃ X, X = cxOf (L2.CX P w) P w K mg base N qual scope f cdv A outer s H E := ⟨_, rfl⟩
  have body : PSs X body (tS en (fun cls d _ H => E cls d H) m) := by
    subst hX
    exact hb A outer s H E ⟨takes_of rfl rfl rfl rfl, passes_of (K := fun e s'' => L2.CX P w outer H s E e s'') rfl, hr.deeper _, hgd, hsm, rfl, hK⟩
  have I : Inv X [] (L2.start N vs) H s1 := by
    subst hX
    exact inv_start S hr.hd e0 hl r x
  have t : tS en (fun cls d _ H => E cls d H) m { nx := fun _ H' => Q .non H', rt := Q } (L2.start N vs) H := ⟨ρ, _, h, rel, start_rel rvs, finS.body (mFn_fin hl rvs fq)⟩
  have run := body.run [] s1 (L2.start N vs) H _ I t
  subst hX
  refine wpAny_mono run (fun fl s' hs => ?_) fun e s' hs => hs
  cases fl with
  | ret u =>
    obtain ⟨v, σ', H', J, rv, q⟩ := hs
    exact ⟨v, H', J.os, J.bare, J.base, J.hok, rv, q⟩
  | next =>
    obtain ⟨σ', H', J, q⟩ := hs
    exact ⟨.non, H', J.os, J.bare, J.base, J.hok, rfl, q⟩
  | brk =>
    obtain ⟨_, _, _, q⟩ := hs
    exact False.elim q
  | cont =>
    obtain ⟨_, _, _, q⟩ := hs
    exact False.elim q
end
/-! ### calls -/
def mCall (f : FM) (ma : AM) : EM := fun ss h => (ma ss h).bind fun vs h1 => f vs h1
theorem finF.call {en : En} {W : WX} {σ : L2.St} {ρ : List Addr} {r : Res SV} {Q : VK} (f : fin en W (RS en) σ ρ r Q) : finF en ρ r Q (fun cls d H => W cls d σ H) := by
  cases r with
  | stuck => exact f
  | ok v h => exact f
  | ex c xs h => exact f
section
variable {X : Cx} {en : En} {W : WX} {k j : Nat} {f : Addr} {fd : FuncData} {ps : List Str} {sp : Sp} {x mn : Str} {p pos apos : Pos} {e o : Expr} {es : List Expr} {ma : AM} {mo : EM} {m : FM}
theorem run_fnG {pins : List (Addr × Obj)} {σ : L2.St} {H : Hp} {s : Shared} {Q : VK} {us : List Value} {vs : List V} (F : FnG X.prog X.w X.K X.mg X.base k f fd ps sp) (hr : Room k X.A) (hg : X.A.guards = some []) (hb : Binds X.K fd ps []) (tk : Takes X W)
    (I : Inv X pins σ H s) (r : Vals vs us) (h : sp vs H Q (fun cls d H => W cls d σ H)) : wpAny (model X.prog X.w) X.A (call (.ref f) us) (EP X pins σ Q) X.xe s := by
  have hl : us.length = ps.length := by rw [← r.length]; exact F.len _ _ _ _ h
  have b := hb s us I.kIn (by rw [List.append_nil]; exact hl)
  rw [List.append_nil] at b
  refine wpAny_call (codeAny_mono (F.run X.A X.stack s H ⟨us, []⟩ us vs Q _ hr hg I.env0 b r h) fun rr s' hq => ?_)
  match rr, hq with
  | .error e, hq => exact tk e s' (XE.of_call I (fun _ _ _ z => z) hq)
  | .ok (.ret u), hq => exact I.after hq
  | .ok .next, hq => exact False.elim hq
  | .ok .brk, hq => exact False.elim hq
  | .ok .cont, hq => exact False.elim hq
/-- a def that is called by its name -/
structure DefAt (P : Program) (w : World) (K : PySem.W.Frag) (mg : Str → Option Value) (base : Heap) (en : En) (k : Nat) (x : Str) (n : Nat) (m : FM) : Prop where
  ex : ∃ f fd ps, mg x = some (.ref f) ∧ PySem.W.keepIn K (.ref f) = true ∧ FnG P w K mg base k f fd ps (spM en n m) ∧ Binds K fd ps []
  len : ∀ vs h, m vs h ≠ .stuck → vs.length = n
theorem PE.call (D : DefAt X.prog X.w X.K X.mg X.base en j x n m) (G : Good en X W k) (hj : j ≤ k) (hg : Gl X x) (ha : PA X (e :: es) (tA en W ma))
    (hdb : (x == ("__debug__" : Str)) = false := by decide) (he : starEach (e :: es) X.env = (false, eval e X.env) :: starEach es X.env := by rfl) (hpl : (backTo pos (starEach es X.env)).any (·.1) = false := by rfl) : PE X (.Call (.Name x p) (e :: es) [] pos) (tE en W (mCall m ma)) := by
  obtain ⟨f, fd, ps, hm, hk, F, hb⟩ := D.ex
  refine ⟨fun pins s σ H Q I t => ?_⟩
  refine wpAny_Call_Name_kw (ld_glob I hg hm ?_ hdb)
  have t2 : tA en W ma σ H fun vs H1 => spM en n m vs H1 Q (fun cls d H => W cls d σ H) := by
    obtain ⟨ρ, ss, h, rel, rs, q⟩ := t
    refine ⟨ρ, ss, h, rel, rs, ?_⟩
    unfold mCall at q
    cases e1 : ma ss h with
    | stuck => simp only [e1, Res.bind, fin] at q
    | ex c xs h1 => simp only [e1, Res.bind, fin] at q; exact q
    | ok vs h1 =>
      simp only [e1, Res.bind] at q
      exact fun ρ1 H1 b p1 rel1 rb => ⟨by rw [← rb.len]; exact D.len vs h1 (fun z => by rw [z] at q; exact q), ρ1, vs, h1, rel1, rb, finF.call (q.mono p1)⟩
  refine PySem.W.callWith_K (h₀ := X.base) I.ok.mod.kin hk (thn (ha.run pos pins s σ H _ I t2) fun us s1 ⟨vs, H1, I1, r, q⟩ => ⟨I1.kIn, ?_⟩) he hpl
  exact run_fnG F (G.room.mono hj) G.gd hb G.tk I1 r q
theorem PE.call0 (D : DefAt X.prog X.w X.K X.mg X.base en j x 0 m) (G : Good en X W k) (hj : j ≤ k) (hg : Gl X x) (hdb : (x == ("__debug__" : Str)) = false := by decide) : PE X (.Call (.Name x p) [] [] pos) (tE en W (mCall m aNil)) := by
  obtain ⟨f, fd, ps, hm, hk, F, hb⟩ := D.ex
  refine ⟨fun pins s σ H Q I t => ?_⟩
  refine wpAny_Call_Name_kw (ld_glob I hg hm ?_ hdb)
  obtain ⟨ρ, ss, h, rel, rs, q⟩ := t
  exact PySem.W.callWith_K0 I.kIn hk (run_fnG (us := []) F (G.room.mono hj) G.gd hb G.tk I .nil ⟨rfl, ρ, [], h, rel, .nil, finF.call q⟩)
/-! ### o.m(..) -/
/-- a method of the classes with the numbers that cs names -/
structure MethAt (P : Program) (w : World) (K : PySem.W.Frag) (mg : Str → Option Value) (base : Heap) (en : En) (k : Nat) (c : Nat) (mn : Str) (n : Nat) (m : FM) : Prop where
  ex : ∃ f fd ps C ns, ClsF en c C ns ∧ mn ∉ ns ∧ Meth K C mn f ∧ FnG P w K mg base k f fd ps (spM en n m) ∧ Binds K fd ps []
  len : ∀ vs h, m vs h ≠ .stuck → vs.length = n
def insOf (h : SH) (v : SV) : Option Nat := match v with
  | .ref i => match h[i]? with
    | some (.ins c _) => some c
    | _ => none
  | _ => none
def mMeth (c : Nat) (f : FM) (mo : EM) (ma : AM) : EM := fun ss h => (mo ss h).bind fun o h1 => if insOf h1 o = some c then (ma ss h1).bind fun vs h2 => f (o :: vs) h2 else .stuck
theorem insOf_rel {ρ : List Addr} {h : SH} {H : Hp} {o : SV} {v : V} {c : Nat} (rel : Rel en ρ h H) (ro : RS en ρ o v) (e : insOf h o = some c) : ∃ a C ns dx vs, v = .ref a ∧ en.cl[c]? = some (C, ns) ∧ H a = some (.ins C dx (ns.zip vs)) := by
  unfold insOf at e
  split at e
  · split at e
    · rename_i ei
      cases e
      obtain ⟨p, ep, rfl⟩ := ro
      obtain ⟨C, ns, dx, vs, e1, e2, l, r⟩ := rel.at2 ep ei
      exact ⟨p, C, ns, dx, vs, rfl, e1, e2⟩
    · cases e
  · cases e
theorem zip_none {f : Str} : ∀ {ns : List Str} {vs : List V}, f ∉ ns → (ns.zip vs).lookup f = none
  | [], _, _ => rfl
  | _ :: _, [], _ => rfl
  | n :: ns, v :: vs, h => by
    have hb : (f == n) = false := by simpa using fun e : f = n => h (by rw [e]; exact List.mem_cons_self)
    rw [List.zip_cons_cons, List.lookup_cons, hb]
    exact zip_none fun m => h (List.mem_cons_of_mem _ m)
theorem PE.meth {c : Nat} {pl : Sem Bool} (D : MethAt X.prog X.w X.K X.mg X.base en j c mn n m) (G : Good en X W k) (hj : j ≤ k) (ho : PE X o (tE en W mo)) (ha : PA X (e :: es) (tA en W ma))
    (hst : starEach (e :: es) X.env = (false, eval e X.env) :: starEach es X.env := by rfl) (hpl : (backTo pos (starEach es X.env)).any (·.1) = false := by rfl)
    (ht : eval (.Call (.Attribute o mn apos) (e :: es) [] pos) X.env = (do
      let ov ← eval o X.env
      standAt apos.atName
      let (f, first) ← holding [ov] (getMethod ov mn pl)
      callWith pos f first (backTo pos (starEach (e :: es) X.env)) (backToKw pos (keywordEach [] X.env))) := by rfl) :
    PE X (.Call (.Attribute o mn apos) (e :: es) [] pos) (tE en W (mMeth c m mo ma)) := by
  obtain ⟨f, fd, ps, C, ns, cf, hnn, hm, F, hb⟩ := D.ex
  refine ⟨fun pins s σ H Q I t => ?_⟩
  have t1 : tE en W mo σ H fun x H1 => ∃ a dx fs, x = .ref a ∧ H1 a = some (.ins C dx fs) ∧ fs.lookup mn = none ∧ tA en W ma σ H1 fun vs H2 => spM en n m (x :: vs) H2 Q (fun cls d H => W cls d σ H) := by
    obtain ⟨ρ, ss, h, rel, rs, q⟩ := t
    refine ⟨ρ, ss, h, rel, rs, ?_⟩
    unfold mMeth at q
    cases e1 : mo ss h with
    | stuck => simp only [e1, Res.bind, fin] at q
    | ex c xs h1 => simp only [e1, Res.bind, fin] at q; exact q
    | ok ov h1 =>
      simp only [e1, Res.bind] at q
      intro ρ1 H1 b p1 rel1 rb
      split at q
      · rename_i hc
        obtain ⟨a, C', ns', dx, vs0, rfl, ec, eh⟩ := insOf_rel rel1 rb hc
        rw [cf.at_] at ec; cases ec
        refine ⟨a, dx, _, rfl, eh, zip_none hnn, ρ1, ss, h1, rel1, rs.mono p1, ?_⟩
        cases e2 : ma ss h1 with
        | stuck => simp only [e2, fin] at q
        | ex c xs h1 => simp only [e2, fin] at q ⊢; exact fun ρ' H' cls d p => q ρ' H' cls d (p1.trans p)
        | ok vs h2 =>
          simp only [e2] at q
          exact fun ρ2 H2 bs p2 rel2 rbs => ⟨by rw [List.length_cons, ← rbs.len]; exact D.len (ov :: vs) h2 (fun z => by rw [z] at q; exact q), ρ2, ov :: vs, h2, rel2, .cons (rb.mono p2) rbs, finF.call (q.mono (p1.trans p2))⟩
      · exact q.elim
  refine PySem.W.methodCall_KW (pl := pl) (thn (ho.run pins s σ H _ I t1) fun u s1 ⟨x, H1, I1, rx, a, dx, fs, ex, ea, l, q⟩ => ?_) ht
  subst ex
  obtain rfl : u = Value.ref a := rx
  refine getmeth_ok I1 ea (by rw [G.K]; exact cf.cls) hm l ?_
  refine PySem.W.callWith_K (first := [.ref a]) (h₀ := X.base) I.ok.mod.kin hm.kp (thn (ha.run pos pins s1 σ H1 _ I1 q) fun us s2 ⟨vs, H2, I2, r, q2⟩ => ⟨I2.kIn, ?_⟩) hst hpl
  exact run_fnG (us := .ref a :: us) (vs := .ref a :: vs) F (G.room.mono hj) G.gd hb G.tk I2 (.cons rfl r) q2
theorem PE.meth0 {c : Nat} {pl : Sem Bool} (D : MethAt X.prog X.w X.K X.mg X.base en j c mn 1 m) (G : Good en X W k) (hj : j ≤ k) (ho : PE X o (tE en W mo))
    (ht : eval (.Call (.Attribute o mn apos) [] [] pos) X.env = (do
      let ov ← eval o X.env
      standAt apos.atName
      let (f, first) ← holding [ov] (getMethod ov mn pl)
      callWith pos f first (backTo pos (starEach [] X.env)) (backToKw pos (keywordEach [] X.env))) := by rfl) :
    PE X (.Call (.Attribute o mn apos) [] [] pos) (tE en W (mMeth c m mo aNil)) := by
  obtain ⟨f, fd, ps, C, ns, cf, hnn, hm, F, hb⟩ := D.ex
  refine ⟨fun pins s σ H Q I t => ?_⟩
  have t1 : tE en W mo σ H fun x H1 => ∃ a dx fs, x = .ref a ∧ H1 a = some (.ins C dx fs) ∧ fs.lookup mn = none ∧ spM en 1 m [x] H1 Q (fun cls d H => W cls d σ H) := by
    obtain ⟨ρ, ss, h, rel, rs, q⟩ := t
    refine ⟨ρ, ss, h, rel, rs, ?_⟩
    unfold mMeth at q
    cases e1 : mo ss h with
    | stuck => simp only [e1, Res.bind, fin] at q
    | ex c xs h1 => simp only [e1, Res.bind, fin] at q; exact q
    | ok ov h1 =>
      simp only [e1, Res.bind] at q
      intro ρ1 H1 b p1 rel1 rb
      split at q
      · rename_i hc
        obtain ⟨a, C', ns', dx, vs0, rfl, ec, eh⟩ := insOf_rel rel1 rb hc
        rw [cf.at_] at ec; cases ec
        exact ⟨a, dx, _, rfl, eh, zip_none hnn, rfl, ρ1, [ov], h1, rel1, .cons rb .nil, finF.call (q.mono p1)⟩
      · exact q.elim
  refine PySem.W.methodCall_KW (pl := pl) (thn (ho.run pins s σ H _ I t1) fun u s1 ⟨x, H1, I1, rx, a, dx, fs, ex, ea, l, q⟩ => ?_) ht
  subst ex
  obtain rfl : u = Value.ref a := rx
  refine getmeth_ok I1 ea (by rw [G.K]; exact cf.cls) hm l ?_
  exact PySem.W.callWith_K0 (first := [.ref a]) I1.kIn hm.kp (run_fnG (us := [.ref a]) (vs := [.ref a]) F (G.room.mono hj) G.gd hb G.tk I1 (.cons rfl .nil) q)
/-! ### C(..) -/
structure MakeAt (P : Program) (w : World) (K : PySem.W.Frag) (mg : Str → Option Value) (base : Heap) (en : En) (k : Nat) (x : Str) (c : Nat) (n : Nat) (m : FM) : Prop where
  ex : ∃ f fd ps C ns, ClsF en c C ns ∧ mg x = some (.ref C) ∧ Mk K C f ∧ FnG P w K mg base k f fd ps (spM en n m) ∧ Binds K fd ps []
  len : ∀ vs h, m vs h ≠ .stuck → vs.length = n
def mMake (c : Nat) (f : FM) (ma : AM) : EM := fun ss h => (ma ss h).bind fun vs h1 => (f (.ref h1.length :: vs) (h1 ++ [.ins c []])).bind fun v h2 => match v with
  | .non => .ok (.ref h1.length) h2
  | _ => .stuck
theorem guards_make {A : Around} {C : Addr} {us : List Value} {kw : List (Str × Value)} (h : A.guards = some []) : (A.under (.builtin "type.__call__" ⟨.ref C :: us, kw⟩)).guards = some [] := by
  first | exact h | simp [Around.under, Code.guards, Code.isGuard, guardIds, pushGuards, h]
theorem run_makeG {pins : List (Addr × Obj)} {σ : L2.St} {H : Hp} {s : Shared} {Q : VK} {us : List Value} {vs : List V} {C : Addr} (M : Mk X.K C f) (F : FnG X.prog X.w X.K X.mg X.base j f fd ps sp) (hr : Room (j + 1) X.A) (hg : X.A.guards = some []) (hb : Binds X.K fd ps []) (tk : Takes X W) (I : Inv X pins σ H s) (r : Vals vs us)
    (h : ∀ x dx, H x = none → H dx = none → dx ≠ x → sp (.ref x :: vs) (upd (upd H dx (.own x)) x (.ins C dx [])) (fun v H2 => v = .non ∧ Q (.ref x) H2) (fun cls d H => W cls d σ H)) :
    wpAny (model X.prog X.w) X.A (call (.ref C) us) (EP X pins σ Q) X.xe s := by
  obtain ⟨n, hn⟩ : ∃ n, n = s.heap.objs.size := ⟨_, rfl⟩
  have q := h (n + 1) n (I.hok.fresh (by omega)) (I.hok.fresh (by omega)) (Nat.ne_of_lt (Nat.lt_succ_self n))
  subst hn
  have I2 := Inv.made (C := C) I
  have r2 : Vals (V.ref (s.heap.objs.size + 1) :: vs) (Value.ref (s.heap.objs.size + 1) :: us) := .cons rfl r
  have hl : (Value.ref (s.heap.objs.size + 1) :: us).length = ps.length := by rw [← r2.length]; exact F.len _ _ _ _ q
  have b := hb _ (Value.ref (s.heap.objs.size + 1) :: us) I2.kIn (by rw [List.append_nil]; exact hl)
  rw [List.append_nil] at b
  refine wpAny_call (make_map (f := f) I.kIn M.makes M.init (beq_iff_eq.mp M.fn) (codeAny_mono (F.run _ X.stack _ _ ⟨Value.ref (s.heap.objs.size + 1) :: us, []⟩ _ _ _ _ (hr.make C us []) (guards_make hg) (I2.env0.make C us []) b r2 q) fun rr s' hq => ?_))
  match rr, hq with
  | .error e, hq => exact tk e s' (XE.of_call I2 (fun _ _ _ z => z) hq)
  | .ok (.ret u), hq =>
    obtain ⟨v, H', I3, rv, ev, q3⟩ := I2.after hq
    subst ev
    exact ⟨rv, .ref (s.heap.objs.size + 1), H', I3, rfl, q3⟩
  | .ok .next, hq => exact False.elim hq
  | .ok .brk, hq => exact False.elim hq
  | .ok .cont, hq => exact False.elim hq
/-- the new instance is held -/
theorem made_rel {ρ : List Addr} {h : SH} {H : Hp} {c : Nat} {C : Addr} {ns : List Str} {x dx : Addr} (rel : Rel en ρ h H) (cf : ClsF en c C ns) (nx : H x = none) (nd : H dx = none) (ne : dx ≠ x) : Rel en (ρ ++ [x]) (h ++ [.ins c []]) (upd (upd H dx (.own x)) x (.ins C dx [])) := by
  have rel1 : Rel en ρ h (upd H dx (.own x)) := rel.keep fun a u e => by rw [upd_ne (ne_of_none e nd)]; exact e
  refine rel1.push (by rw [upd_ne (Ne.symm ne)]; exact nx) ⟨C, ns, dx, [], cf.at_, ?_, Nat.zero_le _, .nil⟩
  rw [upd_same]
  cases ns <;> rfl
theorem PE.make {c : Nat} (D : MakeAt X.prog X.w X.K X.mg X.base en j x c n m) (G : Good en X W k) (hj : j + 1 ≤ k) (hg : Gl X x) (ha : PA X (e :: es) (tA en W ma))
    (hdb : (x == ("__debug__" : Str)) = false := by decide) (he : starEach (e :: es) X.env = (false, eval e X.env) :: starEach es X.env := by rfl) (hpl : (backTo pos (starEach es X.env)).any (·.1) = false := by rfl) : PE X (.Call (.Name x p) (e :: es) [] pos) (tE en W (mMake c m ma)) := by
  obtain ⟨f, fd, ps, C, ns, cf, hm, M, F, hb⟩ := D.ex
  refine ⟨fun pins s σ H Q I t => ?_⟩
  refine wpAny_Call_Name_kw (ld_glob I hg hm ?_ hdb)
  have t2 : tA en W ma σ H fun vs H1 => ∀ x dx, H1 x = none → H1 dx = none → dx ≠ x → spM en n m (.ref x :: vs) (upd (upd H1 dx (.own x)) x (.ins C dx [])) (fun v H2 => v = .non ∧ Q (.ref x) H2) (fun cls d H => W cls d σ H) := by
    obtain ⟨ρ, ss, h, rel, rs, q⟩ := t
    refine ⟨ρ, ss, h, rel, rs, ?_⟩
    unfold mMake at q
    cases e1 : ma ss h with
    | stuck => simp only [e1, Res.bind, fin] at q
    | ex c xs h1 => simp only [e1, Res.bind, fin] at q; exact q
    | ok vs h1 =>
      simp only [e1, Res.bind] at q
      intro ρ1 H1 b p1 rel1 rb x dx nx nd ne
      have rel2 := made_rel rel1 cf nx nd ne
      have rx : RS en (ρ1 ++ [x]) (.ref h1.length) (.ref x) := ⟨x, by rw [← rel1.len, List.getElem?_append_right (Nat.le_refl _)]; simp, rfl⟩
      refine ⟨?_, ρ1 ++ [x], .ref h1.length :: vs, h1 ++ [.ins c []], rel2, .cons rx (rb.mono (Pre.one ρ1 x)), ?_⟩
      · rw [List.length_cons, ← rb.len]
        exact D.len (.ref h1.length :: vs) _ fun z => by rw [z] at q; exact q
      · cases e2 : m (.ref h1.length :: vs) (h1 ++ [.ins c []]) with
        | stuck => rw [e2] at q; exact q
        | ex c xs h2 => rw [e2] at q; exact fun ρ' H' cls d p => q ρ' H' cls d ((p1.trans (Pre.one ρ1 x)).trans p)
        | ok v h2 =>
          rw [e2] at q
          intro ρ2 H2 u p2 rel3 ru
          cases v with
          | non => cases ru; exact ⟨rfl, q ρ2 H2 _ ((p1.trans (Pre.one ρ1 x)).trans p2) rel3 (rx.mono p2)⟩
          | _ => exact (q : False).elim
  refine PySem.W.callWith_K (h₀ := X.base) I.ok.mod.kin M.kp (thn (ha.run pos pins s σ H _ I t2) fun us s1 ⟨vs, H1, I1, r, q⟩ => ⟨I1.kIn, ?_⟩) he hpl
  exact run_makeG M F (G.room.mono hj) G.gd hb G.tk I1 r q
end
end Fw
namespace Fw
open PySem PySem.Spec L2
section
variable {X : Cx} {en : En} {W : WX} {pos apos cpos : Pos} {o e : Expr} {es : List Expr} {mo : EM} {ma : AM}
/-! ### methods of lists -/
def isLst (h : SH) (v : SV) : Bool := match v with
  | .ref i => match h[i]? with
    | some (.lst _) => true
    | _ => false
  | _ => false
def mBm (f : SV → OA) (mo : EM) (ma : AM) : EM := fun ss h => (mo ss h).bind fun o h1 => if isLst h1 o = true then (ma ss h1).bind fun vs h2 => lift (f o vs h2) else .stuck
def rBm (en : En) (f : SV → OA) : V → List V → Hp → VK → Prop := fun x xs H Q => ∃ ρ h a as, Rel en ρ h H ∧ RS en ρ a x ∧ RSs en ρ as xs ∧ finO en ρ (f a as h) Q
theorem isLst_ty {ρ : List Addr} {h : SH} {H : Hp} {a : SV} {x : V} {K : PySem.W.Frag} (rel : Rel en ρ h H) (r : RS en ρ a x) (e : isLst h a = true) : tyV K "list" x H := by
  unfold isLst at e
  split at e
  · split at e
    · rename_i ei
      obtain ⟨p, vs, rfl, ep, e1, r1⟩ := rel.lst ei r
      exact .inl ⟨rfl, _, SqL.of e1⟩
    · cases e
  · cases e
theorem tBmM {f : SV → OA} (σ : L2.St) (H : Hp) (Q : VK) (t : tE en W (mBm f mo ma) σ H Q) : tBM X.K "list" (rBm en f) (tE en W mo) (tA en W ma) σ H Q := by
  obtain ⟨ρ, ss, h, rel, rs, q⟩ := t
  refine ⟨ρ, ss, h, rel, rs, ?_⟩
  unfold mBm at q
  cases e1 : mo ss h with
  | stuck => simp only [e1, Res.bind, fin] at q
  | ex c xs h1 => simp only [e1, Res.bind, fin] at q; exact q
  | ok ov h1 =>
    simp only [e1, Res.bind] at q
    intro ρ1 H1 b p1 rel1 rb
    split at q
    · rename_i hc
      refine ⟨isLst_ty rel1 rb hc, ρ1, ss, h1, rel1, rs.mono p1, ?_⟩
      cases e2 : ma ss h1 with
      | stuck => simp only [e2, fin] at q
      | ex c xs h1 => simp only [e2, fin] at q ⊢; exact fun ρ' H' cls d p => q ρ' H' cls d (p1.trans p)
      | ok vs h2 =>
        simp only [e2] at q
        exact fun ρ2 H2 bs p2 rel2 rbs => ⟨ρ2, h2, ov, vs, rel2, rb.mono p2, rbs, (q.mono (p1.trans p2)).lift⟩
    · exact q.elim
theorem tBmM0 {f : SV → OA} (σ : L2.St) (H : Hp) (Q : VK) (t : tE en W (mBm f mo aNil) σ H Q) : tBM0 X.K "list" (rBm en f) (tE en W mo) σ H Q := by
  obtain ⟨ρ, ss, h, rel, rs, q⟩ := t
  refine ⟨ρ, ss, h, rel, rs, ?_⟩
  unfold mBm at q
  cases e1 : mo ss h with
  | stuck => simp only [e1, Res.bind, fin] at q
  | ex c xs h1 => simp only [e1, Res.bind, fin] at q; exact q
  | ok ov h1 =>
    simp only [e1, Res.bind] at q
    intro ρ1 H1 b p1 rel1 rb
    split at q
    · rename_i hc
      exact ⟨isLst_ty rel1 rb hc, ρ1, h1, ov, [], rel1, rb, .nil, ((show fin en W (RS en) σ ρ (lift (f ov [] h1)) Q from q).mono p1).lift⟩
    · exact q.elim
theorem MtRimp {id : String} {r r' : V → List V → Hp → VK → Prop} (h : MtR X id r) (k : ∀ x xs H Q, r' x xs H Q → r x xs H Q) : MtR X id r' := fun pins s σ H x xs v us Q I rx rs q => h pins s σ H x xs v us Q I rx rs (k _ _ _ _ q)
def opAppend (a : SV) : OA := fun as h => match a, as with
  | .ref i, [y] => match h[i]? with
    | some (.lst xs) => if xs.length < big then some (.non, h.set i (.lst (xs ++ [y]))) else none
    | _ => none
  | _, _ => none
theorem mt_appendM : MtR X "list.append" (rBm en opAppend) := by
  refine MtRimp mt_append fun x xs H Q ⟨ρ, h, a, as, rel, ra, ras, v, h', e, k⟩ => ?_
  unfold opAppend at e
  split at e
  · split at e
    · rename_i ei
      split at e
      · obtain ⟨p, vs, rfl, ep, e1, r1⟩ := rel.lst ei ra
        obtain ⟨y, rfl, ry⟩ := RSs.one ras
        exact ⟨p, vs, y, rfl, rfl, e1, by rw [big_eq, ← r1.len]; assumption, finO.put ⟨_, _, e, k⟩ rel ep ⟨_, upd_same, r1.app (.cons ry .nil)⟩ rfl⟩
      · cases e
    · cases e
  · cases e
theorem dropLast_rel {ρ : List Addr} {xs : List SV} {vs : List V} (r : RSs en ρ xs vs) : RSs en ρ xs.dropLast vs.dropLast := by
  rw [List.dropLast_eq_take, List.dropLast_eq_take, r.len]
  exact r.take _
def opPop (a : SV) : OA := fun as h => match a, as with
  | .ref i, [] => match h[i]? with
    | some (.lst xs) => match xs[xs.length - 1]? with
      | some y => some (y, h.set i (.lst xs.dropLast))
      | none => none
    | _ => none
  | .ref i, [.int 0] => match h[i]? with
    | some (.lst (y :: xs)) => some (y, h.set i (.lst xs))
    | _ => none
  | _, _ => none
theorem mt_popM : MtR X "list.pop" (rBm en opPop) := by
  refine MtRimp (MtR.or mt_pop mt_popAt) fun x xs H Q ⟨ρ, h, a, as, rel, ra, ras, v, h', e, k⟩ => ?_
  unfold opPop at e
  split at e
  · split at e
    · rename_i ei
      split at e
      · rename_i ey
        obtain ⟨p, vs, rfl, ep, e1, r1⟩ := rel.lst ei ra
        cases ras
        obtain ⟨w, ew, rw'⟩ := r1.get ey
        rw [r1.len] at ew
        refine .inl ⟨p, vs, w, rfl, rfl, e1, ew, finO.put ⟨_, _, e, k⟩ rel ep ⟨_, upd_same, dropLast_rel r1⟩ rw'⟩
      · cases e
    · cases e
  · split at e
    · rename_i ei
      obtain ⟨p, vs, rfl, ep, e1, r1⟩ := rel.lst ei ra
      obtain ⟨z, rfl, rz⟩ := RSs.one ras
      cases rz
      cases r1 with
      | cons r0 rt =>
        refine .inr ⟨p, _, 0, 0, _, rfl, rfl, e1, by decide, by decide, ?_, rfl, finO.put ⟨_, _, e, k⟩ rel ep ⟨_, upd_same, rt⟩ r0⟩
        rw [seqIndex_of (by decide) (by rw [List.length_cons]; omega)]
        rfl
    · cases e
  · cases e
/-- the first place of y -/
def findS (y : SV) : List SV → Option Nat
  | [] => none
  | x :: xs => if eqS x y = true then some 0 else (findS y xs).map (· + 1)
theorem findS_spec {ρ : List Addr} {y : SV} {u : V} (ry : RS en ρ y u) (fy : flatS y = true) : ∀ {xs : List SV} {vs : List V} {j : Nat}, RSs en ρ xs vs → xs.all flatS = true → findS y xs = some j →
    ∃ z, vs[j]? = some z ∧ eqV z u = true ∧ ∀ (m : Nat) (z' : V), m < j → vs[m]? = some z' → eqV z' u = false
  | [], _, _, _, _, e => by cases e
  | x :: xs, _, j, .cons r t, f, e => by
    rw [List.all_cons, Bool.and_eq_true] at f
    unfold findS at e
    have q := eqS_rel r ry f.1 fy
    by_cases hx : eqS x y = true
    · rw [if_pos hx] at e
      cases e
      exact ⟨_, rfl, by rw [q]; exact hx, fun m z' hm => by omega⟩
    · rw [if_neg hx] at e
      cases ej : findS y xs with
      | none => rw [ej] at e; cases e
      | some i =>
        rw [ej] at e
        cases e
        obtain ⟨z, h1, h2, h3⟩ := findS_spec ry fy t f.2 ej
        refine ⟨z, by simpa using h1, h2, fun m z' hm hz => ?_⟩
        cases m with
        | zero => simp at hz; subst hz; rw [q]; simpa using hx
        | succ m =>
          have hm' : m + 1 < i + 1 := hm
          exact h3 m z' (by omega) (by simpa using hz)
def opIndex (a : SV) : OA := fun as h => match a, as with
  | .ref i, [y] => match h[i]? with
    | some (.lst xs) => if (flatS y && xs.all flatS) = true then match findS y xs with
      | some j => some (.int (j : Nat), h)
      | none => none
      else none
    | _ => none
  | _, _ => none
theorem mt_indexM : MtR X "list.index" (rBm en opIndex) := by
  refine MtRimp mt_index fun x xs H Q ⟨ρ, h, a, as, rel, ra, ras, v, h', e, k⟩ => ?_
  unfold opIndex at e
  split at e
  · split at e
    · rename_i ei
      split at e
      · rename_i hf
        split at e
        · rename_i ej
          obtain ⟨p, vs, rfl, ep, e1, r1⟩ := rel.lst ei ra
          obtain ⟨y, rfl, ry⟩ := RSs.one ras
          have z := Bool.and_eq_true_iff.mp hf
          obtain ⟨w, h1, h2, h3⟩ := findS_spec ry z.1 r1 z.2 ej
          exact ⟨p, vs, y, _, w, rfl, rfl, SqL.of e1, flatS_rel ry z.1, flatS_all r1 z.2, h1, h2, h3, finO.here ⟨_, _, e, k⟩ rel rfl⟩
        · cases e
      · cases e
    · cases e
  · cases e
theorem PE.append (ho : PE X o (tE en W mo)) (ha : PA X [e] (tA en W ma)) (hbase : attributeBase o "append" X.env (eval o X.env) = eval o X.env := by rfl)
    (hfew : ((backTo cpos (starEach [e] X.env)).all (fun x => !x.1) && (backToKw cpos (keywordEach [] X.env)).all (fun x => x.1.isSome) && decide ([e].length + ([] : List Keyword).length + (if ([] : List Keyword).isEmpty then 0 else 1) < 30)) = true := by rfl)
    (hline : (apos.endLine == cpos.line) = true := by rfl) (hs : starEach [e] X.env = (false, eval e X.env) :: starEach [] X.env := by rfl) (hplain : (backTo cpos (starEach [] X.env)).any (·.1) = false := by rfl) :
    PE X (.Call (.Attribute o "append" apos) [e] [] cpos) (tE en W (mBm opAppend mo ma)) :=
  PEimp (pe_bm PySem.F.plainAttrs_list PySem.F.slot_list_append PySem.F.type_list_append mt_appendM ho ha hbase hfew hline hs hplain) fun σ H Q t => tBmM σ H Q t
theorem PE.pop1 (ho : PE X o (tE en W mo)) (ha : PA X [e] (tA en W ma)) (hbase : attributeBase o "pop" X.env (eval o X.env) = eval o X.env := by rfl)
    (hfew : ((backTo cpos (starEach [e] X.env)).all (fun x => !x.1) && (backToKw cpos (keywordEach [] X.env)).all (fun x => x.1.isSome) && decide ([e].length + ([] : List Keyword).length + (if ([] : List Keyword).isEmpty then 0 else 1) < 30)) = true := by rfl)
    (hline : (apos.endLine == cpos.line) = true := by rfl) (hs : starEach [e] X.env = (false, eval e X.env) :: starEach [] X.env := by rfl) (hplain : (backTo cpos (starEach [] X.env)).any (·.1) = false := by rfl) :
    PE X (.Call (.Attribute o "pop" apos) [e] [] cpos) (tE en W (mBm opPop mo ma)) :=
  PEimp (pe_bm PySem.F.plainAttrs_list PySem.F.slot_list_pop PySem.F.type_list_pop mt_popM ho ha hbase hfew hline hs hplain) fun σ H Q t => tBmM σ H Q t
theorem PE.pop0 (ho : PE X o (tE en W mo)) (hbase : attributeBase o "pop" X.env (eval o X.env) = eval o X.env := by rfl) (hline : (apos.endLine == cpos.line) = true := by rfl) :
    PE X (.Call (.Attribute o "pop" apos) [] [] cpos) (tE en W (mBm opPop mo aNil)) :=
  PEimp (pe_bm0 PySem.F.plainAttrs_list PySem.F.slot_list_pop PySem.F.type_list_pop mt_popM ho hbase hline) fun σ H Q t => tBmM0 σ H Q t
theorem PE.index (ho : PE X o (tE en W mo)) (ha : PA X [e] (tA en W ma)) (hbase : attributeBase o "index" X.env (eval o X.env) = eval o X.env := by rfl)
    (hfew : ((backTo cpos (starEach [e] X.env)).all (fun x => !x.1) && (backToKw cpos (keywordEach [] X.env)).all (fun x => x.1.isSome) && decide ([e].length + ([] : List Keyword).length + (if ([] : List Keyword).isEmpty then 0 else 1) < 30)) = true := by rfl)
    (hline : (apos.endLine == cpos.line) = true := by rfl) (hs : starEach [e] X.env = (false, eval e X.env) :: starEach [] X.env := by rfl) (hplain : (backTo cpos (starEach [] X.env)).any (·.1) = false := by rfl) :
    PE X (.Call (.Attribute o "index" apos) [e] [] cpos) (tE en W (mBm opIndex mo ma)) :=
  PEimp (pe_bm PySem.F.plainAttrs_list PySem.F.slot_list_index PySem.F.type_list_index mt_indexM ho ha hbase hfew hline hs hplain) fun σ H Q t => tBmM σ H Q t
/-! ### n.bit_length() -/
def opBits : O1 := fun a h => match a with
  | .int i => some (.int (Builtin.Int.intBits i : Nat), h)
  | _ => none
theorem PE.bits (ho : PE X o (tE en W mo)) (hbase : attributeBase o "bit_length" X.env (eval o X.env) = eval o X.env := by rfl) (hline : (apos.endLine == pos.line) = true := by rfl) : PE X (.Call (.Attribute o "bit_length" apos) [] [] pos) (tE en W (mO1 opBits mo)) :=
  PEimp (pe_bits ho hbase hline) fun σ H Q t => tM.bind2 (R1 := RS en) (R2 := RS en) (k := fun a (ss : SS) h => lift (opBits a h)) t fun ρ ss h a x H1 rel rs ra f => by
    obtain ⟨v, h', e, k⟩ := f.lift
    unfold opBits at e
    split at e
    · cases ra; exact ⟨_, rfl, finO.here ⟨_, _, e, k⟩ rel rfl⟩
    · cases e
/-! ### sum, all of a list -/
def intsOf : List SV → Option (List Int)
  | [] => some []
  | x :: xs => match x with
    | .int i => match intsOf xs with
      | some is => some (i :: is)
      | none => none
    | _ => none
theorem intsOf_rel {ρ : List Addr} : ∀ {xs : List SV} {vs : List V} {is : List Int}, intsOf xs = some is → RSs en ρ xs vs → vs = is.map V.int
  | [], _, _, e, r => by cases r; cases e; rfl
  | x :: xs, _, _, e, r => by
    cases r with
    | cons r t =>
      unfold intsOf at e
      split at e
      · split at e
        · rename_i ei
          cases e
          cases r
          rw [List.map_cons, intsOf_rel ei t]
        · cases e
      · cases e
def opSum : O1 := fun a h => match a with
  | .ref i => match h[i]? with
    | some (.lst xs) => match intsOf xs with
      | some is => some (.int is.sum, h)
      | none => none
    | _ => none
  | _ => none
theorem call_sumM (hc : X.calm = true) : CallR X (.builtin "sum") (rOA en (un1 opSum)) := by
  refine CallRimp (cr_sum hc) fun xs H Q q => ?_
  obtain ⟨ρ, h, a, x, rfl, rel, ra, v, h', e, k⟩ := un1_of q
  unfold opSum at e
  split at e
  · split at e
    · rename_i ei
      split at e
      · rename_i es
        obtain ⟨p, vs, rfl, ep, e1, r1⟩ := rel.lst ei ra
        obtain rfl := intsOf_rel es r1
        exact ⟨p, _, rfl, SqL.of e1, finO.here ⟨_, _, e, k⟩ rel rfl⟩
      · cases e
    · cases e
  · cases e
def boolsOf : List SV → Option (List Bool)
  | [] => some []
  | x :: xs => match x with
    | .bl i => match boolsOf xs with
      | some is => some (i :: is)
      | none => none
    | _ => none
theorem boolsOf_rel {ρ : List Addr} : ∀ {xs : List SV} {vs : List V} {is : List Bool}, boolsOf xs = some is → RSs en ρ xs vs → vs = is.map V.bl
  | [], _, _, e, r => by cases r; cases e; rfl
  | x :: xs, _, _, e, r => by
    cases r with
    | cons r t =>
      unfold boolsOf at e
      split at e
      · split at e
        · rename_i ei
          cases e
          cases r
          rw [List.map_cons, boolsOf_rel ei t]
        · cases e
      · cases e
def opAll : O1 := fun a h => match a with
  | .ref i => match h[i]? with
    | some (.lst xs) => match boolsOf xs with
      | some bs => some (.bl (bs.all id), h)
      | none => none
    | _ => none
  | _ => none
theorem call_allM (hc : X.calm = true) : CallR X (.builtin "all") (rOA en (un1 opAll)) := by
  refine CallRimp (cr_all hc) fun xs H Q q => ?_
  obtain ⟨ρ, h, a, x, rfl, rel, ra, v, h', e, k⟩ := un1_of q
  unfold opAll at e
  split at e
  · split at e
    · rename_i ei
      split at e
      · rename_i es
        obtain ⟨p, vs, rfl, ep, e1, r1⟩ := rel.lst ei ra
        obtain rfl := boolsOf_rel es r1
        exact ⟨p, _, rfl, SqL.of e1, finO.here ⟨_, _, e, k⟩ rel rfl⟩
      · cases e
    · cases e
  · cases e
end
end Fw
namespace Fw
open PySem PySem.Spec L2
def wipeS (ss : SS) : List Nat → SS
  | [] => ss
  | i :: is => (wipeS ss is).set i none
theorem wipe_rel {en : En} {ρ : List Addr} {ss : SS} {σ : L2.St} (r : RSl en ρ ss σ) : ∀ is : List Nat, RSl en ρ (wipeS ss is) (wipe σ is)
  | [] => r
  | i :: is => (wipe_rel r is).clear i
/-- the turns of a list comprehension, D its list's number -/
def lcM (g : GM) (wk : Wk) (t : BM) (e : EM) (is : List Nat) (D : Nat) (ss : SS) : Nat → Nat → SH → Res SV
  | 0, _ => fun _ => .stuck
  | n + 1, i => fun h => match wk h i with
    | none => .stuck
    | some none => .ok (.ref D) h
    | some (some (x, h1)) => match g x (wipeS ss is) h1 with
      | none => .stuck
      | some ss1 => match t ss1 h1 with
        | .ok b h2 => if b = true then (match e ss1 h2 with
          | .ok y h3 => match h3[D]? with
            | some (.lst acc) => if acc.length < big then lcM g wk t e is D ss n (i + 1) (h3.set D (.lst (acc ++ [y]))) else .stuck
            | _ => .stuck
          | _ => .stuck) else lcM g wk t e is D ss n (i + 1) h2
        | _ => .stuck
def mLc (m : IM) (g : GM) (t : BM) (e : EM) (is : List Nat) : EM := fun ss h => match m ss h with
  | .stuck => .stuck
  | .ex c xs h1 => .ex c xs h1
  | .ok wk h1 => lcM g wk t e is h1.length ss many 0 (h1 ++ [.lst []])
def bYes : BM := fun _ h => .ok true h
abbrev W0 : WX := fun _ _ _ _ => False
theorem wipe_get {σ : L2.St} {i : Nat} : ∀ {vs : List Nat}, i ∉ vs → (wipe σ vs)[i]? = σ[i]?
  | [], _ => rfl
  | v :: vs, h => by
    unfold wipe
    have : v ≠ i := fun e => h (by rw [e]; exact List.mem_cons_self)
    rw [List.getElem?_set_ne this]
    exact wipe_get fun m => h (List.mem_cons_of_mem _ m)
theorem wipe_in {σ : L2.St} {i : Nat} (hi : i < σ.length) : ∀ {vs : List Nat}, i ∈ vs → (wipe σ vs)[i]? = some none
  | v :: vs, h => by
    unfold wipe
    by_cases e : v = i
    · subst e
      rw [List.getElem?_set_self (by rw [wipe_length]; exact hi)]
    · rw [List.getElem?_set_ne e]
      rcases List.mem_cons.mp h with z | z
      · exact absurd z.symm e
      · exact wipe_in hi z
theorem wipe_same {σ σ2 : L2.St} {vs : List Nat} (o : SameOut vs (wipe σ vs) σ2) : wipe σ2 vs = wipe σ vs := by
  have hl : σ2.length = σ.length := by rw [o.len, wipe_length]
  apply List.ext_getElem?
  intro i
  by_cases hi : i ∈ vs
  · by_cases hlt : i < σ.length
    · rw [wipe_in (by rw [hl]; exact hlt) hi, wipe_in hlt hi]
    · rw [List.getElem?_eq_none (by rw [wipe_length, hl]; omega), List.getElem?_eq_none (by rw [wipe_length]; omega)]
  · rw [wipe_get hi, o.out i hi]
section
variable {X : Cx} {en : En} {W : WX} {pos : Pos}
theorem Good.blk {k : Nat} (G : Good en X W k) (s : Shared) (H : Hp) (sc : Scope) (ce : Env) (fp : List Addr) : Good en (X.blk s H sc ce fp) W0 k :=
  ⟨takes0, PassesOwn.never, G.room, G.gd, G.sm, G.calm, G.K⟩
theorem PTs.nil : PTs X [] (tT en W bYes) := ⟨fun pins s σ H Q I ⟨ρ, ss, h, rel, rs, f⟩ => pts_nil.run pins s σ H Q I (f ρ H true (Pre.refl ρ) rel rfl)⟩
theorem PTs.one {c : Expr} {t : BM} (h : PT X c (tT en W t)) : PTs X [c] (tT en W t) := pts_one h
/-- the reading of a comprehension from its meaning -/
theorem tLcM {m : IM} {g : GM} {t : BM} {e : EM} {is : List Nat} (σ : L2.St) (H : Hp) (Q : VK) (q : tE en W (mLc m g t e is) σ H Q) : tLc (tI en W m) (tG en is g) (tT en W0 t) (tE en W0 e) is σ H Q := by
  obtain ⟨ρ, ss, h, rel, rs, f⟩ := q
  refine ⟨ρ, ss, h, rel, rs, ?_⟩
  unfold mLc at f
  cases e1 : m ss h with
  | stuck => simp only [e1, fin] at f
  | ex c xs h1 => simp only [e1, fin] at f ⊢; exact f
  | ok wk h1 =>
    simp only [e1] at f ⊢
    intro ρ1 H1 J p1 rel1 ok D nD
    have relD : Rel en (ρ1 ++ [D]) (h1 ++ [.lst []]) (upd H1 D (.lst [])) := rel1.push nD ⟨[], upd_same, .nil⟩
    have eD : (ρ1 ++ [D])[h1.length]? = some D := by rw [← rel1.len, List.getElem?_append_right (Nat.le_refl _)]; simp
    refine ⟨fun i n H2 => ∃ ρ2 h2, Pre (ρ1 ++ [D]) ρ2 ∧ Rel en ρ2 h2 H2 ∧ fin en W (RS en) σ ρ2 (lcM g wk t e is h1.length ss n i h2) Q, ⟨many, ρ1 ++ [D], h1 ++ [.lst []], Pre.refl _, relD, f.mono (p1.trans (Pre.one ρ1 D))⟩, ?_⟩
    rintro i n H2 ⟨ρ2, h2, p2, rel2, f2⟩
    have pr : Pre ρ1 ρ2 := (Pre.one ρ1 D).trans p2
    cases n with
    | zero => exact f2.elim
    | succ n =>
      unfold lcM at f2
      obtain ⟨k1, k2⟩ := ok ρ2 h2 H2 i pr rel2
      cases e2 : wk h2 i with
      | none => simp only [e2, fin] at f2
      | some o =>
        cases o with
        | none =>
          simp only [e2] at f2
          exact .inl ⟨k1 e2, f2 ρ2 H2 _ (Pre.refl ρ2) rel2 ⟨D, p2.get eD, rfl⟩⟩
        | some qq =>
          obtain ⟨x, h3⟩ := qq
          simp only [e2] at f2
          obtain ⟨go, yl⟩ := k2 x h3 e2
          refine .inr ⟨go, fun H' => ∃ ρ4 h4, Pre (ρ1 ++ [D]) ρ4 ∧ Rel en ρ4 h4 H' ∧ fin en W (RS en) σ ρ4 (lcM g wk t e is h1.length ss n (i + 1) h4) Q, fun H' z => ⟨n, Nat.lt_succ_self n, z⟩, fun v H3 yv => ?_⟩
          obtain ⟨ρ3, p3, rel3, rv⟩ := yl v H3 yv
          have rsw : RSl en ρ3 (wipeS ss is) (wipe σ is) := wipe_rel (rs.mono (p1.trans (pr.trans p3))) is
          cases e3 : g x (wipeS ss is) h3 with
          | none => simp only [e3, fin] at f2
          | some ss1 =>
            simp only [e3] at f2
            refine ⟨ρ3, _, h3, x, ss1, rel3, rsw, rv, e3, fun σ2 rs2 so => ⟨wipe_same so, ρ3, ss1, h3, rel3, rs2, ?_⟩⟩
            cases e4 : t ss1 h3 with
            | stuck => simp only [e4, fin] at f2
            | ex c xs h4 => simp only [e4, fin] at f2
            | ok b h4 =>
              simp only [e4] at f2
              intro ρ4 H4 b' p4 rel4 rb
              cases rb
              cases b with
              | false =>
                have f3 : fin en W (RS en) σ ρ2 (lcM g wk t e is h1.length ss n (i + 1) h4) Q := f2
                exact ⟨ρ4, h4, (p2.trans p3).trans p4, rel4, f3.mono (p3.trans p4)⟩
              | true =>
                rw [if_pos rfl] at f2
                refine ⟨ρ4, ss1, h4, rel4, rs2.mono p4, ?_⟩
                cases e5 : e ss1 h4 with
                | stuck => simp only [e5, fin] at f2
                | ex c xs h5 => simp only [e5, fin] at f2
                | ok y h5 =>
                  simp only [e5] at f2
                  intro ρ5 H5 u p5 rel5 ru
                  cases e6 : h5[h1.length]? with
                  | none => simp only [e6, fin] at f2
                  | some o6 =>
                    cases o6 with
                    | lst acc =>
                      simp only [e6] at f2
                      split at f2
                      · rename_i hz
                        have p25 : Pre (ρ1 ++ [D]) ρ5 := ((p2.trans p3).trans p4).trans p5
                        obtain ⟨D', vs, e0, ep, e7, r7⟩ := rel5.lst e6 ⟨D, p25.get eD, rfl⟩
                        cases e0
                        exact ⟨vs, e7, by rw [big_eq, ← r7.len]; exact hz, ρ5, _, p25, rel5.put (o := .lst (acc ++ [y])) (p25.get eD) ⟨_, upd_same, r7.app (.cons ru .nil)⟩, f2.mono ((p3.trans p4).trans p5)⟩
                      · exact f2.elim
                    | _ => simp only [e6, fin] at f2
theorem PE.lc {elt tg iter : Expr} {ifs : List Expr} {scope : Scope} {own : List (Str × Nat)} {m : IM} {g : GM} {t : BM} {e : EM} (hc : X.calm = true) (hN : X.N.Nodup) (hi : PI X tg iter (tI en W m)) (ok : BlkOk X.N X.env.scope scope own)
    (hg : ∀ (s : Shared) (H : Hp) (C : Addr) (cl : List (Str × Addr)) (fp : List Addr), PG (X.blk s H scope (compEnvC scope cl C X.env) fp) tg (tG en (own.map (·.2)) g)) (ht : ∀ (s : Shared) (H : Hp) (C : Addr) (cl : List (Str × Addr)) (fp : List Addr), PTs (X.blk s H scope (compEnvC scope cl C X.env) fp) ifs (tT en W0 t))
    (he : ∀ (s : Shared) (H : Hp) (C : Addr) (cl : List (Str × Addr)) (fp : List Addr), PE (X.blk s H scope (compEnvC scope cl C X.env) fp) elt (tE en W0 e)) (hs : ∀ x, foldedSetIterable iter X.env x = pure x := by intro _; rfl) :
    PE X (.ListComp elt [⟨tg, iter, ifs, 0⟩] scope pos) (tE en W (mLc m g t e (own.map (·.2)))) :=
  PEimp (pe_lc hc hN hi ok hg ht he hs) fun σ H Q q => tLcM σ H Q q
theorem PS.setLc {i : Nat} {y : Str} {py : Pos} {elt tg iter : Expr} {ifs : List Expr} {scope : Scope} {own : List (Str × Nat)} {spos : Pos} {m : IM} {g : GM} {t : BM} {e : EM} (hc : X.calm = true) (hN : X.N.Nodup) (hy : X.N[i]? = some y) (hyl : X.env.scope.names.lookup y = some .local)
    (hsw : swapsWith (.ListComp elt [⟨tg, iter, ifs, 0⟩] scope pos) (some (.Name y py)) spos.line X.env = pure true) (hi : PI X tg iter (tI en W m)) (ok : BlkOk X.N X.env.scope scope own)
    (hg : ∀ (s : Shared) (H : Hp) (C : Addr) (cl : List (Str × Addr)) (fp : List Addr), PG (X.blk s H scope (compEnvC scope cl C X.env) fp) tg (tG en (own.map (·.2)) g)) (ht : ∀ (s : Shared) (H : Hp) (C : Addr) (cl : List (Str × Addr)) (fp : List Addr), PTs (X.blk s H scope (compEnvC scope cl C X.env) fp) ifs (tT en W0 t))
    (he : ∀ (s : Shared) (H : Hp) (C : Addr) (cl : List (Str × Addr)) (fp : List Addr), PE (X.blk s H scope (compEnvC scope cl C X.env) fp) elt (tE en W0 e)) (hs : ∀ x, foldedSetIterable iter X.env x = pure x := by intro _; rfl) :
    PS X (.Assign [.Name y py] (.ListComp elt [⟨tg, iter, ifs, 0⟩] scope pos) spos) (tS en W (mSet i (mLc m g t e (own.map (·.2))))) :=
  PSimp (ps_setLc hc hN hy hyl hsw hi ok hg ht he hs) fun D σ H q => tLcM σ H _ (tS.bind (R1 := RS en) (k := fun ss v h1 => .nx (ss.set i (some v)) h1) q fun ρ ss h a b H1 rel rs r f => f ρ _ H1 (Pre.refl ρ) rel (rs.set r i))
end
end Fw
namespace Er
open PySem PySem.W PySem.Calls PyProof.Rows PySem.HandSPX
/-! an own error: class X(Base): def __init__(self, f=None): super().__init__('..'); self.f = f -/
def eA (f : Str) (p1 p2 p3 : Pos) (k : Nat) : Arguments := { posonlyargs := [], args := [{ arg := "self", annotation := none, pos := p1 }, { arg := f, annotation := none, pos := p2 }], vararg := none, kwonlyargs := [], kw_defaults := [], kwarg := none, defaults := [.Constant .none k p3] }
def eB (f txt : Str) (q1 q2 q3 q4 q5 q6 q7 q8 q9 q10 : Pos) (k : Nat) : List Stmt :=
  [.Expr (.Call (.Attribute (.Call (.Name "super" q1) [] [] q2) "__init__" q3) [.Constant (.str txt) k q4] [] q5) q6, .Assign [.Attribute (.Name "self" q7) f q8] (.Name f q9) q10]
def eS (f : Str) : Scope := { kind := .function, names := [(PySem.Str.ofString "self", .local), (f, .local), (PySem.Str.ofString "__class__", .free), (PySem.Str.ofString "super", .globalImplicit)], isGenerator := false, isCoroutine := false, more := [] }
/-- what the written part says of the error class at C, its __init__ at fI, its cell, its code -/
structure ErrTxt (P : Program) (K : Frag) (f : Str) (C fI : Addr) : Prop where
  cls : ∃ nm q N bs bm sn sub ab col dd k0 k1 k2 k3 k5, K.lookup C = some (excClassObj nm q C N bs bm true sn sub ab col dd k0 k1 k2 k3 k5 "ValueError.__new__") ∧ refsVE bm = true ∧ alongIn K "__init__" bm = some (some (.builtin "ValueError.__init__"))
  sa : findIn K (.ref C) "__setattr__" = some (some (.builtin "object.__setattr__"))
  ga : findIn K (.ref C) "__getattribute__" = some (some (.builtin "BaseException.__getattribute__"))
  gg : findIn K (.ref C) "__getattr__" = some none
  noN : findIn K (.ref C) f = some none
  iC : findIn K (.ref C) "__init__" = some (some (.ref fI))
  tC : typeIn K (.ref fI) = some (.type "function")
  kC : keepIn K (.ref C) = true
  exC : subIn K (.ref C) (.type "BaseException") = some true
  veC : subIn K (.ref C) (.type "ValueError") = some true
  tyC : typeIn K (.ref C) = some (.type "type")
  hdC : hasDictIn K C = true
  mrC : mroIn K C (.ref C) = some true
  opq : nsIn K cStatics "thirdparty.any" = some none
  fn : ∃ (qual txt : Str) (oc ccl cl : Value) (od cdd cld : Option Addr) (kV doc pm : Value) (dv : Value) (an : Option Addr) (cda cc : Addr) (ct : Value) (osl ccs csl : Array (Option Value)) (vs : Array Value) (file : Str) (tf : Tok) (p1 p2 p3 q1 q2 q3 q4 q5 q6 q7 q8 q9 q10 : Pos) (k k' : Nat),
    K.lookup fI = some ⟨oc, od, .func (fnX "__init__" qual (eA f p1 p2 p3 k) (eB f txt q1 q2 q3 q4 q5 q6 q7 q8 q9 q10 k') (eS f) [("__class__", cc)] dv kV doc pm an (.ref cda) ct), osl⟩ ∧ codeIn K (.ref cda) qual = true ∧
    K.lookup cda = some ⟨ccl, cdd, .fields vs, ccs⟩ ∧ vs[2]? = some (.str file tf) ∧ ((P.main.file : Str) == file) = true ∧ K.lookup cc = some ⟨cl, cld, .cell (some (.ref C)), csl⟩ ∧ txt.length ≤ sizeLine ∧ (q3.endLine == q5.line) = true
  b0 : ∀ oc od fd osl, K.lookup fI = some ⟨oc, od, .func fd, osl⟩ → L2.Binds K fd ["self", f] [] ∧ L2.Binds K fd ["self", f] [.none]
  bK : ∀ oc od fd osl, K.lookup fI = some ⟨oc, od, .func fd, osl⟩ → ∀ (s : Shared) (x v : Value), K.In s.heap → BindsTo s fd ⟨[x], [(f, v)]⟩ [("self", x), (f, v)]
  htop : (P.main.scope.names.lookup ("super" : Str)).isSome = false
  fgood : (f == ("self" : Str)) = false ∧ (f == ("__class__" : Str)) = false ∧ (f == ("super" : Str)) = false ∧ (f == ("__debug__" : Str)) = false
/-- what ValueError.__init__ bound to a fresh error does -/
theorem call_mw {prog : Program} {w : World} {A : Around} {E : Value → Shared → Prop} {h : Heap} {g : Array GenState} {d : Drawn} {t : Nat} {os : OsState} {nm q : Str} {C N : Addr} {bs bm : List Value} {hdct : Bool} {sn : List Str} {sub : List Value} {ab : Bool} {col : Option Bool} {dd : Option Addr} {k0 k1 k2 k3 k5 : Option Value}
    {u e t0 : Addr} {rest : List Value} {Q : Value → Shared → Prop}
    (hC : h.get? C = some (excClassObj nm q C N bs bm hdct sn sub ab col dd k0 k1 k2 k3 k5 "ValueError.__new__")) (he : h.get? e = some (excO C t0)) (hu : h.get? u = some (kxs_mw "ValueError.__init__" e)) (hrest : rest.length ≤ sizeLine)
    (hq : ∀ h' t1, (∀ b o, b ≠ e → h.get? b = some o → h'.get? b = some o) → h'.get? e = some (excO C t1) → Q .none ⟨h', g, d, t, os⟩) :
    wpAny (model prog w) A (call (.ref u) rest) Q E ⟨h, g, d, t, os⟩ := by
  refine wpAny_call (codeAny_of_tree ?_)
  show wpAny _ A.in1 (callAny (.ref u) ⟨rest, []⟩) _ _ _
  simp only [callAny]
  refine wpAny_bind (wpAny_load hu ?_)
  have e1 : (Value.type "method-wrapper" == Value.type "method" || Value.type "method-wrapper" == Value.type "builtin_function_or_method" || Value.type "method-wrapper" == Value.type "method-wrapper") = true := by decide
  simp only [kxs_mw, e1, if_true]
  refine KFB.if_so (by decide) ?_
  refine wpAny_bind (check_bound_init PySem.F.excBase_ValueError.toExcCallFacts hC he rfl ?_)
  refine wpAny_bind (wpAny_pure (wpAny_pure ?_))
  refine ⟨Code.quiet_builtin _ (by decide +kernel), codeAny_builtin PySem.F.excBase_ValueError.initEntry ?_⟩
  rw [Around.under_plainId PySem.F.excBase_ValueError.init.plain _]
  wp_walk
  refine hq _ h.objs.size (fun b o hb ho => ?_) ?_
  · rw [Heap.get?_update_other _ _ (Ne.symm hb)]
    exact Heap.get?_push_of_some _ ho
  · rw [Heap.get?_update_self _ (Heap.get?_push_of_some _ he) rfl]
    rfl
/-- a call of an attribute of what is no name: the place it stands at -/
theorem mcall {o : Expr} {name : Str} {q3 q5 : Pos} {a : Expr} {env : Env} (hpos : (q3.endLine == q5.line) = true) (hf : methodCallForm 1 (backTo q5 (starEach [a] env)) [] = true) :
    eval (.Call (.Attribute o name q3) [a] [] q5) env = (do
      let ov ← attributeBase o name env (eval o env)
      standAt q3.atName
      let (f, first) ← holding [ov] (getMethod ov name (do return (← importBound o env).getD true))
      callWith q5 f first (backTo q5 (starEach [a] env)) []) := by
  have e : methodCallPos (methodCallForm 1 (backTo q5 (starEach [a] env)) []) o env q3 q5 = pure q5 := by
    unfold methodCallPos
    rw [hpos, Bool.or_true]; rfl
  have e2 : ∀ ov, calleeOf (methodCallForm 1 (backTo q5 (starEach [a] env)) []) o env ov name = getMethod ov name (do return (← importBound o env).getD true) := by
    intro ov
    unfold calleeOf
    rw [hf]; rfl
  show (do
    let ov ← attributeBase o name env (eval o env)
    standAt q3.atName
    methodCall o name q3 q5 env ov 1 (backTo q5 (starEach [a] env)) []) = _
  unfold methodCall
  rw [e]
  simp only [e2, pure_bind]
/-- what __init__ leaves of a fresh error at x -/
structure InitEnd (h h' : Heap) (x C dx : Addr) (f : Str) (v : Value) : Prop where
  keep : ∀ b o, b ≠ x → h.get? b = some o → h'.get? b = some o
  obj : ∃ t1, h'.get? x = some { cls := .ref C, dict := some dx, data := .fields #[.ref t1, .none, .none, .none, .bool false, .none] }
  dbig : h.objs.size ≤ dx
  dne : dx ≠ x
  ns : h'.Ns1 dx (fun y => if y = f then some v else none)
theorem lookup_eS (f : Str) (g : (f == ("self" : Str)) = false ∧ (f == ("__class__" : Str)) = false ∧ (f == ("super" : Str)) = false ∧ (f == ("__debug__" : Str)) = false) : (eS f).names.lookup f = some .local := by
  show List.lookup f [(PySem.Str.ofString "self", NameKind.local), (f, .local), (PySem.Str.ofString "__class__", .free), (PySem.Str.ofString "super", .globalImplicit)] = _
  rw [List.lookup_cons, show (f == PySem.Str.ofString "self") = false from g.1, List.lookup_cons, show (f == f) = true from by simp]
theorem neS {a b : Str} (h : (a == b) = false) : (b == a) = false := by
  have : a ≠ b := by simpa using h
  simpa using Ne.symm this
theorem lookup_super (f : Str) (g : (f == ("self" : Str)) = false ∧ (f == ("__class__" : Str)) = false ∧ (f == ("super" : Str)) = false ∧ (f == ("__debug__" : Str)) = false) : (eS f).names.lookup ("super" : Str) = some .globalImplicit := by
  show List.lookup (PySem.Str.ofString "super") [(PySem.Str.ofString "self", NameKind.local), (f, .local), (PySem.Str.ofString "__class__", .free), (PySem.Str.ofString "super", .globalImplicit)] = _
  rw [List.lookup_cons, show (PySem.Str.ofString "super" == PySem.Str.ofString "self") = false from by decide, List.lookup_cons, show (PySem.Str.ofString "super" == f) = false from neS g.2.2.1]
  rfl
theorem lookup_class (f : Str) (g : (f == ("self" : Str)) = false ∧ (f == ("__class__" : Str)) = false ∧ (f == ("super" : Str)) = false ∧ (f == ("__debug__" : Str)) = false) : (eS f).names.lookup ("__class__" : Str) = some .free := by
  show List.lookup (PySem.Str.ofString "__class__") [(PySem.Str.ofString "self", NameKind.local), (f, .local), (PySem.Str.ofString "__class__", .free), (PySem.Str.ofString "super", .globalImplicit)] = _
  rw [List.lookup_cons, show (PySem.Str.ofString "__class__" == PySem.Str.ofString "self") = false from by decide, List.lookup_cons, show (PySem.Str.ofString "__class__" == f) = false from neS g.2.1]
  rfl
theorem _root_.PySem.LowY.one_size (v : Value) : [v].length ≤ sizeLine := by
  rw [sizeLine_eq]
  exact (by decide : 1 ≤ 16777216)
section
variable {prog : Program} {w : World} {A : Around} {R : Result → Shared → Prop} {s : Shared} {K : Frag} {C fI : Addr} {f : Str} {mg mb : Str → Option Value}
theorem err_init (T : ErrTxt prog K f C fI) {x t0 : Addr} {v : Value} (X : K.In s.heap) (hG : s.heap.Ns mainGlobals mg) (hB : s.heap.Ns builtinsNs mb) (hs1 : mg "super" = none) (hs2 : mb "super" = some (.type "super")) (hlim : s.heap.NoLimit) (hx : s.heap.get? x = some (excO C t0)) (hnx : K.lookup x = none) (hroom : A.depth < recursionLimit)
    {args : Args} (hbd : ∀ oc od fd osl, K.lookup fI = some ⟨oc, od, .func fd, osl⟩ → BindsTo s fd args [("self", .ref x), (f, v)])
    (hq : ∀ h' tk dx, InitEnd s.heap h' x C dx f v → R (.ok (.ret .none)) { s with heap := h', toks := tk }) :
    codeAny (model prog w) A (.call (.ref fI) args) R s := by
  obtain ⟨qual, txt, oc, ccl, cl, od, cdd, cld, kV, doc, pm, dv, an, cda, cc, ct, osl, ccs, csl, vs, file, tf, p1, p2, p3, q1, q2, q3, q4, q5, q6, q7, q8, q9, q10, k, k', ho, hcd, hcda, hvs, hfile, hcc, htxt, hpos⟩ := T.fn
  obtain ⟨nm, q, N, bs, bm, sn, sub, ab, col, dd, k0, k1, k2, k3, k5, hC, hbm, hal⟩ := T.cls
  have g := T.fgood
  have hcl : clsIn K C = some { name := nm, bases := bs, mro := .ref C :: bm, ns := N, qualname := q, hasDict := true, slotNames := sn, subclasses := sub, abstract := ab, collection := col, hasDel := false } := by unfold clsIn; rw [hC] <;> rfl
  have lf := lookup_eS f g
  refine ks_codeAny_call_defAt (fd := fnX "__init__" qual (eA f p1 p2 p3 k) (eB f txt q1 q2 q3 q4 q5 q6 q7 q8 q9 q10 k') (eS f) [("__class__", cc)] dv kV doc pm an (.ref cda) ct) (binds := [("self", .ref x), (f, v)]) hroom (X _ _ ho) rfl hlim (codeRec_of X hcd) rfl
    (hbd _ _ _ _ ho) (fun y hy => ?_) (fun y hy => ?_) (fun h1 hns hk1 => ?_)
  · have : y ∈ [(PySem.Str.ofString "self", NameKind.local), (f, .local), (PySem.Str.ofString "__class__", .free), (PySem.Str.ofString "super", .globalImplicit)] := hy
    simp at this
    rcases this with rfl | rfl | rfl | rfl <;> simp
  · have : y = (PySem.Str.ofString "self", .ref x) ∨ y = (f, v) := by simpa using hy
    rcases this with rfl | rfl
    · rfl
    · exact lf
  · have X1 : K.In h1 := X.keeps hk1
    have hx1 := hk1 _ _ hx
    have mself : (fun y => ([(("self" : Str), Value.ref x), (f, v)] : List (Str × Value)).reverse.lookup y) ("self" : Str) = some (.ref x) := by
      show List.lookup (PySem.Str.ofString "self") [(f, v), (PySem.Str.ofString "self", .ref x)] = _
      rw [List.lookup_cons, show (PySem.Str.ofString "self" == f) = false from neS g.1]
      rfl
    have mval : (fun y => ([(("self" : Str), Value.ref x), (f, v)] : List (Str × Value)).reverse.lookup y) f = some v := by
      show List.lookup f [(f, v), (PySem.Str.ofString "self", .ref x)] = _
      rw [List.lookup_cons, show (f == f) = true from by simp]
    have I1 : InstAt h1 x (excO C t0) C none := ⟨hx1, rfl, rfl, trivial⟩
    have lk2 := lookup_super f g
    have lk3 := lookup_class f g
    obtain ⟨hp, gn, dr, tk, os⟩ := s
    refine ks_wpAt_execs_cons (ks_wpAt_Expr_any (ks_wpAt_MethodCall ?_ (mcall hpos (by rfl))))
    refine ks_wpAt_super_base (f := fI) (cc := cda) lk2 lk3 rfl rfl (X1 _ _ ho) rfl rfl rfl (X1 _ _ hcda) rfl hvs hfile T.htop ?_
    refine ks_loadName_global rfl lk2 (loadGlobal_builtin (hG.keeps hk1) hs1 (hB.keeps hk1) hs2 ⟨rfl, ?_⟩)
    refine wpAny_loadName_free (c := cc) rfl lk3 rfl ⟨_, X1 _ _ hcc, rfl⟩ ?_
    refine wpAny_loadName_local rfl rfl hns mself ?_
    refine ks_wpAny_isType_cls (X1 _ _ hC) rfl ⟨rfl, ?_⟩
    refine ks_wpAny_call_super (X1 _ _ hC) rfl hx1 rfl (fun c e => by cases e) (looks_mroIn X1 T.mrC) (fun h2 e2 k2 => ?_)
    have X2 : K.In h2 := X1.keeps k2
    have hx2 := k2 _ _ hx1
    have I2 : InstAt h2 x (excO C t0) C none := ⟨hx2, rfl, rfl, trivial⟩
    have hI2 : Looks (model prog w) h2 (isInstance (.ref x) (.type "ValueError")) true := I2.type.andThen (looks_subIn X2 T.veC)
    refine kxs_getMethod kxs_ValueError e2 (looks_opaque X2 T.opq) (l₀ := .ref C :: bm) ?_ (ESX.drop_own C bm) X2 hal hI2 (ks_ne X2 I2 hcl) (by decide) ?_
    · exact fun A Q E s kk qq => wpAny_bind ((looks_clsIn X2 hcl) A _ E s kk (wpAny_pure qq))
    · have hu : (h2.push (kxs_mw "ValueError.__init__" x)).get? h2.objs.size = some (kxs_mw "ValueError.__init__" x) := Heap.get?_push_at rfl rfl
      refine kxs_callWith (i := "ValueError.__init__") (x := x) (by rfl) (evalArgs_plain ?_)
      refine Calls.spliced_cons (Calls.Constant_str (pos := q4) (k := k') (Calls.spliced_nil ?_))
      refine ⟨hu, call_mw (h := h2.push (kxs_mw "ValueError.__init__" x)) (Heap.get?_push_of_some _ (X2 _ _ hC)) (Heap.get?_push_of_some _ hx2) hu (PySem.LowY.one_size _) ?_⟩
      intro h3 t1 k3 hx3
      show PyProof.Rows.wpAt _ _ _ (execs _ _) _ _ _
      have old : ∀ b o, b ≠ x → h1.get? b = some o → h3.get? b = some o := fun b o hb e => k3 b o hb (Heap.get?_push_of_some _ (k2 b o e))
      have X3 : K.In h3 := fun a o e => old a o (fun z => by rw [z, hnx] at e; cases e) (X1 a o e)
      have hxL : hp.objs.size ≠ x := Nat.ne_of_gt (Heap.lt_size hx)
      have hns3 := hns.at (fun o e => old _ o hxL e)
      refine wpAt_of_wpAny (wpAny_execs_cons (plainObj_wpAny_Assign_Attribute ?_ ?_))
      · refine wpAny_Name (wpAny_loadName_local rfl lf hns3 mval ?_) g.2.2.2
        refine wpAny_Name (wpAny_loadName_local rfl rfl hns3 mself ?_) (by decide)
        refine W.set_plain X3 (ox := excO C t1) (od := none) ⟨hx3, rfl, rfl, trivial⟩ T.sa ?_
        refine exc_osa X3 hx3 hcl (show refsVE (.ref C :: bm) = true from hbm) rfl T.noN (fun h₃ tk₃ dx k₃ dn dne hx₃ hn₃ => ?_)
        show wpAny _ _ (execs _ _) _ _ _
        refine wpAny_execs_nil (hq h₃ tk₃ dx ⟨fun b o hb e => k₃ b o hb (old b o hb (hk1 b o e)), ⟨t1, hx₃⟩, Nat.le_of_lt (Nat.lt_of_lt_of_le hns3.lt dn), dne, hn₃⟩)
      · rfl
end
end Er
namespace Er
open PySem PySem.W PySem.Calls PyProof.Rows PySem.HandSPX
/-- a made error at e, its dict d -/
structure MadeE (h h' : Heap) (e C : Addr) (d : Option Addr) (kvs : List (Str × Value)) : Prop where
  keep : ∀ b o, h.get? b = some o → h'.get? b = some o
  new : h.get? e = none
  obj : ∃ oe vs, h'.get? e = some oe ∧ L2.Zc (.ref C) d oe ∧ oe.data = .fields vs ∧ vs[1]? = some .none
  dict : (d = none ∧ kvs = []) ∨ ∃ dx f v, d = some dx ∧ kvs = [(f, v)] ∧ h.objs.size ≤ dx ∧ dx ≠ e ∧ h'.Ns1 dx (fun y => if y = f then some v else none)
/-- what a call of an own error class does -/
def Makes (P : Program) (w : World) (K : Frag) (mg : Str → Option Value) (C : Addr) (fs : List Str) : Prop :=
  ∀ (A : Around) (mb : Str → Option Value) (s : Shared) (us : List Value) (v : Value) (R : Value → Shared → Prop) (E : Value → Shared → Prop), K.In s.heap → s.heap.Ns mainGlobals mg → s.heap.Ns builtinsNs mb → mb "super" = some (.type "super") → s.heap.NoLimit → A.depth + 1 < recursionLimit →
    (us = [v] ∨ (us = [] ∧ v = .none)) → (∀ h' tk e d, MadeE s.heap h' e C d (fs.zip [v]) → R (.ref e) { s with heap := h', toks := tk }) → wpAny (model P w) A (call (.ref C) us) R E s
theorem err_made {P : Program} {w : World} {K : Frag} {mg : Str → Option Value} {C fI : Addr} {f : Str} (T : ErrTxt P K f C fI) (hs1 : mg "super" = none) : Makes P w K mg C [f] := by
  intro A mb s us v R E X hG hB hs2 hlim hroom hus hq
  obtain ⟨nm, q, N, bs, bm, sn, sub, ab, col, dd, k0, k1, k2, k3, k5, hC, hbm, hal⟩ := T.cls
  obtain ⟨hp, g, dr, tk, os⟩ := s
  have hlen : us.length ≤ sizeLine := by
    rcases hus with rfl | ⟨rfl, _⟩
    · exact PySem.LowY.one_size v
    · exact Nat.zero_le _
  have k : ∀ b o, hp.get? b = some o → ((hp.push (kdv_tup us)).push (excO C hp.objs.size)).get? b = some o := fun b o e => Heap.get?_push_of_some _ (Heap.get?_push_of_some _ e)
  have hget : ((hp.push (kdv_tup us)).push (excO C hp.objs.size)).get? (hp.objs.size + 1) = some (excO C hp.objs.size) := by heap_get
  have hnx : K.lookup (hp.objs.size + 1) = none := by
    cases e : K.lookup (hp.objs.size + 1) with
    | none => rfl
    | some o =>
      have z : hp.get? (hp.objs.size + 1) = some o := X _ _ e
      have z2 : hp.objs.size + 1 < hp.objs.size := Heap.lt_size z
      omega
  refine wpAny_call (call_own PySem.F.excBase_ValueError (fun X => refsVE_contains X bm hbm) (X _ _ hC) (looks_findIn X T.iC) (fun self => bind_fn X self T.tC) hlen ?_)
  refine err_init (s := ⟨(hp.push (kdv_tup us)).push (excO C hp.objs.size), g, dr, tk, os⟩) (mg := mg) (mb := mb) (v := v) T (X.keeps k) (hG.keeps k) (hB.keeps k) hs1 hs2 (hlim.keeps k) hget hnx ?_ (fun oc od fd osl e => ?_) fun h' tk' dx ie => ?_
  · show A.depth + 1 < recursionLimit
    exact hroom
  · obtain ⟨b0, b1⟩ := T.b0 oc od fd osl e
    rcases hus with rfl | ⟨rfl, rfl⟩
    · exact b0 _ [.ref (hp.objs.size + 1), v] (X.keeps k) rfl
    · exact b1 _ [.ref (hp.objs.size + 1)] (X.keeps k) rfl
  · have k' := ie.keep
    have old : ∀ b o, hp.get? b = some o → h'.get? b = some o := fun b o e => k' b o (Nat.ne_of_lt (Nat.lt_succ_of_lt (Heap.lt_size e))) (k b o e)
    have dn := ie.dbig
    have z : hp.objs.size + 1 + 1 ≤ dx := by
      first
        | (simpa only [Heap.size_push] using dn)
        | exact dn
        | (have q := dn; rw [Heap.size_push, Heap.size_push] at q; exact q)
    obtain ⟨t1, ho⟩ := ie.obj
    have z3 : hp.objs.size ≤ dx := by omega
    have z4 : hp.get? (hp.objs.size + 1) = none := by
      cases e : hp.get? (hp.objs.size + 1) with
      | none => rfl
      | some o => have z2 : hp.objs.size + 1 < hp.objs.size := Heap.lt_size e; omega
    exact ⟨rfl, hq h' tk' (hp.objs.size + 1) (some dx) ⟨old, z4, ⟨_, _, ho, ⟨rfl, rfl⟩, rfl, rfl⟩, .inr ⟨dx, f, v, rfl, rfl, z3, ie.dne, ie.ns⟩⟩⟩
/-- a class without an own __init__ -/
theorem err_made0 {P : Program} {w : World} {K : Frag} {mg : Str → Option Value} {C : Addr} {bmB : List Value} {B newId initId : String} (F : ExcBaseFacts B newId initId bmB) (q : PySem.W.excIn K C bmB newId = true) : Makes P w K mg C [] := by
  intro A mb s us v R E X hG hB hs2 hlim hroom hus hq
  obtain ⟨hp, g, dr, tk, os⟩ := s
  obtain ⟨bm, N, nm, qn, bs, hdct, sn, sub, ab, col, dd, k0, k1, k2, k3, k5, mN, hC, hN, hni, T⟩ := L2.exc_obj X q
  refine wpAny_call_exc_subT F T hC hN hni (fun h' e hm => ?_) ?_
  · obtain ⟨t, he, _, _⟩ := hm.there
    exact hq h' tk e none ⟨hm.keeps, hm.new, ⟨_, _, he, ⟨rfl, rfl⟩, rfl, rfl⟩, .inl ⟨rfl, rfl⟩⟩
  · rcases hus with rfl | ⟨rfl, _⟩
    · exact PySem.LowY.one_size v
    · exact Nat.zero_le _
end Er
namespace Fw
open PySem PySem.Spec PyProof.Rows L2
/-- an own error class with the number c, called x -/
structure ErrAt (P : Program) (w : World) (K : PySem.W.Frag) (mg : Str → Option Value) (en : En) (c : Nat) (n : Nat) (x : Str) : Prop where
  n1 : n ≤ 1
  ex : ∃ C ns, en.cl[c]? = some (C, ns) ∧ ns.length = n ∧ mg x = some (.ref C) ∧ PySem.W.keepIn K (.ref C) = true ∧ Er.Makes P w K mg C ns ∧ PySem.W.subIn K (.ref C) (.type "BaseException") = some true ∧ PySem.W.typeIn K (.ref C) = some (.type "type")
/-- how the tracked heap grows where an error is made -/
def Grown (ns : List Str) (v : V) (d : Option Addr) (H H' : Hp) : Prop := (d = none ∧ ns = [] ∧ H' = H) ∨ ∃ dx f, d = some dx ∧ ns = [f] ∧ H dx = none ∧ H' = upd H dx (.xd [(f, v)])
section
variable {X : Cx} {en : En} {W : WX} {k c n : Nat} {x : Str} {p pos : Pos} {e : Expr} {ma : AM} {pins : List (Addr × Obj)} {σ : L2.St}
theorem made_inv {H1 : Hp} {s1 : Shared} {h' : Heap} {tk' : Nat} {a C : Addr} {d : Option Addr} {ns : List Str} {v : V} {v' : Value} (I1 : Inv X pins σ H1 s1) (M : Er.MadeE s1.heap h' a C d (ns.zip [v'])) (hn : ns.length ≤ 1) (rv : RelV v v') :
    ∃ G H2, Inv X pins σ H2 { s1 with heap := G, toks := tk' } ∧ G.get? a = none ∧ (∀ b o, G.get? b = some o → h'.get? b = some o) ∧ H2 a = none ∧ Grown ns v d H1 H2 := by
  have hna : H1 a = none := I1.hok.gone M.new
  rcases M.dict with ⟨hd, hk⟩ | ⟨dx, f, w', hd, hk, dbig, dne, hns⟩
  · have hns : ns = [] := by
      cases ns with
      | nil => rfl
      | cons _ _ => cases hk
    exact ⟨s1.heap, H1, I1.tok tk', M.new, M.keep, hna, .inl ⟨hd, hns, rfl⟩⟩
  · obtain ⟨rfl, rfl⟩ : ns = [f] ∧ w' = v' := by
      cases ns with
      | nil => cases hk
      | cons g l =>
        cases l with
        | nil => cases hk; exact ⟨rfl, rfl⟩
        | cons _ _ => simp at hn
    obtain ⟨G', g1, g2⟩ := restrict h' fun b => decide (b ≠ a)
    have gk : ∀ b, b ≠ a → G'.get? b = h'.get? b := fun b hb => g1 b (decide_eq_true hb)
    have ge : G'.get? a = none := g2 a (by simp)
    have old : ∀ b o, s1.heap.get? b = some o → G'.get? b = some o := fun b o q => (gk b (fun z => by rw [z, M.new] at q; cases q)).trans (M.keep b o q)
    have ob : ObjOk X.prog X.w (upd H1 dx (.xd [(f, v)])) G' dx (.xd [(f, v)]) := by
      refine ⟨_, hns.at (fun o q => (gk dx dne).trans q), fun y => ?_⟩
      by_cases hw : y = f
      · subst hw
        rw [if_pos rfl]
        have q : List.lookup y [(y, v)] = some v := by simp [List.lookup]
        rw [q]; exact rv
      · rw [if_neg hw]
        have qw : (y == f) = false := by simpa using hw
        have q2 : List.lookup y [(f, v)] = none := by simp [List.lookup, qw]
        rw [q2]; trivial
    refine ⟨G', _, I1.laid (t' := tk') old dbig ob, ge, fun b o q => ?_, ?_, .inr ⟨dx, f, hd, rfl, I1.hok.fresh dbig, rfl⟩⟩
    · by_cases hb : b = a
      · rw [hb, ge] at q; cases q
      · exact (gk b hb).symm.trans q
    · rw [upd_ne (Ne.symm dne)]; exact hna
/-- x(e) or x(), made: what comes -/
theorem run_err (D : ErrAt X.prog X.w X.K X.mg en c n x) (G : Good en X W k) {H1 : Hp} {s1 : Shared} {us : List Value} {v : V} {v' : Value} {Q : Value → Shared → Prop} (I1 : Inv X pins σ H1 s1) (rv : RelV v v') (hus : us = [v'] ∨ (us = [] ∧ v' = .none)) {C : Addr} {ns : List Str} (hc : en.cl[c]? = some (C, ns))
    (hq : ∀ h' tk a d G H2, Inv X pins σ H2 { s1 with heap := G, toks := tk } → G.get? a = none → (∀ b o, G.get? b = some o → h'.get? b = some o) → H2 a = none → Grown ns v d H1 H2 →
      (∃ oe vs, h'.get? a = some oe ∧ Zc (.ref C) d oe ∧ oe.data = .fields vs ∧ vs[1]? = some .none) → Q (.ref a) { s1 with heap := h', toks := tk }) :
    wpAny (model X.prog X.w) X.A (call (.ref C) us) Q X.xe s1 := by
  obtain ⟨C', ns', hc', hl, hm, hkp, hmk, _, _⟩ := D.ex
  rw [hc] at hc'; cases hc'
  have hnn : ns.length ≤ 1 := hl ▸ D.n1
  obtain ⟨mb, h1, h2⟩ := I1.ok.mod.blt
  refine hmk X.A mb s1 us v' _ _ I1.kIn (I1.ok.mod.glob.keeps I1.bk) (h1.keeps I1.bk) ((h2 _ (by decide)).trans rfl) I1.nolimit (by have := G.room.dp; omega) hus fun h' tk a d M => ?_
  obtain ⟨G', H2, J, g1, g2, g3, g4⟩ := made_inv (tk' := tk) I1 M hnn rv
  exact hq h' tk a d G' H2 J g1 g2 g3 g4 M.obj
end
end Fw
namespace Fw
open PySem PySem.Spec PyProof.Rows L2
/-- the fields that an error gets: n of them, from what is written -/
def errV (n : Nat) (vs : List SV) : Option (List SV) := match vs with
  | [] => some (List.replicate n .non)
  | [v] => some (List.replicate n v)
  | _ => none
def mRaise (c n : Nat) (ma : AM) : SM := fun ss h => match ma ss h with
  | .stuck => .stuck
  | .ex c' xs h1 => .ex c' xs ss h1
  | .ok vs h1 => match errV n vs with
    | some xs => .ex c xs ss h1
    | none => .stuck
def mErr (c n : Nat) (ma : AM) : EM := fun ss h => (ma ss h).bind fun vs h1 => match errV n vs with
  | some xs => .ok (.ref h1.length) (h1 ++ [.exo c xs])
  | none => .stuck
/-- how an error grows out of its arguments -/
def OneV (vs : List V) (v : V) : Prop := vs = [v] ∨ (vs = [] ∧ v = .non)
theorem oneV_us {vs : List V} {us : List Value} {v : V} (r : Vals vs us) (o : OneV vs v) : ∃ v', RelV v v' ∧ (us = [v'] ∨ (us = [] ∧ v' = .none)) := by
  rcases o with rfl | ⟨rfl, rfl⟩
  · cases r with
    | cons rv rn => cases rn; exact ⟨_, rv, .inl rfl⟩
  · cases r; exact ⟨.none, rfl, .inr ⟨rfl, rfl⟩⟩
theorem errV_one {en : En} {ρ : List Addr} {n : Nat} {svs xs : List SV} {vs : List V} (r : RSs en ρ svs vs) (e : errV n svs = some xs) : ∃ sv v, OneV vs v ∧ RS en ρ sv v ∧ xs = List.replicate n sv := by
  unfold errV at e
  split at e
  · cases e; cases r; exact ⟨.non, .non, .inr ⟨rfl, rfl⟩, rfl, rfl⟩
  · cases e
    cases r with
    | cons rv rn => cases rn; exact ⟨_, _, .inl rfl, rv, rfl⟩
  · cases e
theorem Grown.keep {ns : List Str} {v : V} {d : Option Addr} {H H' : Hp} (g : Grown ns v d H H') : ∀ a u, H a = some u → H' a = some u := by
  intro a u e
  rcases g with ⟨_, _, rfl⟩ | ⟨dx, f, _, _, hn, rfl⟩
  · exact e
  · rw [upd_ne (fun z => by rw [z, hn] at e; cases e)]; exact e
theorem Grown.hasF {en : En} {ρ : List Addr} {h : SH} {ns : List Str} {v : V} {d : Option Addr} {H H' : Hp} (g : Grown ns v d H H') (rel : Rel en ρ h H) : HasF ρ H' d (ns.zip (List.replicate ns.length v)) := by
  rcases g with ⟨hd, hn, rfl⟩ | ⟨dx, f, hd, hn, hx, rfl⟩
  · subst hn; exact .inl ⟨hd, rfl⟩
  · subst hn
    exact .inr ⟨dx, hd, upd_same, fun m => by obtain ⟨u, e, _⟩ := rel.mem m; rw [hx] at e; cases e⟩
theorem paired_rep {α β : Type} {R : α → β → Prop} {a : α} {b : β} (r : R a b) : ∀ n, Paired R (List.replicate n a) (List.replicate n b)
  | 0 => .nil
  | n + 1 => .cons r (paired_rep r n)
section
variable {X : Cx} {en : En} {W : WX} {k c n : Nat} {x : Str} {p pos pos2 : Pos} {e : Expr} {ma : AM}
def tMkE (C : Addr) (ns : List Str) (ta : TA) : L2.St → Hp → XK → Prop := fun σ H Q => ta σ H fun vs H1 => ∃ v, OneV vs v ∧ ∀ d H2, Grown ns v d H1 H2 → Q (.ref C) d H2
theorem mk_run (D : ErrAt X.prog X.w X.K X.mg en c n x) (G : Good en X W k) {C : Addr} {ns : List Str} (hc : en.cl[c]? = some (C, ns)) {pins : List (Addr × Obj)} {σ : L2.St} {H1 : Hp} {s1 : Shared} {us : List Value} {vs : List V} {v : V} {Q : XK} (I1 : Inv X pins σ H1 s1) (r : Vals vs us) (o : OneV vs v)
    (q : ∀ d H2, Grown ns v d H1 H2 → Q (.ref C) d H2) : wpAny (model X.prog X.w) X.A (call (.ref C) us) (MkP X pins σ Q) X.xe s1 := by
  obtain ⟨v', rv, hus⟩ := oneV_us r o
  obtain ⟨C', ns', hc', hl, hm, hkp, hmk, hex, hty⟩ := D.ex
  have hcc := hc
  rw [hc] at hc'; cases hc'
  refine run_err D G I1 rv hus hcc fun h' tk a d G' H2 J g1 g2 g3 g4 ⟨oe, fv, hoe, hz, hdat, h1⟩ => ?_
  exact ⟨a, oe, fv, { s1 with heap := G', toks := tk }, H2, .ref C, d, rfl, J, g2, g1, hoe, hz, hdat, h1, g3, rfl, I1.bare, raises_own hex hty, q d H2 g4⟩
theorem pmk_e (D : ErrAt X.prog X.w X.K X.mg en c n x) (G : Good en X W k) {C : Addr} {ns : List Str} {ta : TA} (hc : en.cl[c]? = some (C, ns)) (hg : Gl X x) (ha : PA X [e] ta)
    (hdb : (x == ("__debug__" : Str)) = false := by decide) (he : starEach (e :: []) X.env = (false, eval e X.env) :: starEach [] X.env := by rfl) (hpl : (backTo pos (starEach [] X.env)).any (·.1) = false := by rfl) : PMk X (.Call (.Name x p) [e] [] pos) (tMkE C ns ta) := by
  intro pins s σ H Q I t
  have hcc := hc
  obtain ⟨C', ns', hc', hl, hm, hkp, hmk, hex, hty⟩ := D.ex
  rw [hc] at hc'; cases hc'
  refine wpAny_Call_Name_kw (ld_glob I hg hm ?_ hdb)
  refine PySem.W.callWith_K (h₀ := X.base) I.ok.mod.kin hkp (thn (ha.run pos pins s σ H _ I t) fun us s1 ⟨vs, H1, I1, r, v, o, q⟩ => ⟨I1.kIn, ?_⟩) he hpl
  exact mk_run D G hcc I1 r o q
theorem pmk_e0 (D : ErrAt X.prog X.w X.K X.mg en c n x) (G : Good en X W k) {C : Addr} {ns : List Str} (hc : en.cl[c]? = some (C, ns)) (hg : Gl X x) (hdb : (x == ("__debug__" : Str)) = false := by decide) :
    PMk X (.Call (.Name x p) [] [] pos) (tMkE C ns (fun _ H Q => Q [] H)) := by
  intro pins s σ H Q I t
  have hcc := hc
  obtain ⟨C', ns', hc', hl, hm, hkp, hmk, hex, hty⟩ := D.ex
  rw [hc] at hc'; cases hc'
  refine wpAny_Call_Name_kw (ld_glob I hg hm ?_ hdb)
  obtain ⟨v, o, q⟩ := t
  exact PySem.W.callWith_K0 I.kIn hkp (mk_run (us := []) D G hcc I .nil o q)
theorem raise_read {C : Addr} {ns : List Str} (hc : en.cl[c]? = some (C, ns)) (hl : ns.length = n) {D : Ends} {σ : L2.St} {H : Hp} (t : tS en W (mRaise c n ma) D σ H) : tMkE C ns (tA en W ma) σ H fun cls d H' => W cls d σ H' := by
  obtain ⟨ρ, ss, h, rel, rs, f⟩ := t
  refine ⟨ρ, ss, h, rel, rs, ?_⟩
  unfold mRaise at f
  cases e1 : ma ss h with
  | stuck => simp only [e1] at f; exact f
  | ex c' xs h1 => simp only [e1] at f; exact fun ρ' H' cls d p rel' rx => f ρ' σ H' cls d p rel' (rs.mono p) rx
  | ok svs h1 =>
    simp only [e1] at f
    intro ρ1 H1 vs p1 rel1 rvs
    split at f
    · rename_i xs ex
      obtain ⟨sv, v, o, rv, rfl⟩ := errV_one rvs ex
      refine ⟨v, o, fun d H2 g => f ρ1 σ H2 _ d p1 (rel1.keep g.keep) (rs.mono p1) ⟨C, ns, List.replicate ns.length v, hc, rfl, g.hasF rel1, by simp [hl], ?_⟩⟩
      rw [hl]
      exact paired_rep rv n
    · exact f.elim
theorem PS.raise (D : ErrAt X.prog X.w X.K X.mg en c n x) (G : Good en X W k) (hg : Gl X x) (ha : PA X [e] (tA en W ma))
    (hdb : (x == ("__debug__" : Str)) = false := by decide) (he : starEach (e :: []) X.env = (false, eval e X.env) :: starEach [] X.env := by rfl) (hpl : (backTo pos (starEach [] X.env)).any (·.1) = false := by rfl) :
    PS X (.Raise (some (.Call (.Name x p) [e] [] pos)) none pos2) (tS en W (mRaise c n ma)) := by
  obtain ⟨C, ns, hc, hl, _⟩ := D.ex
  exact PSimp (ps_raise G.calm G.tk (pmk_e D G hc hg ha hdb he hpl)) fun _ σ H t => raise_read hc hl t
theorem PS.raise0 (D : ErrAt X.prog X.w X.K X.mg en c n x) (G : Good en X W k) (hg : Gl X x) (hdb : (x == ("__debug__" : Str)) = false := by decide) :
    PS X (.Raise (some (.Call (.Name x p) [] [] pos)) none pos2) (tS en W (mRaise c n aNil)) := by
  obtain ⟨C, ns, hc, hl, _⟩ := D.ex
  refine PSimp (ps_raise G.calm G.tk (pmk_e0 D G hc hg hdb)) fun _ σ H t => ?_
  obtain ⟨ρ, ss, h, rel, rs, f⟩ := raise_read hc hl t
  exact f ρ H [] (Pre.refl ρ) rel .nil
/-! ### an error as a value -/
theorem exo_ok {P : Program} {w : World} {H : Hp} {h : Heap} {a : Addr} {cls : Value} {d : Option Addr} {oe : Obj} {us : Array Value} (e : h.get? a = some oe) (z : Zc cls d oe) (q : oe.data = .fields us) : ObjOk P w H h a (.ext (exoφ a cls d)) :=
  ⟨⟨oe, us, e, z, q⟩, ⟨oe, e⟩, fun _ _ ⟨o, u, x, r⟩ k => ⟨o, u, k o x, r⟩⟩
theorem val_run (D : ErrAt X.prog X.w X.K X.mg en c n x) (G : Good en X W k) {C : Addr} {ns : List Str} (hc : en.cl[c]? = some (C, ns)) {pins : List (Addr × Obj)} {σ : L2.St} {H1 : Hp} {s1 : Shared} {us : List Value} {vs : List V} {v : V} {Q : VK} (I1 : Inv X pins σ H1 s1) (r : Vals vs us) (o : OneV vs v)
    (q : ∀ d H2 a, Grown ns v d H1 H2 → H2 a = none → Q (.ref a) (upd H2 a (.ext (exoφ a (.ref C) d)))) : wpAny (model X.prog X.w) X.A (call (.ref C) us) (EP X pins σ Q) X.xe s1 := by
  obtain ⟨v', rv, hus⟩ := oneV_us r o
  refine run_err D G I1 rv hus hc fun h' tk a d G' H2 J g1 g2 g3 g4 ⟨oe, fv, hoe, hz, hdat, h1⟩ => ?_
  exact ⟨.ref a, _, J.laidN (t' := tk) (o := .ext (exoφ a (.ref C) d)) (h' := h') g2 g1 g3 (exo_ok hoe hz hdat), rfl, q d H2 a g4 g3⟩
theorem err_read {C : Addr} {ns : List Str} (hc : en.cl[c]? = some (C, ns)) (hl : ns.length = n) {Q : VK} {σ : L2.St} {H : Hp} (t : tE en W (mErr c n ma) σ H Q) : tA en W ma σ H fun vs H1 => ∃ v, OneV vs v ∧ ∀ d H2 a, Grown ns v d H1 H2 → H2 a = none → Q (.ref a) (upd H2 a (.ext (exoφ a (.ref C) d))) := by
  obtain ⟨ρ, ss, h, rel, rs, f⟩ := t
  refine ⟨ρ, ss, h, rel, rs, ?_⟩
  unfold mErr at f
  cases e1 : ma ss h with
  | stuck => simp only [e1, Res.bind] at f; exact f
  | ex c' xs h1 => simp only [e1, Res.bind] at f; exact f
  | ok svs h1 =>
    simp only [e1, Res.bind] at f
    intro ρ1 H1 vs p1 rel1 rvs
    split at f
    · rename_i xs ex
      obtain ⟨sv, v, o, rv, rfl⟩ := errV_one rvs ex
      refine ⟨v, o, fun d H2 a g na => ?_⟩
      have rel2 := rel1.keep g.keep
      have rel3 := rel2.push (p := a) (u := .ext (exoφ a (.ref C) d)) (o := .exo c (List.replicate n sv)) na ?_
      · refine f _ _ (.ref a) (p1.trans (Pre.one ρ1 a)) rel3 ⟨a, ?_, rfl⟩
        rw [← rel1.len, List.getElem?_append_right (Nat.le_refl _)]; simp
      · refine ⟨C, ns, d, List.replicate ns.length v, hc, upd_same, ?_, by simp [hl], ?_⟩
        · rcases g.hasF rel1 with z | ⟨dx, e1, e2, e3⟩
          · exact .inl z
          · have ne : dx ≠ a := fun z => by rw [z, na] at e2; cases e2
            exact .inr ⟨dx, e1, by rw [upd_ne ne]; exact e2, fun m => by
              rcases List.mem_append.mp m with m | m
              · exact e3 m
              · simp at m; exact ne m⟩
        · rw [hl]
          exact paired_mono (fun _ _ z => z.mono (Pre.one ρ1 a)) (paired_rep rv n)
    · exact f.elim
theorem PE.err (D : ErrAt X.prog X.w X.K X.mg en c n x) (G : Good en X W k) (hg : Gl X x) (ha : PA X [e] (tA en W ma))
    (hdb : (x == ("__debug__" : Str)) = false := by decide) (he : starEach (e :: []) X.env = (false, eval e X.env) :: starEach [] X.env := by rfl) (hpl : (backTo pos (starEach [] X.env)).any (·.1) = false := by rfl) :
    PE X (.Call (.Name x p) [e] [] pos) (tE en W (mErr c n ma)) := by
  obtain ⟨C, ns, hc, hl, hm, hkp, hmk, hex, hty⟩ := D.ex
  refine ⟨fun pins s σ H Q I t => ?_⟩
  refine wpAny_Call_Name_kw (ld_glob I hg hm ?_ hdb)
  refine PySem.W.callWith_K (h₀ := X.base) I.ok.mod.kin hkp (thn (ha.run pos pins s σ H _ I (err_read hc hl t)) fun us s1 ⟨vs, H1, I1, r, v, o, q⟩ => ⟨I1.kIn, ?_⟩) he hpl
  exact val_run D G hc I1 r o q
theorem PE.err0 (D : ErrAt X.prog X.w X.K X.mg en c n x) (G : Good en X W k) (hg : Gl X x) (hdb : (x == ("__debug__" : Str)) = false := by decide) : PE X (.Call (.Name x p) [] [] pos) (tE en W (mErr c n aNil)) := by
  obtain ⟨C, ns, hc, hl, hm, hkp, hmk, hex, hty⟩ := D.ex
  refine ⟨fun pins s σ H Q I t => ?_⟩
  refine wpAny_Call_Name_kw (ld_glob I hg hm ?_ hdb)
  obtain ⟨ρ, ss, h, rel, rs, f⟩ := err_read hc hl t
  obtain ⟨v, o, q⟩ := f ρ H [] (Pre.refl ρ) rel .nil
  exact PySem.W.callWith_K0 I.kIn hkp (val_run (us := []) D G hc I .nil o q)
end
end Fw
namespace Fw
open PySem PySem.Spec PyProof.Rows L2
/-- a value's kind -/
inductive Tag where
  | non | bl | int | str | lst | tup | dct | ins (c : Nat) | exo (c : Nat)
def tagOf (h : SH) : SV → Option Tag
  | .non => some .non
  | .bl _ => some .bl
  | .int _ => some .int
  | .str _ => some .str
  | .scr _ => some .lst
  | .ref i => match h[i]? with
    | some (.lst _) => some .lst
    | some (.tup _) => some .tup
    | some (.dK _) => some .dct
    | some (.dT _) => some .dct
    | some (.ins c _) => some (.ins c)
    | some (.exo c _) => some (.exo c)
    | none => none
/-- what the written part says of a class, so that isinstance asks its instances rightly -/
structure InsIs (K : PySem.W.Frag) (C : Addr) : Prop where
  cl : L2.Cls K C
  ha : PySem.W.findIn K (.ref C) "__class__" = some (some (.builtin "object.__class__"))
  hn : PySem.W.specialIn K (.builtin "object.__class__") "__get__" = some (some (.builtin "getset_descriptor.__get__"))
  ht : PySem.W.takesIn K (.builtin "object.__class__") = some true
  hm : PySem.W.mroIn K C (.type "object") = some true
structure ExcIs (K : PySem.W.Frag) (C : Addr) : Prop where
  hcl : (PySem.W.clsIn K C).isSome = true
  ga : PySem.W.findIn K (.ref C) "__getattribute__" = some (some (.builtin "BaseException.__getattribute__"))
  gg : PySem.W.findIn K (.ref C) "__getattr__" = some none
  sub : PySem.W.subIn K (.ref C) (.type "BaseException") = some true
  ha : PySem.W.findIn K (.ref C) "__class__" = some (some (.builtin "object.__class__"))
  hn : PySem.W.specialIn K (.builtin "object.__class__") "__get__" = some (some (.builtin "getset_descriptor.__get__"))
  ht : PySem.W.takesIn K (.builtin "object.__class__") = some true
  hm : PySem.W.mroIn K C (.type "object") = some true
  hd : PySem.W.hasDictIn K C = true
def tagV (en : En) : Tag → Option Value
  | .non => some (.type "NoneType")
  | .bl => some (.type "bool")
  | .int => some (.type "int")
  | .str => some (.type "str")
  | .lst => some (.type "list")
  | .tup => some (.type "tuple")
  | .dct => some (.type "dict")
  | .ins c => (en.cl[c]?).map fun p => .ref p.1
  | .exo c => (en.cl[c]?).map fun p => .ref p.1
def TagOk (en : En) : Tag → Prop
  | .ins c => ∃ C ns, en.cl[c]? = some (C, ns) ∧ InsIs en.K C
  | .exo c => ∃ C ns, en.cl[c]? = some (C, ns) ∧ ExcIs en.K C
  | _ => True
section
variable {X : Cx} {en : En} {W : WX} {k c n : Nat} {x : Str} {p pos pos2 : Pos} {e : Expr} {pins : List (Addr × Obj)} {σ : L2.St} {H : Hp} {s : Shared}
theorem exo_inst {ρ : List Addr} {h : SH} {i : Nat} {xs : List SV} {v : V} (I : Inv X pins σ H s) (rel : Rel en ρ h H) (r : RS en ρ (.ref i) v) (e : h[i]? = some (.exo c xs)) :
    ∃ a C ns ox od vs, v = .ref a ∧ en.cl[c]? = some (C, ns) ∧ PySem.W.InstAt s.heap a ox C od ∧ xs.length = ns.length ∧ RSs en ρ xs vs ∧ (ns ≠ [] → ∃ (m : Str → Option Value) (od' : Obj), od = some od' ∧ (∀ f, PySem.W.lookIn f od' = some (m f)) ∧ ∀ f, RelO ((ns.zip vs).lookup f) (m f)) := by
  obtain ⟨a, ea, rfl⟩ := r
  obtain ⟨C, ns, d, vs, e1, e2, hf, l, q⟩ := rel.at2 ea e
  obtain ⟨⟨oe, us, g1, g2, g3⟩, _, _⟩ := I.hok a _ e2
  have hnc : PySem.W.notCls oe = true := by unfold PySem.W.notCls; rw [g3] <;> rfl
  rcases hf with ⟨hd, hk⟩ | ⟨dx, hd, hx, _⟩
  · refine ⟨a, C, ns, oe, none, vs, rfl, e1, ⟨g1, g2.1, hnc, by rw [g2.2, hd]; trivial⟩, l, q, fun hn => ?_⟩
    exfalso
    cases ns with
    | nil => exact hn rfl
    | cons a ns =>
      cases q with
      | nil => simp at l
      | cons _ _ => cases hk
  · have ho : ObjOk X.prog X.w H s.heap dx (.xd (ns.zip vs)) := I.hok dx _ hx
    obtain ⟨mA, hns, hr⟩ := ho
    obtain ⟨od, hod, hl⟩ := lookIn_ns hns
    exact ⟨a, C, ns, oe, some od, vs, rfl, e1, ⟨g1, g2.1, hnc, by rw [g2.2, hd]; exact hod⟩, l, q, fun _ => ⟨mA, od, rfl, hl, hr⟩⟩
theorem tag_kit {ρ : List Addr} {h : SH} {a : SV} {v : V} {u tv : Value} {t : Tag} (hK : X.K = en.K) (I : Inv X pins σ H s) (rel : Rel en ρ h H) (r : RS en ρ a v) (ru : RelV v u) (et : tagOf h a = some t) (ev : tagV en t = some tv) (ok : TagOk en t) :
    ∃ P, PySem.W.KitX X.K u tv P ∧ P s.heap ∧ u ≠ .builtin "__main__.__loader__#opaque" := by
  cases a with
  | non => cases et; cases ev; cases (show v = V.non from r); exact kit_of I ru (.base .non)
  | bl b => cases et; cases ev; cases (show v = V.bl b from r); exact kit_of I ru (.base (.bl b))
  | int i => cases et; cases ev; cases (show v = V.int i from r); exact kit_of I ru (.base (.int i))
  | str y => cases et; cases ev; cases (show v = V.str y from r); exact kit_of I ru (.base (.str y))
  | scr ns =>
    cases et; cases ev
    obtain ⟨rfl, _⟩ := (show v = .ref en.a0 ∧ ns = en.ns from r)
    rcases rel.scr with (z | ⟨o, z⟩) | ⟨o, its, n, z, hc, _⟩
    · exact kit_of I ru (.base (.lst z))
    · exact kit_of I ru (.base (.frz z))
    · exact kit_of I ru (.kList (by rw [hK]; exact z) hc)
  | ref i =>
    obtain ⟨b, eb, rfl⟩ := r
    unfold tagOf at et
    cases eo : h[i]? with
    | none => simp only [eo] at et; cases et
    | some o =>
      have ro := rel.at2 eb eo
      cases o with
      | lst xs => simp only [eo] at et; cases et; cases ev; obtain ⟨vs, e1, _⟩ := ro; exact kit_of I ru (.base (.lst e1))
      | tup xs => simp only [eo] at et; cases et; cases ev; obtain ⟨vs, e1, _⟩ := ro; exact kit_of I ru (.base (.tup e1))
      | dK xs => simp only [eo] at et; cases et; cases ev; obtain ⟨vs, e1, _⟩ := ro; exact kit_of I ru (.base (.dK e1))
      | dT xs => simp only [eo] at et; cases et; cases ev; obtain ⟨vs, e1, _⟩ := ro; exact kit_of I ru (.base (.dT e1))
      | ins c xs =>
        simp only [eo] at et; cases et
        obtain ⟨C, ns, hc, ok⟩ := ok
        unfold tagV at ev
        simp only [hc, Option.map_some] at ev
        cases ev
        obtain ⟨C', ns', dx, vs, hc', e1, _⟩ := ro
        rw [hc] at hc'; cases hc'
        rw [← hK] at ok
        exact kit_of I ru (.base (.ins e1 ok.cl ok.ha ok.hn ok.ht ok.hm))
      | exo c xs =>
        simp only [eo] at et; cases et
        obtain ⟨C, ns, hc, ok⟩ := ok
        unfold tagV at ev
        simp only [hc, Option.map_some] at ev
        cases ev
        obtain ⟨a, C', ns', ox, od, vs, ea, hc', J, _⟩ := exo_inst I rel ⟨b, eb, rfl⟩ eo
        cases ea
        rw [hc] at hc'; cases hc'
        rw [← hK] at ok
        cases (show u = Value.ref b from ru)
        exact ⟨_, PySem.W.kitx_exc ok.hcl ok.ga ok.gg ok.sub ok.ha ok.hn ok.ht ok.hm, J, fun z => nomatch z⟩
def opIsi (f : Tag → Option Bool) : O1 := fun a h => match tagOf h a with
  | some t => match f t with
    | some b => some (.bl b, h)
    | none => none
  | none => none
/-- f tells isinstance(_, cv) rightly -/
def IsiOk (en : En) (cv : Value) (f : Tag → Option Bool) : Prop := ∀ t b, f t = some b → ∃ tv, tagV en t = some tv ∧ TagOk en t ∧ PySem.W.kitOne en.K tv cv = some b
def rIsG (en : En) (f : Tag → Option Bool) (cv : V) : List V → Hp → VK → Prop := fun xs H Q => ∃ ρ h a v, xs = [v, cv] ∧ Rel en ρ h H ∧ RS en ρ a v ∧ finO en ρ (opIsi f a h) Q
theorem call_isG {cV : V} {cv : Value} {f : Tag → Option Bool} (hK : X.K = en.K) (hc : ClsV cV cv) (ok : IsiOk en cv f) : CallR X (.builtin "isinstance") (rIsG en f cV) := by
  intro pins s σ H xs us Q I r h
  obtain ⟨ρ, h, a, v, rfl, rel, ra, w, h', e, q⟩ := h
  obtain ⟨u1, u2, rfl, r1, r2⟩ := vals2 r
  have e2 := hc.eq r2
  subst e2
  unfold opIsi at e
  cases et : tagOf h a with
  | none => simp only [et] at e; cases e
  | some t =>
    simp only [et] at e
    cases ef : f t with
    | none => simp only [ef] at e; cases e
    | some b =>
      simp only [ef] at e
      cases e
      obtain ⟨tv, ev, tk, ek⟩ := ok t b ef
      obtain ⟨P, Z, hp, hx⟩ := tag_kit hK I rel ra r1 et ev tk
      exact PySem.W.kia_one Z I.kIn hp (by rw [hK]; exact ek) hx fun tk => ⟨.bl b, H, I.tok tk, rfl, q ρ H (.bl b) (Pre.refl ρ) rel rfl⟩
theorem PE.isi {m : EM} {ec : Expr} {cV : V} {cv : Value} {f : Tag → Option Bool} (hK : X.K = en.K) (hc : ClsV cV cv) (ok : IsiOk en cv f) (hg : Gl X "isinstance") (hm : X.mg "isinstance" = none) (he : PE X e (tE en W m)) (hec : PE X ec (tC cV))
    (hs1 : starEach (e :: [ec]) X.env = (false, eval e X.env) :: starEach [ec] X.env := by rfl) (hs2 : starEach (ec :: []) X.env = (false, eval ec X.env) :: starEach [] X.env := by rfl) (hpl : (backTo pos (starEach [ec] X.env)).any (·.1) = false := by rfl) :
    PE X (.Call (.Name "isinstance" p) [e, ec] [] pos) (tE en W (mO1 (opIsi f) m)) :=
  PEimp (pe_callB (call_isG hK hc ok) hg hm rfl (pa_cons he (pa_cons hec pa_nil hs2) hs1) (by decide) (by decide) hs1 hpl) fun σ H Q t => by
    refine tM.bind2 (R1 := RS en) (R2 := RS en) (k := fun a (ss : SS) h => lift (opIsi f a h)) t fun ρ ss h a v H1 rel rs ra fn => ?_
    exact ⟨ρ, h, a, v, rfl, rel, ra, fn.lift⟩
/-- e.f, e an error -/
def ExfOk (en : En) (f : Str) (ix : List (Option Nat)) : Prop := ∀ (c k : Nat), ix[c]? = some (some k) → ∃ C ns, en.cl[c]? = some (C, ns) ∧ ExcIs en.K C ∧ PySem.W.findIn en.K (.ref C) f = some none ∧ ns.Nodup ∧ ns[k]? = some f
def opExf (ix : List (Option Nat)) : O1 := fun a h => match a with
  | .ref i => match h[i]? with
    | some (.exo c vs) => match ix[c]? with
      | some (some k) => match vs[k]? with
        | some v => some (v, h)
        | none => none
      | _ => none
    | _ => none
  | _ => none
theorem PE.exf {f : Str} {m : EM} {ix : List (Option Nat)} (hK : X.K = en.K) (hf : ExfOk en f ix) (he : PE X e (tE en W m)) (hb : attributeBase e f X.env (eval e X.env) = eval e X.env := by rfl) : PE X (.Attribute e f pos) (tE en W (mO1 (opExf ix) m)) := by
  refine ⟨fun pins s σ H Q I t => ?_⟩
  have t2 : tE en W m σ H fun v H1 => ∃ ρ h a, Rel en ρ h H1 ∧ RS en ρ a v ∧ finO en ρ (opExf ix a h) Q := tM.bind2 (R1 := RS en) (R2 := RS en) (k := fun a (ss : SS) h => lift (opExf ix a h)) t fun ρ ss h a v H1 rel rs ra fn => ⟨ρ, h, a, rel, ra, fn.lift⟩
  refine attr_of hb (thn (he.run pins s σ H _ I t2) fun u s1 ⟨v, H1, I1, ru, ρ, h, a, rel, ra, w, h', e1, q⟩ => ?_)
  unfold opExf at e1
  split at e1
  · rename_i i
    split at e1
    · rename_i c vs ei
      split at e1
      · rename_i kk ek
        split at e1
        · rename_i y ev
          cases e1
          obtain ⟨C, ns, hc, ok, hno, nd, en'⟩ := hf _ _ ek
          obtain ⟨b, C', ns', ox, od, ws, rfl, hc', J, hl, rv, hx⟩ := exo_inst I1 rel ra ei
          rw [hc] at hc'; cases hc'
          rw [← hK] at ok hno
          obtain ⟨mm, od', rfl, hl1, hl2⟩ := hx (fun z => by rw [z] at en'; cases en')
          obtain ⟨z, ez, rz⟩ := rv.get ev
          have lz : (ns.zip ws).lookup f = some z := zip_lookup nd en' ez
          obtain ⟨u', hu, ru'⟩ := RelO.some_of (v := z) (o := mm f) (by rw [← lz]; exact hl2 f)
          cases (show u = Value.ref b from ru)
          exact HandSPX.exc_get I1.kIn J ok.ga ok.gg ok.sub (PySem.W.findObj_own ok.hd hno rfl (by rw [hl1, hu])) (handed_of ru') ⟨z, H1, I1.tok _, ru', q ρ H1 z (Pre.refl ρ) rel rz⟩
        · cases e1
      · cases e1
    · cases e1
  · cases e1
end
end Fw
namespace Fw
open PySem PySem.Spec PyProof.Rows L2
section
variable {X : Cx} {pins : List (Addr × Obj)} {σ : L2.St} {H : Hp} {s : Shared}
/-- an error that was caught is held from now on like any object -/
theorem tracked {a : Addr} {oe : Obj} {us : Array Value} {cls : Value} {d : Option Addr} (I : Inv X pins σ H s) (ha : s.heap.get? a = some oe) (hz : Zc cls d oe) (hu : oe.data = .fields us) (na : H a = none) (n0 : X.s_0.heap.get? a = none) (nL : a ≠ X.env.locals)
    (hp : ∀ p ∈ X.pn ++ pins, p.1 ≠ a) : Inv (X.suite a (X.pn ++ pins)) [] σ (upd H a (.ext (exoφ a cls d))) s where
  ok := I.ok.suite _ _
  os := I.os
  bare := I.bare
  base := by
    have B := I.base
    refine ⟨B.keep, B.slot, fun b o e n q => ?_, B.there, fun b xs e => ?_, fun b o u e => ?_, fun b ps e => ?_⟩
    · have hb : b ≠ a := fun z => by subst z; rw [n0] at e; cases e
      rw [upd_ne hb]; exact B.free b o e n q
    · have q := B.tups b xs e
      rw [upd_ne (ne_of_none q na)]; exact q
    · have q := B.frzs b o u e
      rw [upd_ne (ne_of_none q na)]; exact q
    · obtain ⟨m, q⟩ := B.tbls b ps e
      exact ⟨m, by rw [upd_ne (ne_of_none q na)]; exact q⟩
  loc := I.loc
  cell := I.cell
  free := by
    show upd H a _ X.env.locals = none
    rw [upd_ne (Ne.symm nL)]; exact I.free
  freeC := fun y c e => by
    have hc : c ≠ a := fun z => by
      obtain ⟨w', o', e1, e2⟩ := I.cell y c e
      subst z
      rw [ha] at e1; cases e1
      rw [hu] at e2; cases e2
    rw [upd_ne hc]; exact I.freeC y c e
  pin := fun p q => by
    have q' : p ∈ X.pn ++ pins := by rw [List.append_nil] at q; exact q
    obtain ⟨e, n, z⟩ := I.pin p q'
    exact ⟨e, by rw [upd_ne (hp p q')]; exact n, z⟩
  hok := I.hok.laidN (fun _ _ z => z) na (exo_ok ha hz hu)
  len := I.len
theorem untrackedCx {a : Addr} (I : Inv (X.suite a (X.pn ++ pins)) [] σ H s) (ok : X.Ok) : Inv X pins σ H s where
  ok := ok
  os := I.os
  bare := I.bare
  base := I.base
  loc := I.loc
  cell := I.cell
  free := I.free
  freeC := I.freeC
  pin := fun p q => I.pin p (List.mem_append_left _ q)
  hok := I.hok
  len := I.len
/-- the ends of a suite whose name i goes -/
def goneE (i : Nat) (D : Ends) : Ends := { nx := fun σ' H' => D.nx (σ'.set i none) H', rt := D.rt, bk := fun σ' H' => D.bk (σ'.set i none) H', ct := fun σ' H' => D.ct (σ'.set i none) H' }
/-- what 'except x as n' wishes of an exception: the one that it catches is held -/
def wTr (K : PySem.W.Frag) (c : Value) (i : Nat) (ts : TS) (Wout : WX) (D : Ends) : WX := fun cls d σ H =>
  ∃ b, PySem.W.exmOne K cls c = some b ∧ (b = true → ∀ a, H a = none → ts (goneE i D) (σ.set i (some (.ref a))) (upd H a (.ext (exoφ a cls d)))) ∧ (b = false → Wout cls d σ H)
variable {x n : Str} {c : Value} {i : Nat} {body suite : List Stmt} {b₀ : Stmt} {np pos pos' : Pos} {tb : WX → TS} {ts : TS} {Wout : WX}
/-- the clause, once the error stands in the frame's own hand -/
theorem clause_run (hs : X.stack = X.env :: X.outer) (hf : X.env.frame = some X.env.locals) (hx : X.ex = []) (hN : X.N.Nodup) (hi : X.N[i]? = some n) (hln : X.env.kindOf n = some .local) (hc : Names X x c) (tk : Takes X Wout) (hsu : ∀ (a : Addr) (pn : List (Addr × Obj)), PSs (X.suite a pn) (b₀ :: suite) ts)
    {D : Ends} {a : Addr} {B : Heap} {sI s3 : Shared} {cls : Value} {d : Option Addr} (J : Inv X pins σ H sI) (nb : ∀ b o, sI.heap.get? b = some o → b ∉ frs X.stack → B.get? b = some o) (up : sI.heap.UpToSlots s3.heap) (fl : HandSPX.FlyingZ B (X.env :: X.outer) a (Zc cls d) s3.heap)
    (na : H a = none) (os : s3.os = sI.os) (ag : AllBare s3.gens) (w : wTr X.K c i ts Wout D cls d σ H) :
    wpAny (model X.prog X.w) X.A (handleBy (.ref a) X.env [.ExceptHandler (some (.Name x np)) (some n) (b₀ :: suite) pos']) (SP X pins D) X.xe s3 := by
  obtain ⟨b, hb1, hyes, hno⟩ := w
  have ok := J.ok
  have nfr : a ∉ frs X.stack := by
    rw [hs]
    intro hm
    obtain ⟨oe, us, e1, _, e2⟩ := fl.there
    obtain ⟨_, o', e3, e4⟩ := fl.2.2.1.mem hm
    rw [e1] at e3; cases e3
    exact e4 _ e2
  have nL : a ≠ X.env.locals := fun z => nfr (by rw [hs]; exact List.mem_filterMap.mpr ⟨X.env, List.mem_cons_self, by rw [hf, z]⟩)
  have nI : sI.heap.get? a = none := by
    cases e : sI.heap.get? a with
    | none => rfl
    | some o => have z := nb a o e nfr; rw [fl.2.1] at z; cases z
  have n0 : X.s_0.heap.get? a = none := by
    cases e : X.s_0.heap.get? a with
    | none => rfl
    | some o =>
      obtain ⟨o', z⟩ := J.base.there a o e (by rw [hx]; exact fun z => nomatch z)
      rw [nI] at z; cases z
  have np' : ∀ p ∈ X.pn ++ pins, p.1 ≠ a := fun p hp z => by
    have q := (J.pin p hp).1
    rw [z, nI] at q; cases q
  -- held, in any heap where it has landed
  have held : ∀ {h' : Heap} {t' : Nat}, HandSPX.FlyingZ B (X.env :: X.outer) a (Zc cls d) h' → sI.heap.UpToSlots h' → Inv (X.suite a (X.pn ++ pins)) [] σ (upd H a (.ext (exoφ a cls d))) { s3 with heap := h', toks := t' } := fun {h' t'} f u => by
    obtain ⟨oe, us, e1, z, e2⟩ := f.there
    exact tracked ((J.landed (s' := { s3 with heap := h' }) nb f.1 u os ag).tok t') e1 z e2 na n0 nL np'
  have I3 := held (t' := s3.toks) fl up
  refine wpAny_handleBy_cons (codeAny_handlers_test ?_) (by intro q; cases q)
  have look : ∀ {Q : Value → Shared → Prop} {E : Value → Shared → Prop}, Q c s3 → wpAny (model X.prog X.w) (X.A.mark (some (.ref a))) (eval (.Name x np) X.env) Q E s3 := fun {Q E} q => by
    obtain ⟨g1, g2, g3 | ⟨g3, g4, g5⟩⟩ := hc
    · exact ld_glob (X := X.suite a (X.pn ++ pins)) I3 g1 g3 q g2
    · exact ld_blt (X := X.suite a (X.pn ++ pins)) I3 g1 g3 g4 q g5 g2
  refine look ?_
  obtain ⟨oe, us, e1, z1, e2⟩ := id fl.there
  have ty : PySem.W.Looks (model X.prog X.w) s3.heap (typeOf (.ref a)) cls := fun A Q E s k q => wpAny_typeOf_ref (k _ _ e1) (by rw [z1.1]; exact q)
  refine (PySem.W.exm_one (M := model X.prog X.w) I3.kIn ty hb1).here ?_
  cases b with
  | false =>
    refine wpAny_handleBy_nil ?_
    obtain ⟨k1, k2, k3, o4, v4, T, oT, t4, g1, g2, g3, g4, g5⟩ := id fl
    have out : wpAny (model X.prog X.w) X.A (setFlight (.ref a) X.env.frame) (fun _ s4 => wpAny (model X.prog X.w) X.A (throw (.ref a) : Sem Flow) (SP X pins D) X.xe s4) X.xe s3 := by
      rw [hf]
      refine HandSPX.setFlight_upZ fl fun h4 q4 u4 => wpAny_throw (tk _ _ ?_)
      exact ⟨a, B, sI, pins, σ, H, cls, d, rfl, J, nb, up.trans u4, .inr (.inr (by rw [hs]; exact q4)), na, os, ag, hno rfl⟩
    unfold PySem.passOn
    refine wpAny_bind (wpAny_field g1 g3 g4 ?_)
    have ne : ¬ ((Value.ref T == Value.none) = true) := by simp
    rw [if_neg ne]
    first
      | exact wpAny_bind out
      | exact wpAny_bind (wpAny_pure (wpAny_bind out))
  | true =>
    refine codeAny_handlers_suite_as ?_
    refine HandSPX.lands_againZ fl fun h4 f4 u4 => ?_
    have I4 := held (t' := s3.toks) f4 (up.trans u4)
    refine store_ok (X := X.suite a (X.pn ++ pins)) (v := .ref a) I4 hN hi (.inl hln) rfl (fun s5 I5 => ?_) (.inr hln)
    have goes : ∀ {σ6 : L2.St} {H6 : Hp} {s6 : Shared} {Q : Shared → Prop}, Inv (X.suite a (X.pn ++ pins)) [] σ6 H6 s6 → (∀ s7, Inv X pins (σ6.set i none) H6 s7 → Q s7) →
        wpAny (model X.prog X.w) X.A (do bindName X.env n .none; unbindBehindTheSuite X.env n pos') (fun _ s7 => Q s7) X.xe s6 := fun {σ6 H6 s6 Q} I6 hq => gone_ok (untrackedCx I6 ok) hN hi hln hq
    refine wpAny_mono ((hsu a (X.pn ++ pins)).run [] s5 _ _ (goneE i D) I5 (hyes rfl a na)) (fun fw s6 h6 => ?_) (fun _ _ z => False.elim z)
    cases fw with
    | next => obtain ⟨σ6, H6, I6, q6⟩ := h6; exact goes I6 fun s7 I7 => ⟨_, _, I7, q6⟩
    | brk => obtain ⟨σ6, H6, I6, q6⟩ := h6; exact goes I6 fun s7 I7 => ⟨_, _, I7, q6⟩
    | cont => obtain ⟨σ6, H6, I6, q6⟩ := h6; exact goes I6 fun s7 I7 => ⟨_, _, I7, q6⟩
    | ret u => obtain ⟨v6, σ6, H6, I6, r6, q6⟩ := h6; exact goes I6 fun s7 I7 => ⟨_, _, _, I7, r6, q6⟩
theorem ps_tryT (hs : X.stack = X.env :: X.outer) (hf : X.env.frame = some X.env.locals) (hx : X.ex = []) (hN : X.N.Nodup) (hi : X.N[i]? = some n) (hln : X.env.kindOf n = some .local) (hc : Names X x c) (tk : Takes X Wout)
    (hb : ∀ (W : WX) (pn : List (Addr × Obj)) (xe : Value → Shared → Prop), Takes (X.tr pn xe) W → PassesOwn (model X.prog X.w) X.A X.env xe → PSs (X.tr pn xe) body (tb W)) (hsu : ∀ (a : Addr) (pn : List (Addr × Obj)), PSs (X.suite a pn) (b₀ :: suite) ts) :
    PS X (.Try body [.ExceptHandler (some (.Name x np)) (some n) (b₀ :: suite) pos'] [] [] pos) (fun D σ H => tb (wTr X.K c i ts Wout D) D σ H) := by
  refine ⟨fun pins s σ H D I t => wpAny_Try_except ?_⟩
  have ok := I.ok
  have hfr : X.A.frames = some (X.env :: X.outer) := by rw [ok.frames, hs]
  let xe : Value → Shared → Prop := fun e s₁ => wpAny (model X.prog X.w) X.A (noteFrame e X.env) (fun _ s₂ => wpAny (model X.prog X.w) X.A (setFlight e none) (fun _ s₃ =>
    wpAny (model X.prog X.w) X.A (handleBy e X.env [.ExceptHandler (some (.Name x np)) (some n) (b₀ :: suite) pos']) (SP X pins D) X.xe s₃) X.xe s₂) X.xe s₁
  have tkT : Takes (X.tr (X.pn ++ pins) xe) (wTr X.K c i ts Wout D) := by
    rintro u s' ⟨a, B, sI, pins', σ', H', cls, d, rfl, J', nb, up, sky, na, os, ag, w⟩
    have sky2 : Sky B (X.env :: X.outer) a (Zc cls d) X.env.locals s'.heap := by rw [← hs]; exact sky
    show wpAny _ X.A (noteFrame (.ref a) X.env) _ _ s'
    exact Sky.land Zc.steady hfr hf sky2 fun h3 f3 u3 => clause_run (s3 := { s' with heap := h3 }) hs hf hx hN hi hln hc tk hsu (J'.ofTry ok) nb (up.trans u3) f3 na os ag w
  refine wpAny_mono ((hb _ (X.pn ++ pins) xe tkT PassesOwn.looking).run [] s σ H D (I.toTry _) t) (fun fw s1 h1 => ?_) (fun _ _ z => z)
  cases fw with
  | next => obtain ⟨σ1, H1, I1, q1⟩ := h1; exact wpAny_execs_nil ⟨σ1, H1, I1.ofTry ok, q1⟩
  | brk => obtain ⟨σ1, H1, I1, q1⟩ := h1; exact ⟨σ1, H1, I1.ofTry ok, q1⟩
  | cont => obtain ⟨σ1, H1, I1, q1⟩ := h1; exact ⟨σ1, H1, I1.ofTry ok, q1⟩
  | ret u => obtain ⟨v1, σ1, H1, I1, r1, q1⟩ := h1; exact ⟨v1, σ1, H1, I1.ofTry ok, r1, q1⟩
end
end Fw
namespace Fw
open PySem PySem.Spec PyProof.Rows L2
/-- behind a suite whose name i goes -/
def goneR (i : Nat) (r : SR) : SR := match r with
  | .nx ss h => .nx (ss.set i none) h
  | .bk ss h => .bk (ss.set i none) h
  | .ct ss h => .ct (ss.set i none) h
  | .rt v h => .rt v h
  | .ex _ _ _ _ => .stuck
  | .stuck => .stuck
def mTry (i : Nat) (sub : Nat → Option Bool) (mb ms : SM) : SM := fun ss h => match mb ss h with
  | .ex c xs ss1 h1 => match sub c with
    | some true => goneR i (ms (ss1.set i (some (.ref h1.length))) (h1 ++ [.exo c xs]))
    | some false => .ex c xs ss1 h1
    | none => .stuck
  | r => r
/-- sub tells by the class's number whether the clause of cv catches it -/
def SubOk (en : En) (cv : Value) (sub : Nat → Option Bool) : Prop := ∀ c b, sub c = some b → ∃ C ns, en.cl[c]? = some (C, ns) ∧ PySem.W.exmOne en.K (.ref C) cv = some b
abbrev wNo : WX := fun _ _ _ _ => False
theorem finS.gone {en : En} {W : WX} {ρ : List Addr} {i : Nat} {r : SR} {D : Ends} (f : finS en W ρ (goneR i r) D) : finS en wNo ρ r (goneE i D) := by
  cases r with
  | stuck => exact f
  | nx ss h => exact fun ρ' σ H p rel rs => f ρ' _ H p rel (rs.clear i)
  | bk ss h => exact fun ρ' σ H p rel rs => f ρ' _ H p rel (rs.clear i)
  | ct ss h => exact fun ρ' σ H p rel rs => f ρ' _ H p rel (rs.clear i)
  | rt v h => exact f
  | ex c xs ss h => exact f.elim
theorem HasF.more {ρ : List Addr} {H : Hp} {d : Option Addr} {kvs : List (Str × V)} {a : Addr} {u : HO} (h : HasF ρ H d kvs) (na : H a = none) : HasF (ρ ++ [a]) (upd H a u) d kvs := by
  rcases h with z | ⟨dx, e1, e2, e3⟩
  · exact .inl z
  · have ne : dx ≠ a := fun z => by rw [z, na] at e2; cases e2
    exact .inr ⟨dx, e1, by rw [upd_ne ne]; exact e2, fun m => by
      rcases List.mem_append.mp m with m | m
      · exact e3 m
      · simp at m; exact ne m⟩
section
variable {X : Cx} {en : En} {W : WX} {k i : Nat} {x n : Str} {cv : Value} {body suite : List Stmt} {b₀ : Stmt} {np pos pos' : Pos} {mb ms : SM} {sub : Nat → Option Bool}
theorem try_read (hK : X.K = en.K) (ok : SubOk en cv sub) {D : Ends} {σ : L2.St} {H : Hp} (t : tS en W (mTry i sub mb ms) D σ H) : tS en (wTr X.K cv i (tS en wNo ms) W D) mb D σ H := by
  obtain ⟨ρ, ss, h, rel, rs, f⟩ := t
  refine ⟨ρ, ss, h, rel, rs, ?_⟩
  unfold mTry at f
  cases e1 : mb ss h with
  | stuck => rw [e1] at f; exact f
  | nx s2 h2 => rw [e1] at f; exact f
  | bk s2 h2 => rw [e1] at f; exact f
  | ct s2 h2 => rw [e1] at f; exact f
  | rt v h2 => rw [e1] at f; exact f
  | ex c xs ss1 h1 =>
    simp only [e1] at f
    intro ρ1 σ1 H1 cls d p1 rel1 rs1 rx
    have rx0 := rx
    obtain ⟨C, ns, vs, hc, rfl, hf, hl, rv⟩ := rx
    cases eb : sub c with
    | none => simp only [eb] at f; exact f.elim
    | some b =>
      obtain ⟨C', ns', hc', ek⟩ := ok c b eb
      rw [hc] at hc'; cases hc'
      refine ⟨b, by rw [hK]; exact ek, fun hb a na => ?_, fun hb => ?_⟩
      · subst hb
        simp only [eb] at f
        have p2 := Pre.one ρ1 a
        have rel2 : Rel en (ρ1 ++ [a]) (h1 ++ [.exo c xs]) (upd H1 a (.ext (exoφ a (.ref C) d))) := rel1.push na ⟨C, ns, d, vs, hc, upd_same, hf.more na, hl, rv.mono p2⟩
        refine ⟨ρ1 ++ [a], _, _, rel2, (rs1.mono p2).set (x := .ref h1.length) (v := .ref a) ⟨a, ?_, rfl⟩ i, ((f.mono p1).mono p2).gone⟩
        rw [← rel1.len, List.getElem?_append_right (Nat.le_refl _)]; simp
      · subst hb
        simp only [eb] at f
        exact f ρ1 σ1 H1 _ d p1 rel1 rs1 rx0
/-- try: body, except x as n: suite -/
theorem PS.tryAs (G : Good en X W k) (hs : X.stack = X.env :: X.outer) (hf : X.env.frame = some X.env.locals) (hx : X.ex = []) (hN : X.N.Nodup) (hi : X.N[i]? = some n) (hln : X.env.kindOf n = some .local) (hc : Names X x cv) (ok : SubOk en cv sub)
    (hb : ∀ (W' : WX) (pn : List (Addr × Obj)) (xe : Value → Shared → Prop), Good en (X.tr pn xe) W' k → PSs (X.tr pn xe) body (tS en W' mb)) (hsu : ∀ (a : Addr) (pn : List (Addr × Obj)), PSs (X.suite a pn) (b₀ :: suite) (tS en wNo ms)) :
    PS X (.Try body [.ExceptHandler (some (.Name x np)) (some n) (b₀ :: suite) pos'] [] [] pos) (tS en W (mTry i sub mb ms)) :=
  PSimp (ps_tryT (tb := fun W' => tS en W' mb) hs hf hx hN hi hln hc G.tk (fun W' pn xe tk ps => hb W' pn xe ⟨tk, ps, G.room, G.gd, G.sm, G.calm, G.K⟩) hsu) fun D σ H t => try_read G.K ok t
end
end Fw
namespace Fw
open PySem PySem.Spec PyProof.Rows L2
/-! ### dict displays -/
abbrev DM := SS → SH → Res (List (SV × SV))
abbrev RVV (en : En) : List Addr → List (SV × SV) → List (V × V) → Prop := fun ρ => Paired fun p q => RS en ρ p.1 q.1 ∧ RS en ρ p.2 q.2
def dNil : DM := fun _ h => .ok [] h
def dCons (mk mv : EM) (mr : DM) : DM := fun ss h => (mk ss h).bind fun k h1 => (mv ss h1).bind fun v h2 => (mr ss h2).bind fun ps h3 => .ok ((k, v) :: ps) h3
def keysP : List (SV × SV) → Option (List (Key × SV))
  | [] => some []
  | p :: r => match keyOf p.1 with
    | some k => match keysP r with
      | some ks => some ((k, p.2) :: ks)
      | none => none
    | none => none
def mergeS (kvs more : List (Key × SV)) : List (Key × SV) := more.foldl (fun acc kv => putS acc kv.1 kv.2) kvs
def mDict0 : EM := fun _ h => .ok (.ref h.length) (h ++ [.dK []])
def mDict0T : EM := fun _ h => .ok (.ref h.length) (h ++ [.dT []])
def mDict (md : DM) : EM := fun ss h => (md ss (h ++ [.dK []])).bind fun ps h1 => match keysP ps with
  | some kvs => if kvs.length ≤ 15 ∧ h1[h.length]? = some (.dK []) then .ok (.ref h.length) (h1.set h.length (.dK (mergeS [] kvs))) else .stuck
  | none => .stuck
section
variable {X : Cx} {en : En} {W : WX} {pos : Pos}
/-- the pairs of a display and their meaning -/
structure PD (X : Cx) (en : En) (W : WX) (pos : Pos) (keys : List (Option Expr)) (values : List Expr) (md : DM) : Prop where
  ex : ∃ trs, PPs X pos keys values trs ∧ ∀ σ H Q, tM en W (RVV en) md σ H Q → tPairs trs σ H Q
  all : keys.all (·.isSome) = true
  len : keys.length = values.length
theorem PD.nil : PD X en W pos [] [] dNil := ⟨⟨[], pps_nil, fun σ H Q ⟨ρ, ss, h, rel, rs, f⟩ => f ρ H [] (Pre.refl ρ) rel .nil⟩, rfl, rfl⟩
theorem PD.cons {k v : Expr} {ks : List (Option Expr)} {vs : List Expr} {mk mv : EM} {mr : DM} (hk : PE X k (tE en W mk)) (hv : PE X v (tE en W mv)) (hr : PD X en W pos ks vs mr) : PD X en W pos (some k :: ks) (v :: vs) (dCons mk mv mr) := by
  obtain ⟨trs, hp, hq⟩ := hr.ex
  refine ⟨⟨(tE en W mk, tE en W mv) :: trs, pps_cons hk hv hp, fun σ H Q t => ?_⟩, by rw [List.all_cons, hr.all]; rfl, by rw [List.length_cons, List.length_cons, hr.len]⟩
  obtain ⟨ρ, ss, h, rel, rs, f⟩ := t
  show tE en W mk σ H fun x H1 => tE en W mv σ H1 fun y H2 => tPairs trs σ H2 fun ps H3 => Q ((x, y) :: ps) H3
  refine ⟨ρ, ss, h, rel, rs, ?_⟩
  unfold dCons at f
  cases e1 : mk ss h with
  | stuck => simp only [e1, Res.bind, fin] at f
  | ex cc xs h1 => simp only [e1, Res.bind, fin] at f; exact f
  | ok k0 h1 =>
    simp only [e1, Res.bind] at f
    intro ρ1 H1 x p1 rel1 rx
    refine ⟨ρ1, ss, h1, rel1, rs.mono p1, ?_⟩
    cases e2 : mv ss h1 with
    | stuck => simp only [e2, fin] at f
    | ex cc xs h2 => simp only [e2, fin] at f ⊢; exact fun ρ' H cls d p => f ρ' H cls d (p1.trans p)
    | ok v0 h2 =>
      simp only [e2] at f
      intro ρ2 H2 y p2 rel2 ry
      refine hq σ H2 _ ⟨ρ2, ss, h2, rel2, (rs.mono p1).mono p2, ?_⟩
      cases e3 : mr ss h2 with
      | stuck => simp only [e3, fin] at f
      | ex cc xs h3 => simp only [e3, fin] at f ⊢; exact fun ρ' H cls d p => f ρ' H cls d ((p1.trans p2).trans p)
      | ok ps h3 =>
        simp only [e3] at f
        exact fun ρ3 H3 qs p3 rel3 rq => f ρ3 H3 _ ((p1.trans p2).trans p3) rel3 (.cons ⟨(rx.mono p2).mono p3, ry.mono p3⟩ rq)
theorem keysP_rel {ρ : List Addr} : ∀ {ps : List (SV × SV)} {qs : List (V × V)} {kvs : List (Key × SV)}, keysP ps = some kvs → RVV en ρ ps qs → ∃ kws : List (Key × V), qs = kws.map (fun kv => (kV kv.1, kv.2)) ∧ RK en ρ kvs kws
  | [], _, _, e, r => by cases r; cases e; exact ⟨[], rfl, .nil⟩
  | p :: ps, _, _, e, r => by
    cases r with
    | @cons _ q _ qs r t =>
      unfold keysP at e
      split at e
      · rename_i k ek
        split at e
        · rename_i ks eks
          cases e
          obtain ⟨kws, e1, e2⟩ := keysP_rel eks t
          obtain ⟨q1, q2⟩ := q
          refine ⟨(k, q2) :: kws, ?_, .cons ⟨rfl, r.2⟩ e2⟩
          rw [List.map_cons, ← e1]
          have := keyOf_rel ek r.1
          simp only at this
          rw [this]
        · cases e
      · cases e
theorem merge_rel {ρ : List Addr} : ∀ {kvs : List (Key × SV)} {kws : List (Key × V)} {a : List (Key × SV)} {b : List (Key × V)}, RK en ρ a b → RK en ρ kvs kws → RK en ρ (mergeS a kvs) (mergeK b kws)
  | _, _, _, _, r, .nil => r
  | p :: kvs, q :: kws, a, b, r, .cons z t => by
    show RK en ρ (mergeS (putS a p.1 p.2) kvs) (mergeK (putK b q.1 q.2) kws)
    rw [← z.1]
    exact merge_rel (RK.put z.2 r) t
theorem PE.dict0 : PE X (.Dict [] [] pos) (tE en W mDict0) := PEimp pe_dnewK fun σ H Q ⟨ρ, ss, h, rel, rs, f⟩ p hp => by
  refine f (ρ ++ [p]) _ (.ref p) (Pre.one ρ p) (rel.push (o := .dK []) hp ⟨[], upd_same, .nil⟩) ⟨p, ?_, rfl⟩
  rw [← rel.len, List.getElem?_append_right (Nat.le_refl _)]; simp
theorem PE.dict0T : PE X (.Dict [] [] pos) (tE en W mDict0T) := PEimp pe_dnewT fun σ H Q ⟨ρ, ss, h, rel, rs, f⟩ p hp => by
  refine f (ρ ++ [p]) _ (.ref p) (Pre.one ρ p) (rel.push (o := .dT []) hp ⟨[], upd_same, .nil⟩) ⟨p, ?_, rfl⟩
  rw [← rel.len, List.getElem?_append_right (Nat.le_refl _)]; simp
theorem PE.dict {keys : List (Option Expr)} {values : List Expr} {md : DM} (h : PD X en W pos keys values md) (h0 : keys ≠ [] := by intro z; cases z) (h15 : keys.length ≤ 15 := by decide) : PE X (.Dict keys values pos) (tE en W (mDict md)) := by
  obtain ⟨trs, hp, hq⟩ := h.ex
  refine PEimp (pe_disp hp h.all h.len h0 h15) fun σ H Q t => ?_
  intro p hp0
  obtain ⟨ρ, ss, hh, rel, rs, f⟩ := t
  have rel1 := rel.push (o := .dK []) hp0 ⟨[], upd_same, .nil⟩
  have ei : (ρ ++ [p])[hh.length]? = some p := by rw [← rel.len, List.getElem?_append_right (Nat.le_refl _)]; simp
  refine hq σ _ _ ⟨ρ ++ [p], ss, _, rel1, rs.mono (Pre.one ρ p), ?_⟩
  unfold mDict at f
  cases e1 : md ss (hh ++ [.dK []]) with
  | stuck => simp only [e1, Res.bind, fin] at f
  | ex cc xs h1 => simp only [e1, Res.bind, fin] at f ⊢; exact fun ρ' H cls d p2 => f ρ' H cls d ((Pre.one ρ p).trans p2)
  | ok ps h1 =>
    simp only [e1, Res.bind] at f
    intro ρ1 H1 qs p1 rel2 rq
    split at f
    · rename_i kvs ek
      split at f
      · rename_i hc
        obtain ⟨kws, e2, rk⟩ := keysP_rel ek rq
        obtain ⟨vs0, e3, r0⟩ := rel2.at2 (p1.get ei) hc.2
        cases r0
        refine ⟨e3, kws, e2, by rw [← rk.length]; exact hc.1, ?_⟩
        refine f ρ1 _ (.ref p) ((Pre.one ρ p).trans p1) (rel2.put (p1.get ei) (o := .dK (mergeS [] kvs)) ⟨_, upd_same, merge_rel .nil rk⟩) ⟨p, p1.get ei, rfl⟩
      · exact f.elim
    · exact f.elim
end
end Fw
namespace Er
open PySem PySem.W PySem.Calls PyProof.Rows PySem.HandSPX
abbrev veM : List Value := [.type "ValueError", .type "Exception", .type "BaseException", .type "object"]
section
variable {prog : Program} {w : World} {M : Model} {A : Around} {E : Value → Shared → Prop} {R : Result → Shared → Prop} {h : Heap} {g : Array GenState} {d : Drawn} {t : Nat} {os : OsState}
variable {nm q : Str} {C N : Addr} {bs bm : List Value} {sn : List Str} {sub : List Value} {ab : Bool} {col : Option Bool} {dd : Option Addr} {k0 k1 k2 k3 k5 : Option Value} {f : Str} {v : Value}
/-- C(f = v): the checks of ValueError.__new__ -/
theorem kw_check (hT : ∀ X : String, bm.contains (.type X) = veM.contains (.type X)) {Q : Unit → Shared → Prop} (hC : h.get? C = some (excClassObj nm q C N bs bm true sn sub ab col dd k0 k1 k2 k3 k5 "ValueError.__new__")) (z : Q () ⟨h, g, d, t, os⟩) :
    wpAny M A (checkBuiltinCall "ValueError.__new__" ⟨[.ref C], [(f, v)]⟩) Q E ⟨h, g, d, t, os⟩ := by
  have F := PySem.F.excBase_ValueError
  have cB : (Value.ref C :: bm).contains (.type "ValueError") = true := by rw [List.contains_cons, hT, F.hasB, Bool.or_true]
  have st := F.noStar
  simp only [checkBuiltinCall, F.newKind, F.newSplit, F.newRow]
  repeat (first | (refine wpAny_isSubtype_exc hC ?_; rw [cB]) | refine wpAny_loadPart_at hC ?_ | refine wpAny_madeBy_exc hC ?_ | refine wpAny_staticBase_exc hC ?_ | wp_step | simp only [bne_self_eq_false, Bool.false_eq_true, if_false])
  all_goals exact z
/-- .. ValueError.__new__ -/
theorem kw_new (hT : ∀ X : String, bm.contains (.type X) = veM.contains (.type X)) (hC : h.get? C = some (excClassObj nm q C N bs bm true sn sub ab col dd k0 k1 k2 k3 k5 "ValueError.__new__"))
    (z : R (.ok (.ret (.ref (h.objs.size + 1)))) ⟨(h.push (kdv_tup [])).push (excO C h.objs.size), g, d, t, os⟩) : codeAny (model prog w) A (.builtin "ValueError.__new__" ⟨[.ref C], [(f, v)]⟩) R ⟨h, g, d, t, os⟩ := by
  have F := PySem.F.excBase_ValueError
  have fin := F.ends
  have cB : (Value.ref C :: bm).contains (.type "ValueError") = true := by rw [List.contains_cons, hT, F.hasB, Bool.or_true]
  have cA : (Value.ref C :: bm).contains (.type "AttributeError") = false := by rw [List.contains_cons, hT, F.noAttr]; rfl
  have cN : (Value.ref C :: bm).contains (.type "NameError") = false := by rw [List.contains_cons, hT, F.noName]; rfl
  refine codeAny_builtinAt F.entry ?_
  unfold Builtin.«BaseException.__new__»
  refine PySem.wpAt_bind ?_
  show PySem.wpAt _ _ _ (stack >>= _) _ _ _
  refine PySem.wpAt_bind (PySem.wpAt_stack fun p below => PySem.wpAt_of_wpAny ?_)
  wp_walk
  refine PySem.wpAt_of_wpAny ?_
  rw [F.owner]
  repeat (first | with_reducible refine wpAny_loadPart_at hC ?_ | with_reducible refine wpAny_madeHere_exc F.canon hC ?_ | (with_reducible refine wpAny_isSubtype_exc hC ?_; first | rw [cA] | rw [cN] | rw [cB]) | wp_step)
  show R _ _
  rw [Heap.size_push]
  exact z
theorem kw_type (hT : ∀ X : String, bm.contains (.type X) = veM.contains (.type X)) {fI : Addr} {Q : Fin → Shared → Prop} (hC : h.get? C = some (excClassObj nm q C N bs bm true sn sub ab col dd k0 k1 k2 k3 k5 "ValueError.__new__"))
    (hi : Looks (model prog w) h (typeLookup (.ref C) "__init__") (some (.ref fI))) (hb : ∀ self, Looks (model prog w) h (bindSpecial (.ref fI) self) (.ref fI, [self]))
    (z : codeAny (model prog w) A (.call (.ref fI) ⟨[.ref (h.objs.size + 1)], [(f, v)]⟩) (fun r s' => match r with | .ok (.ret u) => u = .none ∧ Q (.done (.ret (.ref (h.objs.size + 1)))) s' | .ok _ => False | .error e => E e s')
      ⟨(h.push (kdv_tup [])).push (excO C h.objs.size), g, d, t, os⟩) : wpAny (model prog w) A (Builtin.«type.__call__» ⟨[.ref C], [(f, v)]⟩) Q E ⟨h, g, d, t, os⟩ := by
  have F := PySem.F.excBase_ValueError
  repeat (first | with_reducible refine wpAny_madeBy_exc hC ?_ | with_reducible refine wpAny_loadPart_at hC ?_ | wp_step)
  refine codeAny_call_builtin_code (Code.quiet_builtin _ F.quiet) (kw_check hT hC (kw_new hT hC ?_))
  show wpAny _ _ _ _ _ _
  have kp : ∀ b o, h.get? b = some o → ((h.push (kdv_tup [])).push (excO C h.objs.size)).get? b = some o := fun b o e => Heap.get?_push_of_some _ (Heap.get?_push_of_some _ e)
  have hC2 := kp _ _ hC
  have at2 : ((h.push (kdv_tup [])).push (excO C h.objs.size)).get? (h.objs.size + 1) = some (excO C h.objs.size) := by heap_get
  have cC : (Value.ref C :: bm).contains (.ref C) = true := by simp
  have i2 := hi.keeps kp
  have b2 := (hb (.ref (h.objs.size + 1))).keeps kp
  unfold isInstance
  repeat (first | with_reducible refine wpAny_loadPart_at at2 ?_ | (with_reducible refine wpAny_isSubtype_exc hC2 ?_; rw [cC]) | wp_step)
  show wpAny _ _ (typeLookup (.ref C) _) _ _ _
  refine i2.at (wpAny_holding (wpAny_bind (b2.at ?_)))
  refine wpAny_bind (wpAny_call (codeAny_mono z fun r s' y => ?_))
  rcases r with e | (u | _ | _ | _) <;> first | exact y | exact y.elim | skip
  obtain ⟨rfl, y⟩ := y
  first
    | exact wpAny_pure (wpAny_pure y)
    | (wp_walk; exact y)
theorem kw_call (hT : ∀ X : String, bm.contains (.type X) = veM.contains (.type X)) {fI : Addr} (hC : h.get? C = some (excClassObj nm q C N bs bm true sn sub ab col dd k0 k1 k2 k3 k5 "ValueError.__new__"))
    (hi : Looks (model prog w) h (typeLookup (.ref C) "__init__") (some (.ref fI))) (hb : ∀ self, Looks (model prog w) h (bindSpecial (.ref fI) self) (.ref fI, [self]))
    (z : codeAny (model prog w) (A.under (.builtin "type.__call__" ⟨[.ref C], [(f, v)]⟩)) (.call (.ref fI) ⟨[.ref (h.objs.size + 1)], [(f, v)]⟩) (InitBack (h.objs.size + 1) R) ⟨(h.push (kdv_tup [])).push (excO C h.objs.size), g, d, t, os⟩) :
    codeAny (model prog w) A (.call (.ref C) ⟨[], [(f, v)]⟩) R ⟨h, g, d, t, os⟩ := by
  have t1 := tc_lookup
  have t2 := tc_bind (.ref C)
  have ty : (⟨h, g, d, t, os⟩ : Shared).TypeIs (.ref C) "type" := ⟨_, hC, rfl⟩
  refine codeAny_of_tree ?_
  show wpAny _ _ (callAny (.ref C) _) _ _ _
  repeat (any_goals (first | assumption | with_reducible refine wpAny_loadPart_at hC ?_ | wp_step))
  refine ⟨rfl, ?_⟩
  refine codeAny_call_builtin_at (Code.quiet_builtin _ (by decide +kernel)) entry_typeCall (wpAny_check_type_call_sub hC (kw_type hT hC hi hb ?_))
  refine codeAny_mono z fun r s' y => ?_
  rcases r with e | (u | _ | _ | _) <;> exact y
end
/-- what a call of an own error class by its field's name does -/
def MakesK (P : Program) (w : World) (K : Frag) (mg : Str → Option Value) (C : Addr) (f : Str) : Prop :=
  ∀ (A : Around) (mb : Str → Option Value) (s : Shared) (v : Value) (R : Value → Shared → Prop) (E : Value → Shared → Prop), K.In s.heap → s.heap.Ns mainGlobals mg → s.heap.Ns builtinsNs mb → mb "super" = some (.type "super") → s.heap.NoLimit → A.depth + 1 < recursionLimit →
    (∀ h' tk e d, MadeE s.heap h' e C d [(f, v)] → R (.ref e) { s with heap := h', toks := tk }) → wpAny (model P w) A (call (.ref C) [] [(f, v)]) R E s
theorem err_madeK {P : Program} {w : World} {K : Frag} {mg : Str → Option Value} {C fI : Addr} {f : Str} (T : ErrTxt P K f C fI) (hs1 : mg "super" = none) : MakesK P w K mg C f := by
  intro A mb s v R E X hG hB hs2 hlim hroom hq
  obtain ⟨nm, q, N, bs, bm, sn, sub, ab, col, dd, k0, k1, k2, k3, k5, hC, hbm, hal⟩ := T.cls
  obtain ⟨hp, g, dr, tk, os⟩ := s
  have kp : ∀ b o, hp.get? b = some o → ((hp.push (kdv_tup [])).push (excO C hp.objs.size)).get? b = some o := fun b o e => Heap.get?_push_of_some _ (Heap.get?_push_of_some _ e)
  have hget : ((hp.push (kdv_tup [])).push (excO C hp.objs.size)).get? (hp.objs.size + 1) = some (excO C hp.objs.size) := by heap_get
  have none1 : hp.get? (hp.objs.size + 1) = none := by
    cases e : hp.get? (hp.objs.size + 1) with
    | none => rfl
    | some o => have z2 : hp.objs.size + 1 < hp.objs.size := Heap.lt_size e; omega
  have hnx : K.lookup (hp.objs.size + 1) = none := by
    cases e : K.lookup (hp.objs.size + 1) with
    | none => rfl
    | some o =>
      have z : hp.get? (hp.objs.size + 1) = some o := X _ _ e
      rw [none1] at z; cases z
  refine wpAny_call (kw_call (fun X => refsVE_contains X bm hbm) (X _ _ hC) (looks_findIn X T.iC) (fun self => bind_fn X self T.tC) ?_)
  refine err_init (s := ⟨(hp.push (kdv_tup [])).push (excO C hp.objs.size), g, dr, tk, os⟩) (mg := mg) (mb := mb) (v := v) T (X.keeps kp) (hG.keeps kp) (hB.keeps kp) hs1 hs2 (hlim.keeps kp) hget hnx ?_ (fun oc od fd osl e => T.bK oc od fd osl e _ _ _ (X.keeps kp)) fun h' tk' dx ie => ?_
  · show A.depth + 1 < recursionLimit
    exact hroom
  · have k2 := ie.keep
    have old : ∀ b o, hp.get? b = some o → h'.get? b = some o := fun b o e => k2 b o (Nat.ne_of_lt (Nat.lt_succ_of_lt (Heap.lt_size e))) (kp b o e)
    have dn := ie.dbig
    have z : hp.objs.size + 1 + 1 ≤ dx := by
      first
        | (simpa only [Heap.size_push] using dn)
        | exact dn
        | (have q := dn; rw [Heap.size_push, Heap.size_push] at q; exact q)
    obtain ⟨t1, ho⟩ := ie.obj
    have z3 : hp.objs.size ≤ dx := by omega
    exact ⟨rfl, hq h' tk' (hp.objs.size + 1) (some dx) ⟨old, none1, ⟨_, _, ho, ⟨rfl, rfl⟩, rfl, rfl⟩, .inr ⟨dx, f, v, rfl, rfl, z3, ie.dne, ie.ns⟩⟩⟩
end Er
namespace Fw
open PySem PySem.Spec PyProof.Rows L2
structure ErrAtK (P : Program) (w : World) (K : PySem.W.Frag) (mg : Str → Option Value) (en : En) (c : Nat) (x f : Str) : Prop where
  ex : ∃ C, en.cl[c]? = some (C, [f]) ∧ mg x = some (.ref C) ∧ PySem.W.keepIn K (.ref C) = true ∧ Er.MakesK P w K mg C f
theorem PE.errK {X : Cx} {en : En} {W : WX} {k c : Nat} {x f : Str} {p pos kpos : Pos} {e : Expr} {me : EM} (D : ErrAtK X.prog X.w X.K X.mg en c x f) (G : Good en X W k) (hg : Gl X x) (he : PE X e (tE en W me))
    (hall : (backToKw pos (keywordEach [⟨some f, e, kpos⟩] X.env)).all (·.1.isSome) = true := by rfl) (hks : (backToKw pos (keywordEach [⟨some f, e, kpos⟩] X.env)).filterMap (·.1) = [f] := by rfl) (hdb : (x == ("__debug__" : Str)) = false := by decide)
    (hpl : ((backTo pos (starEach [] X.env)).any (·.1) || (backToKw pos (keywordEach [⟨some f, e, kpos⟩] X.env)).any (·.1.isNone)) = false := by rfl) :
    PE X (.Call (.Name x p) [] [⟨some f, e, kpos⟩] pos) (tE en W (mErr c 1 (aCons me aNil))) := by
  obtain ⟨C, hc, hm, hkp, hmk⟩ := D.ex
  refine ⟨fun pins s σ H Q I t => ?_⟩
  refine wpAny_Call_Name_kw (ld_glob I hg hm ?_ hdb)
  have t2 : tE en W me σ H fun x H1 => ∀ d H2 a, Grown [f] x d H1 H2 → H2 a = none → Q (.ref a) (upd H2 a (.ext (exoφ a (.ref C) d))) := by
    obtain ⟨ρ, ss, h, rel, rs, fn⟩ := err_read hc rfl t
    refine ⟨ρ, ss, h, rel, rs, ?_⟩
    unfold aCons at fn
    cases e1 : me ss h with
    | stuck => simp only [e1, Res.bind, fin] at fn
    | ex c' xs h1 => simp only [e1, Res.bind, fin] at fn; exact fn
    | ok y h1 =>
      simp only [e1, Res.bind, aNil] at fn
      intro ρ1 H1 b p1 rel1 rb
      obtain ⟨v, o, z⟩ := fn ρ1 H1 [b] p1 rel1 (.cons rb .nil)
      rcases o with o | ⟨o, _⟩
      · cases o; exact z
      · cases o
  refine PySem.W.callWith_KW0 (h₀ := X.base) I.ok.mod.kin hkp hall ?_ hpl
  refine thn ((pk_cons he pk_nil).run pos pins s σ H (fun vs H1 => ∃ v, vs = [v] ∧ ∀ d H2 a, Grown [f] v d H1 H2 → H2 a = none → Q (.ref a) (upd H2 a (.ext (exoφ a (.ref C) d)))) I ?_) fun us s1 ⟨vs, H1, I1, r, v, ev, q⟩ => ⟨I1.kIn, ?_⟩
  · exact t2.imp fun b H1 z => ⟨b, rfl, z⟩
  · subst ev
    rw [hks]
    obtain ⟨v', rfl, rv⟩ : ∃ v', us = [v'] ∧ RelV v v' := by
      cases r with
      | cons rv rn => cases rn; exact ⟨_, rfl, rv⟩
    obtain ⟨mb, h1, h2⟩ := I1.ok.mod.blt
    refine hmk X.A mb s1 v' _ _ I1.kIn (I1.ok.mod.glob.keeps I1.bk) (h1.keeps I1.bk) ((h2 _ (by decide)).trans rfl) I1.nolimit (by have := G.room.dp; omega) fun h' tk a d M => ?_
    obtain ⟨G', H2, J, g1, g2, g3, g4⟩ := made_inv (tk' := tk) (ns := [f]) I1 M (by simp) rv
    obtain ⟨oe, fv, hoe, hz, hdat, _⟩ := M.obj
    exact ⟨.ref a, _, J.laidN (t' := tk) (o := .ext (exoφ a (.ref C) d)) (h' := h') g2 g1 g3 (exo_ok hoe hz hdat), rfl, q d H2 a g4 g3⟩
end Fw
namespace Fw
open PySem PySem.Spec PyProof.Rows L2
section
variable {X : Cx} {en : En} {W : WX} {x : Str} {pos : Pos}
/-- a module's constant -/
theorem PE.gint {i : Int} (hm : ∃ t, X.mg x = some (.int i t)) (hg : Gl X x) (hd : (x == ("__debug__" : Str)) = false := by decide) : PE X (.Name x pos) (tE en W (mC (.int i))) := by
  obtain ⟨t, hm⟩ := hm
  exact PEimp (pe_glob hg hm (v := .int i) ⟨t, rfl⟩ hd) (constOf fun _ => rfl)
theorem PE.gstr {i : Str} (hm : ∃ t, X.mg x = some (.str i t)) (hg : Gl X x) (hd : (x == ("__debug__" : Str)) = false := by decide) : PE X (.Name x pos) (tE en W (mC (.str i))) := by
  obtain ⟨t, hm⟩ := hm
  exact PEimp (pe_glob hg hm (v := .str i) ⟨t, rfl⟩ hd) (constOf fun _ => rfl)
end
section
variable {X : Cx} {en : En} {W : WX} {pos : Pos} {k : Nat}
/-- a list comprehension, the block's state of affairs handed on -/
theorem PE.lcG {elt tg iter : Expr} {ifs : List Expr} {scope : Scope} {own : List (Str × Nat)} {m : IM} {g : GM} {t : BM} {e : EM} (G : Good en X W k) (hN : X.N.Nodup) (hi : PI X tg iter (tI en W m)) (ok : BlkOk X.N X.env.scope scope own)
    (hg : ∀ (s : Shared) (H : Hp) (C : Addr) (cl : List (Str × Addr)) (fp : List Addr), Good en (X.blk s H scope (compEnvC scope cl C X.env) fp) W0 k → PG (X.blk s H scope (compEnvC scope cl C X.env) fp) tg (tG en (own.map (·.2)) g))
    (ht : ∀ (s : Shared) (H : Hp) (C : Addr) (cl : List (Str × Addr)) (fp : List Addr), Good en (X.blk s H scope (compEnvC scope cl C X.env) fp) W0 k → PTs (X.blk s H scope (compEnvC scope cl C X.env) fp) ifs (tT en W0 t))
    (he : ∀ (s : Shared) (H : Hp) (C : Addr) (cl : List (Str × Addr)) (fp : List Addr), Good en (X.blk s H scope (compEnvC scope cl C X.env) fp) W0 k → PE (X.blk s H scope (compEnvC scope cl C X.env) fp) elt (tE en W0 e)) (hs : ∀ x, foldedSetIterable iter X.env x = pure x := by intro _; rfl) :
    PE X (.ListComp elt [⟨tg, iter, ifs, 0⟩] scope pos) (tE en W (mLc m g t e (own.map (·.2)))) :=
  PE.lc G.calm hN hi ok (fun s H C cl fp => hg s H C cl fp (G.blk s H _ _ fp)) (fun s H C cl fp => ht s H C cl fp (G.blk s H _ _ fp)) (fun s H C cl fp => he s H C cl fp (G.blk s H _ _ fp)) hs
theorem PS.setLcG {i : Nat} {y : Str} {py : Pos} {elt tg iter : Expr} {ifs : List Expr} {scope : Scope} {own : List (Str × Nat)} {spos : Pos} {m : IM} {g : GM} {t : BM} {e : EM} (G : Good en X W k) (hN : X.N.Nodup) (hy : X.N[i]? = some y) (hyl : X.env.scope.names.lookup y = some .local)
    (hsw : swapsWith (.ListComp elt [⟨tg, iter, ifs, 0⟩] scope pos) (some (.Name y py)) spos.line X.env = pure true) (hi : PI X tg iter (tI en W m)) (ok : BlkOk X.N X.env.scope scope own)
    (hg : ∀ (s : Shared) (H : Hp) (C : Addr) (cl : List (Str × Addr)) (fp : List Addr), Good en (X.blk s H scope (compEnvC scope cl C X.env) fp) W0 k → PG (X.blk s H scope (compEnvC scope cl C X.env) fp) tg (tG en (own.map (·.2)) g))
    (ht : ∀ (s : Shared) (H : Hp) (C : Addr) (cl : List (Str × Addr)) (fp : List Addr), Good en (X.blk s H scope (compEnvC scope cl C X.env) fp) W0 k → PTs (X.blk s H scope (compEnvC scope cl C X.env) fp) ifs (tT en W0 t))
    (he : ∀ (s : Shared) (H : Hp) (C : Addr) (cl : List (Str × Addr)) (fp : List Addr), Good en (X.blk s H scope (compEnvC scope cl C X.env) fp) W0 k → PE (X.blk s H scope (compEnvC scope cl C X.env) fp) elt (tE en W0 e)) (hs : ∀ x, foldedSetIterable iter X.env x = pure x := by intro _; rfl) :
    PS X (.Assign [.Name y py] (.ListComp elt [⟨tg, iter, ifs, 0⟩] scope pos) spos) (tS en W (mSet i (mLc m g t e (own.map (·.2))))) :=
  PS.setLc G.calm hN hy hyl hsw hi ok (fun s H C cl fp => hg s H C cl fp (G.blk s H _ _ fp)) (fun s H C cl fp => ht s H C cl fp (G.blk s H _ _ fp)) (fun s H C cl fp => he s H C cl fp (G.blk s H _ _ fp)) hs
end
section
variable {P : Program} {w : World} {K : PySem.W.Frag} {mg : Str → Option Value} {base : Heap} {en : En}
theorem DefAt.mk' {k : Nat} {x : Str} {np nn : Nat} {m : SM} {f : Addr} {fd : FuncData} {ps : List Str} {q : Str} {st : Stmt} (hm : mg x = some (.ref f)) (F : L2.Fun K x q st f fd) (G : FnG P w K mg base k f fd ps (spM en np (mFn np nn m))) (hb : Binds K fd ps []) : DefAt P w K mg base en k x np (mFn np nn m) :=
  ⟨⟨f, fd, ps, hm, F.kp, G, hb⟩, fun vs h e => mFn_len e⟩
end
end Fw
namespace Fw
open PySem PySem.Spec PyProof.Rows L2
section
variable {P : Program} {w : World} {K : PySem.W.Frag} {mg mb : Str → Option Value} {k : Nat} {fa a : Addr} {fd : FuncData} {x : Str} {s : Shared} {vs : List Value} {ns : List Int}
/-- the law, called over an abstract heap that tracks the script at most -/
theorem head_at (KX : K.In s.heap) (hns : s.heap.Ns mainGlobals mg) (hb : s.heap.Ns builtinsNs mb) (hbb : ∀ y : Str, y ≠ "__name__" → mb y = bootBuiltins y) (hlim : s.heap.NoLimit) (hmods : ∃ mm, s.heap.Ns sysModules mm) (hg : s.gens = #[])
    (ha : s.heap.get? a = some { cls := .type "list", data := .seq vs.toArray }) (hr : Room k callerA) (hbind : ∀ (t : Shared) (u : Value), BindsTo t fd ⟨[u], []⟩ [(x, u)]) {H : Hp} (only : Only H) (own : ∀ b, H b ≠ none → b = a) (apart : H a ≠ none → K.lookup a = none) (ok : HOk P w H s.heap) {sp : Sp}
    (F : ∀ base : Heap, K.In base → base.Ns mainGlobals mg → (∃ o, base.get? sysModules = some o) → FnG P w K mg base k fa fd [x] sp) (hsp : sp [.ref a] H (fun v _ => v = .bl true) fun _ _ _ => False) :
    codeAny (model P w) callerA (.call (.ref fa) ⟨[.ref a], []⟩) (fun r s' => r = .ok (.ret (.bool true)) ∧ OldK s.heap s'.heap ∧ s'.os = s.os ∧ AllBare s'.gens) s := by
  -- a dict isn't tracked, so every namespace stands in the base too
  have free : ∀ {b : Addr} {o : Obj} {es : Array DictEntry} {ep : Nat}, s.heap.get? b = some o → o.data = .dict es ep → H b = none := fun {b o es ep} e d => by
    by_cases z : H b = none
    · exact z
    · have hb := own b z
      subst hb
      rw [ha] at e; cases e; cases d
  have nsB : ∀ {b : Addr} {m : Str → Option Value}, s.heap.Ns b m → (hidT s.heap H).Ns b m := fun ⟨o, es, ep, e, d, r⟩ => ⟨o, es, ep, hidT_get e (free e d), d, r⟩
  have kB : K.In (hidT s.heap H) := fun b o e => hidT_get (KX b o e) (by
    by_cases z : H b = none
    · exact z
    · have hb := own b z
      subst hb
      rw [apart z] at e; cases e)
  have mod : Mod K mg (hidT s.heap H) := ⟨kB, nsB hns, ⟨mb, nsB hb, hbb⟩, by obtain ⟨mc, h1, h2⟩ := hlim; exact ⟨mc, nsB h1, h2⟩⟩
  have sm : ∃ o, (hidT s.heap H).get? sysModules = some o := by
    obtain ⟨mm, hm⟩ := hmods
    obtain ⟨o, _, _, e, _⟩ := nsB hm
    exact ⟨o, e⟩
  have e0 : Env0 P w K mg (hidT s.heap H) callerA [] s H := ⟨rfl, mod, fun b o e => of_hidT e, Nat.le_of_eq (hidT_size _ _), trivial, (fun b z => absurd (show b ∈ ([] : List Addr) from z) (by simp)), ok, .of_eq hg⟩
  refine codeAny_mono ((F _ kB mod.glob sm).run callerA [] s H ⟨[.ref a], []⟩ [.ref a] [.ref a] _ _ hr rfl e0 (hbind s (.ref a)) (.cons rfl .nil) hsp) fun r s' z => ?_
  match r, z with
  | .error e, ⟨_, _, _, _, _, _, _, _, _, _, _, _, f⟩ => exact f.elim
  | .ok (.ret u), ⟨v, H', os, bare, un, ok', ru, q⟩ =>
    subst q
    have eu : u = Value.bool true := ru
    subst eu
    refine ⟨rfl, OldK.of_keep fun b o e => ?_, os, bare⟩
    rcases only b with q | ⟨ob, xs, q⟩
    · exact un.keep b o e q (fun z => absurd (show b ∈ ([] : List Addr) from z) (by simp)) (by simp)
    · obtain ⟨e1, _⟩ := ok b _ q
      obtain ⟨e2, _⟩ := ok' b _ (un.frzs b ob _ q)
      rw [e] at e1; cases e1
      exact e2
  | .ok .next, z => exact False.elim z
  | .ok .brk, z => exact False.elim z
  | .ok .cont, z => exact False.elim z
/-- .. wherever the script stands -/
theorem head_run (KX : K.In s.heap) (hns : s.heap.Ns mainGlobals mg) (hb : s.heap.Ns builtinsNs mb) (hbb : ∀ y : Str, y ≠ "__name__" → mb y = bootBuiltins y) (hlim : s.heap.NoLimit) (hmods : ∃ mm, s.heap.Ns sysModules mm) (hg : s.gens = #[])
    (ha : s.heap.get? a = some { cls := .type "list", data := .seq vs.toArray }) (hi : IntsAre vs ns) (hl : ns.length ≤ sizeLine) (hr : Room k callerA) (hbind : ∀ (t : Shared) (u : Value), BindsTo t fd ⟨[u], []⟩ [(x, u)])
    {nn : Nat} {en : En} {m : SM} {h2 : SH} (hk : en.K = K) (ea : en.a0 = a) (en' : en.ns = ns) (F : ∀ base : Heap, K.In base → base.Ns mainGlobals mg → (∃ o, base.get? sysModules = some o) → FnG P w K mg base k fa fd [x] (spM en 1 (mFn 1 nn m))) (law : mFn 1 nn m [.scr ns] [] = .ok (.bl true) h2) :
    codeAny (model P w) callerA (.call (.ref fa) ⟨[.ref a], []⟩) (fun r s' => r = .ok (.ret (.bool true)) ∧ OldK s.heap s'.heap ∧ s'.os = s.os ∧ AllBare s'.gens) s := by
  have rv := vals_ints hi
  have done : ∀ H : Hp, ((∃ o, H en.a0 = some (.frz o (.lst (en.ns.map V.int)))) ∨ SqL en.K (fun _ => none) en.a0 (en.ns.map V.int)) → spM en 1 (mFn 1 nn m) [.ref a] H (fun v _ => v = .bl true) fun _ _ _ => False := fun H h => by
    refine ⟨rfl, [], [.scr ns], [], ⟨rfl, .nil, fun i b o e => by simp at e, ?_⟩, .cons ⟨by rw [ea], en'.symm⟩ .nil, ?_⟩
    · rcases h with ⟨o, z⟩ | z
      · exact .inl ⟨o, z, by simp⟩
      · exact .inr z
    · rw [law]
      exact fun ρ' H u p rel r => r
  cases hq : K.lookup a with
  | some o =>
    have e := KX a o hq
    rw [ha] at e; cases e
    refine head_at KX hns hb hbb hlim hmods hg ha hr hbind (H := fun _ => none) (fun b => .inl rfl) (fun b z => absurd rfl z) (fun z => absurd rfl z) (fun b u z => nomatch z) F (done _ (.inr ?_))
    rw [hk, ea, en']
    exact .inr ⟨_, vs.toArray, _, hq, rfl, rfl, rfl, by rw [List.size_toArray, hi.length]; exact hl, by simpa using rv⟩
  | none =>
    have at_ : ∀ {b : Addr} {u : HO}, (if b = a then some (HO.frz { cls := .type "list", data := .seq vs.toArray } (.lst (ns.map V.int))) else none) = some u → b = a ∧ u = .frz { cls := .type "list", data := .seq vs.toArray } (.lst (ns.map V.int)) := fun {b u} z => by
      split at z
      · rename_i hb; cases z; exact ⟨hb, rfl⟩
      · cases z
    refine head_at KX hns hb hbb hlim hmods hg ha hr hbind (H := fun b => if b = a then some (.frz { cls := .type "list", data := .seq vs.toArray } (.lst (ns.map V.int))) else none) (fun b => ?_) (fun b z => ?_) (fun _ => hq) (fun b u z => ?_) F (done _ (.inl ⟨{ cls := .type "list", data := .seq vs.toArray }, ?_⟩))
    · by_cases hb : b = a
      · exact .inr ⟨_, _, if_pos hb⟩
      · exact .inl (if_neg hb)
    · by_cases hb : b = a
      · exact hb
      · exact absurd (if_neg hb) z
    · obtain ⟨rfl, rfl⟩ := at_ z
      exact ⟨ha, by rw [List.length_map]; exact hl, vs, _, rv, ha⟩
    · rw [ea, en']; exact if_pos rfl
end
end Fw
namespace Fw
open PySem PySem.Spec PyProof.Rows L2
/-- THE END: the law's row from its def and its meaning's answer -/
theorem walk_ofG {l : PySem.W.OpenLaw} {n k nn : Nat} {q : Program} {loose : List Str} {XP : (Str → Option Value) → Heap → Prop} {YP : World → Heap → Prop} {d : DefRec} {K : Params → PySem.W.Frag} {x : Str} {m : SM}
    (hn : l.most = some n) (hn2 : n ≤ sizeLine) (hdf : d.params.defaults = []) (hr : Room k callerA) (himp : importsNone q = true) (hY : ∀ (w : World) (h : Heap), YP w h → (K w.params).In h)
    (F : ∀ (w : World) (mg : Str → Option Value) (fa : Addr) (h : Heap), (K w.params).In h → h.Ns mainGlobals mg → mg d.name = some (.ref fa) →
      ∃ (fd : FuncData) (cl : List (Addr × List Str)), (∀ (s : Shared) (u : Value), BindsTo s fd ⟨[u], []⟩ [(x, u)]) ∧
        ∀ (base : Heap) (a0 : Addr) (ns : List Int), (K w.params).In base → base.Ns mainGlobals mg → (∃ o, base.get? sysModules = some o) → FnG l.prog w (K w.params) mg base k fa fd [x] (spM ⟨cl, K w.params, a0, ns⟩ 1 (mFn 1 nn m)))
    (law : ∀ ns : List Int, ns.length ≤ n → (∀ z ∈ ns, Builtin.Int.intBits z ≤ 1048576) → ∃ h2, mFn 1 nn m [.scr ns] [] = .ok (.bl true) h2) :
    PySem.W.WalkO q loose XP YP l.row.toRowW d [] (fun f vs => PySem.call f vs) := by
  refine Att.attach_callB hn hdf fun w s₀ s₁ mg mb fa o pm cd doc a vs ns G Y ho hd hcd hmg hobj hints hlen hbits hg => ?_
  have KX := hY w _ Y
  obtain ⟨fd, cl, hb, hF⟩ := F w mg fa _ KX G.T.g hmg
  obtain ⟨mm, hmm, _⟩ := (G.T.seer himp).mods
  obtain ⟨h2, hl⟩ := law ns hlen hbits
  exact head_run (en := ⟨cl, K w.params, a, ns⟩) KX G.T.g G.T.b G.T.builtins G.T.nolimit ⟨mm, hmm⟩ hg hobj hints (Nat.le_trans hlen hn2) hr hb rfl rfl rfl (fun base h1 h2 h3 => hF base a ns h1 h2 h3) hl
theorem one_of {us : List Value} {d : Value} (h : (us ++ [d]).length = 2) : ∃ a, us = [a] := by
  match us, h with
  | [], h => simp at h
  | [a], _ => exact ⟨a, rfl⟩
  | _ :: _ :: _, h => simp at h
theorem two_of {us : List Value} (h : (us ++ []).length = 2) : ∃ a b, us = [a, b] := by
  match us, h with
  | [], h => simp at h
  | [_], h => simp at h
  | [a, b], _ => exact ⟨a, b, rfl⟩
  | _ :: _ :: _ :: _, h => simp at h
end Fw
namespace Er
open PySem PySem.W PySem.Calls PyProof.Rows PySem.HandSPX
theorem along_of {K : Frag} {nm q : Str} {C N : Addr} {bs bm : List Value} {hdct : Bool} {sn : List Str} {sub : List Value} {ab : Bool} {col : Option Bool} {dd : Option Addr} {k0 k1 k2 k3 k5 : Option Value} {newId : String} {m : Str} {r : Option (Option Value)}
    (xL : K.lookup C = some (excClassObj nm q C N bs bm hdct sn sub ab col dd k0 k1 k2 k3 k5 newId)) (h : ks_superIn K C C m = r) : alongIn K m bm = r := by
  have hcl : clsIn K C = some { name := nm, bases := bs, mro := .ref C :: bm, ns := N, qualname := q, hasDict := hdct, slotNames := sn, subclasses := sub, abstract := ab, collection := col, hasDel := false } := by unfold clsIn; rw [xL] <;> rfl
  unfold ks_superIn at h
  rw [hcl, Option.bind_some] at h
  rwa [ESX.drop_own] at h
end Er
namespace Fw
open PySem PySem.Spec L2
/-! ## Runs of meanings, without a machine: what a run must bring, from the end to the front -/
/-- what stood stays -/
def Le (h h' : SH) : Prop := ∀ (j : Nat) (o : SO), h[j]? = some o → h'[j]? = some o
theorem Le.refl (h : SH) : Le h h := fun _ _ e => e
theorem Le.trans {a b c : SH} (x : Le a b) (y : Le b c) : Le a c := fun j o e => y j o (x j o e)
theorem Le.push (h : SH) (o : SO) : Le h (h ++ [o]) := fun j u e => by
  rw [List.getElem?_append_left (List.getElem?_eq_some_iff.mp e).1]; exact e
theorem Le.len {h h' : SH} (x : Le h h') : h.length ≤ h'.length := by
  cases e : h.length with
  | zero => exact Nat.zero_le _
  | succ n =>
    have q : h[n]? = some h[n] := List.getElem?_eq_getElem (by omega)
    have := (List.getElem?_eq_some_iff.mp (x n _ q)).1
    omega
theorem new_at (h : SH) (o : SO) : (h ++ [o])[h.length]? = some o := by rw [List.getElem?_append_right (Nat.le_refl _)]; simp
theorem set_at {h : SH} {i : Nat} {o u : SO} (e : h[i]? = some u) : (h.set i o)[i]? = some o := List.getElem?_set_self (List.getElem?_eq_some_iff.mp e).1
theorem set_ne {h : SH} {i j : Nat} {o : SO} (n : i ≠ j) : (h.set i o)[j]? = h[j]? := List.getElem?_set_ne n
/-- a run that answers, and what of its answer -/
def Is {α : Type} (r : Res α) (P : α → SH → Prop) : Prop := match r with
  | .ok a h => P a h
  | _ => False
theorem Is.mono {α : Type} {r : Res α} {P Q : α → SH → Prop} (x : Is r P) (k : ∀ a h, P a h → Q a h) : Is r Q := by
  cases r with
  | ok a h => exact k a h x
  | stuck => exact x
  | ex c xs h => exact x
theorem Is.bind {α β : Type} {r : Res α} {k : α → SH → Res β} {P : β → SH → Prop} (x : Is r fun a h => Is (k a h) P) : Is (r.bind k) P := by
  cases r with
  | ok a h => exact x
  | stuck => exact x
  | ex c xs h => exact x
theorem Is.out {α : Type} {r : Res α} {P : α → SH → Prop} (x : Is r P) : ∃ a h, r = .ok a h ∧ P a h := by
  cases r with
  | ok a h => exact ⟨a, h, rfl, x⟩
  | stuck => exact x.elim
  | ex c xs h => exact x.elim
/-- .. of a statement: behind it, returned, broken off, gone on -/
def Ist (r : SR) (N : SS → SH → Prop) (R : SV → SH → Prop) (B C : SS → SH → Prop) : Prop := match r with
  | .nx ss h => N ss h
  | .rt v h => R v h
  | .bk ss h => B ss h
  | .ct ss h => C ss h
  | _ => False
section
variable {N B C N' B' C' : SS → SH → Prop} {R R' : SV → SH → Prop} {ss : SS} {h : SH} {P : SV → SH → Prop}
theorem Ist.mono {r : SR} (x : Ist r N R B C) (kn : ∀ s h, N s h → N' s h) (kr : ∀ v h, R v h → R' v h) (kb : ∀ s h, B s h → B' s h) (kc : ∀ s h, C s h → C' s h) : Ist r N' R' B' C' := by
  cases r with
  | nx s h => exact kn _ _ x
  | rt v h => exact kr _ _ x
  | bk s h => exact kb _ _ x
  | ct s h => exact kc _ _ x
  | stuck => exact x
  | ex c xs s h => exact x
theorem Ist.then {α : Type} {r : Res α} {k : α → SH → SR} (x : Is r fun a h => Ist (k a h) N R B C) : Ist (thenS r ss k) N R B C := by
  cases r with
  | ok a h => exact x
  | stuck => exact x
  | ex c xs h => exact x
theorem Ist.seq {m1 m2 : SM} (x : Ist (m1 ss h) (fun s h => Ist (m2 s h) N R B C) R B C) : Ist (mSeq m1 m2 ss h) N R B C := by
  unfold mSeq
  cases e : m1 ss h with
  | nx s h => rw [e] at x; exact x
  | rt v h => rw [e] at x; exact x
  | bk s h => rw [e] at x; exact x
  | ct s h => rw [e] at x; exact x
  | stuck => rw [e] at x; exact x
  | ex c xs s h => rw [e] at x; exact x
theorem Ist.nil (x : N ss h) : Ist (mNil ss h) N R B C := x
theorem Ist.set {i : Nat} {m : EM} (x : Is (m ss h) fun v h1 => N (ss.set i (some v)) h1) : Ist (mSet i m ss h) N R B C := Ist.then x
theorem Ist.ret {m : EM} (x : Is (m ss h) R) : Ist (mRet m ss h) N R B C := Ist.then x
theorem Ist.drop {m : EM} (x : Is (m ss h) fun _ h1 => N ss h1) : Ist (mDrop m ss h) N R B C := Ist.then x
theorem Ist.ite {t : BM} {m1 m2 : SM} (x : Is (t ss h) fun b h1 => if b = true then Ist (m1 ss h1) N R B C else Ist (m2 ss h1) N R B C) : Ist (mIfS t m1 m2 ss h) N R B C := Ist.then (x.mono fun b h1 y => by
  cases b with
  | true => exact y
  | false => exact y)
theorem Ist.st {me mo mi : EM} (x : Is (me ss h) fun v h1 => Is (mo ss h1) fun o h2 => Is (mi ss h2) fun i h3 => ∃ h4, opSt o i v h3 = some h4 ∧ N ss h4) : Ist (mSt me mo mi ss h) N R B C := by
  refine Ist.then (x.mono fun v h1 y => Ist.then (y.mono fun o h2 z => Ist.then (z.mono fun i h3 w => ?_)))
  obtain ⟨h4, e, n⟩ := w
  rw [e]; exact n
theorem Is.var {i : Nat} {v : SV} (e : ss[i]? = some (some v)) (p : P v h) : Is (mVar i ss h) P := by
  unfold mVar; rw [e]; exact p
theorem Is.c {v : SV} (p : P v h) : Is (mC v ss h) P := p
theorem Is.lift {α : Type} {o : Option (α × SH)} {P : α → SH → Prop} (x : ∃ a h, o = some (a, h) ∧ P a h) : Is (lift o) P := by
  obtain ⟨a, h, rfl, p⟩ := x; exact p
theorem Is.o1 {op : O1} {ma : EM} (x : Is (ma ss h) fun a h1 => ∃ v h2, op a h1 = some (v, h2) ∧ P v h2) : Is (mO1 op ma ss h) P := Is.bind (x.mono fun a h1 y => Is.lift y)
theorem Is.o2 {op : O2} {ma mb : EM} (x : Is (ma ss h) fun a h1 => Is (mb ss h1) fun b h2 => ∃ v h3, op a b h2 = some (v, h3) ∧ P v h3) : Is (mO2 op ma mb ss h) P := Is.bind (x.mono fun a h1 y => Is.bind (y.mono fun b h2 z => Is.lift z))
theorem Is.oa {op : OA} {ma : AM} (x : Is (ma ss h) fun a h1 => ∃ v h2, op a h1 = some (v, h2) ∧ P v h2) : Is (mOA op ma ss h) P := Is.bind (x.mono fun a h1 y => Is.lift y)
theorem Is.anil {P : List SV → SH → Prop} (p : P [] h) : Is (aNil ss h) P := p
theorem Is.acons {P : List SV → SH → Prop} {ma : EM} {mr : AM} (x : Is (ma ss h) fun v h1 => Is (mr ss h1) fun vs h2 => P (v :: vs) h2) : Is (aCons ma mr ss h) P := Is.bind (x.mono fun a h1 y => Is.bind (y.mono fun b h2 z => z))
theorem Is.call {f : FM} {ma : AM} (x : Is (ma ss h) fun vs h1 => Is (f vs h1) P) : Is (mCall f ma ss h) P := Is.bind x
theorem Is.fn {np n : Nat} {m : SM} {vs : List SV} (hl : vs.length = np) (x : Ist (m (vs.map some ++ List.replicate (n - vs.length) none) h) (fun _ h => P .non h) P (fun _ _ => False) (fun _ _ => False)) : Is (mFn np n m vs h) P := by
  unfold mFn
  rw [if_pos hl]
  cases e : m (vs.map some ++ List.replicate (n - vs.length) none) h with
  | nx s h => rw [e] at x; exact x
  | rt v h => rw [e] at x; exact x
  | bk s h => rw [e] at x; exact x.elim
  | ct s h => rw [e] at x; exact x.elim
  | stuck => rw [e] at x; exact x
  | ex c xs s h => rw [e] at x; exact x
/-- tests -/
theorem Is.bm {P : Bool → SH → Prop} {m : EM} (x : Is (m ss h) fun v h1 => ∃ b, v = .bl b ∧ P b h1) : Is (mB m ss h) P := Is.bind (x.mono fun v h1 y => by
  obtain ⟨b, rfl, p⟩ := y; exact p)
theorem Is.tru {P : Bool → SH → Prop} {m : EM} (x : Is (m ss h) fun v h1 => Is (opTru v h1) P) : Is (mTru m ss h) P := Is.bind x
theorem Is.bnot {P : Bool → SH → Prop} {t : BM} (x : Is (t ss h) fun b h1 => P (!b) h1) : Is (bNot t ss h) P := Is.bind x
theorem Is.band {P : Bool → SH → Prop} {s t : BM} (x : Is (s ss h) fun b h1 => if b = true then Is (t ss h1) P else P false h1) : Is (bAnd s t ss h) P := Is.bind (x.mono fun b h1 y => by
  cases b with
  | true => exact y
  | false => exact y)
theorem Is.bor {P : Bool → SH → Prop} {s t : BM} (x : Is (s ss h) fun b h1 => if b = true then P true h1 else Is (t ss h1) P) : Is (bOr s t ss h) P := Is.bind (x.mono fun b h1 y => by
  cases b with
  | true => exact y
  | false => exact y)
/-- loops -/
theorem Ist.forM {g : GM} {wk : Wk} {body : SM} {I : Nat → SS → SH → Prop} {len : Nat}
    (hn : ∀ k s h, k < len → I k s h → ∃ x h1 s1, wk h k = some (some (x, h1)) ∧ g x s h1 = some s1 ∧ Ist (body s1 h1) (I (k + 1)) R N (I (k + 1))) (he : ∀ s h, I len s h → wk h len = some none ∧ N s h) :
    ∀ (n i : Nat) (s : SS) (h : SH), i ≤ len → len - i < n → I i s h → Ist (forM g wk body n i s h) N R B C
  | 0, _, _, _, _, hl, _ => absurd hl (by omega)
  | n + 1, i, s, h, hi, hl, inv => by
    unfold Fw.forM
    by_cases e : i = len
    · subst e
      obtain ⟨e1, e2⟩ := he s h inv
      rw [e1]; exact e2
    · obtain ⟨x, h1, s1, e1, e2, e3⟩ := hn i s h (by omega) inv
      rw [e1]
      simp only [e2]
      cases e4 : body s1 h1 with
      | nx s2 h2 => rw [e4] at e3; exact Ist.forM hn he n (i + 1) s2 h2 (by omega) (by omega) e3
      | ct s2 h2 => rw [e4] at e3; exact Ist.forM hn he n (i + 1) s2 h2 (by omega) (by omega) e3
      | bk s2 h2 => rw [e4] at e3; exact e3
      | rt v h2 => rw [e4] at e3; exact e3
      | stuck => rw [e4] at e3; exact e3
      | ex c xs s2 h2 => rw [e4] at e3; exact e3
theorem Ist.for {m : IM} {g : GM} {body : SM} (x : Is (m ss h) fun wk h1 => ∃ (len : Nat) (I : Nat → SS → SH → Prop), len < many ∧ I 0 ss h1 ∧
      (∀ k s h, k < len → I k s h → ∃ x h1 s1, wk h k = some (some (x, h1)) ∧ g x s h1 = some s1 ∧ Ist (body s1 h1) (I (k + 1)) R N (I (k + 1))) ∧ (∀ s h, I len s h → wk h len = some none ∧ N s h)) : Ist (mFor m g body ss h) N R B C := by
  unfold mFor
  cases e : m ss h with
  | ok wk h1 =>
    rw [e] at x
    obtain ⟨len, I, hl, i0, hn, he⟩ := x
    exact Ist.forM hn he many 0 ss h1 (Nat.zero_le _) (by omega) i0
  | stuck => rw [e] at x; exact x
  | ex c xs h1 => rw [e] at x; exact x
theorem Is.rng1 {P : Wk → SH → Prop} {m : AM} (x : Is (m ss h) fun vs h1 => ∃ j, vs = [.int j] ∧ rngB j = true ∧ P (wkRng 0 j.toNat) h1) : Is (mRng1 m ss h) P := Is.bind (x.mono fun vs h1 y => by
  obtain ⟨j, rfl, hj, p⟩ := y
  show Is (if rngB j = true then _ else _) P
  rw [if_pos hj]; exact p)
theorem Is.rng2 {P : Wk → SH → Prop} {m : AM} (x : Is (m ss h) fun vs h1 => ∃ i j, vs = [.int i, .int j] ∧ rngB i = true ∧ rngB j = true ∧ P (wkRng i (j - i).toNat) h1) : Is (mRng2 m ss h) P := Is.bind (x.mono fun vs h1 y => by
  obtain ⟨i, j, rfl, hi, hj, p⟩ := y
  show Is (if (rngB i && rngB j) = true then _ else _) P
  rw [if_pos (by rw [hi, hj]; rfl)]; exact p)
theorem Is.walkL {P : Wk → SH → Prop} {m : EM} (x : Is (m ss h) fun v h1 => ∃ r xs, v = .ref r ∧ h1[r]? = some (.lst xs) ∧ P (wkL r) h1) : Is (mWalk m ss h) P := Is.bind (x.mono fun v h1 y => by
  obtain ⟨r, xs, rfl, e, p⟩ := y
  show Is (match h1[r]? with | some (.lst _) => Res.ok (wkL r) h1 | some (.tup _) => .ok (wkT r) h1 | _ => .stuck) P
  rw [e]; exact p)
theorem wkL_at {h : SH} {r k : Nat} {xs : List SV} {x : SV} (e : h[r]? = some (.lst xs)) (ex : xs[k]? = some x) : wkL r h k = some (some (x, h)) := by
  unfold wkL; rw [e]; simp only [ex]
theorem wkL_end {h : SH} {r : Nat} {xs : List SV} (e : h[r]? = some (.lst xs)) : wkL r h xs.length = some none := by
  unfold wkL; rw [e]; simp
theorem wkRng_at {h : SH} {lo : Int} {n k : Nat} (hk : k < n) : wkRng lo n h k = some (some (.int (lo + k), h)) := by
  unfold wkRng; rw [if_pos hk]
theorem wkRng_end {h : SH} {lo : Int} {n : Nat} : wkRng lo n h n = some none := by
  unfold wkRng; rw [if_neg (Nat.lt_irrefl _)]
/-- a list comprehension -/
theorem Is.lcM {g : GM} {wk : Wk} {t : BM} {e : EM} {is : List Nat} {D : Nat} {I : Nat → List SV → SH → Prop} {len : Nat}
    (hn : ∀ k acc h, k < len → h[D]? = some (.lst acc) → I k acc h → ∃ x h1 s1, wk h k = some (some (x, h1)) ∧ g x (wipeS ss is) h1 = some s1 ∧ Is (t s1 h1) fun b h2 =>
      if b = true then Is (e s1 h2) (fun y h3 => h3[D]? = some (.lst acc) ∧ acc.length < big ∧ I (k + 1) (acc ++ [y]) (h3.set D (.lst (acc ++ [y])))) else h2[D]? = some (.lst acc) ∧ I (k + 1) acc h2)
    (he : ∀ acc h, h[D]? = some (.lst acc) → I len acc h → wk h len = some none ∧ P (.ref D) h) :
    ∀ (n i : Nat) (acc : List SV) (h : SH), i ≤ len → len - i < n → h[D]? = some (.lst acc) → I i acc h → Is (lcM g wk t e is D ss n i h) P
  | 0, _, _, _, _, hl, _, _ => absurd hl (by omega)
  | n + 1, i, acc, h, hi, hl, hd, inv => by
    unfold Fw.lcM
    by_cases q : i = len
    · subst q
      obtain ⟨e1, e2⟩ := he acc h hd inv
      rw [e1]; exact e2
    · obtain ⟨x, h1, s1, e1, e2, e3⟩ := hn i acc h (by omega) hd inv
      rw [e1]
      simp only [e2]
      obtain ⟨b, h2, e4, e5⟩ := e3.out
      rw [e4]
      cases b with
      | false =>
        simp only [Bool.false_eq_true, if_false] at e5 ⊢
        exact Is.lcM hn he n (i + 1) acc h2 (by omega) (by omega) e5.1 e5.2
      | true =>
        simp only [if_true] at e5 ⊢
        obtain ⟨y, h3, e6, e7, e8, e9⟩ := e5.out
        rw [e6]
        simp only [e7, if_pos e8]
        exact Is.lcM hn he n (i + 1) (acc ++ [y]) (h3.set D (.lst (acc ++ [y]))) (by omega) (by omega) (set_at e7) e9
theorem Is.lc {m : IM} {g : GM} {t : BM} {e : EM} {is : List Nat} (x : Is (m ss h) fun wk h0 => ∃ (len : Nat) (I : Nat → List SV → SH → Prop), len < many ∧ I 0 [] (h0 ++ [.lst []]) ∧
      (∀ k acc h, k < len → h[h0.length]? = some (.lst acc) → I k acc h → ∃ x h1 s1, wk h k = some (some (x, h1)) ∧ g x (wipeS ss is) h1 = some s1 ∧ Is (t s1 h1) fun b h2 =>
        if b = true then Is (e s1 h2) (fun y h3 => h3[h0.length]? = some (.lst acc) ∧ acc.length < big ∧ I (k + 1) (acc ++ [y]) (h3.set h0.length (.lst (acc ++ [y])))) else h2[h0.length]? = some (.lst acc) ∧ I (k + 1) acc h2) ∧
      (∀ acc h, h[h0.length]? = some (.lst acc) → I len acc h → wk h len = some none ∧ P (.ref h0.length) h)) : Is (mLc m g t e is ss h) P := by
  unfold mLc
  cases q : m ss h with
  | ok wk h0 =>
    rw [q] at x
    obtain ⟨len, I, hl, i0, hn, he⟩ := x
    exact Is.lcM hn he many 0 [] (h0 ++ [.lst []]) (Nat.zero_le _) (by omega) (new_at _ _) i0
  | stuck => rw [q] at x; exact x
  | ex c xs h1 => rw [q] at x; exact x
end
end Fw
namespace Fw
open PySem PySem.Spec L2
/-! the drawing of numbers that every law begins with: the defs' meanings, and what they answer -/
theorem mul_is {i j : Int} {h : SH} {P : SV → SH → Prop} (k : okMul i j = true) (p : P (.int (i * j)) h) : ∃ v h3, opMul (.int i) (.int j) h = some (v, h3) ∧ P v h3 := ⟨_, _, by show (if okMul i j = true then _ else _) = _; rw [if_pos k], p⟩
theorem mod_is {i j : Int} {h : SH} {P : SV → SH → Prop} (k : 0 < j) (p : P (.int (i % j)) h) : ∃ v h3, opMod (.int i) (.int j) h = some (v, h3) ∧ P v h3 := ⟨_, _, by show (if 0 < j then _ else _) = _; rw [if_pos k], p⟩
theorem fdiv_is {i j : Int} {h : SH} {P : SV → SH → Prop} (k : 0 < j ∧ j.natAbs.log2 < 9000) (p : P (.int (i / j)) h) : ∃ v h3, opFdiv (.int i) (.int j) h = some (v, h3) ∧ P v h3 := ⟨_, _, by show (if 0 < j ∧ j.natAbs.log2 < 9000 then _ else _) = _; rw [if_pos k], p⟩
theorem okMul_r {i j : Int} (h1 : -18446744073709551616 < j) (h2 : j < 18446744073709551616) : okMul i j = true := decide_eq_true (.inr ⟨h1, h2⟩)
theorem okMul_l {i j : Int} (h1 : -18446744073709551616 < i) (h2 : i < 18446744073709551616) : okMul i j = true := decide_eq_true (.inl ⟨h1, h2⟩)
def hashM : SM := mSeq (mSet 2 (mO2 opMod (mOA (un1 opInt) (aCons (mO2 opAdd (mO2 opAdd (mO2 opAdd (mO2 opMul (mVar 0) (mC (.int 1103515245))) (mO2 opMul (mO2 opMul (mC (.int 7919)) (mVar 1)) (mVar 1))) (mVar 1)) (mC (.int 1))) aNil)) (mC (.int 2147483647))))
  (mSeq (mSet 2 (mO2 opMod (mOA (un1 opInt) (aCons (mO2 opAdd (mO2 opMul (mVar 2) (mVar 2)) (mC (.int 69621))) aNil)) (mC (.int 2147483629)))) (mRet (mO2 opMod (mOA (un1 opInt) (aCons (mO2 opMul (mVar 2) (mC (.int 48271))) aNil)) (mC (.int 2147483587)))))
theorem hash_is {a c : Int} {h : SH} {P : SV → SH → Prop} (c1 : -18446744073709551616 < c) (c2 : c < 18446744073709551616) (p : ∀ r : Int, 0 ≤ r → r < 2147483587 → P (.int r) h) : Is (mFn 2 3 hashM [.int a, .int c] h) P := by
  refine Is.fn rfl ?_
  unfold hashM
  repeat (first | with_reducible refine Is.o2 ?_ | with_reducible refine Is.o1 ?_ | with_reducible refine Is.oa ?_ | with_reducible refine Is.acons ?_ | with_reducible refine Is.anil ?_ | with_reducible refine Is.c ?_ | with_reducible refine Is.var (by with_unfolding_all rfl) ?_ | with_reducible refine Is.call ?_ | with_reducible refine Is.bm ?_ | with_reducible refine Ist.seq ?_ | with_reducible refine Ist.set ?_ | with_reducible refine Ist.ret ?_ | with_reducible refine Ist.ite ?_ | with_reducible refine Ist.st ?_ | with_reducible refine Ist.nil ?_)
  refine mul_is (okMul_r (by decide) (by decide)) ?_
  repeat (first | with_reducible refine Is.o2 ?_ | with_reducible refine Is.o1 ?_ | with_reducible refine Is.oa ?_ | with_reducible refine Is.acons ?_ | with_reducible refine Is.anil ?_ | with_reducible refine Is.c ?_ | with_reducible refine Is.var (by with_unfolding_all rfl) ?_ | with_reducible refine Is.call ?_ | with_reducible refine Is.bm ?_ | with_reducible refine Ist.seq ?_ | with_reducible refine Ist.set ?_ | with_reducible refine Ist.ret ?_ | with_reducible refine Ist.ite ?_ | with_reducible refine Ist.st ?_ | with_reducible refine Ist.nil ?_)
  refine mul_is (okMul_l (by decide) (by decide)) ?_
  repeat (first | with_reducible refine Is.o2 ?_ | with_reducible refine Is.o1 ?_ | with_reducible refine Is.oa ?_ | with_reducible refine Is.acons ?_ | with_reducible refine Is.anil ?_ | with_reducible refine Is.c ?_ | with_reducible refine Is.var (by with_unfolding_all rfl) ?_ | with_reducible refine Is.call ?_ | with_reducible refine Is.bm ?_ | with_reducible refine Ist.seq ?_ | with_reducible refine Ist.set ?_ | with_reducible refine Ist.ret ?_ | with_reducible refine Ist.ite ?_ | with_reducible refine Ist.st ?_ | with_reducible refine Ist.nil ?_)
  refine mul_is (okMul_r c1 c2) ?_
  refine ⟨_, _, rfl, ?_⟩
  repeat (first | with_reducible refine Is.o2 ?_ | with_reducible refine Is.o1 ?_ | with_reducible refine Is.oa ?_ | with_reducible refine Is.acons ?_ | with_reducible refine Is.anil ?_ | with_reducible refine Is.c ?_ | with_reducible refine Is.var (by with_unfolding_all rfl) ?_ | with_reducible refine Is.call ?_ | with_reducible refine Is.bm ?_ | with_reducible refine Ist.seq ?_ | with_reducible refine Ist.set ?_ | with_reducible refine Ist.ret ?_ | with_reducible refine Ist.ite ?_ | with_reducible refine Ist.st ?_ | with_reducible refine Ist.nil ?_)
  refine ⟨_, _, rfl, ?_⟩
  repeat (first | with_reducible refine Is.o2 ?_ | with_reducible refine Is.o1 ?_ | with_reducible refine Is.oa ?_ | with_reducible refine Is.acons ?_ | with_reducible refine Is.anil ?_ | with_reducible refine Is.c ?_ | with_reducible refine Is.var (by with_unfolding_all rfl) ?_ | with_reducible refine Is.call ?_ | with_reducible refine Is.bm ?_ | with_reducible refine Ist.seq ?_ | with_reducible refine Ist.set ?_ | with_reducible refine Ist.ret ?_ | with_reducible refine Ist.ite ?_ | with_reducible refine Ist.st ?_ | with_reducible refine Ist.nil ?_)
  refine ⟨_, _, rfl, ?_⟩
  repeat (first | with_reducible refine Is.o2 ?_ | with_reducible refine Is.o1 ?_ | with_reducible refine Is.oa ?_ | with_reducible refine Is.acons ?_ | with_reducible refine Is.anil ?_ | with_reducible refine Is.c ?_ | with_reducible refine Is.var (by with_unfolding_all rfl) ?_ | with_reducible refine Is.call ?_ | with_reducible refine Is.bm ?_ | with_reducible refine Ist.seq ?_ | with_reducible refine Ist.set ?_ | with_reducible refine Ist.ret ?_ | with_reducible refine Ist.ite ?_ | with_reducible refine Ist.st ?_ | with_reducible refine Ist.nil ?_)
  refine ⟨_, _, rfl, ?_⟩
  repeat (first | with_reducible refine Is.o2 ?_ | with_reducible refine Is.o1 ?_ | with_reducible refine Is.oa ?_ | with_reducible refine Is.acons ?_ | with_reducible refine Is.anil ?_ | with_reducible refine Is.c ?_ | with_reducible refine Is.var (by with_unfolding_all rfl) ?_ | with_reducible refine Is.call ?_ | with_reducible refine Is.bm ?_ | with_reducible refine Ist.seq ?_ | with_reducible refine Ist.set ?_ | with_reducible refine Ist.ret ?_ | with_reducible refine Ist.ite ?_ | with_reducible refine Ist.st ?_ | with_reducible refine Ist.nil ?_)
  refine mod_is (by decide) ?_
  repeat (first | with_reducible refine Is.o2 ?_ | with_reducible refine Is.o1 ?_ | with_reducible refine Is.oa ?_ | with_reducible refine Is.acons ?_ | with_reducible refine Is.anil ?_ | with_reducible refine Is.c ?_ | with_reducible refine Is.var (by with_unfolding_all rfl) ?_ | with_reducible refine Is.call ?_ | with_reducible refine Is.bm ?_ | with_reducible refine Ist.seq ?_ | with_reducible refine Ist.set ?_ | with_reducible refine Ist.ret ?_ | with_reducible refine Ist.ite ?_ | with_reducible refine Ist.st ?_ | with_reducible refine Ist.nil ?_)
  refine mul_is (okMul_r ?_ ?_) ?_
  · omega
  · omega
  repeat (first | with_reducible refine Is.o2 ?_ | with_reducible refine Is.o1 ?_ | with_reducible refine Is.oa ?_ | with_reducible refine Is.acons ?_ | with_reducible refine Is.anil ?_ | with_reducible refine Is.c ?_ | with_reducible refine Is.var (by with_unfolding_all rfl) ?_ | with_reducible refine Is.call ?_ | with_reducible refine Is.bm ?_ | with_reducible refine Ist.seq ?_ | with_reducible refine Ist.set ?_ | with_reducible refine Ist.ret ?_ | with_reducible refine Ist.ite ?_ | with_reducible refine Ist.st ?_ | with_reducible refine Ist.nil ?_)
  refine ⟨_, _, rfl, ?_⟩
  repeat (first | with_reducible refine Is.o2 ?_ | with_reducible refine Is.o1 ?_ | with_reducible refine Is.oa ?_ | with_reducible refine Is.acons ?_ | with_reducible refine Is.anil ?_ | with_reducible refine Is.c ?_ | with_reducible refine Is.var (by with_unfolding_all rfl) ?_ | with_reducible refine Is.call ?_ | with_reducible refine Is.bm ?_ | with_reducible refine Ist.seq ?_ | with_reducible refine Ist.set ?_ | with_reducible refine Ist.ret ?_ | with_reducible refine Ist.ite ?_ | with_reducible refine Ist.st ?_ | with_reducible refine Ist.nil ?_)
  refine ⟨_, _, rfl, ?_⟩
  repeat (first | with_reducible refine Is.o2 ?_ | with_reducible refine Is.o1 ?_ | with_reducible refine Is.oa ?_ | with_reducible refine Is.acons ?_ | with_reducible refine Is.anil ?_ | with_reducible refine Is.c ?_ | with_reducible refine Is.var (by with_unfolding_all rfl) ?_ | with_reducible refine Is.call ?_ | with_reducible refine Is.bm ?_ | with_reducible refine Ist.seq ?_ | with_reducible refine Ist.set ?_ | with_reducible refine Ist.ret ?_ | with_reducible refine Ist.ite ?_ | with_reducible refine Ist.st ?_ | with_reducible refine Ist.nil ?_)
  refine mod_is (by decide) ?_
  repeat (first | with_reducible refine Is.o2 ?_ | with_reducible refine Is.o1 ?_ | with_reducible refine Is.oa ?_ | with_reducible refine Is.acons ?_ | with_reducible refine Is.anil ?_ | with_reducible refine Is.c ?_ | with_reducible refine Is.var (by with_unfolding_all rfl) ?_ | with_reducible refine Is.call ?_ | with_reducible refine Is.bm ?_ | with_reducible refine Ist.seq ?_ | with_reducible refine Ist.set ?_ | with_reducible refine Ist.ret ?_ | with_reducible refine Ist.ite ?_ | with_reducible refine Ist.st ?_ | with_reducible refine Ist.nil ?_)
  refine mul_is (okMul_r (by decide) (by decide)) ?_
  repeat (first | with_reducible refine Is.o2 ?_ | with_reducible refine Is.o1 ?_ | with_reducible refine Is.oa ?_ | with_reducible refine Is.acons ?_ | with_reducible refine Is.anil ?_ | with_reducible refine Is.c ?_ | with_reducible refine Is.var (by with_unfolding_all rfl) ?_ | with_reducible refine Is.call ?_ | with_reducible refine Is.bm ?_ | with_reducible refine Ist.seq ?_ | with_reducible refine Ist.set ?_ | with_reducible refine Ist.ret ?_ | with_reducible refine Ist.ite ?_ | with_reducible refine Ist.st ?_ | with_reducible refine Ist.nil ?_)
  refine ⟨_, _, rfl, ?_⟩
  repeat (first | with_reducible refine Is.o2 ?_ | with_reducible refine Is.o1 ?_ | with_reducible refine Is.oa ?_ | with_reducible refine Is.acons ?_ | with_reducible refine Is.anil ?_ | with_reducible refine Is.c ?_ | with_reducible refine Is.var (by with_unfolding_all rfl) ?_ | with_reducible refine Is.call ?_ | with_reducible refine Is.bm ?_ | with_reducible refine Ist.seq ?_ | with_reducible refine Ist.set ?_ | with_reducible refine Ist.ret ?_ | with_reducible refine Ist.ite ?_ | with_reducible refine Ist.st ?_ | with_reducible refine Ist.nil ?_)
  refine mod_is (by decide) ?_
  exact p _ (by omega) (by omega)
def cellM : SM := mSeq (mIfS (mB (mO2 opLt (mVar 1) (mOA (un1 opLen) (aCons (mVar 0) aNil)))) (mRet (mO2 opIx (mVar 0) (mVar 1))) mNil) (mRet (mC (.int 0)))
theorem cell_is {ns : List Int} {i : Nat} {h : SH} {P : SV → SH → Prop} (p : P (.int (ns.getD i 0)) h) : Is (mFn 2 2 cellM [.scr ns, .int i] h) P := by
  refine Is.fn rfl ?_
  unfold cellM
  repeat (first | with_reducible refine Is.o2 ?_ | with_reducible refine Is.o1 ?_ | with_reducible refine Is.oa ?_ | with_reducible refine Is.acons ?_ | with_reducible refine Is.anil ?_ | with_reducible refine Is.c ?_ | with_reducible refine Is.var (by with_unfolding_all rfl) ?_ | with_reducible refine Is.call ?_ | with_reducible refine Is.bm ?_ | with_reducible refine Ist.seq ?_ | with_reducible refine Ist.set ?_ | with_reducible refine Ist.ret ?_ | with_reducible refine Ist.ite ?_ | with_reducible refine Ist.st ?_ | with_reducible refine Ist.nil ?_)
  refine ⟨_, _, rfl, ?_⟩
  refine ⟨_, _, rfl, ?_⟩
  refine ⟨_, rfl, ?_⟩
  by_cases hl : i < ns.length
  · rw [if_pos (by simpa using (by omega : (i : Int) < (ns.length : Int)))]
    repeat (first | with_reducible refine Is.o2 ?_ | with_reducible refine Is.o1 ?_ | with_reducible refine Is.oa ?_ | with_reducible refine Is.acons ?_ | with_reducible refine Is.anil ?_ | with_reducible refine Is.c ?_ | with_reducible refine Is.var (by with_unfolding_all rfl) ?_ | with_reducible refine Is.call ?_ | with_reducible refine Is.bm ?_ | with_reducible refine Ist.seq ?_ | with_reducible refine Ist.set ?_ | with_reducible refine Ist.ret ?_ | with_reducible refine Ist.ite ?_ | with_reducible refine Ist.st ?_ | with_reducible refine Ist.nil ?_)
    refine ⟨.int ns[i], h, ?_, ?_⟩
    · show (match L2.atI ns (i : Int) with | some n => some (SV.int n, h) | none => none) = _
      have e : L2.atI ns (i : Int) = some ns[i] := by
        unfold L2.atI L2.ixN
        first
          | (rw [if_pos (by omega), if_pos (by omega)]; simp [hl])
          | (simp [hl])
      rw [e]
    · rw [List.getD_eq_getElem?_getD, List.getElem?_eq_getElem hl] at p
      exact p
  · rw [if_neg (by simpa using (by omega : (ns.length : Int) ≤ (i : Int)))]
    repeat (first | with_reducible refine Is.o2 ?_ | with_reducible refine Is.o1 ?_ | with_reducible refine Is.oa ?_ | with_reducible refine Is.acons ?_ | with_reducible refine Is.anil ?_ | with_reducible refine Is.c ?_ | with_reducible refine Is.var (by with_unfolding_all rfl) ?_ | with_reducible refine Is.call ?_ | with_reducible refine Is.bm ?_ | with_reducible refine Ist.seq ?_ | with_reducible refine Ist.set ?_ | with_reducible refine Ist.ret ?_ | with_reducible refine Ist.ite ?_ | with_reducible refine Ist.st ?_ | with_reducible refine Ist.nil ?_)
    rw [List.getD_eq_getElem?_getD, List.getElem?_eq_none (by omega)] at p
    exact p
end Fw
namespace Fw
open PySem PySem.Spec L2
theorem ix_is {g : Nat} {xs : List SV} {k : Int} {x : SV} {h : SH} {P : SV → SH → Prop} (e : h[g]? = some (.lst xs)) (ex : L2.atI xs k = some x) (p : P x h) : ∃ v h3, opIx (.ref g) (.int k) h = some (v, h3) ∧ P v h3 := by
  refine ⟨x, h, ?_, p⟩
  unfold opIx
  simp only [e, ex]
theorem st_is {g : Nat} {xs : List SV} {k : Int} {j : Nat} {v : SV} {h : SH} {Q : SH → Prop} (e : h[g]? = some (.lst xs)) (ej : L2.ixN xs.length k = some j) (p : Q (h.set g (.lst (xs.set j v)))) : ∃ h4, opSt (.ref g) (.int k) v h = some h4 ∧ Q h4 := by
  refine ⟨_, ?_, p⟩
  unfold opSt
  simp only [e, ej]
theorem pow_is {i j : Int} {h : SH} {P : SV → SH → Prop} (k : 0 ≤ j ∧ (Builtin.Int.intBits i : Int) * j ≤ 134217728) (p : P (.int (i ^ j.toNat)) h) : ∃ v h3, opPow (.int i) (.int j) h = some (v, h3) ∧ P v h3 := ⟨_, _, by show (if 0 ≤ j ∧ (Builtin.Int.intBits i : Int) * j ≤ 134217728 then _ else _) = _; rw [if_pos k], p⟩
theorem lst_is {xs : List SV} {h : SH} {P : SV → SH → Prop} (k : xs.length ≤ big) (p : P (.ref h.length) (h ++ [.lst xs])) : ∃ v h3, opLst xs h = some (v, h3) ∧ P v h3 := ⟨_, _, by unfold opLst; rw [if_pos k]; rfl, p⟩
def genM : SM := mSeq (mSet 2 (mCall (mFn 2 2 cellM) (aCons (mVar 0) (aCons (mVar 1) aNil)))) (mRet (mOA opLst (aCons (mO2 opMod (mOA (un1 opInt) (aCons (mOA (bin2 opMax) (aCons (mO2 opSub (mVar 2) (mO2 opPow (mC (.int 10)) (mC (.int 18)))) (aCons (mC (.int 0)) aNil))) aNil)) (mO2 opPow (mO2 opPow (mC (.int 10)) (mC (.int 60))) (mC (.int 10))))
  (aCons (mO2 opMod (mOA (un1 opInt) (aCons (mVar 2) aNil)) (mC (.int 2147483647))) (aCons (mO2 opMul (mC (.int 1000)) (mVar 1)) aNil)))))
theorem gen_is {ns : List Int} {i : Nat} {h : SH} {P : SV → SH → Prop} (p : ∀ a b : Int, 0 ≤ a → 0 ≤ b → b < 2147483647 → P (.ref h.length) (h ++ [.lst [.int a, .int b, .int (1000 * (i : Int))]])) : Is (mFn 2 3 genM [.scr ns, .int i] h) P := by
  refine Is.fn rfl ?_
  unfold genM
  repeat (first | with_reducible refine Is.o2 ?_ | with_reducible refine Is.o1 ?_ | with_reducible refine Is.oa ?_ | with_reducible refine Is.acons ?_ | with_reducible refine Is.anil ?_ | with_reducible refine Is.c ?_ | with_reducible refine Is.var (by with_unfolding_all rfl) ?_ | with_reducible refine Is.call ?_ | with_reducible refine Is.bm ?_ | with_reducible refine Ist.seq ?_ | with_reducible refine Ist.set ?_ | with_reducible refine Ist.ret ?_ | with_reducible refine Ist.ite ?_ | with_reducible refine Ist.st ?_ | with_reducible refine Ist.nil ?_)
  refine cell_is ?_
  repeat (first | with_reducible refine Is.o2 ?_ | with_reducible refine Is.o1 ?_ | with_reducible refine Is.oa ?_ | with_reducible refine Is.acons ?_ | with_reducible refine Is.anil ?_ | with_reducible refine Is.c ?_ | with_reducible refine Is.var (by with_unfolding_all rfl) ?_ | with_reducible refine Is.call ?_ | with_reducible refine Is.bm ?_ | with_reducible refine Ist.seq ?_ | with_reducible refine Ist.set ?_ | with_reducible refine Ist.ret ?_ | with_reducible refine Ist.ite ?_ | with_reducible refine Ist.st ?_ | with_reducible refine Ist.nil ?_)
  refine pow_is (by decide +kernel) ?_
  refine ⟨_, _, rfl, ?_⟩
  repeat (first | with_reducible refine Is.o2 ?_ | with_reducible refine Is.o1 ?_ | with_reducible refine Is.oa ?_ | with_reducible refine Is.acons ?_ | with_reducible refine Is.anil ?_ | with_reducible refine Is.c ?_ | with_reducible refine Is.var (by with_unfolding_all rfl) ?_ | with_reducible refine Is.call ?_ | with_reducible refine Is.bm ?_ | with_reducible refine Ist.seq ?_ | with_reducible refine Ist.set ?_ | with_reducible refine Ist.ret ?_ | with_reducible refine Ist.ite ?_ | with_reducible refine Ist.st ?_ | with_reducible refine Ist.nil ?_)
  refine ⟨_, _, rfl, ?_⟩
  repeat (first | with_reducible refine Is.o2 ?_ | with_reducible refine Is.o1 ?_ | with_reducible refine Is.oa ?_ | with_reducible refine Is.acons ?_ | with_reducible refine Is.anil ?_ | with_reducible refine Is.c ?_ | with_reducible refine Is.var (by with_unfolding_all rfl) ?_ | with_reducible refine Is.call ?_ | with_reducible refine Is.bm ?_ | with_reducible refine Ist.seq ?_ | with_reducible refine Ist.set ?_ | with_reducible refine Ist.ret ?_ | with_reducible refine Ist.ite ?_ | with_reducible refine Ist.st ?_ | with_reducible refine Ist.nil ?_)
  refine ⟨_, _, rfl, ?_⟩
  repeat (first | with_reducible refine Is.o2 ?_ | with_reducible refine Is.o1 ?_ | with_reducible refine Is.oa ?_ | with_reducible refine Is.acons ?_ | with_reducible refine Is.anil ?_ | with_reducible refine Is.c ?_ | with_reducible refine Is.var (by with_unfolding_all rfl) ?_ | with_reducible refine Is.call ?_ | with_reducible refine Is.bm ?_ | with_reducible refine Ist.seq ?_ | with_reducible refine Ist.set ?_ | with_reducible refine Ist.ret ?_ | with_reducible refine Ist.ite ?_ | with_reducible refine Ist.st ?_ | with_reducible refine Ist.nil ?_)
  refine pow_is (by decide +kernel) ?_
  repeat (first | with_reducible refine Is.o2 ?_ | with_reducible refine Is.o1 ?_ | with_reducible refine Is.oa ?_ | with_reducible refine Is.acons ?_ | with_reducible refine Is.anil ?_ | with_reducible refine Is.c ?_ | with_reducible refine Is.var (by with_unfolding_all rfl) ?_ | with_reducible refine Is.call ?_ | with_reducible refine Is.bm ?_ | with_reducible refine Ist.seq ?_ | with_reducible refine Ist.set ?_ | with_reducible refine Ist.ret ?_ | with_reducible refine Ist.ite ?_ | with_reducible refine Ist.st ?_ | with_reducible refine Ist.nil ?_)
  refine pow_is (by decide +kernel) ?_
  refine mod_is (by decide +kernel) ?_
  repeat (first | with_reducible refine Is.o2 ?_ | with_reducible refine Is.o1 ?_ | with_reducible refine Is.oa ?_ | with_reducible refine Is.acons ?_ | with_reducible refine Is.anil ?_ | with_reducible refine Is.c ?_ | with_reducible refine Is.var (by with_unfolding_all rfl) ?_ | with_reducible refine Is.call ?_ | with_reducible refine Is.bm ?_ | with_reducible refine Ist.seq ?_ | with_reducible refine Ist.set ?_ | with_reducible refine Ist.ret ?_ | with_reducible refine Ist.ite ?_ | with_reducible refine Ist.st ?_ | with_reducible refine Ist.nil ?_)
  refine ⟨_, _, rfl, ?_⟩
  repeat (first | with_reducible refine Is.o2 ?_ | with_reducible refine Is.o1 ?_ | with_reducible refine Is.oa ?_ | with_reducible refine Is.acons ?_ | with_reducible refine Is.anil ?_ | with_reducible refine Is.c ?_ | with_reducible refine Is.var (by with_unfolding_all rfl) ?_ | with_reducible refine Is.call ?_ | with_reducible refine Is.bm ?_ | with_reducible refine Ist.seq ?_ | with_reducible refine Ist.set ?_ | with_reducible refine Ist.ret ?_ | with_reducible refine Ist.ite ?_ | with_reducible refine Ist.st ?_ | with_reducible refine Ist.nil ?_)
  refine mod_is (by decide) ?_
  repeat (first | with_reducible refine Is.o2 ?_ | with_reducible refine Is.o1 ?_ | with_reducible refine Is.oa ?_ | with_reducible refine Is.acons ?_ | with_reducible refine Is.anil ?_ | with_reducible refine Is.c ?_ | with_reducible refine Is.var (by with_unfolding_all rfl) ?_ | with_reducible refine Is.call ?_ | with_reducible refine Is.bm ?_ | with_reducible refine Ist.seq ?_ | with_reducible refine Ist.set ?_ | with_reducible refine Ist.ret ?_ | with_reducible refine Ist.ite ?_ | with_reducible refine Ist.st ?_ | with_reducible refine Ist.nil ?_)
  refine mul_is (okMul_l (by decide) (by decide)) ?_
  repeat (first | with_reducible refine Is.o2 ?_ | with_reducible refine Is.o1 ?_ | with_reducible refine Is.oa ?_ | with_reducible refine Is.acons ?_ | with_reducible refine Is.anil ?_ | with_reducible refine Is.c ?_ | with_reducible refine Is.var (by with_unfolding_all rfl) ?_ | with_reducible refine Is.call ?_ | with_reducible refine Is.bm ?_ | with_reducible refine Ist.seq ?_ | with_reducible refine Ist.set ?_ | with_reducible refine Ist.ret ?_ | with_reducible refine Ist.ite ?_ | with_reducible refine Ist.st ?_ | with_reducible refine Ist.nil ?_)
  refine lst_is (by show 3 ≤ 16777216; decide) ?_
  refine p _ _ ?_ (by omega) (by omega)
  exact Int.emod_nonneg _ (by decide +kernel)
def randM : SM := mSeq (mIfS (mB (mO2 opGt (mO2 opIx (mVar 0) (mC (.int 0))) (mC (.int 0)))) (mSeq (mSet 2 (mO2 opMod (mOA (un1 opInt) (aCons (mO2 opIx (mVar 0) (mC (.int 0))) aNil)) (mVar 1))) (mSeq (mSt (mO2 opFdiv (mO2 opIx (mVar 0) (mC (.int 0))) (mVar 1)) (mVar 0) (mC (.int 0))) (mRet (mVar 2)))) mNil)
  (mSeq (mSet 2 (mC (.int 0))) (mSeq (mFor (mRng1 (aCons (mO2 opAdd (mC (.int 1)) (mO2 opFdiv (mO1 opBits (mVar 1)) (mC (.int 30)))) aNil)) (gVar 3) (mSeq (mSt (mO2 opAdd (mO2 opIx (mVar 0) (mC (.int 2))) (mC (.int 1))) (mVar 0) (mC (.int 2)))
    (mSet 2 (mO2 opAdd (mO2 opMul (mVar 2) (mC (.int 2147483587))) (mCall (mFn 2 3 hashM) (aCons (mO2 opIx (mVar 0) (mC (.int 1))) (aCons (mO2 opIx (mVar 0) (mC (.int 2))) aNil))))))) (mRet (mO2 opMod (mOA (un1 opInt) (aCons (mVar 2) aNil)) (mVar 1)))))
/-- a number drawn: 0 ≤ r < n; the generator's list stays where it is, its counter grows by a few -/
theorem rand_is {g : Nat} {a b c n : Int} {h : SH} {P : SV → SH → Prop} (hg : h[g]? = some (.lst [.int a, .int b, .int c])) (hn : 0 < n) (hl : n.natAbs.log2 < 9000) (hbits : Builtin.Int.intBits n < 100000) (ha : 0 ≤ a) (hc0 : 0 ≤ c) (hc : c < 1152921504606846976)
    (p : ∀ r a' c' : Int, 0 ≤ r → r < n → 0 ≤ a' → c ≤ c' → c' ≤ c + 4000 → P (.int r) (h.set g (.lst [.int a', .int b, .int c']))) : Is (mFn 2 4 randM [.ref g, .int n] h) P := by
  refine Is.fn rfl ?_
  unfold randM
  repeat (first | with_reducible refine Is.o2 ?_ | with_reducible refine Is.o1 ?_ | with_reducible refine Is.oa ?_ | with_reducible refine Is.acons ?_ | with_reducible refine Is.anil ?_ | with_reducible refine Is.c ?_ | with_reducible refine Is.var (by with_unfolding_all rfl) ?_ | with_reducible refine Is.call ?_ | with_reducible refine Is.bm ?_ | with_reducible refine Ist.seq ?_ | with_reducible refine Ist.set ?_ | with_reducible refine Ist.ret ?_ | with_reducible refine Ist.ite ?_ | with_reducible refine Ist.st ?_ | with_reducible refine Ist.nil ?_)
  refine ix_is hg rfl ?_
  repeat (first | with_reducible refine Is.o2 ?_ | with_reducible refine Is.o1 ?_ | with_reducible refine Is.oa ?_ | with_reducible refine Is.acons ?_ | with_reducible refine Is.anil ?_ | with_reducible refine Is.c ?_ | with_reducible refine Is.var (by with_unfolding_all rfl) ?_ | with_reducible refine Is.call ?_ | with_reducible refine Is.bm ?_ | with_reducible refine Ist.seq ?_ | with_reducible refine Ist.set ?_ | with_reducible refine Ist.ret ?_ | with_reducible refine Ist.ite ?_ | with_reducible refine Ist.st ?_ | with_reducible refine Ist.nil ?_)
  refine ⟨_, _, rfl, ?_⟩
  refine ⟨_, rfl, ?_⟩
  by_cases h0 : 0 < a
  · rw [if_pos (decide_eq_true h0)]
    repeat (first | with_reducible refine Is.o2 ?_ | with_reducible refine Is.o1 ?_ | with_reducible refine Is.oa ?_ | with_reducible refine Is.acons ?_ | with_reducible refine Is.anil ?_ | with_reducible refine Is.c ?_ | with_reducible refine Is.var (by with_unfolding_all rfl) ?_ | with_reducible refine Is.call ?_ | with_reducible refine Is.bm ?_ | with_reducible refine Ist.seq ?_ | with_reducible refine Ist.set ?_ | with_reducible refine Ist.ret ?_ | with_reducible refine Ist.ite ?_ | with_reducible refine Ist.st ?_ | with_reducible refine Ist.nil ?_)
    refine ix_is hg rfl ?_
    repeat (first | with_reducible refine Is.o2 ?_ | with_reducible refine Is.o1 ?_ | with_reducible refine Is.oa ?_ | with_reducible refine Is.acons ?_ | with_reducible refine Is.anil ?_ | with_reducible refine Is.c ?_ | with_reducible refine Is.var (by with_unfolding_all rfl) ?_ | with_reducible refine Is.call ?_ | with_reducible refine Is.bm ?_ | with_reducible refine Ist.seq ?_ | with_reducible refine Ist.set ?_ | with_reducible refine Ist.ret ?_ | with_reducible refine Ist.ite ?_ | with_reducible refine Ist.st ?_ | with_reducible refine Ist.nil ?_)
    refine ⟨_, _, rfl, ?_⟩
    repeat (first | with_reducible refine Is.o2 ?_ | with_reducible refine Is.o1 ?_ | with_reducible refine Is.oa ?_ | with_reducible refine Is.acons ?_ | with_reducible refine Is.anil ?_ | with_reducible refine Is.c ?_ | with_reducible refine Is.var (by with_unfolding_all rfl) ?_ | with_reducible refine Is.call ?_ | with_reducible refine Is.bm ?_ | with_reducible refine Ist.seq ?_ | with_reducible refine Ist.set ?_ | with_reducible refine Ist.ret ?_ | with_reducible refine Ist.ite ?_ | with_reducible refine Ist.st ?_ | with_reducible refine Ist.nil ?_)
    refine mod_is hn ?_
    repeat (first | with_reducible refine Is.o2 ?_ | with_reducible refine Is.o1 ?_ | with_reducible refine Is.oa ?_ | with_reducible refine Is.acons ?_ | with_reducible refine Is.anil ?_ | with_reducible refine Is.c ?_ | with_reducible refine Is.var (by with_unfolding_all rfl) ?_ | with_reducible refine Is.call ?_ | with_reducible refine Is.bm ?_ | with_reducible refine Ist.seq ?_ | with_reducible refine Ist.set ?_ | with_reducible refine Ist.ret ?_ | with_reducible refine Ist.ite ?_ | with_reducible refine Ist.st ?_ | with_reducible refine Ist.nil ?_)
    refine ix_is hg rfl ?_
    repeat (first | with_reducible refine Is.o2 ?_ | with_reducible refine Is.o1 ?_ | with_reducible refine Is.oa ?_ | with_reducible refine Is.acons ?_ | with_reducible refine Is.anil ?_ | with_reducible refine Is.c ?_ | with_reducible refine Is.var (by with_unfolding_all rfl) ?_ | with_reducible refine Is.call ?_ | with_reducible refine Is.bm ?_ | with_reducible refine Ist.seq ?_ | with_reducible refine Ist.set ?_ | with_reducible refine Ist.ret ?_ | with_reducible refine Ist.ite ?_ | with_reducible refine Ist.st ?_ | with_reducible refine Ist.nil ?_)
    refine fdiv_is ⟨hn, hl⟩ ?_
    repeat (first | with_reducible refine Is.o2 ?_ | with_reducible refine Is.o1 ?_ | with_reducible refine Is.oa ?_ | with_reducible refine Is.acons ?_ | with_reducible refine Is.anil ?_ | with_reducible refine Is.c ?_ | with_reducible refine Is.var (by with_unfolding_all rfl) ?_ | with_reducible refine Is.call ?_ | with_reducible refine Is.bm ?_ | with_reducible refine Ist.seq ?_ | with_reducible refine Ist.set ?_ | with_reducible refine Ist.ret ?_ | with_reducible refine Ist.ite ?_ | with_reducible refine Ist.st ?_ | with_reducible refine Ist.nil ?_)
    refine st_is hg (j := 0) rfl ?_
    repeat (first | with_reducible refine Is.o2 ?_ | with_reducible refine Is.o1 ?_ | with_reducible refine Is.oa ?_ | with_reducible refine Is.acons ?_ | with_reducible refine Is.anil ?_ | with_reducible refine Is.c ?_ | with_reducible refine Is.var (by with_unfolding_all rfl) ?_ | with_reducible refine Is.call ?_ | with_reducible refine Is.bm ?_ | with_reducible refine Ist.seq ?_ | with_reducible refine Ist.set ?_ | with_reducible refine Ist.ret ?_ | with_reducible refine Ist.ite ?_ | with_reducible refine Ist.st ?_ | with_reducible refine Ist.nil ?_)
    exact p _ _ _ (Int.emod_nonneg _ (by omega)) (Int.emod_lt_of_pos _ hn) (Int.ediv_nonneg ha (by omega)) (Int.le_refl _) (by omega)
  · rw [if_neg (by simpa using h0)]
    repeat (first | with_reducible refine Is.o2 ?_ | with_reducible refine Is.o1 ?_ | with_reducible refine Is.oa ?_ | with_reducible refine Is.acons ?_ | with_reducible refine Is.anil ?_ | with_reducible refine Is.c ?_ | with_reducible refine Is.var (by with_unfolding_all rfl) ?_ | with_reducible refine Is.call ?_ | with_reducible refine Is.bm ?_ | with_reducible refine Ist.seq ?_ | with_reducible refine Ist.set ?_ | with_reducible refine Ist.ret ?_ | with_reducible refine Ist.ite ?_ | with_reducible refine Ist.st ?_ | with_reducible refine Ist.nil ?_)
    with_reducible refine Ist.for ?_
    with_reducible refine Is.rng1 ?_
    refine Is.acons (Is.o2 (Is.c (Is.o2 (Is.o1 (Is.var rfl ?_)))))
    refine ⟨.int (Builtin.Int.intBits n : Nat), _, rfl, ?_⟩
    refine Is.c ?_
    refine fdiv_is (by decide) ?_
    refine ⟨.int (1 + (Builtin.Int.intBits n : Int) / 30), _, rfl, ?_⟩
    refine Is.anil ?_
    have hb : (1 + (Builtin.Int.intBits n : Int) / 30) < 4000 := by omega
    have hb0 : 0 ≤ (1 + (Builtin.Int.intBits n : Int) / 30) := by omega
    refine ⟨_, rfl, decide_eq_true (by omega), (1 + (Builtin.Int.intBits n : Int) / 30).toNat, fun k ss hh => ∃ (d : Int) (v : Option SV), ss = [some (.ref g), some (.int n), some (.int d), v] ∧ hh = h.set g (.lst [.int a, .int b, .int (c + (k : Int))]), by unfold many; omega, ⟨0, none, rfl, ?_⟩, ?_, ?_⟩
    · rw [show c + ((0 : Nat) : Int) = c from by omega]
      apply List.ext_getElem?
      intro j
      by_cases hj : g = j
      · subst hj; rw [set_at hg, hg]
      · rw [set_ne hj]
    · rintro k _ _ hk ⟨d, v, rfl, rfl⟩
      refine ⟨_, _, _, wkRng_at hk, rfl, ?_⟩
      have e1 := set_at (o := .lst [.int a, .int b, .int (c + (k : Int))]) hg
      refine Ist.seq (Ist.st ?_)
      repeat (first | with_reducible refine Is.o2 ?_ | with_reducible refine Is.o1 ?_ | with_reducible refine Is.oa ?_ | with_reducible refine Is.acons ?_ | with_reducible refine Is.anil ?_ | with_reducible refine Is.c ?_ | with_reducible refine Is.var (by with_unfolding_all rfl) ?_ | with_reducible refine Is.call ?_ | with_reducible refine Is.bm ?_ | with_reducible refine Ist.seq ?_ | with_reducible refine Ist.set ?_ | with_reducible refine Ist.ret ?_ | with_reducible refine Ist.ite ?_ | with_reducible refine Ist.st ?_ | with_reducible refine Ist.nil ?_)
      refine ix_is e1 rfl ?_
      repeat (first | with_reducible refine Is.o2 ?_ | with_reducible refine Is.o1 ?_ | with_reducible refine Is.oa ?_ | with_reducible refine Is.acons ?_ | with_reducible refine Is.anil ?_ | with_reducible refine Is.c ?_ | with_reducible refine Is.var (by with_unfolding_all rfl) ?_ | with_reducible refine Is.call ?_ | with_reducible refine Is.bm ?_ | with_reducible refine Ist.seq ?_ | with_reducible refine Ist.set ?_ | with_reducible refine Ist.ret ?_ | with_reducible refine Ist.ite ?_ | with_reducible refine Ist.st ?_ | with_reducible refine Ist.nil ?_)
      refine ⟨_, _, rfl, ?_⟩
      repeat (first | with_reducible refine Is.o2 ?_ | with_reducible refine Is.o1 ?_ | with_reducible refine Is.oa ?_ | with_reducible refine Is.acons ?_ | with_reducible refine Is.anil ?_ | with_reducible refine Is.c ?_ | with_reducible refine Is.var (by with_unfolding_all rfl) ?_ | with_reducible refine Is.call ?_ | with_reducible refine Is.bm ?_ | with_reducible refine Ist.seq ?_ | with_reducible refine Ist.set ?_ | with_reducible refine Ist.ret ?_ | with_reducible refine Ist.ite ?_ | with_reducible refine Ist.st ?_ | with_reducible refine Ist.nil ?_)
      refine st_is e1 (j := 2) rfl ?_
      have e2 := set_at (o := .lst (([.int a, .int b, .int (c + (k : Int))] : List SV).set 2 (.int (c + (k : Int) + 1)))) e1
      refine Ist.set ?_
      repeat (first | with_reducible refine Is.o2 ?_ | with_reducible refine Is.o1 ?_ | with_reducible refine Is.oa ?_ | with_reducible refine Is.acons ?_ | with_reducible refine Is.anil ?_ | with_reducible refine Is.c ?_ | with_reducible refine Is.var (by with_unfolding_all rfl) ?_ | with_reducible refine Is.call ?_ | with_reducible refine Is.bm ?_ | with_reducible refine Ist.seq ?_ | with_reducible refine Ist.set ?_ | with_reducible refine Ist.ret ?_ | with_reducible refine Ist.ite ?_ | with_reducible refine Ist.st ?_ | with_reducible refine Ist.nil ?_)
      refine mul_is (okMul_r (by decide) (by decide)) ?_
      repeat (first | with_reducible refine Is.o2 ?_ | with_reducible refine Is.o1 ?_ | with_reducible refine Is.oa ?_ | with_reducible refine Is.acons ?_ | with_reducible refine Is.anil ?_ | with_reducible refine Is.c ?_ | with_reducible refine Is.var (by with_unfolding_all rfl) ?_ | with_reducible refine Is.call ?_ | with_reducible refine Is.bm ?_ | with_reducible refine Ist.seq ?_ | with_reducible refine Ist.set ?_ | with_reducible refine Ist.ret ?_ | with_reducible refine Ist.ite ?_ | with_reducible refine Ist.st ?_ | with_reducible refine Ist.nil ?_)
      refine ix_is e2 rfl ?_
      repeat (first | with_reducible refine Is.o2 ?_ | with_reducible refine Is.o1 ?_ | with_reducible refine Is.oa ?_ | with_reducible refine Is.acons ?_ | with_reducible refine Is.anil ?_ | with_reducible refine Is.c ?_ | with_reducible refine Is.var (by with_unfolding_all rfl) ?_ | with_reducible refine Is.call ?_ | with_reducible refine Is.bm ?_ | with_reducible refine Ist.seq ?_ | with_reducible refine Ist.set ?_ | with_reducible refine Ist.ret ?_ | with_reducible refine Ist.ite ?_ | with_reducible refine Ist.st ?_ | with_reducible refine Ist.nil ?_)
      refine ix_is e2 rfl ?_
      repeat (first | with_reducible refine Is.o2 ?_ | with_reducible refine Is.o1 ?_ | with_reducible refine Is.oa ?_ | with_reducible refine Is.acons ?_ | with_reducible refine Is.anil ?_ | with_reducible refine Is.c ?_ | with_reducible refine Is.var (by with_unfolding_all rfl) ?_ | with_reducible refine Is.call ?_ | with_reducible refine Is.bm ?_ | with_reducible refine Ist.seq ?_ | with_reducible refine Ist.set ?_ | with_reducible refine Ist.ret ?_ | with_reducible refine Ist.ite ?_ | with_reducible refine Ist.st ?_ | with_reducible refine Ist.nil ?_)
      refine hash_is (by omega) (by omega) fun r r0 r1 => ?_
      refine ⟨_, _, rfl, ?_⟩
      refine ⟨_, _, rfl, ?_⟩
      rw [List.set_set]
      show h.set g (.lst [.int a, .int b, .int (c + (k : Int) + 1)]) = _
      rw [show c + (k : Int) + 1 = c + ((k + 1 : Nat) : Int) from by omega]
    · rintro _ _ ⟨d, v, rfl, rfl⟩
      refine ⟨wkRng_end, ?_⟩
      repeat (first | with_reducible refine Is.o2 ?_ | with_reducible refine Is.o1 ?_ | with_reducible refine Is.oa ?_ | with_reducible refine Is.acons ?_ | with_reducible refine Is.anil ?_ | with_reducible refine Is.c ?_ | with_reducible refine Is.var (by with_unfolding_all rfl) ?_ | with_reducible refine Is.call ?_ | with_reducible refine Is.bm ?_ | with_reducible refine Ist.seq ?_ | with_reducible refine Ist.set ?_ | with_reducible refine Ist.ret ?_ | with_reducible refine Ist.ite ?_ | with_reducible refine Ist.st ?_ | with_reducible refine Ist.nil ?_)
      refine ⟨_, _, rfl, ?_⟩
      repeat (first | with_reducible refine Is.o2 ?_ | with_reducible refine Is.o1 ?_ | with_reducible refine Is.oa ?_ | with_reducible refine Is.acons ?_ | with_reducible refine Is.anil ?_ | with_reducible refine Is.c ?_ | with_reducible refine Is.var (by with_unfolding_all rfl) ?_ | with_reducible refine Is.call ?_ | with_reducible refine Is.bm ?_ | with_reducible refine Ist.seq ?_ | with_reducible refine Ist.set ?_ | with_reducible refine Ist.ret ?_ | with_reducible refine Ist.ite ?_ | with_reducible refine Ist.st ?_ | with_reducible refine Ist.nil ?_)
      refine mod_is hn ?_
      exact p _ _ _ (Int.emod_nonneg _ (by omega)) (Int.emod_lt_of_pos _ hn) ha (by omega) (by omega)
end Fw
namespace Gn
open PySem PySem.Spec PyProof.Rows L2 Fw
def top (i : Nat) : Stmt := PySem.Challenge.pw_floorwalks_k01_errors.main.body.getD i (.Pass ⟨0, 0, 0, 0⟩)
def is_InvalidItem : Tag → Option Bool
  | .exo 0 => some false
  | .exo 1 => some false
  | .exo 2 => some false
  | .exo 3 => some true
  | .exo 4 => some false
  | .exo 5 => some false
  | .exo 6 => some false
  | .exo 7 => some false
  | .exo 8 => some false
  | .exo 9 => some false
  | .exo 10 => some false
  | _ => none
def is_InvalidList : Tag → Option Bool
  | .exo 0 => some false
  | .exo 1 => some false
  | .exo 2 => some true
  | .exo 3 => some false
  | .exo 4 => some false
  | .exo 5 => some false
  | .exo 6 => some false
  | .exo 7 => some false
  | .exo 8 => some false
  | .exo 9 => some false
  | .exo 10 => some false
  | _ => none
def is_InvalidName : Tag → Option Bool
  | .exo 0 => some false
  | .exo 1 => some false
  | .exo 2 => some false
  | .exo 3 => some false
  | .exo 4 => some false
  | .exo 5 => some false
  | .exo 6 => some false
  | .exo 7 => some true
  | .exo 8 => some false
  | .exo 9 => some false
  | .exo 10 => some false
  | _ => none
def is_InvalidNumber : Tag → Option Bool
  | .exo 0 => some false
  | .exo 1 => some true
  | .exo 2 => some false
  | .exo 3 => some false
  | .exo 4 => some false
  | .exo 5 => some false
  | .exo 6 => some false
  | .exo 7 => some false
  | .exo 8 => some false
  | .exo 9 => some false
  | .exo 10 => some false
  | _ => none
def is_InvalidProgram : Tag → Option Bool
  | .exo 0 => some false
  | .exo 1 => some false
  | .exo 2 => some false
  | .exo 3 => some false
  | .exo 4 => some true
  | .exo 5 => some false
  | .exo 6 => some false
  | .exo 7 => some false
  | .exo 8 => some false
  | .exo 9 => some false
  | .exo 10 => some false
  | _ => none
def is_InvalidRow : Tag → Option Bool
  | .exo 0 => some false
  | .exo 1 => some false
  | .exo 2 => some false
  | .exo 3 => some false
  | .exo 4 => some false
  | .exo 5 => some true
  | .exo 6 => some false
  | .exo 7 => some false
  | .exo 8 => some false
  | .exo 9 => some false
  | .exo 10 => some false
  | _ => none
def is_InvalidText : Tag → Option Bool
  | .exo 0 => some false
  | .exo 1 => some false
  | .exo 2 => some false
  | .exo 3 => some false
  | .exo 4 => some false
  | .exo 5 => some false
  | .exo 6 => some true
  | .exo 7 => some false
  | .exo 8 => some false
  | .exo 9 => some false
  | .exo 10 => some false
  | _ => none
def is_NothingToUndo : Tag → Option Bool
  | .exo 0 => some false
  | .exo 1 => some false
  | .exo 2 => some false
  | .exo 3 => some false
  | .exo 4 => some false
  | .exo 5 => some false
  | .exo 6 => some false
  | .exo 7 => some false
  | .exo 8 => some false
  | .exo 9 => some false
  | .exo 10 => some true
  | _ => none
def is_TakenName : Tag → Option Bool
  | .exo 0 => some false
  | .exo 1 => some false
  | .exo 2 => some false
  | .exo 3 => some false
  | .exo 4 => some false
  | .exo 5 => some false
  | .exo 6 => some false
  | .exo 7 => some false
  | .exo 8 => some true
  | .exo 9 => some false
  | .exo 10 => some false
  | _ => none
def is_UnknownName : Tag → Option Bool
  | .exo 0 => some false
  | .exo 1 => some false
  | .exo 2 => some false
  | .exo 3 => some false
  | .exo 4 => some false
  | .exo 5 => some false
  | .exo 6 => some false
  | .exo 7 => some false
  | .exo 8 => some false
  | .exo 9 => some true
  | .exo 10 => some false
  | _ => none
def is_ValueError : Tag → Option Bool
  | .non => some false
  | .bl => some false
  | .int => some false
  | .str => some false
  | .lst => some false
  | .tup => some false
  | .dct => some false
  | .exo 0 => some true
  | .exo 1 => some true
  | .exo 2 => some true
  | .exo 3 => some true
  | .exo 4 => some true
  | .exo 5 => some true
  | .exo 6 => some true
  | .exo 7 => some true
  | .exo 8 => some true
  | .exo 9 => some true
  | .exo 10 => some true
  | _ => none
def is_WalkError : Tag → Option Bool
  | .exo 0 => some true
  | .exo 1 => some true
  | .exo 2 => some true
  | .exo 3 => some true
  | .exo 4 => some true
  | .exo 5 => some true
  | .exo 6 => some true
  | .exo 7 => some true
  | .exo 8 => some true
  | .exo 9 => some true
  | .exo 10 => some true
  | _ => none
def is_dict : Tag → Option Bool
  | .non => some false
  | .bl => some false
  | .int => some false
  | .str => some false
  | .lst => some false
  | .tup => some false
  | .dct => some true
  | _ => none
def is_list : Tag → Option Bool
  | .non => some false
  | .bl => some false
  | .int => some false
  | .str => some false
  | .lst => some true
  | .tup => some false
  | .dct => some false
  | _ => none
def x_name : List (Option Nat) := [none, none, none, none, none, none, none, some 0, some 0, some 0, none]
def x_value : List (Option Nat) := [none, some 0, some 0, some 0, some 0, some 0, some 0, none, none, none, none]
structure Tx (P : Program) (w : World) (K : PySem.W.Frag) (mg : Str → Option Value) (base : Heap) (en : En) (CC : Nat → Addr) : Prop where
  hK : K = en.K
  sm : ∃ o, base.get? sysModules = some o
  b_ValueError : mg "ValueError" = none
  b_dict : mg "dict" = none
  b_int : mg "int" = none
  b_isinstance : mg "isinstance" = none
  b_len : mg "len" = none
  b_list : mg "list" = none
  b_max : mg "max" = none
  b_range : mg "range" = none
  b_repr : mg "repr" = none
  g_InvalidItem : mg "InvalidItem" = some (.ref (CC 3))
  g_InvalidList : mg "InvalidList" = some (.ref (CC 2))
  g_InvalidName : mg "InvalidName" = some (.ref (CC 7))
  g_InvalidNumber : mg "InvalidNumber" = some (.ref (CC 1))
  g_InvalidProgram : mg "InvalidProgram" = some (.ref (CC 4))
  g_InvalidRow : mg "InvalidRow" = some (.ref (CC 5))
  g_InvalidText : mg "InvalidText" = some (.ref (CC 6))
  g_NothingToUndo : mg "NothingToUndo" = some (.ref (CC 10))
  g_TakenName : mg "TakenName" = some (.ref (CC 8))
  g_UnknownName : mg "UnknownName" = some (.ref (CC 9))
  g_WalkError : mg "WalkError" = some (.ref (CC 0))
  e1 : ErrAt P w K mg en 1 1 "InvalidNumber"
  e2 : ErrAt P w K mg en 2 1 "InvalidList"
  e3 : ErrAt P w K mg en 3 1 "InvalidItem"
  e4 : ErrAt P w K mg en 4 1 "InvalidProgram"
  e5 : ErrAt P w K mg en 5 1 "InvalidRow"
  e6 : ErrAt P w K mg en 6 1 "InvalidText"
  e7 : ErrAt P w K mg en 7 1 "InvalidName"
  e8 : ErrAt P w K mg en 8 1 "TakenName"
  e9 : ErrAt P w K mg en 9 1 "UnknownName"
  e10 : ErrAt P w K mg en 10 0 "NothingToUndo"
  k1 : ErrAtK P w K mg en 1 "InvalidNumber" "value"
  k2 : ErrAtK P w K mg en 2 "InvalidList" "value"
  k3 : ErrAtK P w K mg en 3 "InvalidItem" "value"
  k4 : ErrAtK P w K mg en 4 "InvalidProgram" "value"
  k5 : ErrAtK P w K mg en 5 "InvalidRow" "value"
  k6 : ErrAtK P w K mg en 6 "InvalidText" "value"
  k7 : ErrAtK P w K mg en 7 "InvalidName" "name"
  k8 : ErrAtK P w K mg en 8 "TakenName" "name"
  k9 : ErrAtK P w K mg en 9 "UnknownName" "name"
  is_InvalidItem : IsiOk en (.ref (CC 3)) is_InvalidItem
  is_InvalidList : IsiOk en (.ref (CC 2)) is_InvalidList
  is_InvalidName : IsiOk en (.ref (CC 7)) is_InvalidName
  is_InvalidNumber : IsiOk en (.ref (CC 1)) is_InvalidNumber
  is_InvalidProgram : IsiOk en (.ref (CC 4)) is_InvalidProgram
  is_InvalidRow : IsiOk en (.ref (CC 5)) is_InvalidRow
  is_InvalidText : IsiOk en (.ref (CC 6)) is_InvalidText
  is_NothingToUndo : IsiOk en (.ref (CC 10)) is_NothingToUndo
  is_TakenName : IsiOk en (.ref (CC 8)) is_TakenName
  is_UnknownName : IsiOk en (.ref (CC 9)) is_UnknownName
  is_ValueError : IsiOk en (.type "ValueError") is_ValueError
  is_WalkError : IsiOk en (.ref (CC 0)) is_WalkError
  is_dict : IsiOk en (.type "dict") is_dict
  is_list : IsiOk en (.type "list") is_list
  x_name : ExfOk en "name" x_name
  x_value : ExfOk en "value" x_value
section
variable {P : Program} {w : World} {K : PySem.W.Frag} {mg : Str → Option Value} {base : Heap} {en : En} {CC : Nat → Addr}
/-! _law_hash -/
abbrev s14 : Stmt := top 14
def m14 : SM := (mSeq (mSet 2 (mO2 opMod (mOA (un1 opInt) (aCons (mO2 opAdd (mO2 opAdd (mO2 opAdd (mO2 opMul (mVar 0) (mC (.int 1103515245))) (mO2 opMul (mO2 opMul (mC (.int 7919)) (mVar 1)) (mVar 1))) (mVar 1)) (mC (.int 1))) aNil)) (mC (.int 2147483647)))) (mSeq (mSet 2 (mO2 opMod (mOA (un1 opInt) (aCons (mO2 opAdd (mO2 opMul (mVar 2) (mVar 2)) (mC (.int 69621))) aNil)) (mC (.int 2147483629)))) (mRet (mO2 opMod (mOA (un1 opInt) (aCons (mO2 opMul (mVar 2) (mC (.int 48271))) aNil)) (mC (.int 2147483587))))))
def f14 : FM := mFn 2 3 m14
theorem sc14 : FnScope ["_law_seed", "_law_index", "_law_mixed"] ["_law_seed", "_law_index"] (defScope s14) := ⟨rfl, rfl, rfl, by decide +kernel, rfl, by decide +kernel, by decide +kernel⟩
theorem ok14 (T : Tx P w K mg base en CC) {f : Addr} {fd : FuncData} (F : L2.Fun K "_law_hash" "_law_hash" s14 f fd)  : FnG P w K mg base 1 f fd ["_law_seed", "_law_index"] (spM en 2 f14) := by
  obtain ⟨oc, od, kV, doc, pm, an, cdv, ct, osl, rfl, lk, hcd⟩ := F.ex
  exact fnG_of lk hcd sc14 T.hK T.sm fun A outer s H E G => (PSs.cons (PS.set (i := 2) sc14.nd rfl (by first | exact .inl rfl | exact .inr rfl) (PE.o2 op_modM (PE.callTy call_intM rfl T.b_int rfl (PA.cons (PE.o2 op_addM (PE.o2 op_addM (PE.o2 op_addM (PE.o2 op_mulM (PE.var 0) PE.int) (PE.o2 op_mulM (PE.o2 op_mulM PE.int (PE.var 1)) (PE.var 1))) (PE.var 1)) PE.int) PA.nil)) PE.int)) (PSs.cons (PS.set (i := 2) sc14.nd rfl (by first | exact .inl rfl | exact .inr rfl) (PE.o2 op_modM (PE.callTy call_intM rfl T.b_int rfl (PA.cons (PE.o2 op_addM (PE.o2 op_mulM (PE.var 2) (PE.var 2)) PE.int) PA.nil)) PE.int)) (PSs.one (PS.ret (PE.o2 op_modM (PE.callTy call_intM rfl T.b_int rfl (PA.cons (PE.o2 op_mulM (PE.var 2) PE.int) PA.nil)) PE.int)))))
theorem at14 (T : Tx P w K mg base en CC) {f : Addr} {fd : FuncData} (F : L2.Fun K "_law_hash" "_law_hash" s14 f fd) (hm : mg "_law_hash" = some (.ref f))  : DefAt P w K mg base en 1 "_law_hash" 2 f14 :=
  DefAt.mk' hm F (ok14 T F ) (F.binds fun _ _ _ _ _ _ us hl => match us, hl with | [_, _], _ => rfl)
/-! _law_random -/
abbrev s16 : Stmt := top 16
def m16 : SM := (mSeq (mIfS (mB (mO2 opGt (mO2 opIx (mVar 0) (mC (.int 0))) (mC (.int 0)))) (mSeq (mSet 2 (mO2 opMod (mOA (un1 opInt) (aCons (mO2 opIx (mVar 0) (mC (.int 0))) aNil)) (mVar 1))) (mSeq (mSt (mO2 opFdiv (mO2 opIx (mVar 0) (mC (.int 0))) (mVar 1)) (mVar 0) (mC (.int 0))) (mRet (mVar 2)))) mNil) (mSeq (mSet 2 (mC (.int 0))) (mSeq (mFor (mRng1 (aCons (mO2 opAdd (mC (.int 1)) (mO2 opFdiv (mO1 opBits (mVar 1)) (mC (.int 30)))) aNil)) (gVar 3) (mSeq (mSt (mO2 opAdd (mO2 opIx (mVar 0) (mC (.int 2))) (mC (.int 1))) (mVar 0) (mC (.int 2))) (mSet 2 (mO2 opAdd (mO2 opMul (mVar 2) (mC (.int 2147483587))) (mCall f14 (aCons (mO2 opIx (mVar 0) (mC (.int 1))) (aCons (mO2 opIx (mVar 0) (mC (.int 2))) aNil))))))) (mRet (mO2 opMod (mOA (un1 opInt) (aCons (mVar 2) aNil)) (mVar 1))))))
def f16 : FM := mFn 2 4 m16
theorem sc16 : FnScope ["_law_generator_here", "_law_bound", "_law_drawn", "_law_turn"] ["_law_generator_here", "_law_bound"] (defScope s16) := ⟨rfl, rfl, rfl, by decide +kernel, rfl, by decide +kernel, by decide +kernel⟩
theorem ok16 (T : Tx P w K mg base en CC) {f : Addr} {fd : FuncData} (F : L2.Fun K "_law_random" "_law_random" s16 f fd) (D14 : DefAt P w K mg base en 1 "_law_hash" 2 f14) : FnG P w K mg base 2 f fd ["_law_generator_here", "_law_bound"] (spM en 2 f16) := by
  obtain ⟨oc, od, kV, doc, pm, an, cdv, ct, osl, rfl, lk, hcd⟩ := F.ex
  exact fnG_of lk hcd sc16 T.hK T.sm fun A outer s H E G => (PSs.cons (PS.if (PT.cmp op_gtM (PE.ix G.K G.u1 (PE.var 0) PE.int (fun _ _ => rfl)) PE.int (nomark _)) (PSs.cons (PS.set (i := 2) sc16.nd rfl (by first | exact .inl rfl | exact .inr rfl) (PE.o2 op_modM (PE.callTy call_intM rfl T.b_int rfl (PA.cons (PE.ix G.K G.u1 (PE.var 0) PE.int (fun _ _ => rfl)) PA.nil)) (PE.var 1))) (PSs.cons (PS.st G.u1 (PE.o2 op_fdivM (PE.ix G.K G.u1 (PE.var 0) PE.int (fun _ _ => rfl)) (PE.var 1)) (PE.var 0) PE.int) (PSs.one (PS.ret (PE.var 2))))) PSs.nil) (PSs.cons (PS.set (i := 2) sc16.nd rfl (by first | exact .inl rfl | exact .inr rfl) PE.int) (PSs.cons (PS.for G.pass G.calm (PI.rng1 rfl T.b_range (PA.cons (PE.o2 op_addM PE.int (PE.o2 op_fdivM (PE.bits (PE.var 1)) PE.int)) PA.nil)) (PG.var (i := 3) sc16.nd rfl (by first | exact .inl rfl | exact .inr rfl)) (PSs.cons (PS.st G.u1 (PE.o2 op_addM (PE.ix G.K G.u1 (PE.var 0) PE.int (fun _ _ => rfl)) PE.int) (PE.var 0) PE.int) (PSs.one (PS.set (i := 2) sc16.nd rfl (by first | exact .inl rfl | exact .inr rfl) (PE.o2 op_addM (PE.o2 op_mulM (PE.var 2) PE.int) (PE.call D14 G (by decide) rfl (PA.cons (PE.ix G.K G.u1 (PE.var 0) PE.int (fun _ _ => rfl)) (PA.cons (PE.ix G.K G.u1 (PE.var 0) PE.int (fun _ _ => rfl)) PA.nil)))))))) (PSs.one (PS.ret (PE.o2 op_modM (PE.callTy call_intM rfl T.b_int rfl (PA.cons (PE.var 2) PA.nil)) (PE.var 1)))))))
theorem at16 (T : Tx P w K mg base en CC) {f : Addr} {fd : FuncData} (F : L2.Fun K "_law_random" "_law_random" s16 f fd) (hm : mg "_law_random" = some (.ref f)) (D14 : DefAt P w K mg base en 1 "_law_hash" 2 f14) : DefAt P w K mg base en 2 "_law_random" 2 f16 :=
  DefAt.mk' hm F (ok16 T F D14) (F.binds fun _ _ _ _ _ _ us hl => match us, hl with | [_, _], _ => rfl)
/-! _law_cell -/
abbrev s13 : Stmt := top 13
def m13 : SM := (mSeq (mIfS (mB (mO2 opLt (mVar 1) (mOA (un1 opLen) (aCons (mVar 0) aNil)))) (mRet (mO2 opIx (mVar 0) (mVar 1))) mNil) (mRet (mC (.int 0))))
def f13 : FM := mFn 2 2 m13
theorem sc13 : FnScope ["_law_script", "_law_index"] ["_law_script", "_law_index"] (defScope s13) := ⟨rfl, rfl, rfl, by decide +kernel, rfl, by decide +kernel, by decide +kernel⟩
theorem ok13 (T : Tx P w K mg base en CC) {f : Addr} {fd : FuncData} (F : L2.Fun K "_law_cell" "_law_cell" s13 f fd)  : FnG P w K mg base 1 f fd ["_law_script", "_law_index"] (spM en 2 f13) := by
  obtain ⟨oc, od, kV, doc, pm, an, cdv, ct, osl, rfl, lk, hcd⟩ := F.ex
  exact fnG_of lk hcd sc13 T.hK T.sm fun A outer s H E G => (PSs.cons (PS.if (PT.cmp op_ltM (PE.var 1) (PE.callB (call_lenM G.K) rfl T.b_len rfl (PA.cons (PE.var 0) PA.nil)) (nomark _)) (PSs.one (PS.ret (PE.ix G.K G.u1 (PE.var 0) (PE.var 1) (fun _ _ => rfl)))) PSs.nil) (PSs.one (PS.ret PE.int)))
theorem at13 (T : Tx P w K mg base en CC) {f : Addr} {fd : FuncData} (F : L2.Fun K "_law_cell" "_law_cell" s13 f fd) (hm : mg "_law_cell" = some (.ref f))  : DefAt P w K mg base en 1 "_law_cell" 2 f13 :=
  DefAt.mk' hm F (ok13 T F ) (F.binds fun _ _ _ _ _ _ us hl => match us, hl with | [_, _], _ => rfl)
/-! _law_generator -/
abbrev s15 : Stmt := top 15
def m15 : SM := (mSeq (mSet 2 (mCall f13 (aCons (mVar 0) (aCons (mVar 1) aNil)))) (mRet (mOA opLst (aCons (mO2 opMod (mOA (un1 opInt) (aCons (mOA (bin2 opMax) (aCons (mO2 opSub (mVar 2) (mO2 opPow (mC (.int 10)) (mC (.int 18)))) (aCons (mC (.int 0)) aNil))) aNil)) (mO2 opPow (mO2 opPow (mC (.int 10)) (mC (.int 60))) (mC (.int 10)))) (aCons (mO2 opMod (mOA (un1 opInt) (aCons (mVar 2) aNil)) (mC (.int 2147483647))) (aCons (mO2 opMul (mC (.int 1000)) (mVar 1)) aNil))))))
def f15 : FM := mFn 2 3 m15
theorem sc15 : FnScope ["_law_script", "_law_index", "_law_seed"] ["_law_script", "_law_index"] (defScope s15) := ⟨rfl, rfl, rfl, by decide +kernel, rfl, by decide +kernel, by decide +kernel⟩
theorem ok15 (T : Tx P w K mg base en CC) {f : Addr} {fd : FuncData} (F : L2.Fun K "_law_generator" "_law_generator" s15 f fd) (D13 : DefAt P w K mg base en 1 "_law_cell" 2 f13) : FnG P w K mg base 2 f fd ["_law_script", "_law_index"] (spM en 2 f15) := by
  obtain ⟨oc, od, kV, doc, pm, an, cdv, ct, osl, rfl, lk, hcd⟩ := F.ex
  exact fnG_of lk hcd sc15 T.hK T.sm fun A outer s H E G => (PSs.cons (PS.set (i := 2) sc15.nd rfl (by first | exact .inl rfl | exact .inr rfl) (PE.call D13 G (by decide) rfl (PA.cons (PE.var 0) (PA.cons (PE.var 1) PA.nil)))) (PSs.one (PS.ret (PE.lst (PA.cons (PE.o2 op_modM (PE.callTy call_intM rfl T.b_int rfl (PA.cons (PE.callB (call_maxM G.calm) rfl T.b_max rfl (PA.cons (PE.o2 op_subM (PE.var 2) (PE.o2 op_powM PE.int PE.int)) (PA.cons PE.int PA.nil))) PA.nil)) (PE.o2 op_powM (PE.o2 op_powM PE.int PE.int) PE.int)) (PA.cons (PE.o2 op_modM (PE.callTy call_intM rfl T.b_int rfl (PA.cons (PE.var 2) PA.nil)) PE.int) (PA.cons (PE.o2 op_mulM PE.int (PE.var 1)) PA.nil)))))))
theorem at15 (T : Tx P w K mg base en CC) {f : Addr} {fd : FuncData} (F : L2.Fun K "_law_generator" "_law_generator" s15 f fd) (hm : mg "_law_generator" = some (.ref f)) (D13 : DefAt P w K mg base en 1 "_law_cell" 2 f13) : DefAt P w K mg base en 2 "_law_generator" 2 f15 :=
  DefAt.mk' hm F (ok15 T F D13) (F.binds fun _ _ _ _ _ _ us hl => match us, hl with | [_, _], _ => rfl)
/-! _law_named -/
abbrev s20 : Stmt := top 20
def m20 : SM := (mSeq (mSet 1 (mOA opLst (aCons (mErr 1 1 (aCons (mVar 0) aNil)) (aCons (mErr 2 1 (aCons (mVar 0) aNil)) (aCons (mErr 3 1 (aCons (mVar 0) aNil)) aNil))))) (mSeq (mSet 1 (mO2 opAdd (mVar 1) (mOA opLst (aCons (mErr 4 1 (aCons (mVar 0) aNil)) (aCons (mErr 5 1 (aCons (mVar 0) aNil)) (aCons (mErr 6 1 (aCons (mVar 0) aNil)) aNil)))))) (mRet (mO2 opAdd (mVar 1) (mOA opLst (aCons (mErr 7 1 (aCons (mVar 0) aNil)) (aCons (mErr 8 1 (aCons (mVar 0) aNil)) (aCons (mErr 9 1 (aCons (mVar 0) aNil)) aNil))))))))
def f20 : FM := mFn 1 2 m20
theorem sc20 : FnScope ["_law_given", "_law_found"] ["_law_given"] (defScope s20) := ⟨rfl, rfl, rfl, by decide +kernel, rfl, by decide +kernel, by decide +kernel⟩
theorem ok20 (T : Tx P w K mg base en CC) {f : Addr} {fd : FuncData} (F : L2.Fun K "_law_named" "_law_named" s20 f fd)  : FnG P w K mg base 1 f fd ["_law_given"] (spM en 1 f20) := by
  obtain ⟨oc, od, kV, doc, pm, an, cdv, ct, osl, rfl, lk, hcd⟩ := F.ex
  exact fnG_of lk hcd sc20 T.hK T.sm fun A outer s H E G => (PSs.cons (PS.set (i := 1) sc20.nd rfl (by first | exact .inl rfl | exact .inr rfl) (PE.lst (PA.cons (PE.errK T.k1 G rfl (PE.var 0)) (PA.cons (PE.errK T.k2 G rfl (PE.var 0)) (PA.cons (PE.errK T.k3 G rfl (PE.var 0)) PA.nil))))) (PSs.cons (PS.set (i := 1) sc20.nd rfl (by first | exact .inl rfl | exact .inr rfl) (PE.o2 op_addM (PE.var 1) (PE.lst (PA.cons (PE.errK T.k4 G rfl (PE.var 0)) (PA.cons (PE.errK T.k5 G rfl (PE.var 0)) (PA.cons (PE.errK T.k6 G rfl (PE.var 0)) PA.nil)))))) (PSs.one (PS.ret (PE.o2 op_addM (PE.var 1) (PE.lst (PA.cons (PE.errK T.k7 G rfl (PE.var 0)) (PA.cons (PE.errK T.k8 G rfl (PE.var 0)) (PA.cons (PE.errK T.k9 G rfl (PE.var 0)) PA.nil)))))))))
theorem at20 (T : Tx P w K mg base en CC) {f : Addr} {fd : FuncData} (F : L2.Fun K "_law_named" "_law_named" s20 f fd) (hm : mg "_law_named" = some (.ref f))  : DefAt P w K mg base en 1 "_law_named" 1 f20 :=
  DefAt.mk' hm F (ok20 T F ) (F.binds fun _ _ _ _ _ _ us hl => match us, hl with | [_], _ => rfl)
/-! _law_placed -/
abbrev s19 : Stmt := top 19
def m19 : SM := (mSeq (mSet 1 (mOA opLst (aCons (mErr 1 1 (aCons (mVar 0) aNil)) (aCons (mErr 2 1 (aCons (mVar 0) aNil)) (aCons (mErr 3 1 (aCons (mVar 0) aNil)) (aCons (mErr 4 1 (aCons (mVar 0) aNil)) (aCons (mErr 5 1 (aCons (mVar 0) aNil)) aNil))))))) (mRet (mO2 opAdd (mVar 1) (mOA opLst (aCons (mErr 6 1 (aCons (mVar 0) aNil)) (aCons (mErr 7 1 (aCons (mVar 0) aNil)) (aCons (mErr 8 1 (aCons (mVar 0) aNil)) (aCons (mErr 9 1 (aCons (mVar 0) aNil)) aNil))))))))
def f19 : FM := mFn 1 2 m19
theorem sc19 : FnScope ["_law_given", "_law_found"] ["_law_given"] (defScope s19) := ⟨rfl, rfl, rfl, by decide +kernel, rfl, by decide +kernel, by decide +kernel⟩
theorem ok19 (T : Tx P w K mg base en CC) {f : Addr} {fd : FuncData} (F : L2.Fun K "_law_placed" "_law_placed" s19 f fd)  : FnG P w K mg base 1 f fd ["_law_given"] (spM en 1 f19) := by
  obtain ⟨oc, od, kV, doc, pm, an, cdv, ct, osl, rfl, lk, hcd⟩ := F.ex
  exact fnG_of lk hcd sc19 T.hK T.sm fun A outer s H E G => (PSs.cons (PS.set (i := 1) sc19.nd rfl (by first | exact .inl rfl | exact .inr rfl) (PE.lst (PA.cons (PE.err T.e1 G rfl (PA.cons (PE.var 0) PA.nil)) (PA.cons (PE.err T.e2 G rfl (PA.cons (PE.var 0) PA.nil)) (PA.cons (PE.err T.e3 G rfl (PA.cons (PE.var 0) PA.nil)) (PA.cons (PE.err T.e4 G rfl (PA.cons (PE.var 0) PA.nil)) (PA.cons (PE.err T.e5 G rfl (PA.cons (PE.var 0) PA.nil)) PA.nil))))))) (PSs.one (PS.ret (PE.o2 op_addM (PE.var 1) (PE.lst (PA.cons (PE.err T.e6 G rfl (PA.cons (PE.var 0) PA.nil)) (PA.cons (PE.err T.e7 G rfl (PA.cons (PE.var 0) PA.nil)) (PA.cons (PE.err T.e8 G rfl (PA.cons (PE.var 0) PA.nil)) (PA.cons (PE.err T.e9 G rfl (PA.cons (PE.var 0) PA.nil)) PA.nil)))))))))
theorem at19 (T : Tx P w K mg base en CC) {f : Addr} {fd : FuncData} (F : L2.Fun K "_law_placed" "_law_placed" s19 f fd) (hm : mg "_law_placed" = some (.ref f))  : DefAt P w K mg base en 1 "_law_placed" 1 f19 :=
  DefAt.mk' hm F (ok19 T F ) (F.binds fun _ _ _ _ _ _ us hl => match us, hl with | [_], _ => rfl)
/-! _law_kinds -/
abbrev s17 : Stmt := top 17
def m17 : SM := (mSeq (mSet 1 (mOA opLst (aCons (mO1 (opIsi is_InvalidNumber) (mVar 0)) (aCons (mO1 (opIsi is_InvalidList) (mVar 0)) (aCons (mO1 (opIsi is_InvalidItem) (mVar 0)) aNil))))) (mSeq (mSet 1 (mO2 opAdd (mVar 1) (mOA opLst (aCons (mO1 (opIsi is_InvalidProgram) (mVar 0)) (aCons (mO1 (opIsi is_InvalidRow) (mVar 0)) aNil))))) (mSeq (mSet 1 (mO2 opAdd (mVar 1) (mOA opLst (aCons (mO1 (opIsi is_InvalidText) (mVar 0)) (aCons (mO1 (opIsi is_InvalidName) (mVar 0)) aNil))))) (mSeq (mSet 1 (mO2 opAdd (mVar 1) (mOA opLst (aCons (mO1 (opIsi is_TakenName) (mVar 0)) (aCons (mO1 (opIsi is_UnknownName) (mVar 0)) aNil))))) (mSeq (mIfS (bOr (bNot (mB (mO1 (opIsi is_WalkError) (mVar 0)))) (bNot (mB (mO1 (opIsi is_ValueError) (mVar 0))))) (mRet (mOA opLst aNil)) mNil) (mRet (mLc (mRng1 (aCons (mC (.int 10)) aNil)) (gVar 2) (mTru (mO2 opIx (mO2 opAdd (mVar 1) (mOA opLst (aCons (mO1 (opIsi is_NothingToUndo) (mVar 0)) aNil))) (mVar 2))) (mVar 2) [2])))))))
def f17 : FM := mFn 1 3 m17
theorem sc17 : FnScope ["_law_error", "_law_classes", "_law_at"] ["_law_error"] (defScope s17) := ⟨rfl, rfl, rfl, by decide +kernel, rfl, by decide +kernel, by decide +kernel⟩
theorem ok17 (T : Tx P w K mg base en CC) {f : Addr} {fd : FuncData} (F : L2.Fun K "_law_kinds" "_law_kinds" s17 f fd)  : FnG P w K mg base 1 f fd ["_law_error"] (spM en 1 f17) := by
  obtain ⟨oc, od, kV, doc, pm, an, cdv, ct, osl, rfl, lk, hcd⟩ := F.ex
  exact fnG_of lk hcd sc17 T.hK T.sm fun A outer s H E G => (PSs.cons (PS.set (i := 1) sc17.nd rfl (by first | exact .inl rfl | exact .inr rfl) (PE.lst (PA.cons (PE.isi G.K (.own _) T.is_InvalidNumber rfl T.b_isinstance (PE.var 0) (pe_glob rfl T.g_InvalidNumber rfl)) (PA.cons (PE.isi G.K (.own _) T.is_InvalidList rfl T.b_isinstance (PE.var 0) (pe_glob rfl T.g_InvalidList rfl)) (PA.cons (PE.isi G.K (.own _) T.is_InvalidItem rfl T.b_isinstance (PE.var 0) (pe_glob rfl T.g_InvalidItem rfl)) PA.nil))))) (PSs.cons (PS.set (i := 1) sc17.nd rfl (by first | exact .inl rfl | exact .inr rfl) (PE.o2 op_addM (PE.var 1) (PE.lst (PA.cons (PE.isi G.K (.own _) T.is_InvalidProgram rfl T.b_isinstance (PE.var 0) (pe_glob rfl T.g_InvalidProgram rfl)) (PA.cons (PE.isi G.K (.own _) T.is_InvalidRow rfl T.b_isinstance (PE.var 0) (pe_glob rfl T.g_InvalidRow rfl)) PA.nil))))) (PSs.cons (PS.set (i := 1) sc17.nd rfl (by first | exact .inl rfl | exact .inr rfl) (PE.o2 op_addM (PE.var 1) (PE.lst (PA.cons (PE.isi G.K (.own _) T.is_InvalidText rfl T.b_isinstance (PE.var 0) (pe_glob rfl T.g_InvalidText rfl)) (PA.cons (PE.isi G.K (.own _) T.is_InvalidName rfl T.b_isinstance (PE.var 0) (pe_glob rfl T.g_InvalidName rfl)) PA.nil))))) (PSs.cons (PS.set (i := 1) sc17.nd rfl (by first | exact .inl rfl | exact .inr rfl) (PE.o2 op_addM (PE.var 1) (PE.lst (PA.cons (PE.isi G.K (.own _) T.is_TakenName rfl T.b_isinstance (PE.var 0) (pe_glob rfl T.g_TakenName rfl)) (PA.cons (PE.isi G.K (.own _) T.is_UnknownName rfl T.b_isinstance (PE.var 0) (pe_glob rfl T.g_UnknownName rfl)) PA.nil))))) (PSs.cons (PS.if (PW.pt (PW.or (PT.not (PT.val (PE.isi G.K (.own _) T.is_WalkError rfl T.b_isinstance (PE.var 0) (pe_glob rfl T.g_WalkError rfl)))) (PW.or1 (PT.not (PT.val (PE.isi G.K (.ty _) T.is_ValueError rfl T.b_isinstance (PE.var 0) (pe_bltn rfl T.b_ValueError rfl rfl))))))) (PSs.one (PS.ret (PE.lst PA.nil))) PSs.nil) (PSs.one (PS.ret (PE.lcG G sc17.nd (PI.rng1 rfl T.b_range (PA.cons PE.int PA.nil)) (own := [("_law_at", 2)]) ⟨rfl, by decide +kernel, of_decide_eq_true (by kernel_rfl), of_decide_eq_true (by kernel_rfl), of_decide_eq_true (by kernel_rfl)⟩ (fun s3 H3 C3 cl3 fp3 G => (PG.var (i := 2) sc17.nd rfl (by first | exact .inl rfl | exact .inr rfl))) (fun s3 H3 C3 cl3 fp3 G => (PTs.one (PT.tru G.K (PE.ix G.K G.u1 (PE.o2 op_addM (PE.var 1) (PE.lst (PA.cons (PE.isi G.K (.own _) T.is_NothingToUndo rfl T.b_isinstance (PE.var 0) (pe_glob rfl T.g_NothingToUndo rfl)) PA.nil))) (PE.var 2) (fun _ _ => rfl))))) (fun s3 H3 C3 cl3 fp3 G => (PE.var 2))))))))))
theorem at17 (T : Tx P w K mg base en CC) {f : Addr} {fd : FuncData} (F : L2.Fun K "_law_kinds" "_law_kinds" s17 f fd) (hm : mg "_law_kinds" = some (.ref f))  : DefAt P w K mg base en 1 "_law_kinds" 1 f17 :=
  DefAt.mk' hm F (ok17 T F ) (F.binds fun _ _ _ _ _ _ us hl => match us, hl with | [_], _ => rfl)
/-! _law_right -/
abbrev s18 : Stmt := top 18
def m18 : SM := (mSeq (mIfS (mB (mO2 (eqD true) (mLc (mWalk (mVar 0)) (gVar 3) bYes (mCall f17 (aCons (mVar 3) aNil)) [3]) (mLc (mRng1 (aCons (mC (.int 9)) aNil)) (gVar 4) bYes (mOA opLst (aCons (mVar 4) aNil)) [4]))) (mRet (mC (.bl false))) mNil) (mSeq (mSet 2 (mO2 opAdd (mLc (mWalk (mCut (mVar 0) pNone (pSome (mC (.int 6))))) (gVar 3) bYes (mO1 (opExf x_value) (mVar 3)) [3]) (mLc (mWalk (mCut (mVar 0) (pSome (mC (.int 6))) pNone)) (gVar 3) bYes (mO1 (opExf x_name) (mVar 3)) [3]))) (mRet (mO2 (eqD false) (mOA (un1 opRepr) (aCons (mVar 2) aNil)) (mOA (un1 opRepr) (aCons (mO2 opMul (mOA opLst (aCons (mVar 1) aNil)) (mC (.int 9))) aNil))))))
def f18 : FM := mFn 2 5 m18
theorem sc18 : FnScope ["_law_errors", "_law_given", "_law_fields", "_law_error", "_law_at"] ["_law_errors", "_law_given"] (defScope s18) := ⟨rfl, rfl, rfl, by decide +kernel, rfl, by decide +kernel, by decide +kernel⟩
theorem ok18 (T : Tx P w K mg base en CC) {f : Addr} {fd : FuncData} (F : L2.Fun K "_law_right" "_law_right" s18 f fd) (D17 : DefAt P w K mg base en 1 "_law_kinds" 1 f17) : FnG P w K mg base 2 f fd ["_law_errors", "_law_given"] (spM en 2 f18) := by
  obtain ⟨oc, od, kV, doc, pm, an, cdv, ct, osl, rfl, lk, hcd⟩ := F.ex
  exact fnG_of lk hcd sc18 T.hK T.sm fun A outer s H E G => (PSs.cons (PS.if (PT.cmp (op_neM G.sm G.u64) (PE.lcG G sc18.nd (PI.walk G.K (PE.var 0)) (own := [("_law_error", 3)]) ⟨rfl, by decide +kernel, of_decide_eq_true (by kernel_rfl), of_decide_eq_true (by kernel_rfl), of_decide_eq_true (by kernel_rfl)⟩ (fun s3 H3 C3 cl3 fp3 G => (PG.var (i := 3) sc18.nd rfl (by first | exact .inl rfl | exact .inr rfl))) (fun s3 H3 C3 cl3 fp3 G => PTs.nil) (fun s3 H3 C3 cl3 fp3 G => (PE.call D17 G (by decide) rfl (PA.cons (PE.var 3) PA.nil)))) (PE.lcG G sc18.nd (PI.rng1 rfl T.b_range (PA.cons PE.int PA.nil)) (own := [("_law_at", 4)]) ⟨rfl, by decide +kernel, of_decide_eq_true (by kernel_rfl), of_decide_eq_true (by kernel_rfl), of_decide_eq_true (by kernel_rfl)⟩ (fun s3 H3 C3 cl3 fp3 G => (PG.var (i := 4) sc18.nd rfl (by first | exact .inl rfl | exact .inr rfl))) (fun s3 H3 C3 cl3 fp3 G => PTs.nil) (fun s3 H3 C3 cl3 fp3 G => (PE.lst (PA.cons (PE.var 4) PA.nil)))) (nomark _)) (PSs.one (PS.ret PE.bl)) PSs.nil) (PSs.cons (PS.set (i := 2) sc18.nd rfl (by first | exact .inl rfl | exact .inr rfl) (PE.o2 op_addM (PE.lcG G sc18.nd (PI.walk G.K (PE.cut (PE.var 0) PO.non (PO.som PE.int))) (own := [("_law_error", 3)]) ⟨rfl, by decide +kernel, of_decide_eq_true (by kernel_rfl), of_decide_eq_true (by kernel_rfl), of_decide_eq_true (by kernel_rfl)⟩ (fun s3 H3 C3 cl3 fp3 G => (PG.var (i := 3) sc18.nd rfl (by first | exact .inl rfl | exact .inr rfl))) (fun s3 H3 C3 cl3 fp3 G => PTs.nil) (fun s3 H3 C3 cl3 fp3 G => (PE.exf G.K T.x_value (PE.var 3)))) (PE.lcG G sc18.nd (PI.walk G.K (PE.cut (PE.var 0) (PO.som PE.int) PO.non)) (own := [("_law_error", 3)]) ⟨rfl, by decide +kernel, of_decide_eq_true (by kernel_rfl), of_decide_eq_true (by kernel_rfl), of_decide_eq_true (by kernel_rfl)⟩ (fun s3 H3 C3 cl3 fp3 G => (PG.var (i := 3) sc18.nd rfl (by first | exact .inl rfl | exact .inr rfl))) (fun s3 H3 C3 cl3 fp3 G => PTs.nil) (fun s3 H3 C3 cl3 fp3 G => (PE.exf G.K T.x_name (PE.var 3)))))) (PSs.one (PS.ret (PE.cmp (op_eqM G.sm G.u64) (PE.callB (call_reprM G.sm G.gd G.u66) rfl T.b_repr rfl (PA.cons (PE.var 2) PA.nil)) (PE.callB (call_reprM G.sm G.gd G.u66) rfl T.b_repr rfl (PA.cons (PE.o2 op_mulM (PE.lst (PA.cons (PE.var 1) PA.nil)) PE.int) PA.nil)) (nomark _))))))
theorem at18 (T : Tx P w K mg base en CC) {f : Addr} {fd : FuncData} (F : L2.Fun K "_law_right" "_law_right" s18 f fd) (hm : mg "_law_right" = some (.ref f)) (D17 : DefAt P w K mg base en 1 "_law_kinds" 1 f17) : DefAt P w K mg base en 2 "_law_right" 2 f18 :=
  DefAt.mk' hm F (ok18 T F D17) (F.binds fun _ _ _ _ _ _ us hl => match us, hl with | [_, _], _ => rfl)
/-! _law_bare -/
abbrev s21 : Stmt := top 21
def m21 : SM := (mSeq (mSet 0 (mOA opLst (aCons (mErr 1 1 aNil) (aCons (mErr 2 1 aNil) (aCons (mErr 3 1 aNil) (aCons (mErr 4 1 aNil) (aCons (mErr 5 1 aNil) (aCons (mErr 6 1 aNil) aNil)))))))) (mRet (mO2 opAdd (mVar 0) (mOA opLst (aCons (mErr 7 1 aNil) (aCons (mErr 8 1 aNil) (aCons (mErr 9 1 aNil) aNil)))))))
def f21 : FM := mFn 0 1 m21
theorem sc21 : FnScope ["_law_found"] [] (defScope s21) := ⟨rfl, rfl, rfl, by decide +kernel, rfl, by decide +kernel, by decide +kernel⟩
theorem ok21 (T : Tx P w K mg base en CC) {f : Addr} {fd : FuncData} (F : L2.Fun K "_law_bare" "_law_bare" s21 f fd)  : FnG P w K mg base 1 f fd [] (spM en 0 f21) := by
  obtain ⟨oc, od, kV, doc, pm, an, cdv, ct, osl, rfl, lk, hcd⟩ := F.ex
  exact fnG_of lk hcd sc21 T.hK T.sm fun A outer s H E G => (PSs.cons (PS.set (i := 0) sc21.nd rfl (by first | exact .inl rfl | exact .inr rfl) (PE.lst (PA.cons (PE.err0 T.e1 G rfl) (PA.cons (PE.err0 T.e2 G rfl) (PA.cons (PE.err0 T.e3 G rfl) (PA.cons (PE.err0 T.e4 G rfl) (PA.cons (PE.err0 T.e5 G rfl) (PA.cons (PE.err0 T.e6 G rfl) PA.nil)))))))) (PSs.one (PS.ret (PE.o2 op_addM (PE.var 0) (PE.lst (PA.cons (PE.err0 T.e7 G rfl) (PA.cons (PE.err0 T.e8 G rfl) (PA.cons (PE.err0 T.e9 G rfl) PA.nil))))))))
theorem at21 (T : Tx P w K mg base en CC) {f : Addr} {fd : FuncData} (F : L2.Fun K "_law_bare" "_law_bare" s21 f fd) (hm : mg "_law_bare" = some (.ref f))  : DefAt P w K mg base en 1 "_law_bare" 0 f21 :=
  DefAt.mk' hm F (ok21 T F ) (F.binds fun _ _ _ _ _ _ us hl => match us, hl with | [], _ => rfl)
/-! law -/
abbrev s22 : Stmt := top 22
def m22 : SM := (mSeq (mSet 1 (mCall f16 (aCons (mCall f15 (aCons (mVar 0) (aCons (mC (.int 0)) aNil))) (aCons (mO2 opPow (mC (.int 10)) (mC (.int 12))) aNil)))) (mSeq (mSet 2 (mOA opLst (aCons (mCall f19 (aCons (mVar 1) aNil)) (aCons (mCall f20 (aCons (mC (.str "elder")) aNil)) aNil)))) (mSeq (mFor (mWalk (mOA opLst (aCons (mVar 1) (aCons (mO2 opSub (mC (.int 0)) (mVar 1)) (aCons (mOA opTup (aCons (mC (.int 1)) (aCons (mC (.int 2)) aNil))) (aCons (mOA opTup aNil) (aCons (mOA opLst (aCons (mC (.int 1)) aNil)) (aCons (mOA opLst aNil) (aCons mDict0 (aCons (mDict (dCons (mC (.str "a")) (mOA opLst (aCons (mVar 1) aNil)) dNil)) (aCons (mC (.str "a b")) (aCons (mC (.str "")) (aCons (mC (.bl true)) (aCons (mC .non) (aCons (mOA opTup (aCons (mC (.str "a")) (aCons (mC (.int 0)) (aCons (mC (.int 1)) (aCons (mC (.str "b")) aNil))))) aNil))))))))))))))) (gVar 3) (mSeq (mPar 4 5 (aCons (mCall f19 (aCons (mVar 3) aNil)) (aCons (mCall f20 (aCons (mVar 3) aNil)) aNil))) (mSeq (mIfS (bOr (bNot (mTru (mCall f18 (aCons (mVar 4) (aCons (mVar 3) aNil))))) (bNot (mTru (mCall f18 (aCons (mVar 5) (aCons (mVar 3) aNil)))))) (mRet (mC (.bl false))) mNil) (mSeq (mIfS (mB (mO1 (opIsi is_list) (mVar 3))) (mDrop (mBm opAppend (mVar 3) (aCons (mC (.str "more")) aNil))) mNil) (mSeq (mIfS (mB (mO1 (opIsi is_dict) (mVar 3))) (mSt (mOA opLst (aCons (mC (.int 1)) aNil)) (mVar 3) (mC (.str "more"))) mNil) (mIfS (bOr (bNot (mTru (mCall f18 (aCons (mVar 4) (aCons (mVar 3) aNil))))) (bNot (mTru (mCall f18 (aCons (mVar 5) (aCons (mVar 3) aNil)))))) (mRet (mC (.bl false))) mNil)))))) (mSeq (mIfS (bOr (bNot (mTru (mCall f18 (aCons (mO2 opIx (mVar 2) (mC (.int 0))) (aCons (mVar 1) aNil))))) (bOr (bNot (mTru (mCall f18 (aCons (mO2 opIx (mVar 2) (mC (.int 1))) (aCons (mC (.str "elder")) aNil))))) (bNot (mTru (mCall f18 (aCons (mCall f21 aNil) (aCons (mC .non) aNil))))))) (mRet (mC (.bl false))) mNil) (mRet (mO2 (eqD false) (mCall f17 (aCons (mErr 10 0 aNil) aNil)) (mOA opLst (aCons (mC (.int 9)) aNil))))))))
def f22 : FM := mFn 1 6 m22
theorem sc22 : FnScope ["_law_script", "_law_mark", "_law_elder", "_law_given", "_law_first", "_law_second"] ["_law_script"] (defScope s22) := ⟨rfl, rfl, rfl, by decide +kernel, rfl, by decide +kernel, by decide +kernel⟩
theorem ok22 (T : Tx P w K mg base en CC) {f : Addr} {fd : FuncData} (F : L2.Fun K "law" "law" s22 f fd) (D16 : DefAt P w K mg base en 2 "_law_random" 2 f16) (D15 : DefAt P w K mg base en 2 "_law_generator" 2 f15) (D20 : DefAt P w K mg base en 1 "_law_named" 1 f20) (D19 : DefAt P w K mg base en 1 "_law_placed" 1 f19) (D18 : DefAt P w K mg base en 2 "_law_right" 2 f18) (D21 : DefAt P w K mg base en 1 "_law_bare" 0 f21) (D17 : DefAt P w K mg base en 1 "_law_kinds" 1 f17) : FnG P w K mg base 3 f fd ["_law_script"] (spM en 1 f22) := by
  obtain ⟨oc, od, kV, doc, pm, an, cdv, ct, osl, rfl, lk, hcd⟩ := F.ex
  exact fnG_of lk hcd sc22 T.hK T.sm fun A outer s H E G => (PSs.cons (PS.set (i := 1) sc22.nd rfl (by first | exact .inl rfl | exact .inr rfl) (PE.call D16 G (by decide) rfl (PA.cons (PE.call D15 G (by decide) rfl (PA.cons (PE.var 0) (PA.cons PE.int PA.nil))) (PA.cons (PE.o2 op_powM PE.int PE.int) PA.nil)))) (PSs.cons (PS.set (i := 2) sc22.nd rfl (by first | exact .inl rfl | exact .inr rfl) (PE.lst (PA.cons (PE.call D19 G (by decide) rfl (PA.cons (PE.var 1) PA.nil)) (PA.cons (PE.call D20 G (by decide) rfl (PA.cons PE.str PA.nil)) PA.nil)))) (PSs.cons (PS.for G.pass G.calm (PI.walk G.K (PE.lst (PA.cons (PE.var 1) (PA.cons (PE.o2 op_subM PE.int (PE.var 1)) (PA.cons (PE.tup (PA.cons PE.int (PA.cons PE.int PA.nil))) (PA.cons (PE.tup PA.nil) (PA.cons (PE.lst (PA.cons PE.int PA.nil)) (PA.cons (PE.lst PA.nil) (PA.cons PE.dict0 (PA.cons (PE.dict (PD.cons PE.str (PE.lst (PA.cons (PE.var 1) PA.nil)) PD.nil)) (PA.cons PE.str (PA.cons PE.str (PA.cons PE.bl (PA.cons PE.non (PA.cons (PE.tup (PA.cons PE.str (PA.cons PE.int (PA.cons PE.int (PA.cons PE.str PA.nil))))) PA.nil))))))))))))))) (PG.var (i := 3) sc22.nd rfl (by first | exact .inl rfl | exact .inr rfl)) (PSs.cons (PS.par (i := 4) (j := 5) G.calm sc22.nd rfl rfl (by decide) rfl rfl (PA.cons (PE.call D19 G (by decide) rfl (PA.cons (PE.var 3) PA.nil)) (PA.cons (PE.call D20 G (by decide) rfl (PA.cons (PE.var 3) PA.nil)) PA.nil)) (by rfl)) (PSs.cons (PS.if (PW.pt (PW.or (PT.not (PT.tru G.K (PE.call D18 G (by decide) rfl (PA.cons (PE.var 4) (PA.cons (PE.var 3) PA.nil))))) (PW.or1 (PT.not (PT.tru G.K (PE.call D18 G (by decide) rfl (PA.cons (PE.var 5) (PA.cons (PE.var 3) PA.nil)))))))) (PSs.one (PS.ret PE.bl)) PSs.nil) (PSs.cons (PS.if (PT.val (PE.isi G.K (.ty _) T.is_list rfl T.b_isinstance (PE.var 3) (pe_bltn rfl T.b_list rfl rfl))) (PSs.one (PS.expr (PE.append (PE.var 3) (PA.cons PE.str PA.nil)))) PSs.nil) (PSs.cons (PS.if (PT.val (PE.isi G.K (.ty _) T.is_dict rfl T.b_isinstance (PE.var 3) (pe_bltn rfl T.b_dict rfl rfl))) (PSs.one (PS.st G.u1 (PE.lst (PA.cons PE.int PA.nil)) (PE.var 3) PE.str)) PSs.nil) (PSs.one (PS.if (PW.pt (PW.or (PT.not (PT.tru G.K (PE.call D18 G (by decide) rfl (PA.cons (PE.var 4) (PA.cons (PE.var 3) PA.nil))))) (PW.or1 (PT.not (PT.tru G.K (PE.call D18 G (by decide) rfl (PA.cons (PE.var 5) (PA.cons (PE.var 3) PA.nil)))))))) (PSs.one (PS.ret PE.bl)) PSs.nil))))))) (PSs.cons (PS.if (PW.pt (PW.or (PT.not (PT.tru G.K (PE.call D18 G (by decide) rfl (PA.cons (PE.ix G.K G.u1 (PE.var 2) PE.int (fun _ _ => rfl)) (PA.cons (PE.var 1) PA.nil))))) (PW.or (PT.not (PT.tru G.K (PE.call D18 G (by decide) rfl (PA.cons (PE.ix G.K G.u1 (PE.var 2) PE.int (fun _ _ => rfl)) (PA.cons PE.str PA.nil))))) (PW.or1 (PT.not (PT.tru G.K (PE.call D18 G (by decide) rfl (PA.cons (PE.call0 D21 G (by decide) rfl) (PA.cons PE.non PA.nil))))))))) (PSs.one (PS.ret PE.bl)) PSs.nil) (PSs.one (PS.ret (PE.cmp (op_eqM G.sm G.u64) (PE.call D17 G (by decide) rfl (PA.cons (PE.err0 T.e10 G rfl) PA.nil)) (PE.lst (PA.cons PE.int PA.nil)) (nomark _))))))))
end
abbrev sI1 : Stmt := inClass (top 2) 0
abbrev sI2 : Stmt := inClass (top 3) 0
abbrev sI3 : Stmt := inClass (top 4) 0
abbrev sI4 : Stmt := inClass (top 5) 0
abbrev sI5 : Stmt := inClass (top 6) 0
abbrev sI6 : Stmt := inClass (top 7) 0
abbrev sI7 : Stmt := inClass (top 8) 0
abbrev sI8 : Stmt := inClass (top 9) 0
abbrev sI9 : Stmt := inClass (top 10) 0
theorem all_mk {P : Program} {w : World} {K : PySem.W.Frag} {h : Heap} {mg : Str → Option Value} {fa : Addr} (X : K.In h) (G : h.Ns mainGlobals mg) (hfa : mg "law" = some (.ref fa))
    {C0 : Addr}
    {C1 : Addr}
    {nm1 q1 : Str} {N1 fI1 cda1 cc1 T1 : Addr} {bs1 bm1 sub1 : List Value} {sn1 : List Str} {ab1 : Bool} {col1 : Option Bool} {dd1 od1 an1 cdd1 cld1 td1 : Option Addr} {u01 u11 u21 u31 u51 : Option Value} {oc1 kV1 doc1 pm1 ct1 ccl1 cl1 tc1 : Value} {osl1 ccs1 csl1 tsl1 : Array (Option Value)} {vs1 : Array Value} {file1 : Str} {tf1 : Tok} {n1 : Nat}
    {C2 : Addr}
    {nm2 q2 : Str} {N2 fI2 cda2 cc2 T2 : Addr} {bs2 bm2 sub2 : List Value} {sn2 : List Str} {ab2 : Bool} {col2 : Option Bool} {dd2 od2 an2 cdd2 cld2 td2 : Option Addr} {u02 u12 u22 u32 u52 : Option Value} {oc2 kV2 doc2 pm2 ct2 ccl2 cl2 tc2 : Value} {osl2 ccs2 csl2 tsl2 : Array (Option Value)} {vs2 : Array Value} {file2 : Str} {tf2 : Tok} {n2 : Nat}
    {C3 : Addr}
    {nm3 q3 : Str} {N3 fI3 cda3 cc3 T3 : Addr} {bs3 bm3 sub3 : List Value} {sn3 : List Str} {ab3 : Bool} {col3 : Option Bool} {dd3 od3 an3 cdd3 cld3 td3 : Option Addr} {u03 u13 u23 u33 u53 : Option Value} {oc3 kV3 doc3 pm3 ct3 ccl3 cl3 tc3 : Value} {osl3 ccs3 csl3 tsl3 : Array (Option Value)} {vs3 : Array Value} {file3 : Str} {tf3 : Tok} {n3 : Nat}
    {C4 : Addr}
    {nm4 q4 : Str} {N4 fI4 cda4 cc4 T4 : Addr} {bs4 bm4 sub4 : List Value} {sn4 : List Str} {ab4 : Bool} {col4 : Option Bool} {dd4 od4 an4 cdd4 cld4 td4 : Option Addr} {u04 u14 u24 u34 u54 : Option Value} {oc4 kV4 doc4 pm4 ct4 ccl4 cl4 tc4 : Value} {osl4 ccs4 csl4 tsl4 : Array (Option Value)} {vs4 : Array Value} {file4 : Str} {tf4 : Tok} {n4 : Nat}
    {C5 : Addr}
    {nm5 q5 : Str} {N5 fI5 cda5 cc5 T5 : Addr} {bs5 bm5 sub5 : List Value} {sn5 : List Str} {ab5 : Bool} {col5 : Option Bool} {dd5 od5 an5 cdd5 cld5 td5 : Option Addr} {u05 u15 u25 u35 u55 : Option Value} {oc5 kV5 doc5 pm5 ct5 ccl5 cl5 tc5 : Value} {osl5 ccs5 csl5 tsl5 : Array (Option Value)} {vs5 : Array Value} {file5 : Str} {tf5 : Tok} {n5 : Nat}
    {C6 : Addr}
    {nm6 q6 : Str} {N6 fI6 cda6 cc6 T6 : Addr} {bs6 bm6 sub6 : List Value} {sn6 : List Str} {ab6 : Bool} {col6 : Option Bool} {dd6 od6 an6 cdd6 cld6 td6 : Option Addr} {u06 u16 u26 u36 u56 : Option Value} {oc6 kV6 doc6 pm6 ct6 ccl6 cl6 tc6 : Value} {osl6 ccs6 csl6 tsl6 : Array (Option Value)} {vs6 : Array Value} {file6 : Str} {tf6 : Tok} {n6 : Nat}
    {C7 : Addr}
    {nm7 q7 : Str} {N7 fI7 cda7 cc7 T7 : Addr} {bs7 bm7 sub7 : List Value} {sn7 : List Str} {ab7 : Bool} {col7 : Option Bool} {dd7 od7 an7 cdd7 cld7 td7 : Option Addr} {u07 u17 u27 u37 u57 : Option Value} {oc7 kV7 doc7 pm7 ct7 ccl7 cl7 tc7 : Value} {osl7 ccs7 csl7 tsl7 : Array (Option Value)} {vs7 : Array Value} {file7 : Str} {tf7 : Tok} {n7 : Nat}
    {C8 : Addr}
    {nm8 q8 : Str} {N8 fI8 cda8 cc8 T8 : Addr} {bs8 bm8 sub8 : List Value} {sn8 : List Str} {ab8 : Bool} {col8 : Option Bool} {dd8 od8 an8 cdd8 cld8 td8 : Option Addr} {u08 u18 u28 u38 u58 : Option Value} {oc8 kV8 doc8 pm8 ct8 ccl8 cl8 tc8 : Value} {osl8 ccs8 csl8 tsl8 : Array (Option Value)} {vs8 : Array Value} {file8 : Str} {tf8 : Tok} {n8 : Nat}
    {C9 : Addr}
    {nm9 q9 : Str} {N9 fI9 cda9 cc9 T9 : Addr} {bs9 bm9 sub9 : List Value} {sn9 : List Str} {ab9 : Bool} {col9 : Option Bool} {dd9 od9 an9 cdd9 cld9 td9 : Option Addr} {u09 u19 u29 u39 u59 : Option Value} {oc9 kV9 doc9 pm9 ct9 ccl9 cl9 tc9 : Value} {osl9 ccs9 csl9 tsl9 : Array (Option Value)} {vs9 : Array Value} {file9 : Str} {tf9 : Tok} {n9 : Nat}
    {C10 : Addr}
    {fa14 : Addr} {od14d an14d : Option Addr} {sl14d : Array (Option Value)} {oc14d kV14d dc14d pm14d cd14d ct14d : Value}
    {fa16 : Addr} {od16d an16d : Option Addr} {sl16d : Array (Option Value)} {oc16d kV16d dc16d pm16d cd16d ct16d : Value}
    {fa13 : Addr} {od13d an13d : Option Addr} {sl13d : Array (Option Value)} {oc13d kV13d dc13d pm13d cd13d ct13d : Value}
    {fa15 : Addr} {od15d an15d : Option Addr} {sl15d : Array (Option Value)} {oc15d kV15d dc15d pm15d cd15d ct15d : Value}
    {fa20 : Addr} {od20d an20d : Option Addr} {sl20d : Array (Option Value)} {oc20d kV20d dc20d pm20d cd20d ct20d : Value}
    {fa19 : Addr} {od19d an19d : Option Addr} {sl19d : Array (Option Value)} {oc19d kV19d dc19d pm19d cd19d ct19d : Value}
    {fa17 : Addr} {od17d an17d : Option Addr} {sl17d : Array (Option Value)} {oc17d kV17d dc17d pm17d cd17d ct17d : Value}
    {fa18 : Addr} {od18d an18d : Option Addr} {sl18d : Array (Option Value)} {oc18d kV18d dc18d pm18d cd18d ct18d : Value}
    {fa21 : Addr} {od21d an21d : Option Addr} {sl21d : Array (Option Value)} {oc21d kV21d dc21d pm21d cd21d ct21d : Value}
    {fa22 : Addr} {od22d an22d : Option Addr} {sl22d : Array (Option Value)} {oc22d kV22d dc22d pm22d cd22d ct22d : Value}
    (aC0 : PySem.W.nsIn K mainGlobals "WalkError" = some (some (.ref C0)))
    (ga0 : PySem.W.findIn K (.ref C0) "__getattribute__" = some (some (.builtin "BaseException.__getattribute__")))
    (gg0 : PySem.W.findIn K (.ref C0) "__getattr__" = some none)
    (kC0 : PySem.W.keepIn K (.ref C0) = true)
    (ex0 : PySem.W.subIn K (.ref C0) (.type "BaseException") = some true)
    (ty0 : PySem.W.typeIn K (.ref C0) = some (.type "type"))
    (hd0 : PySem.W.hasDictIn K C0 = true)
    (ic0 : PySem.W.isClsIn K C0 = true)
    (ha0 : PySem.W.findIn K (.ref C0) "__class__" = some (some (.builtin "object.__class__")))
    (mo0 : PySem.W.mroIn K C0 (.type "object") = some true)
    (xn0 : PySem.W.excIn K C0 Er.veM "ValueError.__new__" = true)
    (aC1 : PySem.W.nsIn K mainGlobals "InvalidNumber" = some (some (.ref C1)))
    (ga1 : PySem.W.findIn K (.ref C1) "__getattribute__" = some (some (.builtin "BaseException.__getattribute__")))
    (gg1 : PySem.W.findIn K (.ref C1) "__getattr__" = some none)
    (kC1 : PySem.W.keepIn K (.ref C1) = true)
    (ex1 : PySem.W.subIn K (.ref C1) (.type "BaseException") = some true)
    (ty1 : PySem.W.typeIn K (.ref C1) = some (.type "type"))
    (hd1 : PySem.W.hasDictIn K C1 = true)
    (ic1 : PySem.W.isClsIn K C1 = true)
    (ha1 : PySem.W.findIn K (.ref C1) "__class__" = some (some (.builtin "object.__class__")))
    (mo1 : PySem.W.mroIn K C1 (.type "object") = some true)
    (xL1 : K.lookup C1 = some (excClassObj nm1 q1 C1 N1 bs1 bm1 true sn1 sub1 ab1 col1 dd1 u01 u11 u21 u31 u51 "ValueError.__new__"))
    (rv1 : PySem.HandSPX.refsVE bm1 = true)
    (al1 : PySem.W.ks_superIn K C1 C1 "__init__" = some (some (.builtin "ValueError.__init__")))
    (sa1 : PySem.W.findIn K (.ref C1) "__setattr__" = some (some (.builtin "object.__setattr__")))
    (no1 : PySem.W.findIn K (.ref C1) "value" = some none)
    (iC1 : PySem.W.findIn K (.ref C1) "__init__" = some (some (.ref fI1)))
    (tF1 : PySem.W.typeIn K (.ref fI1) = some (.type "function"))
    (ve1 : PySem.W.subIn K (.ref C1) (.type "ValueError") = some true)
    (mr1 : PySem.W.mroIn K C1 (.ref C1) = some true)
    (lF1 : K.lookup fI1 = some ⟨oc1, od1, .func (PySem.W.fnX "__init__" "InvalidNumber.__init__" (defArgs sI1) (defBody sI1) (defScope sI1) [("__class__", cc1)] (.ref T1) kV1 doc1 pm1 an1 (.ref cda1) ct1), osl1⟩)
    (cF1 : PySem.W.codeIn K (.ref cda1) "InvalidNumber.__init__" = true)
    (lD1 : K.lookup cda1 = some ⟨ccl1, cdd1, .fields vs1, ccs1⟩)
    (hv1 : vs1[2]? = some (.str file1 tf1))
    (hf1 : (P.main.file == file1) = true)
    (lcc1 : K.lookup cc1 = some ⟨cl1, cld1, .cell (some (.ref C1)), csl1⟩)
    (lT1 : K.lookup T1 = some ⟨tc1, td1, .seq #[.none] n1, tsl1⟩)
    (aC2 : PySem.W.nsIn K mainGlobals "InvalidList" = some (some (.ref C2)))
    (ga2 : PySem.W.findIn K (.ref C2) "__getattribute__" = some (some (.builtin "BaseException.__getattribute__")))
    (gg2 : PySem.W.findIn K (.ref C2) "__getattr__" = some none)
    (kC2 : PySem.W.keepIn K (.ref C2) = true)
    (ex2 : PySem.W.subIn K (.ref C2) (.type "BaseException") = some true)
    (ty2 : PySem.W.typeIn K (.ref C2) = some (.type "type"))
    (hd2 : PySem.W.hasDictIn K C2 = true)
    (ic2 : PySem.W.isClsIn K C2 = true)
    (ha2 : PySem.W.findIn K (.ref C2) "__class__" = some (some (.builtin "object.__class__")))
    (mo2 : PySem.W.mroIn K C2 (.type "object") = some true)
    (xL2 : K.lookup C2 = some (excClassObj nm2 q2 C2 N2 bs2 bm2 true sn2 sub2 ab2 col2 dd2 u02 u12 u22 u32 u52 "ValueError.__new__"))
    (rv2 : PySem.HandSPX.refsVE bm2 = true)
    (al2 : PySem.W.ks_superIn K C2 C2 "__init__" = some (some (.builtin "ValueError.__init__")))
    (sa2 : PySem.W.findIn K (.ref C2) "__setattr__" = some (some (.builtin "object.__setattr__")))
    (no2 : PySem.W.findIn K (.ref C2) "value" = some none)
    (iC2 : PySem.W.findIn K (.ref C2) "__init__" = some (some (.ref fI2)))
    (tF2 : PySem.W.typeIn K (.ref fI2) = some (.type "function"))
    (ve2 : PySem.W.subIn K (.ref C2) (.type "ValueError") = some true)
    (mr2 : PySem.W.mroIn K C2 (.ref C2) = some true)
    (lF2 : K.lookup fI2 = some ⟨oc2, od2, .func (PySem.W.fnX "__init__" "InvalidList.__init__" (defArgs sI2) (defBody sI2) (defScope sI2) [("__class__", cc2)] (.ref T2) kV2 doc2 pm2 an2 (.ref cda2) ct2), osl2⟩)
    (cF2 : PySem.W.codeIn K (.ref cda2) "InvalidList.__init__" = true)
    (lD2 : K.lookup cda2 = some ⟨ccl2, cdd2, .fields vs2, ccs2⟩)
    (hv2 : vs2[2]? = some (.str file2 tf2))
    (hf2 : (P.main.file == file2) = true)
    (lcc2 : K.lookup cc2 = some ⟨cl2, cld2, .cell (some (.ref C2)), csl2⟩)
    (lT2 : K.lookup T2 = some ⟨tc2, td2, .seq #[.none] n2, tsl2⟩)
    (aC3 : PySem.W.nsIn K mainGlobals "InvalidItem" = some (some (.ref C3)))
    (ga3 : PySem.W.findIn K (.ref C3) "__getattribute__" = some (some (.builtin "BaseException.__getattribute__")))
    (gg3 : PySem.W.findIn K (.ref C3) "__getattr__" = some none)
    (kC3 : PySem.W.keepIn K (.ref C3) = true)
    (ex3 : PySem.W.subIn K (.ref C3) (.type "BaseException") = some true)
    (ty3 : PySem.W.typeIn K (.ref C3) = some (.type "type"))
    (hd3 : PySem.W.hasDictIn K C3 = true)
    (ic3 : PySem.W.isClsIn K C3 = true)
    (ha3 : PySem.W.findIn K (.ref C3) "__class__" = some (some (.builtin "object.__class__")))
    (mo3 : PySem.W.mroIn K C3 (.type "object") = some true)
    (xL3 : K.lookup C3 = some (excClassObj nm3 q3 C3 N3 bs3 bm3 true sn3 sub3 ab3 col3 dd3 u03 u13 u23 u33 u53 "ValueError.__new__"))
    (rv3 : PySem.HandSPX.refsVE bm3 = true)
    (al3 : PySem.W.ks_superIn K C3 C3 "__init__" = some (some (.builtin "ValueError.__init__")))
    (sa3 : PySem.W.findIn K (.ref C3) "__setattr__" = some (some (.builtin "object.__setattr__")))
    (no3 : PySem.W.findIn K (.ref C3) "value" = some none)
    (iC3 : PySem.W.findIn K (.ref C3) "__init__" = some (some (.ref fI3)))
    (tF3 : PySem.W.typeIn K (.ref fI3) = some (.type "function"))
    (ve3 : PySem.W.subIn K (.ref C3) (.type "ValueError") = some true)
    (mr3 : PySem.W.mroIn K C3 (.ref C3) = some true)
    (lF3 : K.lookup fI3 = some ⟨oc3, od3, .func (PySem.W.fnX "__init__" "InvalidItem.__init__" (defArgs sI3) (defBody sI3) (defScope sI3) [("__class__", cc3)] (.ref T3) kV3 doc3 pm3 an3 (.ref cda3) ct3), osl3⟩)
    (cF3 : PySem.W.codeIn K (.ref cda3) "InvalidItem.__init__" = true)
    (lD3 : K.lookup cda3 = some ⟨ccl3, cdd3, .fields vs3, ccs3⟩)
    (hv3 : vs3[2]? = some (.str file3 tf3))
    (hf3 : (P.main.file == file3) = true)
    (lcc3 : K.lookup cc3 = some ⟨cl3, cld3, .cell (some (.ref C3)), csl3⟩)
    (lT3 : K.lookup T3 = some ⟨tc3, td3, .seq #[.none] n3, tsl3⟩)
    (aC4 : PySem.W.nsIn K mainGlobals "InvalidProgram" = some (some (.ref C4)))
    (ga4 : PySem.W.findIn K (.ref C4) "__getattribute__" = some (some (.builtin "BaseException.__getattribute__")))
    (gg4 : PySem.W.findIn K (.ref C4) "__getattr__" = some none)
    (kC4 : PySem.W.keepIn K (.ref C4) = true)
    (ex4 : PySem.W.subIn K (.ref C4) (.type "BaseException") = some true)
    (ty4 : PySem.W.typeIn K (.ref C4) = some (.type "type"))
    (hd4 : PySem.W.hasDictIn K C4 = true)
    (ic4 : PySem.W.isClsIn K C4 = true)
    (ha4 : PySem.W.findIn K (.ref C4) "__class__" = some (some (.builtin "object.__class__")))
    (mo4 : PySem.W.mroIn K C4 (.type "object") = some true)
    (xL4 : K.lookup C4 = some (excClassObj nm4 q4 C4 N4 bs4 bm4 true sn4 sub4 ab4 col4 dd4 u04 u14 u24 u34 u54 "ValueError.__new__"))
    (rv4 : PySem.HandSPX.refsVE bm4 = true)
    (al4 : PySem.W.ks_superIn K C4 C4 "__init__" = some (some (.builtin "ValueError.__init__")))
    (sa4 : PySem.W.findIn K (.ref C4) "__setattr__" = some (some (.builtin "object.__setattr__")))
    (no4 : PySem.W.findIn K (.ref C4) "value" = some none)
    (iC4 : PySem.W.findIn K (.ref C4) "__init__" = some (some (.ref fI4)))
    (tF4 : PySem.W.typeIn K (.ref fI4) = some (.type "function"))
    (ve4 : PySem.W.subIn K (.ref C4) (.type "ValueError") = some true)
    (mr4 : PySem.W.mroIn K C4 (.ref C4) = some true)
    (lF4 : K.lookup fI4 = some ⟨oc4, od4, .func (PySem.W.fnX "__init__" "InvalidProgram.__init__" (defArgs sI4) (defBody sI4) (defScope sI4) [("__class__", cc4)] (.ref T4) kV4 doc4 pm4 an4 (.ref cda4) ct4), osl4⟩)
    (cF4 : PySem.W.codeIn K (.ref cda4) "InvalidProgram.__init__" = true)
    (lD4 : K.lookup cda4 = some ⟨ccl4, cdd4, .fields vs4, ccs4⟩)
    (hv4 : vs4[2]? = some (.str file4 tf4))
    (hf4 : (P.main.file == file4) = true)
    (lcc4 : K.lookup cc4 = some ⟨cl4, cld4, .cell (some (.ref C4)), csl4⟩)
    (lT4 : K.lookup T4 = some ⟨tc4, td4, .seq #[.none] n4, tsl4⟩)
    (aC5 : PySem.W.nsIn K mainGlobals "InvalidRow" = some (some (.ref C5)))
    (ga5 : PySem.W.findIn K (.ref C5) "__getattribute__" = some (some (.builtin "BaseException.__getattribute__")))
    (gg5 : PySem.W.findIn K (.ref C5) "__getattr__" = some none)
    (kC5 : PySem.W.keepIn K (.ref C5) = true)
    (ex5 : PySem.W.subIn K (.ref C5) (.type "BaseException") = some true)
    (ty5 : PySem.W.typeIn K (.ref C5) = some (.type "type"))
    (hd5 : PySem.W.hasDictIn K C5 = true)
    (ic5 : PySem.W.isClsIn K C5 = true)
    (ha5 : PySem.W.findIn K (.ref C5) "__class__" = some (some (.builtin "object.__class__")))
    (mo5 : PySem.W.mroIn K C5 (.type "object") = some true)
    (xL5 : K.lookup C5 = some (excClassObj nm5 q5 C5 N5 bs5 bm5 true sn5 sub5 ab5 col5 dd5 u05 u15 u25 u35 u55 "ValueError.__new__"))
    (rv5 : PySem.HandSPX.refsVE bm5 = true)
    (al5 : PySem.W.ks_superIn K C5 C5 "__init__" = some (some (.builtin "ValueError.__init__")))
    (sa5 : PySem.W.findIn K (.ref C5) "__setattr__" = some (some (.builtin "object.__setattr__")))
    (no5 : PySem.W.findIn K (.ref C5) "value" = some none)
    (iC5 : PySem.W.findIn K (.ref C5) "__init__" = some (some (.ref fI5)))
    (tF5 : PySem.W.typeIn K (.ref fI5) = some (.type "function"))
    (ve5 : PySem.W.subIn K (.ref C5) (.type "ValueError") = some true)
    (mr5 : PySem.W.mroIn K C5 (.ref C5) = some true)
    (lF5 : K.lookup fI5 = some ⟨oc5, od5, .func (PySem.W.fnX "__init__" "InvalidRow.__init__" (defArgs sI5) (defBody sI5) (defScope sI5) [("__class__", cc5)] (.ref T5) kV5 doc5 pm5 an5 (.ref cda5) ct5), osl5⟩)
    (cF5 : PySem.W.codeIn K (.ref cda5) "InvalidRow.__init__" = true)
    (lD5 : K.lookup cda5 = some ⟨ccl5, cdd5, .fields vs5, ccs5⟩)
    (hv5 : vs5[2]? = some (.str file5 tf5))
    (hf5 : (P.main.file == file5) = true)
    (lcc5 : K.lookup cc5 = some ⟨cl5, cld5, .cell (some (.ref C5)), csl5⟩)
    (lT5 : K.lookup T5 = some ⟨tc5, td5, .seq #[.none] n5, tsl5⟩)
    (aC6 : PySem.W.nsIn K mainGlobals "InvalidText" = some (some (.ref C6)))
    (ga6 : PySem.W.findIn K (.ref C6) "__getattribute__" = some (some (.builtin "BaseException.__getattribute__")))
    (gg6 : PySem.W.findIn K (.ref C6) "__getattr__" = some none)
    (kC6 : PySem.W.keepIn K (.ref C6) = true)
    (ex6 : PySem.W.subIn K (.ref C6) (.type "BaseException") = some true)
    (ty6 : PySem.W.typeIn K (.ref C6) = some (.type "type"))
    (hd6 : PySem.W.hasDictIn K C6 = true)
    (ic6 : PySem.W.isClsIn K C6 = true)
    (ha6 : PySem.W.findIn K (.ref C6) "__class__" = some (some (.builtin "object.__class__")))
    (mo6 : PySem.W.mroIn K C6 (.type "object") = some true)
    (xL6 : K.lookup C6 = some (excClassObj nm6 q6 C6 N6 bs6 bm6 true sn6 sub6 ab6 col6 dd6 u06 u16 u26 u36 u56 "ValueError.__new__"))
    (rv6 : PySem.HandSPX.refsVE bm6 = true)
    (al6 : PySem.W.ks_superIn K C6 C6 "__init__" = some (some (.builtin "ValueError.__init__")))
    (sa6 : PySem.W.findIn K (.ref C6) "__setattr__" = some (some (.builtin "object.__setattr__")))
    (no6 : PySem.W.findIn K (.ref C6) "value" = some none)
    (iC6 : PySem.W.findIn K (.ref C6) "__init__" = some (some (.ref fI6)))
    (tF6 : PySem.W.typeIn K (.ref fI6) = some (.type "function"))
    (ve6 : PySem.W.subIn K (.ref C6) (.type "ValueError") = some true)
    (mr6 : PySem.W.mroIn K C6 (.ref C6) = some true)
    (lF6 : K.lookup fI6 = some ⟨oc6, od6, .func (PySem.W.fnX "__init__" "InvalidText.__init__" (defArgs sI6) (defBody sI6) (defScope sI6) [("__class__", cc6)] (.ref T6) kV6 doc6 pm6 an6 (.ref cda6) ct6), osl6⟩)
    (cF6 : PySem.W.codeIn K (.ref cda6) "InvalidText.__init__" = true)
    (lD6 : K.lookup cda6 = some ⟨ccl6, cdd6, .fields vs6, ccs6⟩)
    (hv6 : vs6[2]? = some (.str file6 tf6))
    (hf6 : (P.main.file == file6) = true)
    (lcc6 : K.lookup cc6 = some ⟨cl6, cld6, .cell (some (.ref C6)), csl6⟩)
    (lT6 : K.lookup T6 = some ⟨tc6, td6, .seq #[.none] n6, tsl6⟩)
    (aC7 : PySem.W.nsIn K mainGlobals "InvalidName" = some (some (.ref C7)))
    (ga7 : PySem.W.findIn K (.ref C7) "__getattribute__" = some (some (.builtin "BaseException.__getattribute__")))
    (gg7 : PySem.W.findIn K (.ref C7) "__getattr__" = some none)
    (kC7 : PySem.W.keepIn K (.ref C7) = true)
    (ex7 : PySem.W.subIn K (.ref C7) (.type "BaseException") = some true)
    (ty7 : PySem.W.typeIn K (.ref C7) = some (.type "type"))
    (hd7 : PySem.W.hasDictIn K C7 = true)
    (ic7 : PySem.W.isClsIn K C7 = true)
    (ha7 : PySem.W.findIn K (.ref C7) "__class__" = some (some (.builtin "object.__class__")))
    (mo7 : PySem.W.mroIn K C7 (.type "object") = some true)
    (xL7 : K.lookup C7 = some (excClassObj nm7 q7 C7 N7 bs7 bm7 true sn7 sub7 ab7 col7 dd7 u07 u17 u27 u37 u57 "ValueError.__new__"))
    (rv7 : PySem.HandSPX.refsVE bm7 = true)
    (al7 : PySem.W.ks_superIn K C7 C7 "__init__" = some (some (.builtin "ValueError.__init__")))
    (sa7 : PySem.W.findIn K (.ref C7) "__setattr__" = some (some (.builtin "object.__setattr__")))
    (no7 : PySem.W.findIn K (.ref C7) "name" = some none)
    (iC7 : PySem.W.findIn K (.ref C7) "__init__" = some (some (.ref fI7)))
    (tF7 : PySem.W.typeIn K (.ref fI7) = some (.type "function"))
    (ve7 : PySem.W.subIn K (.ref C7) (.type "ValueError") = some true)
    (mr7 : PySem.W.mroIn K C7 (.ref C7) = some true)
    (lF7 : K.lookup fI7 = some ⟨oc7, od7, .func (PySem.W.fnX "__init__" "InvalidName.__init__" (defArgs sI7) (defBody sI7) (defScope sI7) [("__class__", cc7)] (.ref T7) kV7 doc7 pm7 an7 (.ref cda7) ct7), osl7⟩)
    (cF7 : PySem.W.codeIn K (.ref cda7) "InvalidName.__init__" = true)
    (lD7 : K.lookup cda7 = some ⟨ccl7, cdd7, .fields vs7, ccs7⟩)
    (hv7 : vs7[2]? = some (.str file7 tf7))
    (hf7 : (P.main.file == file7) = true)
    (lcc7 : K.lookup cc7 = some ⟨cl7, cld7, .cell (some (.ref C7)), csl7⟩)
    (lT7 : K.lookup T7 = some ⟨tc7, td7, .seq #[.none] n7, tsl7⟩)
    (aC8 : PySem.W.nsIn K mainGlobals "TakenName" = some (some (.ref C8)))
    (ga8 : PySem.W.findIn K (.ref C8) "__getattribute__" = some (some (.builtin "BaseException.__getattribute__")))
    (gg8 : PySem.W.findIn K (.ref C8) "__getattr__" = some none)
    (kC8 : PySem.W.keepIn K (.ref C8) = true)
    (ex8 : PySem.W.subIn K (.ref C8) (.type "BaseException") = some true)
    (ty8 : PySem.W.typeIn K (.ref C8) = some (.type "type"))
    (hd8 : PySem.W.hasDictIn K C8 = true)
    (ic8 : PySem.W.isClsIn K C8 = true)
    (ha8 : PySem.W.findIn K (.ref C8) "__class__" = some (some (.builtin "object.__class__")))
    (mo8 : PySem.W.mroIn K C8 (.type "object") = some true)
    (xL8 : K.lookup C8 = some (excClassObj nm8 q8 C8 N8 bs8 bm8 true sn8 sub8 ab8 col8 dd8 u08 u18 u28 u38 u58 "ValueError.__new__"))
    (rv8 : PySem.HandSPX.refsVE bm8 = true)
    (al8 : PySem.W.ks_superIn K C8 C8 "__init__" = some (some (.builtin "ValueError.__init__")))
    (sa8 : PySem.W.findIn K (.ref C8) "__setattr__" = some (some (.builtin "object.__setattr__")))
    (no8 : PySem.W.findIn K (.ref C8) "name" = some none)
    (iC8 : PySem.W.findIn K (.ref C8) "__init__" = some (some (.ref fI8)))
    (tF8 : PySem.W.typeIn K (.ref fI8) = some (.type "function"))
    (ve8 : PySem.W.subIn K (.ref C8) (.type "ValueError") = some true)
    (mr8 : PySem.W.mroIn K C8 (.ref C8) = some true)
    (lF8 : K.lookup fI8 = some ⟨oc8, od8, .func (PySem.W.fnX "__init__" "TakenName.__init__" (defArgs sI8) (defBody sI8) (defScope sI8) [("__class__", cc8)] (.ref T8) kV8 doc8 pm8 an8 (.ref cda8) ct8), osl8⟩)
    (cF8 : PySem.W.codeIn K (.ref cda8) "TakenName.__init__" = true)
    (lD8 : K.lookup cda8 = some ⟨ccl8, cdd8, .fields vs8, ccs8⟩)
    (hv8 : vs8[2]? = some (.str file8 tf8))
    (hf8 : (P.main.file == file8) = true)
    (lcc8 : K.lookup cc8 = some ⟨cl8, cld8, .cell (some (.ref C8)), csl8⟩)
    (lT8 : K.lookup T8 = some ⟨tc8, td8, .seq #[.none] n8, tsl8⟩)
    (aC9 : PySem.W.nsIn K mainGlobals "UnknownName" = some (some (.ref C9)))
    (ga9 : PySem.W.findIn K (.ref C9) "__getattribute__" = some (some (.builtin "BaseException.__getattribute__")))
    (gg9 : PySem.W.findIn K (.ref C9) "__getattr__" = some none)
    (kC9 : PySem.W.keepIn K (.ref C9) = true)
    (ex9 : PySem.W.subIn K (.ref C9) (.type "BaseException") = some true)
    (ty9 : PySem.W.typeIn K (.ref C9) = some (.type "type"))
    (hd9 : PySem.W.hasDictIn K C9 = true)
    (ic9 : PySem.W.isClsIn K C9 = true)
    (ha9 : PySem.W.findIn K (.ref C9) "__class__" = some (some (.builtin "object.__class__")))
    (mo9 : PySem.W.mroIn K C9 (.type "object") = some true)
    (xL9 : K.lookup C9 = some (excClassObj nm9 q9 C9 N9 bs9 bm9 true sn9 sub9 ab9 col9 dd9 u09 u19 u29 u39 u59 "ValueError.__new__"))
    (rv9 : PySem.HandSPX.refsVE bm9 = true)
    (al9 : PySem.W.ks_superIn K C9 C9 "__init__" = some (some (.builtin "ValueError.__init__")))
    (sa9 : PySem.W.findIn K (.ref C9) "__setattr__" = some (some (.builtin "object.__setattr__")))
    (no9 : PySem.W.findIn K (.ref C9) "name" = some none)
    (iC9 : PySem.W.findIn K (.ref C9) "__init__" = some (some (.ref fI9)))
    (tF9 : PySem.W.typeIn K (.ref fI9) = some (.type "function"))
    (ve9 : PySem.W.subIn K (.ref C9) (.type "ValueError") = some true)
    (mr9 : PySem.W.mroIn K C9 (.ref C9) = some true)
    (lF9 : K.lookup fI9 = some ⟨oc9, od9, .func (PySem.W.fnX "__init__" "UnknownName.__init__" (defArgs sI9) (defBody sI9) (defScope sI9) [("__class__", cc9)] (.ref T9) kV9 doc9 pm9 an9 (.ref cda9) ct9), osl9⟩)
    (cF9 : PySem.W.codeIn K (.ref cda9) "UnknownName.__init__" = true)
    (lD9 : K.lookup cda9 = some ⟨ccl9, cdd9, .fields vs9, ccs9⟩)
    (hv9 : vs9[2]? = some (.str file9 tf9))
    (hf9 : (P.main.file == file9) = true)
    (lcc9 : K.lookup cc9 = some ⟨cl9, cld9, .cell (some (.ref C9)), csl9⟩)
    (lT9 : K.lookup T9 = some ⟨tc9, td9, .seq #[.none] n9, tsl9⟩)
    (aC10 : PySem.W.nsIn K mainGlobals "NothingToUndo" = some (some (.ref C10)))
    (ga10 : PySem.W.findIn K (.ref C10) "__getattribute__" = some (some (.builtin "BaseException.__getattribute__")))
    (gg10 : PySem.W.findIn K (.ref C10) "__getattr__" = some none)
    (kC10 : PySem.W.keepIn K (.ref C10) = true)
    (ex10 : PySem.W.subIn K (.ref C10) (.type "BaseException") = some true)
    (ty10 : PySem.W.typeIn K (.ref C10) = some (.type "type"))
    (hd10 : PySem.W.hasDictIn K C10 = true)
    (ic10 : PySem.W.isClsIn K C10 = true)
    (ha10 : PySem.W.findIn K (.ref C10) "__class__" = some (some (.builtin "object.__class__")))
    (mo10 : PySem.W.mroIn K C10 (.type "object") = some true)
    (xn10 : PySem.W.excIn K C10 Er.veM "ValueError.__new__" = true)
    (opq : PySem.W.nsIn K cStatics "thirdparty.any" = some none)
    (sup : PySem.W.nsIn K mainGlobals "super" = some none)
    (hn : PySem.W.specialIn K (.builtin "object.__class__") "__get__" = some (some (.builtin "getset_descriptor.__get__")))
    (ht : PySem.W.takesIn K (.builtin "object.__class__") = some true)
    (htop : (P.main.scope.names.lookup ("super" : Str)).isSome = false)
    (b_ValueError : PySem.W.nsIn K mainGlobals "ValueError" = some none)
    (b_dict : PySem.W.nsIn K mainGlobals "dict" = some none)
    (b_int : PySem.W.nsIn K mainGlobals "int" = some none)
    (b_isinstance : PySem.W.nsIn K mainGlobals "isinstance" = some none)
    (b_len : PySem.W.nsIn K mainGlobals "len" = some none)
    (b_list : PySem.W.nsIn K mainGlobals "list" = some none)
    (b_max : PySem.W.nsIn K mainGlobals "max" = some none)
    (b_range : PySem.W.nsIn K mainGlobals "range" = some none)
    (b_repr : PySem.W.nsIn K mainGlobals "repr" = some none)
    (o0_InvalidItem : PySem.W.kitOne K (.ref C0) (.ref C3) = some false)
    (o1_InvalidItem : PySem.W.kitOne K (.ref C1) (.ref C3) = some false)
    (o2_InvalidItem : PySem.W.kitOne K (.ref C2) (.ref C3) = some false)
    (o3_InvalidItem : PySem.W.kitOne K (.ref C3) (.ref C3) = some true)
    (o4_InvalidItem : PySem.W.kitOne K (.ref C4) (.ref C3) = some false)
    (o5_InvalidItem : PySem.W.kitOne K (.ref C5) (.ref C3) = some false)
    (o6_InvalidItem : PySem.W.kitOne K (.ref C6) (.ref C3) = some false)
    (o7_InvalidItem : PySem.W.kitOne K (.ref C7) (.ref C3) = some false)
    (o8_InvalidItem : PySem.W.kitOne K (.ref C8) (.ref C3) = some false)
    (o9_InvalidItem : PySem.W.kitOne K (.ref C9) (.ref C3) = some false)
    (o10_InvalidItem : PySem.W.kitOne K (.ref C10) (.ref C3) = some false)
    (o0_InvalidList : PySem.W.kitOne K (.ref C0) (.ref C2) = some false)
    (o1_InvalidList : PySem.W.kitOne K (.ref C1) (.ref C2) = some false)
    (o2_InvalidList : PySem.W.kitOne K (.ref C2) (.ref C2) = some true)
    (o3_InvalidList : PySem.W.kitOne K (.ref C3) (.ref C2) = some false)
    (o4_InvalidList : PySem.W.kitOne K (.ref C4) (.ref C2) = some false)
    (o5_InvalidList : PySem.W.kitOne K (.ref C5) (.ref C2) = some false)
    (o6_InvalidList : PySem.W.kitOne K (.ref C6) (.ref C2) = some false)
    (o7_InvalidList : PySem.W.kitOne K (.ref C7) (.ref C2) = some false)
    (o8_InvalidList : PySem.W.kitOne K (.ref C8) (.ref C2) = some false)
    (o9_InvalidList : PySem.W.kitOne K (.ref C9) (.ref C2) = some false)
    (o10_InvalidList : PySem.W.kitOne K (.ref C10) (.ref C2) = some false)
    (o0_InvalidName : PySem.W.kitOne K (.ref C0) (.ref C7) = some false)
    (o1_InvalidName : PySem.W.kitOne K (.ref C1) (.ref C7) = some false)
    (o2_InvalidName : PySem.W.kitOne K (.ref C2) (.ref C7) = some false)
    (o3_InvalidName : PySem.W.kitOne K (.ref C3) (.ref C7) = some false)
    (o4_InvalidName : PySem.W.kitOne K (.ref C4) (.ref C7) = some false)
    (o5_InvalidName : PySem.W.kitOne K (.ref C5) (.ref C7) = some false)
    (o6_InvalidName : PySem.W.kitOne K (.ref C6) (.ref C7) = some false)
    (o7_InvalidName : PySem.W.kitOne K (.ref C7) (.ref C7) = some true)
    (o8_InvalidName : PySem.W.kitOne K (.ref C8) (.ref C7) = some false)
    (o9_InvalidName : PySem.W.kitOne K (.ref C9) (.ref C7) = some false)
    (o10_InvalidName : PySem.W.kitOne K (.ref C10) (.ref C7) = some false)
    (o0_InvalidNumber : PySem.W.kitOne K (.ref C0) (.ref C1) = some false)
    (o1_InvalidNumber : PySem.W.kitOne K (.ref C1) (.ref C1) = some true)
    (o2_InvalidNumber : PySem.W.kitOne K (.ref C2) (.ref C1) = some false)
    (o3_InvalidNumber : PySem.W.kitOne K (.ref C3) (.ref C1) = some false)
    (o4_InvalidNumber : PySem.W.kitOne K (.ref C4) (.ref C1) = some false)
    (o5_InvalidNumber : PySem.W.kitOne K (.ref C5) (.ref C1) = some false)
    (o6_InvalidNumber : PySem.W.kitOne K (.ref C6) (.ref C1) = some false)
    (o7_InvalidNumber : PySem.W.kitOne K (.ref C7) (.ref C1) = some false)
    (o8_InvalidNumber : PySem.W.kitOne K (.ref C8) (.ref C1) = some false)
    (o9_InvalidNumber : PySem.W.kitOne K (.ref C9) (.ref C1) = some false)
    (o10_InvalidNumber : PySem.W.kitOne K (.ref C10) (.ref C1) = some false)
    (o0_InvalidProgram : PySem.W.kitOne K (.ref C0) (.ref C4) = some false)
    (o1_InvalidProgram : PySem.W.kitOne K (.ref C1) (.ref C4) = some false)
    (o2_InvalidProgram : PySem.W.kitOne K (.ref C2) (.ref C4) = some false)
    (o3_InvalidProgram : PySem.W.kitOne K (.ref C3) (.ref C4) = some false)
    (o4_InvalidProgram : PySem.W.kitOne K (.ref C4) (.ref C4) = some true)
    (o5_InvalidProgram : PySem.W.kitOne K (.ref C5) (.ref C4) = some false)
    (o6_InvalidProgram : PySem.W.kitOne K (.ref C6) (.ref C4) = some false)
    (o7_InvalidProgram : PySem.W.kitOne K (.ref C7) (.ref C4) = some false)
    (o8_InvalidProgram : PySem.W.kitOne K (.ref C8) (.ref C4) = some false)
    (o9_InvalidProgram : PySem.W.kitOne K (.ref C9) (.ref C4) = some false)
    (o10_InvalidProgram : PySem.W.kitOne K (.ref C10) (.ref C4) = some false)
    (o0_InvalidRow : PySem.W.kitOne K (.ref C0) (.ref C5) = some false)
    (o1_InvalidRow : PySem.W.kitOne K (.ref C1) (.ref C5) = some false)
    (o2_InvalidRow : PySem.W.kitOne K (.ref C2) (.ref C5) = some false)
    (o3_InvalidRow : PySem.W.kitOne K (.ref C3) (.ref C5) = some false)
    (o4_InvalidRow : PySem.W.kitOne K (.ref C4) (.ref C5) = some false)
    (o5_InvalidRow : PySem.W.kitOne K (.ref C5) (.ref C5) = some true)
    (o6_InvalidRow : PySem.W.kitOne K (.ref C6) (.ref C5) = some false)
    (o7_InvalidRow : PySem.W.kitOne K (.ref C7) (.ref C5) = some false)
    (o8_InvalidRow : PySem.W.kitOne K (.ref C8) (.ref C5) = some false)
    (o9_InvalidRow : PySem.W.kitOne K (.ref C9) (.ref C5) = some false)
    (o10_InvalidRow : PySem.W.kitOne K (.ref C10) (.ref C5) = some false)
    (o0_InvalidText : PySem.W.kitOne K (.ref C0) (.ref C6) = some false)
    (o1_InvalidText : PySem.W.kitOne K (.ref C1) (.ref C6) = some false)
    (o2_InvalidText : PySem.W.kitOne K (.ref C2) (.ref C6) = some false)
    (o3_InvalidText : PySem.W.kitOne K (.ref C3) (.ref C6) = some false)
    (o4_InvalidText : PySem.W.kitOne K (.ref C4) (.ref C6) = some false)
    (o5_InvalidText : PySem.W.kitOne K (.ref C5) (.ref C6) = some false)
    (o6_InvalidText : PySem.W.kitOne K (.ref C6) (.ref C6) = some true)
    (o7_InvalidText : PySem.W.kitOne K (.ref C7) (.ref C6) = some false)
    (o8_InvalidText : PySem.W.kitOne K (.ref C8) (.ref C6) = some false)
    (o9_InvalidText : PySem.W.kitOne K (.ref C9) (.ref C6) = some false)
    (o10_InvalidText : PySem.W.kitOne K (.ref C10) (.ref C6) = some false)
    (o0_NothingToUndo : PySem.W.kitOne K (.ref C0) (.ref C10) = some false)
    (o1_NothingToUndo : PySem.W.kitOne K (.ref C1) (.ref C10) = some false)
    (o2_NothingToUndo : PySem.W.kitOne K (.ref C2) (.ref C10) = some false)
    (o3_NothingToUndo : PySem.W.kitOne K (.ref C3) (.ref C10) = some false)
    (o4_NothingToUndo : PySem.W.kitOne K (.ref C4) (.ref C10) = some false)
    (o5_NothingToUndo : PySem.W.kitOne K (.ref C5) (.ref C10) = some false)
    (o6_NothingToUndo : PySem.W.kitOne K (.ref C6) (.ref C10) = some false)
    (o7_NothingToUndo : PySem.W.kitOne K (.ref C7) (.ref C10) = some false)
    (o8_NothingToUndo : PySem.W.kitOne K (.ref C8) (.ref C10) = some false)
    (o9_NothingToUndo : PySem.W.kitOne K (.ref C9) (.ref C10) = some false)
    (o10_NothingToUndo : PySem.W.kitOne K (.ref C10) (.ref C10) = some true)
    (o0_TakenName : PySem.W.kitOne K (.ref C0) (.ref C8) = some false)
    (o1_TakenName : PySem.W.kitOne K (.ref C1) (.ref C8) = some false)
    (o2_TakenName : PySem.W.kitOne K (.ref C2) (.ref C8) = some false)
    (o3_TakenName : PySem.W.kitOne K (.ref C3) (.ref C8) = some false)
    (o4_TakenName : PySem.W.kitOne K (.ref C4) (.ref C8) = some false)
    (o5_TakenName : PySem.W.kitOne K (.ref C5) (.ref C8) = some false)
    (o6_TakenName : PySem.W.kitOne K (.ref C6) (.ref C8) = some false)
    (o7_TakenName : PySem.W.kitOne K (.ref C7) (.ref C8) = some false)
    (o8_TakenName : PySem.W.kitOne K (.ref C8) (.ref C8) = some true)
    (o9_TakenName : PySem.W.kitOne K (.ref C9) (.ref C8) = some false)
    (o10_TakenName : PySem.W.kitOne K (.ref C10) (.ref C8) = some false)
    (o0_UnknownName : PySem.W.kitOne K (.ref C0) (.ref C9) = some false)
    (o1_UnknownName : PySem.W.kitOne K (.ref C1) (.ref C9) = some false)
    (o2_UnknownName : PySem.W.kitOne K (.ref C2) (.ref C9) = some false)
    (o3_UnknownName : PySem.W.kitOne K (.ref C3) (.ref C9) = some false)
    (o4_UnknownName : PySem.W.kitOne K (.ref C4) (.ref C9) = some false)
    (o5_UnknownName : PySem.W.kitOne K (.ref C5) (.ref C9) = some false)
    (o6_UnknownName : PySem.W.kitOne K (.ref C6) (.ref C9) = some false)
    (o7_UnknownName : PySem.W.kitOne K (.ref C7) (.ref C9) = some false)
    (o8_UnknownName : PySem.W.kitOne K (.ref C8) (.ref C9) = some false)
    (o9_UnknownName : PySem.W.kitOne K (.ref C9) (.ref C9) = some true)
    (o10_UnknownName : PySem.W.kitOne K (.ref C10) (.ref C9) = some false)
    (o0_ValueError : PySem.W.kitOne K (.ref C0) (.type "ValueError") = some true)
    (o1_ValueError : PySem.W.kitOne K (.ref C1) (.type "ValueError") = some true)
    (o2_ValueError : PySem.W.kitOne K (.ref C2) (.type "ValueError") = some true)
    (o3_ValueError : PySem.W.kitOne K (.ref C3) (.type "ValueError") = some true)
    (o4_ValueError : PySem.W.kitOne K (.ref C4) (.type "ValueError") = some true)
    (o5_ValueError : PySem.W.kitOne K (.ref C5) (.type "ValueError") = some true)
    (o6_ValueError : PySem.W.kitOne K (.ref C6) (.type "ValueError") = some true)
    (o7_ValueError : PySem.W.kitOne K (.ref C7) (.type "ValueError") = some true)
    (o8_ValueError : PySem.W.kitOne K (.ref C8) (.type "ValueError") = some true)
    (o9_ValueError : PySem.W.kitOne K (.ref C9) (.type "ValueError") = some true)
    (o10_ValueError : PySem.W.kitOne K (.ref C10) (.type "ValueError") = some true)
    (o0_WalkError : PySem.W.kitOne K (.ref C0) (.ref C0) = some true)
    (o1_WalkError : PySem.W.kitOne K (.ref C1) (.ref C0) = some true)
    (o2_WalkError : PySem.W.kitOne K (.ref C2) (.ref C0) = some true)
    (o3_WalkError : PySem.W.kitOne K (.ref C3) (.ref C0) = some true)
    (o4_WalkError : PySem.W.kitOne K (.ref C4) (.ref C0) = some true)
    (o5_WalkError : PySem.W.kitOne K (.ref C5) (.ref C0) = some true)
    (o6_WalkError : PySem.W.kitOne K (.ref C6) (.ref C0) = some true)
    (o7_WalkError : PySem.W.kitOne K (.ref C7) (.ref C0) = some true)
    (o8_WalkError : PySem.W.kitOne K (.ref C8) (.ref C0) = some true)
    (o9_WalkError : PySem.W.kitOne K (.ref C9) (.ref C0) = some true)
    (o10_WalkError : PySem.W.kitOne K (.ref C10) (.ref C0) = some true)
    (a14d : PySem.W.nsIn K mainGlobals "_law_hash" = some (some (.ref fa14)))
    (l14d : K.lookup fa14 = some ⟨oc14d, od14d, .func (PySem.W.fnOf "_law_hash" "_law_hash" (defArgs s14) (defBody s14) (defScope s14) .none kV14d dc14d pm14d an14d cd14d ct14d), sl14d⟩)
    (c14d : PySem.W.codeIn K cd14d "_law_hash" = true)
    (k14d : PySem.W.keepIn K (.ref fa14) = true)
    (a16d : PySem.W.nsIn K mainGlobals "_law_random" = some (some (.ref fa16)))
    (l16d : K.lookup fa16 = some ⟨oc16d, od16d, .func (PySem.W.fnOf "_law_random" "_law_random" (defArgs s16) (defBody s16) (defScope s16) .none kV16d dc16d pm16d an16d cd16d ct16d), sl16d⟩)
    (c16d : PySem.W.codeIn K cd16d "_law_random" = true)
    (k16d : PySem.W.keepIn K (.ref fa16) = true)
    (a13d : PySem.W.nsIn K mainGlobals "_law_cell" = some (some (.ref fa13)))
    (l13d : K.lookup fa13 = some ⟨oc13d, od13d, .func (PySem.W.fnOf "_law_cell" "_law_cell" (defArgs s13) (defBody s13) (defScope s13) .none kV13d dc13d pm13d an13d cd13d ct13d), sl13d⟩)
    (c13d : PySem.W.codeIn K cd13d "_law_cell" = true)
    (k13d : PySem.W.keepIn K (.ref fa13) = true)
    (a15d : PySem.W.nsIn K mainGlobals "_law_generator" = some (some (.ref fa15)))
    (l15d : K.lookup fa15 = some ⟨oc15d, od15d, .func (PySem.W.fnOf "_law_generator" "_law_generator" (defArgs s15) (defBody s15) (defScope s15) .none kV15d dc15d pm15d an15d cd15d ct15d), sl15d⟩)
    (c15d : PySem.W.codeIn K cd15d "_law_generator" = true)
    (k15d : PySem.W.keepIn K (.ref fa15) = true)
    (a20d : PySem.W.nsIn K mainGlobals "_law_named" = some (some (.ref fa20)))
    (l20d : K.lookup fa20 = some ⟨oc20d, od20d, .func (PySem.W.fnOf "_law_named" "_law_named" (defArgs s20) (defBody s20) (defScope s20) .none kV20d dc20d pm20d an20d cd20d ct20d), sl20d⟩)
    (c20d : PySem.W.codeIn K cd20d "_law_named" = true)
    (k20d : PySem.W.keepIn K (.ref fa20) = true)
    (a19d : PySem.W.nsIn K mainGlobals "_law_placed" = some (some (.ref fa19)))
    (l19d : K.lookup fa19 = some ⟨oc19d, od19d, .func (PySem.W.fnOf "_law_placed" "_law_placed" (defArgs s19) (defBody s19) (defScope s19) .none kV19d dc19d pm19d an19d cd19d ct19d), sl19d⟩)
    (c19d : PySem.W.codeIn K cd19d "_law_placed" = true)
    (k19d : PySem.W.keepIn K (.ref fa19) = true)
    (a17d : PySem.W.nsIn K mainGlobals "_law_kinds" = some (some (.ref fa17)))
    (l17d : K.lookup fa17 = some ⟨oc17d, od17d, .func (PySem.W.fnOf "_law_kinds" "_law_kinds" (defArgs s17) (defBody s17) (defScope s17) .none kV17d dc17d pm17d an17d cd17d ct17d), sl17d⟩)
    (c17d : PySem.W.codeIn K cd17d "_law_kinds" = true)
    (k17d : PySem.W.keepIn K (.ref fa17) = true)
    (a18d : PySem.W.nsIn K mainGlobals "_law_right" = some (some (.ref fa18)))
    (l18d : K.lookup fa18 = some ⟨oc18d, od18d, .func (PySem.W.fnOf "_law_right" "_law_right" (defArgs s18) (defBody s18) (defScope s18) .none kV18d dc18d pm18d an18d cd18d ct18d), sl18d⟩)
    (c18d : PySem.W.codeIn K cd18d "_law_right" = true)
    (k18d : PySem.W.keepIn K (.ref fa18) = true)
    (a21d : PySem.W.nsIn K mainGlobals "_law_bare" = some (some (.ref fa21)))
    (l21d : K.lookup fa21 = some ⟨oc21d, od21d, .func (PySem.W.fnOf "_law_bare" "_law_bare" (defArgs s21) (defBody s21) (defScope s21) .none kV21d dc21d pm21d an21d cd21d ct21d), sl21d⟩)
    (c21d : PySem.W.codeIn K cd21d "_law_bare" = true)
    (k21d : PySem.W.keepIn K (.ref fa21) = true)
    (a22d : PySem.W.nsIn K mainGlobals "law" = some (some (.ref fa22)))
    (l22d : K.lookup fa22 = some ⟨oc22d, od22d, .func (PySem.W.fnOf "law" "law" (defArgs s22) (defBody s22) (defScope s22) .none kV22d dc22d pm22d an22d cd22d ct22d), sl22d⟩)
    (c22d : PySem.W.codeIn K cd22d "law" = true)
    (k22d : PySem.W.keepIn K (.ref fa22) = true)
    : ∃ (fd : FuncData) (cl : List (Addr × List Str)), (∀ (s : Shared) (u : Value), BindsTo s fd ⟨[u], []⟩ [("_law_script", u)]) ∧
        ∀ (base : Heap) (a0 : Addr) (ns : List Int), K.In base → base.Ns mainGlobals mg → (∃ o, base.get? sysModules = some o) → FnG P w K mg base 3 fa fd ["_law_script"] (spM ⟨cl, K, a0, ns⟩ 1 f22) := by
  have e := hfa.symm.trans (PySem.W.mg_of X G a22d)
  cases e
  refine ⟨PySem.W.fnOf "law" "law" (defArgs s22) (defBody s22) (defScope s22) .none kV22d dc22d pm22d an22d cd22d ct22d, [(C0, []), (C1, ["value"]), (C2, ["value"]), (C3, ["value"]), (C4, ["value"]), (C5, ["value"]), (C6, ["value"]), (C7, ["name"]), (C8, ["name"]), (C9, ["name"]), (C10, [])], fun s u => .of_eq rfl, fun base a0 ns KB GB sm => ?_⟩
  have hs := PySem.W.mg_none_of X G sup
  have xi0 : ExcIs K C0 := ⟨by first | exact (any_isSome ic0) | (simpa [PySem.W.isClsIn] using ic0), ga0, gg0, ex0, ha0, hn, ht, mo0, hd0⟩
  have xi1 : ExcIs K C1 := ⟨by first | exact (any_isSome ic1) | (simpa [PySem.W.isClsIn] using ic1), ga1, gg1, ex1, ha1, hn, ht, mo1, hd1⟩
  have et1 : Er.ErrTxt P K "value" C1 fI1 :=
    { cls := ⟨nm1, q1, N1, bs1, bm1, sn1, sub1, ab1, col1, dd1, u01, u11, u21, u31, u51, xL1, rv1, Er.along_of xL1 al1⟩, sa := sa1, ga := ga1, gg := gg1, noN := no1, iC := iC1, tC := tF1, kC := kC1, exC := ex1, veC := ve1, tyC := ty1, hdC := hd1, mrC := mr1, opq := opq, htop := htop, fgood := by decide +kernel,
      fn := ⟨"InvalidNumber.__init__", _, oc1, ccl1, cl1, od1, cdd1, cld1, kV1, doc1, pm1, .ref T1, an1, cda1, cc1, ct1, osl1, ccs1, csl1, vs1, file1, tf1, _, _, _, _, _, _, _, _, _, _, _, _, _, _, _, lF1, cF1, lD1, hv1, hf1, lcc1, by decide, rfl⟩,
      b0 := fun oc od fd osl e => (by
        rw [lF1] at e; cases e
        refine ⟨fun s us X hl => ?_, fun s us X hl => ?_⟩
        · obtain ⟨a, b, rfl⟩ := two_of hl; exact PySem.W.binds_K X rfl lT1 rfl rfl rfl
        · obtain ⟨a, rfl⟩ := one_of hl; exact PySem.W.binds_K X rfl lT1 rfl rfl rfl),
      bK := fun oc od fd osl e s x v X => (by
        rw [lF1] at e; cases e
        exact PySem.W.binds_K X rfl lT1 rfl rfl rfl) }
  have xi2 : ExcIs K C2 := ⟨by first | exact (any_isSome ic2) | (simpa [PySem.W.isClsIn] using ic2), ga2, gg2, ex2, ha2, hn, ht, mo2, hd2⟩
  have et2 : Er.ErrTxt P K "value" C2 fI2 :=
    { cls := ⟨nm2, q2, N2, bs2, bm2, sn2, sub2, ab2, col2, dd2, u02, u12, u22, u32, u52, xL2, rv2, Er.along_of xL2 al2⟩, sa := sa2, ga := ga2, gg := gg2, noN := no2, iC := iC2, tC := tF2, kC := kC2, exC := ex2, veC := ve2, tyC := ty2, hdC := hd2, mrC := mr2, opq := opq, htop := htop, fgood := by decide +kernel,
      fn := ⟨"InvalidList.__init__", _, oc2, ccl2, cl2, od2, cdd2, cld2, kV2, doc2, pm2, .ref T2, an2, cda2, cc2, ct2, osl2, ccs2, csl2, vs2, file2, tf2, _, _, _, _, _, _, _, _, _, _, _, _, _, _, _, lF2, cF2, lD2, hv2, hf2, lcc2, by decide, rfl⟩,
      b0 := fun oc od fd osl e => (by
        rw [lF2] at e; cases e
        refine ⟨fun s us X hl => ?_, fun s us X hl => ?_⟩
        · obtain ⟨a, b, rfl⟩ := two_of hl; exact PySem.W.binds_K X rfl lT2 rfl rfl rfl
        · obtain ⟨a, rfl⟩ := one_of hl; exact PySem.W.binds_K X rfl lT2 rfl rfl rfl),
      bK := fun oc od fd osl e s x v X => (by
        rw [lF2] at e; cases e
        exact PySem.W.binds_K X rfl lT2 rfl rfl rfl) }
  have xi3 : ExcIs K C3 := ⟨by first | exact (any_isSome ic3) | (simpa [PySem.W.isClsIn] using ic3), ga3, gg3, ex3, ha3, hn, ht, mo3, hd3⟩
  have et3 : Er.ErrTxt P K "value" C3 fI3 :=
    { cls := ⟨nm3, q3, N3, bs3, bm3, sn3, sub3, ab3, col3, dd3, u03, u13, u23, u33, u53, xL3, rv3, Er.along_of xL3 al3⟩, sa := sa3, ga := ga3, gg := gg3, noN := no3, iC := iC3, tC := tF3, kC := kC3, exC := ex3, veC := ve3, tyC := ty3, hdC := hd3, mrC := mr3, opq := opq, htop := htop, fgood := by decide +kernel,
      fn := ⟨"InvalidItem.__init__", _, oc3, ccl3, cl3, od3, cdd3, cld3, kV3, doc3, pm3, .ref T3, an3, cda3, cc3, ct3, osl3, ccs3, csl3, vs3, file3, tf3, _, _, _, _, _, _, _, _, _, _, _, _, _, _, _, lF3, cF3, lD3, hv3, hf3, lcc3, by decide, rfl⟩,
      b0 := fun oc od fd osl e => (by
        rw [lF3] at e; cases e
        refine ⟨fun s us X hl => ?_, fun s us X hl => ?_⟩
        · obtain ⟨a, b, rfl⟩ := two_of hl; exact PySem.W.binds_K X rfl lT3 rfl rfl rfl
        · obtain ⟨a, rfl⟩ := one_of hl; exact PySem.W.binds_K X rfl lT3 rfl rfl rfl),
      bK := fun oc od fd osl e s x v X => (by
        rw [lF3] at e; cases e
        exact PySem.W.binds_K X rfl lT3 rfl rfl rfl) }
  have xi4 : ExcIs K C4 := ⟨by first | exact (any_isSome ic4) | (simpa [PySem.W.isClsIn] using ic4), ga4, gg4, ex4, ha4, hn, ht, mo4, hd4⟩
  have et4 : Er.ErrTxt P K "value" C4 fI4 :=
    { cls := ⟨nm4, q4, N4, bs4, bm4, sn4, sub4, ab4, col4, dd4, u04, u14, u24, u34, u54, xL4, rv4, Er.along_of xL4 al4⟩, sa := sa4, ga := ga4, gg := gg4, noN := no4, iC := iC4, tC := tF4, kC := kC4, exC := ex4, veC := ve4, tyC := ty4, hdC := hd4, mrC := mr4, opq := opq, htop := htop, fgood := by decide +kernel,
      fn := ⟨"InvalidProgram.__init__", _, oc4, ccl4, cl4, od4, cdd4, cld4, kV4, doc4, pm4, .ref T4, an4, cda4, cc4, ct4, osl4, ccs4, csl4, vs4, file4, tf4, _, _, _, _, _, _, _, _, _, _, _, _, _, _, _, lF4, cF4, lD4, hv4, hf4, lcc4, by decide, rfl⟩,
      b0 := fun oc od fd osl e => (by
        rw [lF4] at e; cases e
        refine ⟨fun s us X hl => ?_, fun s us X hl => ?_⟩
        · obtain ⟨a, b, rfl⟩ := two_of hl; exact PySem.W.binds_K X rfl lT4 rfl rfl rfl
        · obtain ⟨a, rfl⟩ := one_of hl; exact PySem.W.binds_K X rfl lT4 rfl rfl rfl),
      bK := fun oc od fd osl e s x v X => (by
        rw [lF4] at e; cases e
        exact PySem.W.binds_K X rfl lT4 rfl rfl rfl) }
  have xi5 : ExcIs K C5 := ⟨by first | exact (any_isSome ic5) | (simpa [PySem.W.isClsIn] using ic5), ga5, gg5, ex5, ha5, hn, ht, mo5, hd5⟩
  have et5 : Er.ErrTxt P K "value" C5 fI5 :=
    { cls := ⟨nm5, q5, N5, bs5, bm5, sn5, sub5, ab5, col5, dd5, u05, u15, u25, u35, u55, xL5, rv5, Er.along_of xL5 al5⟩, sa := sa5, ga := ga5, gg := gg5, noN := no5, iC := iC5, tC := tF5, kC := kC5, exC := ex5, veC := ve5, tyC := ty5, hdC := hd5, mrC := mr5, opq := opq, htop := htop, fgood := by decide +kernel,
      fn := ⟨"InvalidRow.__init__", _, oc5, ccl5, cl5, od5, cdd5, cld5, kV5, doc5, pm5, .ref T5, an5, cda5, cc5, ct5, osl5, ccs5, csl5, vs5, file5, tf5, _, _, _, _, _, _, _, _, _, _, _, _, _, _, _, lF5, cF5, lD5, hv5, hf5, lcc5, by decide, rfl⟩,
      b0 := fun oc od fd osl e => (by
        rw [lF5] at e; cases e
        refine ⟨fun s us X hl => ?_, fun s us X hl => ?_⟩
        · obtain ⟨a, b, rfl⟩ := two_of hl; exact PySem.W.binds_K X rfl lT5 rfl rfl rfl
        · obtain ⟨a, rfl⟩ := one_of hl; exact PySem.W.binds_K X rfl lT5 rfl rfl rfl),
      bK := fun oc od fd osl e s x v X => (by
        rw [lF5] at e; cases e
        exact PySem.W.binds_K X rfl lT5 rfl rfl rfl) }
  have xi6 : ExcIs K C6 := ⟨by first | exact (any_isSome ic6) | (simpa [PySem.W.isClsIn] using ic6), ga6, gg6, ex6, ha6, hn, ht, mo6, hd6⟩
  have et6 : Er.ErrTxt P K "value" C6 fI6 :=
    { cls := ⟨nm6, q6, N6, bs6, bm6, sn6, sub6, ab6, col6, dd6, u06, u16, u26, u36, u56, xL6, rv6, Er.along_of xL6 al6⟩, sa := sa6, ga := ga6, gg := gg6, noN := no6, iC := iC6, tC := tF6, kC := kC6, exC := ex6, veC := ve6, tyC := ty6, hdC := hd6, mrC := mr6, opq := opq, htop := htop, fgood := by decide +kernel,
      fn := ⟨"InvalidText.__init__", _, oc6, ccl6, cl6, od6, cdd6, cld6, kV6, doc6, pm6, .ref T6, an6, cda6, cc6, ct6, osl6, ccs6, csl6, vs6, file6, tf6, _, _, _, _, _, _, _, _, _, _, _, _, _, _, _, lF6, cF6, lD6, hv6, hf6, lcc6, by decide, rfl⟩,
      b0 := fun oc od fd osl e => (by
        rw [lF6] at e; cases e
        refine ⟨fun s us X hl => ?_, fun s us X hl => ?_⟩
        · obtain ⟨a, b, rfl⟩ := two_of hl; exact PySem.W.binds_K X rfl lT6 rfl rfl rfl
        · obtain ⟨a, rfl⟩ := one_of hl; exact PySem.W.binds_K X rfl lT6 rfl rfl rfl),
      bK := fun oc od fd osl e s x v X => (by
        rw [lF6] at e; cases e
        exact PySem.W.binds_K X rfl lT6 rfl rfl rfl) }
  have xi7 : ExcIs K C7 := ⟨by first | exact (any_isSome ic7) | (simpa [PySem.W.isClsIn] using ic7), ga7, gg7, ex7, ha7, hn, ht, mo7, hd7⟩
  have et7 : Er.ErrTxt P K "name" C7 fI7 :=
    { cls := ⟨nm7, q7, N7, bs7, bm7, sn7, sub7, ab7, col7, dd7, u07, u17, u27, u37, u57, xL7, rv7, Er.along_of xL7 al7⟩, sa := sa7, ga := ga7, gg := gg7, noN := no7, iC := iC7, tC := tF7, kC := kC7, exC := ex7, veC := ve7, tyC := ty7, hdC := hd7, mrC := mr7, opq := opq, htop := htop, fgood := by decide +kernel,
      fn := ⟨"InvalidName.__init__", _, oc7, ccl7, cl7, od7, cdd7, cld7, kV7, doc7, pm7, .ref T7, an7, cda7, cc7, ct7, osl7, ccs7, csl7, vs7, file7, tf7, _, _, _, _, _, _, _, _, _, _, _, _, _, _, _, lF7, cF7, lD7, hv7, hf7, lcc7, by decide, rfl⟩,
      b0 := fun oc od fd osl e => (by
        rw [lF7] at e; cases e
        refine ⟨fun s us X hl => ?_, fun s us X hl => ?_⟩
        · obtain ⟨a, b, rfl⟩ := two_of hl; exact PySem.W.binds_K X rfl lT7 rfl rfl rfl
        · obtain ⟨a, rfl⟩ := one_of hl; exact PySem.W.binds_K X rfl lT7 rfl rfl rfl),
      bK := fun oc od fd osl e s x v X => (by
        rw [lF7] at e; cases e
        exact PySem.W.binds_K X rfl lT7 rfl rfl rfl) }
  have xi8 : ExcIs K C8 := ⟨by first | exact (any_isSome ic8) | (simpa [PySem.W.isClsIn] using ic8), ga8, gg8, ex8, ha8, hn, ht, mo8, hd8⟩
  have et8 : Er.ErrTxt P K "name" C8 fI8 :=
    { cls := ⟨nm8, q8, N8, bs8, bm8, sn8, sub8, ab8, col8, dd8, u08, u18, u28, u38, u58, xL8, rv8, Er.along_of xL8 al8⟩, sa := sa8, ga := ga8, gg := gg8, noN := no8, iC := iC8, tC := tF8, kC := kC8, exC := ex8, veC := ve8, tyC := ty8, hdC := hd8, mrC := mr8, opq := opq, htop := htop, fgood := by decide +kernel,
      fn := ⟨"TakenName.__init__", _, oc8, ccl8, cl8, od8, cdd8, cld8, kV8, doc8, pm8, .ref T8, an8, cda8, cc8, ct8, osl8, ccs8, csl8, vs8, file8, tf8, _, _, _, _, _, _, _, _, _, _, _, _, _, _, _, lF8, cF8, lD8, hv8, hf8, lcc8, by decide, rfl⟩,
      b0 := fun oc od fd osl e => (by
        rw [lF8] at e; cases e
        refine ⟨fun s us X hl => ?_, fun s us X hl => ?_⟩
        · obtain ⟨a, b, rfl⟩ := two_of hl; exact PySem.W.binds_K X rfl lT8 rfl rfl rfl
        · obtain ⟨a, rfl⟩ := one_of hl; exact PySem.W.binds_K X rfl lT8 rfl rfl rfl),
      bK := fun oc od fd osl e s x v X => (by
        rw [lF8] at e; cases e
        exact PySem.W.binds_K X rfl lT8 rfl rfl rfl) }
  have xi9 : ExcIs K C9 := ⟨by first | exact (any_isSome ic9) | (simpa [PySem.W.isClsIn] using ic9), ga9, gg9, ex9, ha9, hn, ht, mo9, hd9⟩
  have et9 : Er.ErrTxt P K "name" C9 fI9 :=
    { cls := ⟨nm9, q9, N9, bs9, bm9, sn9, sub9, ab9, col9, dd9, u09, u19, u29, u39, u59, xL9, rv9, Er.along_of xL9 al9⟩, sa := sa9, ga := ga9, gg := gg9, noN := no9, iC := iC9, tC := tF9, kC := kC9, exC := ex9, veC := ve9, tyC := ty9, hdC := hd9, mrC := mr9, opq := opq, htop := htop, fgood := by decide +kernel,
      fn := ⟨"UnknownName.__init__", _, oc9, ccl9, cl9, od9, cdd9, cld9, kV9, doc9, pm9, .ref T9, an9, cda9, cc9, ct9, osl9, ccs9, csl9, vs9, file9, tf9, _, _, _, _, _, _, _, _, _, _, _, _, _, _, _, lF9, cF9, lD9, hv9, hf9, lcc9, by decide, rfl⟩,
      b0 := fun oc od fd osl e => (by
        rw [lF9] at e; cases e
        refine ⟨fun s us X hl => ?_, fun s us X hl => ?_⟩
        · obtain ⟨a, b, rfl⟩ := two_of hl; exact PySem.W.binds_K X rfl lT9 rfl rfl rfl
        · obtain ⟨a, rfl⟩ := one_of hl; exact PySem.W.binds_K X rfl lT9 rfl rfl rfl),
      bK := fun oc od fd osl e s x v X => (by
        rw [lF9] at e; cases e
        exact PySem.W.binds_K X rfl lT9 rfl rfl rfl) }
  have xi10 : ExcIs K C10 := ⟨by first | exact (any_isSome ic10) | (simpa [PySem.W.isClsIn] using ic10), ga10, gg10, ex10, ha10, hn, ht, mo10, hd10⟩
  have T : Tx P w K mg base ⟨[(C0, []), (C1, ["value"]), (C2, ["value"]), (C3, ["value"]), (C4, ["value"]), (C5, ["value"]), (C6, ["value"]), (C7, ["name"]), (C8, ["name"]), (C9, ["name"]), (C10, [])], K, a0, ns⟩ (fun i => ([C0, C1, C2, C3, C4, C5, C6, C7, C8, C9, C10] : List Addr).getD i 0) :=
    { hK := rfl,
      sm := sm,
      b_ValueError := PySem.W.mg_none_of X G b_ValueError,
      b_dict := PySem.W.mg_none_of X G b_dict,
      b_int := PySem.W.mg_none_of X G b_int,
      b_isinstance := PySem.W.mg_none_of X G b_isinstance,
      b_len := PySem.W.mg_none_of X G b_len,
      b_list := PySem.W.mg_none_of X G b_list,
      b_max := PySem.W.mg_none_of X G b_max,
      b_range := PySem.W.mg_none_of X G b_range,
      b_repr := PySem.W.mg_none_of X G b_repr,
      g_InvalidItem := PySem.W.mg_of X G aC3,
      g_InvalidList := PySem.W.mg_of X G aC2,
      g_InvalidName := PySem.W.mg_of X G aC7,
      g_InvalidNumber := PySem.W.mg_of X G aC1,
      g_InvalidProgram := PySem.W.mg_of X G aC4,
      g_InvalidRow := PySem.W.mg_of X G aC5,
      g_InvalidText := PySem.W.mg_of X G aC6,
      g_NothingToUndo := PySem.W.mg_of X G aC10,
      g_TakenName := PySem.W.mg_of X G aC8,
      g_UnknownName := PySem.W.mg_of X G aC9,
      g_WalkError := PySem.W.mg_of X G aC0,
      e1 := ⟨by decide, C1, ["value"], rfl, rfl, PySem.W.mg_of X G aC1, kC1, Er.err_made et1 hs, ex1, ty1⟩,
      e2 := ⟨by decide, C2, ["value"], rfl, rfl, PySem.W.mg_of X G aC2, kC2, Er.err_made et2 hs, ex2, ty2⟩,
      e3 := ⟨by decide, C3, ["value"], rfl, rfl, PySem.W.mg_of X G aC3, kC3, Er.err_made et3 hs, ex3, ty3⟩,
      e4 := ⟨by decide, C4, ["value"], rfl, rfl, PySem.W.mg_of X G aC4, kC4, Er.err_made et4 hs, ex4, ty4⟩,
      e5 := ⟨by decide, C5, ["value"], rfl, rfl, PySem.W.mg_of X G aC5, kC5, Er.err_made et5 hs, ex5, ty5⟩,
      e6 := ⟨by decide, C6, ["value"], rfl, rfl, PySem.W.mg_of X G aC6, kC6, Er.err_made et6 hs, ex6, ty6⟩,
      e7 := ⟨by decide, C7, ["name"], rfl, rfl, PySem.W.mg_of X G aC7, kC7, Er.err_made et7 hs, ex7, ty7⟩,
      e8 := ⟨by decide, C8, ["name"], rfl, rfl, PySem.W.mg_of X G aC8, kC8, Er.err_made et8 hs, ex8, ty8⟩,
      e9 := ⟨by decide, C9, ["name"], rfl, rfl, PySem.W.mg_of X G aC9, kC9, Er.err_made et9 hs, ex9, ty9⟩,
      e10 := ⟨by decide, C10, [], rfl, rfl, PySem.W.mg_of X G aC10, kC10, Er.err_made0 PySem.F.excBase_ValueError xn10, ex10, ty10⟩,
      k1 := ⟨C1, rfl, PySem.W.mg_of X G aC1, kC1, Er.err_madeK et1 hs⟩,
      k2 := ⟨C2, rfl, PySem.W.mg_of X G aC2, kC2, Er.err_madeK et2 hs⟩,
      k3 := ⟨C3, rfl, PySem.W.mg_of X G aC3, kC3, Er.err_madeK et3 hs⟩,
      k4 := ⟨C4, rfl, PySem.W.mg_of X G aC4, kC4, Er.err_madeK et4 hs⟩,
      k5 := ⟨C5, rfl, PySem.W.mg_of X G aC5, kC5, Er.err_madeK et5 hs⟩,
      k6 := ⟨C6, rfl, PySem.W.mg_of X G aC6, kC6, Er.err_madeK et6 hs⟩,
      k7 := ⟨C7, rfl, PySem.W.mg_of X G aC7, kC7, Er.err_madeK et7 hs⟩,
      k8 := ⟨C8, rfl, PySem.W.mg_of X G aC8, kC8, Er.err_madeK et8 hs⟩,
      k9 := ⟨C9, rfl, PySem.W.mg_of X G aC9, kC9, Er.err_madeK et9 hs⟩,
      is_InvalidItem := fun t b h => (by
          cases t with
          | exo c =>
            match c, h with
            | 0, h => cases h; exact ⟨_, rfl, ⟨C0, _, rfl, xi0⟩, o0_InvalidItem⟩
            | 1, h => cases h; exact ⟨_, rfl, ⟨C1, _, rfl, xi1⟩, o1_InvalidItem⟩
            | 2, h => cases h; exact ⟨_, rfl, ⟨C2, _, rfl, xi2⟩, o2_InvalidItem⟩
            | 3, h => cases h; exact ⟨_, rfl, ⟨C3, _, rfl, xi3⟩, o3_InvalidItem⟩
            | 4, h => cases h; exact ⟨_, rfl, ⟨C4, _, rfl, xi4⟩, o4_InvalidItem⟩
            | 5, h => cases h; exact ⟨_, rfl, ⟨C5, _, rfl, xi5⟩, o5_InvalidItem⟩
            | 6, h => cases h; exact ⟨_, rfl, ⟨C6, _, rfl, xi6⟩, o6_InvalidItem⟩
            | 7, h => cases h; exact ⟨_, rfl, ⟨C7, _, rfl, xi7⟩, o7_InvalidItem⟩
            | 8, h => cases h; exact ⟨_, rfl, ⟨C8, _, rfl, xi8⟩, o8_InvalidItem⟩
            | 9, h => cases h; exact ⟨_, rfl, ⟨C9, _, rfl, xi9⟩, o9_InvalidItem⟩
            | 10, h => cases h; exact ⟨_, rfl, ⟨C10, _, rfl, xi10⟩, o10_InvalidItem⟩
            | n + 11, h => cases h
          | _ => cases h),
      is_InvalidList := fun t b h => (by
          cases t with
          | exo c =>
            match c, h with
            | 0, h => cases h; exact ⟨_, rfl, ⟨C0, _, rfl, xi0⟩, o0_InvalidList⟩
            | 1, h => cases h; exact ⟨_, rfl, ⟨C1, _, rfl, xi1⟩, o1_InvalidList⟩
            | 2, h => cases h; exact ⟨_, rfl, ⟨C2, _, rfl, xi2⟩, o2_InvalidList⟩
            | 3, h => cases h; exact ⟨_, rfl, ⟨C3, _, rfl, xi3⟩, o3_InvalidList⟩
            | 4, h => cases h; exact ⟨_, rfl, ⟨C4, _, rfl, xi4⟩, o4_InvalidList⟩
            | 5, h => cases h; exact ⟨_, rfl, ⟨C5, _, rfl, xi5⟩, o5_InvalidList⟩
            | 6, h => cases h; exact ⟨_, rfl, ⟨C6, _, rfl, xi6⟩, o6_InvalidList⟩
            | 7, h => cases h; exact ⟨_, rfl, ⟨C7, _, rfl, xi7⟩, o7_InvalidList⟩
            | 8, h => cases h; exact ⟨_, rfl, ⟨C8, _, rfl, xi8⟩, o8_InvalidList⟩
            | 9, h => cases h; exact ⟨_, rfl, ⟨C9, _, rfl, xi9⟩, o9_InvalidList⟩
            | 10, h => cases h; exact ⟨_, rfl, ⟨C10, _, rfl, xi10⟩, o10_InvalidList⟩
            | n + 11, h => cases h
          | _ => cases h),
      is_InvalidName := fun t b h => (by
          cases t with
          | exo c =>
            match c, h with
            | 0, h => cases h; exact ⟨_, rfl, ⟨C0, _, rfl, xi0⟩, o0_InvalidName⟩
            | 1, h => cases h; exact ⟨_, rfl, ⟨C1, _, rfl, xi1⟩, o1_InvalidName⟩
            | 2, h => cases h; exact ⟨_, rfl, ⟨C2, _, rfl, xi2⟩, o2_InvalidName⟩
            | 3, h => cases h; exact ⟨_, rfl, ⟨C3, _, rfl, xi3⟩, o3_InvalidName⟩
            | 4, h => cases h; exact ⟨_, rfl, ⟨C4, _, rfl, xi4⟩, o4_InvalidName⟩
            | 5, h => cases h; exact ⟨_, rfl, ⟨C5, _, rfl, xi5⟩, o5_InvalidName⟩
            | 6, h => cases h; exact ⟨_, rfl, ⟨C6, _, rfl, xi6⟩, o6_InvalidName⟩
            | 7, h => cases h; exact ⟨_, rfl, ⟨C7, _, rfl, xi7⟩, o7_InvalidName⟩
            | 8, h => cases h; exact ⟨_, rfl, ⟨C8, _, rfl, xi8⟩, o8_InvalidName⟩
            | 9, h => cases h; exact ⟨_, rfl, ⟨C9, _, rfl, xi9⟩, o9_InvalidName⟩
            | 10, h => cases h; exact ⟨_, rfl, ⟨C10, _, rfl, xi10⟩, o10_InvalidName⟩
            | n + 11, h => cases h
          | _ => cases h),
      is_InvalidNumber := fun t b h => (by
          cases t with
          | exo c =>
            match c, h with
            | 0, h => cases h; exact ⟨_, rfl, ⟨C0, _, rfl, xi0⟩, o0_InvalidNumber⟩
            | 1, h => cases h; exact ⟨_, rfl, ⟨C1, _, rfl, xi1⟩, o1_InvalidNumber⟩
            | 2, h => cases h; exact ⟨_, rfl, ⟨C2, _, rfl, xi2⟩, o2_InvalidNumber⟩
            | 3, h => cases h; exact ⟨_, rfl, ⟨C3, _, rfl, xi3⟩, o3_InvalidNumber⟩
            | 4, h => cases h; exact ⟨_, rfl, ⟨C4, _, rfl, xi4⟩, o4_InvalidNumber⟩
            | 5, h => cases h; exact ⟨_, rfl, ⟨C5, _, rfl, xi5⟩, o5_InvalidNumber⟩
            | 6, h => cases h; exact ⟨_, rfl, ⟨C6, _, rfl, xi6⟩, o6_InvalidNumber⟩
            | 7, h => cases h; exact ⟨_, rfl, ⟨C7, _, rfl, xi7⟩, o7_InvalidNumber⟩
            | 8, h => cases h; exact ⟨_, rfl, ⟨C8, _, rfl, xi8⟩, o8_InvalidNumber⟩
            | 9, h => cases h; exact ⟨_, rfl, ⟨C9, _, rfl, xi9⟩, o9_InvalidNumber⟩
            | 10, h => cases h; exact ⟨_, rfl, ⟨C10, _, rfl, xi10⟩, o10_InvalidNumber⟩
            | n + 11, h => cases h
          | _ => cases h),
      is_InvalidProgram := fun t b h => (by
          cases t with
          | exo c =>
            match c, h with
            | 0, h => cases h; exact ⟨_, rfl, ⟨C0, _, rfl, xi0⟩, o0_InvalidProgram⟩
            | 1, h => cases h; exact ⟨_, rfl, ⟨C1, _, rfl, xi1⟩, o1_InvalidProgram⟩
            | 2, h => cases h; exact ⟨_, rfl, ⟨C2, _, rfl, xi2⟩, o2_InvalidProgram⟩
            | 3, h => cases h; exact ⟨_, rfl, ⟨C3, _, rfl, xi3⟩, o3_InvalidProgram⟩
            | 4, h => cases h; exact ⟨_, rfl, ⟨C4, _, rfl, xi4⟩, o4_InvalidProgram⟩
            | 5, h => cases h; exact ⟨_, rfl, ⟨C5, _, rfl, xi5⟩, o5_InvalidProgram⟩
            | 6, h => cases h; exact ⟨_, rfl, ⟨C6, _, rfl, xi6⟩, o6_InvalidProgram⟩
            | 7, h => cases h; exact ⟨_, rfl, ⟨C7, _, rfl, xi7⟩, o7_InvalidProgram⟩
            | 8, h => cases h; exact ⟨_, rfl, ⟨C8, _, rfl, xi8⟩, o8_InvalidProgram⟩
            | 9, h => cases h; exact ⟨_, rfl, ⟨C9, _, rfl, xi9⟩, o9_InvalidProgram⟩
            | 10, h => cases h; exact ⟨_, rfl, ⟨C10, _, rfl, xi10⟩, o10_InvalidProgram⟩
            | n + 11, h => cases h
          | _ => cases h),
      is_InvalidRow := fun t b h => (by
          cases t with
          | exo c =>
            match c, h with
            | 0, h => cases h; exact ⟨_, rfl, ⟨C0, _, rfl, xi0⟩, o0_InvalidRow⟩
            | 1, h => cases h; exact ⟨_, rfl, ⟨C1, _, rfl, xi1⟩, o1_InvalidRow⟩
            | 2, h => cases h; exact ⟨_, rfl, ⟨C2, _, rfl, xi2⟩, o2_InvalidRow⟩
            | 3, h => cases h; exact ⟨_, rfl, ⟨C3, _, rfl, xi3⟩, o3_InvalidRow⟩
            | 4, h => cases h; exact ⟨_, rfl, ⟨C4, _, rfl, xi4⟩, o4_InvalidRow⟩
            | 5, h => cases h; exact ⟨_, rfl, ⟨C5, _, rfl, xi5⟩, o5_InvalidRow⟩
            | 6, h => cases h; exact ⟨_, rfl, ⟨C6, _, rfl, xi6⟩, o6_InvalidRow⟩
            | 7, h => cases h; exact ⟨_, rfl, ⟨C7, _, rfl, xi7⟩, o7_InvalidRow⟩
            | 8, h => cases h; exact ⟨_, rfl, ⟨C8, _, rfl, xi8⟩, o8_InvalidRow⟩
            | 9, h => cases h; exact ⟨_, rfl, ⟨C9, _, rfl, xi9⟩, o9_InvalidRow⟩
            | 10, h => cases h; exact ⟨_, rfl, ⟨C10, _, rfl, xi10⟩, o10_InvalidRow⟩
            | n + 11, h => cases h
          | _ => cases h),
      is_InvalidText := fun t b h => (by
          cases t with
          | exo c =>
            match c, h with
            | 0, h => cases h; exact ⟨_, rfl, ⟨C0, _, rfl, xi0⟩, o0_InvalidText⟩
            | 1, h => cases h; exact ⟨_, rfl, ⟨C1, _, rfl, xi1⟩, o1_InvalidText⟩
            | 2, h => cases h; exact ⟨_, rfl, ⟨C2, _, rfl, xi2⟩, o2_InvalidText⟩
            | 3, h => cases h; exact ⟨_, rfl, ⟨C3, _, rfl, xi3⟩, o3_InvalidText⟩
            | 4, h => cases h; exact ⟨_, rfl, ⟨C4, _, rfl, xi4⟩, o4_InvalidText⟩
            | 5, h => cases h; exact ⟨_, rfl, ⟨C5, _, rfl, xi5⟩, o5_InvalidText⟩
            | 6, h => cases h; exact ⟨_, rfl, ⟨C6, _, rfl, xi6⟩, o6_InvalidText⟩
            | 7, h => cases h; exact ⟨_, rfl, ⟨C7, _, rfl, xi7⟩, o7_InvalidText⟩
            | 8, h => cases h; exact ⟨_, rfl, ⟨C8, _, rfl, xi8⟩, o8_InvalidText⟩
            | 9, h => cases h; exact ⟨_, rfl, ⟨C9, _, rfl, xi9⟩, o9_InvalidText⟩
            | 10, h => cases h; exact ⟨_, rfl, ⟨C10, _, rfl, xi10⟩, o10_InvalidText⟩
            | n + 11, h => cases h
          | _ => cases h),
      is_NothingToUndo := fun t b h => (by
          cases t with
          | exo c =>
            match c, h with
            | 0, h => cases h; exact ⟨_, rfl, ⟨C0, _, rfl, xi0⟩, o0_NothingToUndo⟩
            | 1, h => cases h; exact ⟨_, rfl, ⟨C1, _, rfl, xi1⟩, o1_NothingToUndo⟩
            | 2, h => cases h; exact ⟨_, rfl, ⟨C2, _, rfl, xi2⟩, o2_NothingToUndo⟩
            | 3, h => cases h; exact ⟨_, rfl, ⟨C3, _, rfl, xi3⟩, o3_NothingToUndo⟩
            | 4, h => cases h; exact ⟨_, rfl, ⟨C4, _, rfl, xi4⟩, o4_NothingToUndo⟩
            | 5, h => cases h; exact ⟨_, rfl, ⟨C5, _, rfl, xi5⟩, o5_NothingToUndo⟩
            | 6, h => cases h; exact ⟨_, rfl, ⟨C6, _, rfl, xi6⟩, o6_NothingToUndo⟩
            | 7, h => cases h; exact ⟨_, rfl, ⟨C7, _, rfl, xi7⟩, o7_NothingToUndo⟩
            | 8, h => cases h; exact ⟨_, rfl, ⟨C8, _, rfl, xi8⟩, o8_NothingToUndo⟩
            | 9, h => cases h; exact ⟨_, rfl, ⟨C9, _, rfl, xi9⟩, o9_NothingToUndo⟩
            | 10, h => cases h; exact ⟨_, rfl, ⟨C10, _, rfl, xi10⟩, o10_NothingToUndo⟩
            | n + 11, h => cases h
          | _ => cases h),
      is_TakenName := fun t b h => (by
          cases t with
          | exo c =>
            match c, h with
            | 0, h => cases h; exact ⟨_, rfl, ⟨C0, _, rfl, xi0⟩, o0_TakenName⟩
            | 1, h => cases h; exact ⟨_, rfl, ⟨C1, _, rfl, xi1⟩, o1_TakenName⟩
            | 2, h => cases h; exact ⟨_, rfl, ⟨C2, _, rfl, xi2⟩, o2_TakenName⟩
            | 3, h => cases h; exact ⟨_, rfl, ⟨C3, _, rfl, xi3⟩, o3_TakenName⟩
            | 4, h => cases h; exact ⟨_, rfl, ⟨C4, _, rfl, xi4⟩, o4_TakenName⟩
            | 5, h => cases h; exact ⟨_, rfl, ⟨C5, _, rfl, xi5⟩, o5_TakenName⟩
            | 6, h => cases h; exact ⟨_, rfl, ⟨C6, _, rfl, xi6⟩, o6_TakenName⟩
            | 7, h => cases h; exact ⟨_, rfl, ⟨C7, _, rfl, xi7⟩, o7_TakenName⟩
            | 8, h => cases h; exact ⟨_, rfl, ⟨C8, _, rfl, xi8⟩, o8_TakenName⟩
            | 9, h => cases h; exact ⟨_, rfl, ⟨C9, _, rfl, xi9⟩, o9_TakenName⟩
            | 10, h => cases h; exact ⟨_, rfl, ⟨C10, _, rfl, xi10⟩, o10_TakenName⟩
            | n + 11, h => cases h
          | _ => cases h),
      is_UnknownName := fun t b h => (by
          cases t with
          | exo c =>
            match c, h with
            | 0, h => cases h; exact ⟨_, rfl, ⟨C0, _, rfl, xi0⟩, o0_UnknownName⟩
            | 1, h => cases h; exact ⟨_, rfl, ⟨C1, _, rfl, xi1⟩, o1_UnknownName⟩
            | 2, h => cases h; exact ⟨_, rfl, ⟨C2, _, rfl, xi2⟩, o2_UnknownName⟩
            | 3, h => cases h; exact ⟨_, rfl, ⟨C3, _, rfl, xi3⟩, o3_UnknownName⟩
            | 4, h => cases h; exact ⟨_, rfl, ⟨C4, _, rfl, xi4⟩, o4_UnknownName⟩
            | 5, h => cases h; exact ⟨_, rfl, ⟨C5, _, rfl, xi5⟩, o5_UnknownName⟩
            | 6, h => cases h; exact ⟨_, rfl, ⟨C6, _, rfl, xi6⟩, o6_UnknownName⟩
            | 7, h => cases h; exact ⟨_, rfl, ⟨C7, _, rfl, xi7⟩, o7_UnknownName⟩
            | 8, h => cases h; exact ⟨_, rfl, ⟨C8, _, rfl, xi8⟩, o8_UnknownName⟩
            | 9, h => cases h; exact ⟨_, rfl, ⟨C9, _, rfl, xi9⟩, o9_UnknownName⟩
            | 10, h => cases h; exact ⟨_, rfl, ⟨C10, _, rfl, xi10⟩, o10_UnknownName⟩
            | n + 11, h => cases h
          | _ => cases h),
      is_ValueError := fun t b h => (by
          cases t with
          | non => cases h; exact ⟨_, rfl, trivial, kit_ty (by decide +kernel)⟩
          | bl => cases h; exact ⟨_, rfl, trivial, kit_ty (by decide +kernel)⟩
          | int => cases h; exact ⟨_, rfl, trivial, kit_ty (by decide +kernel)⟩
          | str => cases h; exact ⟨_, rfl, trivial, kit_ty (by decide +kernel)⟩
          | lst => cases h; exact ⟨_, rfl, trivial, kit_ty (by decide +kernel)⟩
          | tup => cases h; exact ⟨_, rfl, trivial, kit_ty (by decide +kernel)⟩
          | dct => cases h; exact ⟨_, rfl, trivial, kit_ty (by decide +kernel)⟩
          | exo c =>
            match c, h with
            | 0, h => cases h; exact ⟨_, rfl, ⟨C0, _, rfl, xi0⟩, o0_ValueError⟩
            | 1, h => cases h; exact ⟨_, rfl, ⟨C1, _, rfl, xi1⟩, o1_ValueError⟩
            | 2, h => cases h; exact ⟨_, rfl, ⟨C2, _, rfl, xi2⟩, o2_ValueError⟩
            | 3, h => cases h; exact ⟨_, rfl, ⟨C3, _, rfl, xi3⟩, o3_ValueError⟩
            | 4, h => cases h; exact ⟨_, rfl, ⟨C4, _, rfl, xi4⟩, o4_ValueError⟩
            | 5, h => cases h; exact ⟨_, rfl, ⟨C5, _, rfl, xi5⟩, o5_ValueError⟩
            | 6, h => cases h; exact ⟨_, rfl, ⟨C6, _, rfl, xi6⟩, o6_ValueError⟩
            | 7, h => cases h; exact ⟨_, rfl, ⟨C7, _, rfl, xi7⟩, o7_ValueError⟩
            | 8, h => cases h; exact ⟨_, rfl, ⟨C8, _, rfl, xi8⟩, o8_ValueError⟩
            | 9, h => cases h; exact ⟨_, rfl, ⟨C9, _, rfl, xi9⟩, o9_ValueError⟩
            | 10, h => cases h; exact ⟨_, rfl, ⟨C10, _, rfl, xi10⟩, o10_ValueError⟩
            | n + 11, h => cases h
          | _ => cases h),
      is_WalkError := fun t b h => (by
          cases t with
          | exo c =>
            match c, h with
            | 0, h => cases h; exact ⟨_, rfl, ⟨C0, _, rfl, xi0⟩, o0_WalkError⟩
            | 1, h => cases h; exact ⟨_, rfl, ⟨C1, _, rfl, xi1⟩, o1_WalkError⟩
            | 2, h => cases h; exact ⟨_, rfl, ⟨C2, _, rfl, xi2⟩, o2_WalkError⟩
            | 3, h => cases h; exact ⟨_, rfl, ⟨C3, _, rfl, xi3⟩, o3_WalkError⟩
            | 4, h => cases h; exact ⟨_, rfl, ⟨C4, _, rfl, xi4⟩, o4_WalkError⟩
            | 5, h => cases h; exact ⟨_, rfl, ⟨C5, _, rfl, xi5⟩, o5_WalkError⟩
            | 6, h => cases h; exact ⟨_, rfl, ⟨C6, _, rfl, xi6⟩, o6_WalkError⟩
            | 7, h => cases h; exact ⟨_, rfl, ⟨C7, _, rfl, xi7⟩, o7_WalkError⟩
            | 8, h => cases h; exact ⟨_, rfl, ⟨C8, _, rfl, xi8⟩, o8_WalkError⟩
            | 9, h => cases h; exact ⟨_, rfl, ⟨C9, _, rfl, xi9⟩, o9_WalkError⟩
            | 10, h => cases h; exact ⟨_, rfl, ⟨C10, _, rfl, xi10⟩, o10_WalkError⟩
            | n + 11, h => cases h
          | _ => cases h),
      is_dict := fun t b h => (by
          cases t with
          | non => cases h; exact ⟨_, rfl, trivial, kit_ty (by decide +kernel)⟩
          | bl => cases h; exact ⟨_, rfl, trivial, kit_ty (by decide +kernel)⟩
          | int => cases h; exact ⟨_, rfl, trivial, kit_ty (by decide +kernel)⟩
          | str => cases h; exact ⟨_, rfl, trivial, kit_ty (by decide +kernel)⟩
          | lst => cases h; exact ⟨_, rfl, trivial, kit_ty (by decide +kernel)⟩
          | tup => cases h; exact ⟨_, rfl, trivial, kit_ty (by decide +kernel)⟩
          | dct => cases h; exact ⟨_, rfl, trivial, kit_ty (by decide +kernel)⟩
          | _ => cases h),
      is_list := fun t b h => (by
          cases t with
          | non => cases h; exact ⟨_, rfl, trivial, kit_ty (by decide +kernel)⟩
          | bl => cases h; exact ⟨_, rfl, trivial, kit_ty (by decide +kernel)⟩
          | int => cases h; exact ⟨_, rfl, trivial, kit_ty (by decide +kernel)⟩
          | str => cases h; exact ⟨_, rfl, trivial, kit_ty (by decide +kernel)⟩
          | lst => cases h; exact ⟨_, rfl, trivial, kit_ty (by decide +kernel)⟩
          | tup => cases h; exact ⟨_, rfl, trivial, kit_ty (by decide +kernel)⟩
          | dct => cases h; exact ⟨_, rfl, trivial, kit_ty (by decide +kernel)⟩
          | _ => cases h),
      x_name := fun c k h => (by
          match c, h with
          | 0, h => cases h
          | 1, h => cases h
          | 2, h => cases h
          | 3, h => cases h
          | 4, h => cases h
          | 5, h => cases h
          | 6, h => cases h
          | 7, h => cases h; exact ⟨C7, _, rfl, xi7, no7, by decide +kernel, rfl⟩
          | 8, h => cases h; exact ⟨C8, _, rfl, xi8, no8, by decide +kernel, rfl⟩
          | 9, h => cases h; exact ⟨C9, _, rfl, xi9, no9, by decide +kernel, rfl⟩
          | 10, h => cases h
          | n + 11, h => cases h),
      x_value := fun c k h => (by
          match c, h with
          | 0, h => cases h
          | 1, h => cases h; exact ⟨C1, _, rfl, xi1, no1, by decide +kernel, rfl⟩
          | 2, h => cases h; exact ⟨C2, _, rfl, xi2, no2, by decide +kernel, rfl⟩
          | 3, h => cases h; exact ⟨C3, _, rfl, xi3, no3, by decide +kernel, rfl⟩
          | 4, h => cases h; exact ⟨C4, _, rfl, xi4, no4, by decide +kernel, rfl⟩
          | 5, h => cases h; exact ⟨C5, _, rfl, xi5, no5, by decide +kernel, rfl⟩
          | 6, h => cases h; exact ⟨C6, _, rfl, xi6, no6, by decide +kernel, rfl⟩
          | 7, h => cases h
          | 8, h => cases h
          | 9, h => cases h
          | 10, h => cases h
          | n + 11, h => cases h) }
  have F14 := fun_mk (st := s14) l14d c14d k14d
  have D14 := at14 T F14 (PySem.W.mg_of X G a14d) 
  have F16 := fun_mk (st := s16) l16d c16d k16d
  have D16 := at16 T F16 (PySem.W.mg_of X G a16d) D14
  have F13 := fun_mk (st := s13) l13d c13d k13d
  have D13 := at13 T F13 (PySem.W.mg_of X G a13d) 
  have F15 := fun_mk (st := s15) l15d c15d k15d
  have D15 := at15 T F15 (PySem.W.mg_of X G a15d) D13
  have F20 := fun_mk (st := s20) l20d c20d k20d
  have D20 := at20 T F20 (PySem.W.mg_of X G a20d) 
  have F19 := fun_mk (st := s19) l19d c19d k19d
  have D19 := at19 T F19 (PySem.W.mg_of X G a19d) 
  have F17 := fun_mk (st := s17) l17d c17d k17d
  have D17 := at17 T F17 (PySem.W.mg_of X G a17d) 
  have F18 := fun_mk (st := s18) l18d c18d k18d
  have D18 := at18 T F18 (PySem.W.mg_of X G a18d) D17
  have F21 := fun_mk (st := s21) l21d c21d k21d
  have D21 := at21 T F21 (PySem.W.mg_of X G a21d) 
  have F22 := fun_mk (st := s22) l22d c22d k22d
  exact ok22 T F22 D16 D15 D20 D19 D18 D21 D17
end Gn
namespace Gn
open PySem PySem.Spec L2 Fw
theorem isi_is {f : Tag → Option Bool} {h : SH} {i c : Nat} {xs : List SV} {b : Bool} {P : SV → SH → Prop} (e : h[i]? = some (.exo c xs)) (ef : f (.exo c) = some b) (p : P (.bl b) h) : ∃ v h', opIsi f (.ref i) h = some (v, h') ∧ P v h' :=
  ⟨_, _, by unfold opIsi tagOf; simp only [e, ef], p⟩
theorem add_is {i j : Nat} {xs ys : List SV} {h : SH} {P : SV → SH → Prop} (e1 : h[i]? = some (.lst xs)) (e2 : h[j]? = some (.lst ys)) (k : xs.length + ys.length ≤ big) (p : P (.ref h.length) (h ++ [.lst (xs ++ ys)])) : ∃ v h3, opAdd (.ref i) (.ref j) h = some (v, h3) ∧ P v h3 :=
  ⟨_, _, by unfold opAdd; simp only [e1, e2, if_pos k]; rfl, p⟩
theorem upto10 {P : Nat → Prop} (p1 : P 1) (p2 : P 2) (p3 : P 3) (p4 : P 4) (p5 : P 5) (p6 : P 6) (p7 : P 7) (p8 : P 8) (p9 : P 9) (p10 : P 10) : ∀ c : Nat, 1 ≤ c → c ≤ 10 → P c := by
  intro c h1 h2
  have q : c = 1 ∨ c = 2 ∨ c = 3 ∨ c = 4 ∨ c = 5 ∨ c = 6 ∨ c = 7 ∨ c = 8 ∨ c = 9 ∨ c = 10 := by omega
  rcases q with rfl | rfl | rfl | rfl | rfl | rfl | rfl | rfl | rfl | rfl <;> assumption
theorem i1 : ∀ c : Nat, 1 ≤ c → c ≤ 10 → is_InvalidNumber (.exo c) = some (decide (c = 1)) := upto10 rfl rfl rfl rfl rfl rfl rfl rfl rfl rfl
theorem i2 : ∀ c : Nat, 1 ≤ c → c ≤ 10 → is_InvalidList (.exo c) = some (decide (c = 2)) := upto10 rfl rfl rfl rfl rfl rfl rfl rfl rfl rfl
theorem i3 : ∀ c : Nat, 1 ≤ c → c ≤ 10 → is_InvalidItem (.exo c) = some (decide (c = 3)) := upto10 rfl rfl rfl rfl rfl rfl rfl rfl rfl rfl
theorem i4 : ∀ c : Nat, 1 ≤ c → c ≤ 10 → is_InvalidProgram (.exo c) = some (decide (c = 4)) := upto10 rfl rfl rfl rfl rfl rfl rfl rfl rfl rfl
theorem i5 : ∀ c : Nat, 1 ≤ c → c ≤ 10 → is_InvalidRow (.exo c) = some (decide (c = 5)) := upto10 rfl rfl rfl rfl rfl rfl rfl rfl rfl rfl
theorem i6 : ∀ c : Nat, 1 ≤ c → c ≤ 10 → is_InvalidText (.exo c) = some (decide (c = 6)) := upto10 rfl rfl rfl rfl rfl rfl rfl rfl rfl rfl
theorem i7 : ∀ c : Nat, 1 ≤ c → c ≤ 10 → is_InvalidName (.exo c) = some (decide (c = 7)) := upto10 rfl rfl rfl rfl rfl rfl rfl rfl rfl rfl
theorem i8 : ∀ c : Nat, 1 ≤ c → c ≤ 10 → is_TakenName (.exo c) = some (decide (c = 8)) := upto10 rfl rfl rfl rfl rfl rfl rfl rfl rfl rfl
theorem i9 : ∀ c : Nat, 1 ≤ c → c ≤ 10 → is_UnknownName (.exo c) = some (decide (c = 9)) := upto10 rfl rfl rfl rfl rfl rfl rfl rfl rfl rfl
theorem i10 : ∀ c : Nat, 1 ≤ c → c ≤ 10 → is_NothingToUndo (.exo c) = some (decide (c = 10)) := upto10 rfl rfl rfl rfl rfl rfl rfl rfl rfl rfl
theorem iW : ∀ c : Nat, 1 ≤ c → c ≤ 10 → is_WalkError (.exo c) = some true := upto10 rfl rfl rfl rfl rfl rfl rfl rfl rfl rfl
theorem iV : ∀ c : Nat, 1 ≤ c → c ≤ 10 → is_ValueError (.exo c) = some true := upto10 rfl rfl rfl rfl rfl rfl rfl rfl rfl rfl
theorem small_big {n : Nat} (h : n ≤ 1000) : n ≤ big := by unfold big; omega
theorem small_lt {n : Nat} (h : n ≤ 1000) : n < big := by unfold big; omega
/-- which of the ten classes -/
theorem kinds_is {h : SH} {i c : Nat} {xs : List SV} {P : SV → SH → Prop} (h1 : 1 ≤ c) (h10 : c ≤ 10) (e : h[i]? = some (.exo c xs)) (p : ∀ (h' : SH) (j : Nat), Le h h' → h.length ≤ j → h'[j]? = some (.lst [.int ((c : Int) - 1)]) → P (.ref j) h') : Is (f17 [.ref i] h) P := by
  refine Is.fn rfl ?_
  unfold m17
  repeat (first | with_reducible refine Is.o2 ?_ | with_reducible refine Is.o1 ?_ | with_reducible refine Is.oa ?_ | with_reducible refine Is.acons ?_ | with_reducible refine Is.anil ?_ | with_reducible refine Is.c ?_ | with_reducible refine Is.var (by with_unfolding_all rfl) ?_ | with_reducible refine Is.call ?_ | with_reducible refine Is.bm ?_ | with_reducible refine Ist.seq ?_ | with_reducible refine Ist.set ?_ | with_reducible refine Ist.ret ?_ | with_reducible refine Ist.ite ?_ | with_reducible refine Ist.st ?_ | with_reducible refine Ist.nil ?_)
  refine isi_is e (i1 c h1 h10) ?_
  repeat (first | with_reducible refine Is.o2 ?_ | with_reducible refine Is.o1 ?_ | with_reducible refine Is.oa ?_ | with_reducible refine Is.acons ?_ | with_reducible refine Is.anil ?_ | with_reducible refine Is.c ?_ | with_reducible refine Is.var (by with_unfolding_all rfl) ?_ | with_reducible refine Is.call ?_ | with_reducible refine Is.bm ?_ | with_reducible refine Ist.seq ?_ | with_reducible refine Ist.set ?_ | with_reducible refine Ist.ret ?_ | with_reducible refine Ist.ite ?_ | with_reducible refine Ist.st ?_ | with_reducible refine Ist.nil ?_)
  refine isi_is e (i2 c h1 h10) ?_
  repeat (first | with_reducible refine Is.o2 ?_ | with_reducible refine Is.o1 ?_ | with_reducible refine Is.oa ?_ | with_reducible refine Is.acons ?_ | with_reducible refine Is.anil ?_ | with_reducible refine Is.c ?_ | with_reducible refine Is.var (by with_unfolding_all rfl) ?_ | with_reducible refine Is.call ?_ | with_reducible refine Is.bm ?_ | with_reducible refine Ist.seq ?_ | with_reducible refine Ist.set ?_ | with_reducible refine Ist.ret ?_ | with_reducible refine Ist.ite ?_ | with_reducible refine Ist.st ?_ | with_reducible refine Ist.nil ?_)
  refine isi_is e (i3 c h1 h10) ?_
  repeat (first | with_reducible refine Is.o2 ?_ | with_reducible refine Is.o1 ?_ | with_reducible refine Is.oa ?_ | with_reducible refine Is.acons ?_ | with_reducible refine Is.anil ?_ | with_reducible refine Is.c ?_ | with_reducible refine Is.var (by with_unfolding_all rfl) ?_ | with_reducible refine Is.call ?_ | with_reducible refine Is.bm ?_ | with_reducible refine Ist.seq ?_ | with_reducible refine Ist.set ?_ | with_reducible refine Ist.ret ?_ | with_reducible refine Ist.ite ?_ | with_reducible refine Ist.st ?_ | with_reducible refine Ist.nil ?_)
  refine lst_is (small_big (by simp)) ?_
  have l1 := Le.push h (.lst [.bl (decide (c = 1)), .bl (decide (c = 2)), .bl (decide (c = 3))])
  have n1 := new_at h (.lst [.bl (decide (c = 1)), .bl (decide (c = 2)), .bl (decide (c = 3))])
  generalize h ++ [.lst [.bl (decide (c = 1)), .bl (decide (c = 2)), .bl (decide (c = 3))]] = ha at *
  have ea := l1 _ _ e
  repeat (first | with_reducible refine Is.o2 ?_ | with_reducible refine Is.o1 ?_ | with_reducible refine Is.oa ?_ | with_reducible refine Is.acons ?_ | with_reducible refine Is.anil ?_ | with_reducible refine Is.c ?_ | with_reducible refine Is.var (by with_unfolding_all rfl) ?_ | with_reducible refine Is.call ?_ | with_reducible refine Is.bm ?_ | with_reducible refine Ist.seq ?_ | with_reducible refine Ist.set ?_ | with_reducible refine Ist.ret ?_ | with_reducible refine Ist.ite ?_ | with_reducible refine Ist.st ?_ | with_reducible refine Ist.nil ?_)
  refine isi_is ea (i4 c h1 h10) ?_
  repeat (first | with_reducible refine Is.o2 ?_ | with_reducible refine Is.o1 ?_ | with_reducible refine Is.oa ?_ | with_reducible refine Is.acons ?_ | with_reducible refine Is.anil ?_ | with_reducible refine Is.c ?_ | with_reducible refine Is.var (by with_unfolding_all rfl) ?_ | with_reducible refine Is.call ?_ | with_reducible refine Is.bm ?_ | with_reducible refine Ist.seq ?_ | with_reducible refine Ist.set ?_ | with_reducible refine Ist.ret ?_ | with_reducible refine Ist.ite ?_ | with_reducible refine Ist.st ?_ | with_reducible refine Ist.nil ?_)
  refine isi_is ea (i5 c h1 h10) ?_
  repeat (first | with_reducible refine Is.o2 ?_ | with_reducible refine Is.o1 ?_ | with_reducible refine Is.oa ?_ | with_reducible refine Is.acons ?_ | with_reducible refine Is.anil ?_ | with_reducible refine Is.c ?_ | with_reducible refine Is.var (by with_unfolding_all rfl) ?_ | with_reducible refine Is.call ?_ | with_reducible refine Is.bm ?_ | with_reducible refine Ist.seq ?_ | with_reducible refine Ist.set ?_ | with_reducible refine Ist.ret ?_ | with_reducible refine Ist.ite ?_ | with_reducible refine Ist.st ?_ | with_reducible refine Ist.nil ?_)
  refine lst_is (small_big (by simp)) ?_
  -- the second, the third, the fourth list
  generalize eo2 : (SO.lst [.bl (decide (c = 4)), .bl (decide (c = 5))]) = o2
  have l2 := Le.push ha o2
  have n2 := new_at ha o2
  have m2 := l2 _ _ n1
  generalize ha ++ [o2] = hb at *
  have eb := l2 _ _ ea
  subst eo2
  refine add_is m2 n2 (small_big (by simp)) ?_
  simp only [List.cons_append, List.nil_append]
  have l3 := Le.push hb (.lst [.bl (decide (c = 1)), .bl (decide (c = 2)), .bl (decide (c = 3)), .bl (decide (c = 4)), .bl (decide (c = 5))])
  have n3 := new_at hb (.lst [.bl (decide (c = 1)), .bl (decide (c = 2)), .bl (decide (c = 3)), .bl (decide (c = 4)), .bl (decide (c = 5))])
  generalize hb ++ [.lst [.bl (decide (c = 1)), .bl (decide (c = 2)), .bl (decide (c = 3)), .bl (decide (c = 4)), .bl (decide (c = 5))]] = hc at *
  have ec := l3 _ _ eb
  repeat (first | with_reducible refine Is.o2 ?_ | with_reducible refine Is.o1 ?_ | with_reducible refine Is.oa ?_ | with_reducible refine Is.acons ?_ | with_reducible refine Is.anil ?_ | with_reducible refine Is.c ?_ | with_reducible refine Is.var (by with_unfolding_all rfl) ?_ | with_reducible refine Is.call ?_ | with_reducible refine Is.bm ?_ | with_reducible refine Ist.seq ?_ | with_reducible refine Ist.set ?_ | with_reducible refine Ist.ret ?_ | with_reducible refine Ist.ite ?_ | with_reducible refine Ist.st ?_ | with_reducible refine Ist.nil ?_)
  refine isi_is ec (i6 c h1 h10) ?_
  repeat (first | with_reducible refine Is.o2 ?_ | with_reducible refine Is.o1 ?_ | with_reducible refine Is.oa ?_ | with_reducible refine Is.acons ?_ | with_reducible refine Is.anil ?_ | with_reducible refine Is.c ?_ | with_reducible refine Is.var (by with_unfolding_all rfl) ?_ | with_reducible refine Is.call ?_ | with_reducible refine Is.bm ?_ | with_reducible refine Ist.seq ?_ | with_reducible refine Ist.set ?_ | with_reducible refine Ist.ret ?_ | with_reducible refine Ist.ite ?_ | with_reducible refine Ist.st ?_ | with_reducible refine Ist.nil ?_)
  refine isi_is ec (i7 c h1 h10) ?_
  repeat (first | with_reducible refine Is.o2 ?_ | with_reducible refine Is.o1 ?_ | with_reducible refine Is.oa ?_ | with_reducible refine Is.acons ?_ | with_reducible refine Is.anil ?_ | with_reducible refine Is.c ?_ | with_reducible refine Is.var (by with_unfolding_all rfl) ?_ | with_reducible refine Is.call ?_ | with_reducible refine Is.bm ?_ | with_reducible refine Ist.seq ?_ | with_reducible refine Ist.set ?_ | with_reducible refine Ist.ret ?_ | with_reducible refine Ist.ite ?_ | with_reducible refine Ist.st ?_ | with_reducible refine Ist.nil ?_)
  refine lst_is (small_big (by simp)) ?_
  generalize eo4 : (SO.lst [.bl (decide (c = 6)), .bl (decide (c = 7))]) = o4
  have l4 := Le.push hc o4
  have n4 := new_at hc o4
  have m4 := l4 _ _ n3
  generalize hc ++ [o4] = hd at *
  have ed := l4 _ _ ec
  subst eo4
  refine add_is m4 n4 (small_big (by simp)) ?_
  simp only [List.cons_append, List.nil_append]
  generalize eo5 : (SO.lst [.bl (decide (c = 1)), .bl (decide (c = 2)), .bl (decide (c = 3)), .bl (decide (c = 4)), .bl (decide (c = 5)), .bl (decide (c = 6)), .bl (decide (c = 7))]) = o5
  have l5 := Le.push hd o5
  have n5 := new_at hd o5
  generalize hd ++ [o5] = he at *
  have ee := l5 _ _ ed
  subst eo5
  repeat (first | with_reducible refine Is.o2 ?_ | with_reducible refine Is.o1 ?_ | with_reducible refine Is.oa ?_ | with_reducible refine Is.acons ?_ | with_reducible refine Is.anil ?_ | with_reducible refine Is.c ?_ | with_reducible refine Is.var (by with_unfolding_all rfl) ?_ | with_reducible refine Is.call ?_ | with_reducible refine Is.bm ?_ | with_reducible refine Ist.seq ?_ | with_reducible refine Ist.set ?_ | with_reducible refine Ist.ret ?_ | with_reducible refine Ist.ite ?_ | with_reducible refine Ist.st ?_ | with_reducible refine Ist.nil ?_)
  refine isi_is ee (i8 c h1 h10) ?_
  repeat (first | with_reducible refine Is.o2 ?_ | with_reducible refine Is.o1 ?_ | with_reducible refine Is.oa ?_ | with_reducible refine Is.acons ?_ | with_reducible refine Is.anil ?_ | with_reducible refine Is.c ?_ | with_reducible refine Is.var (by with_unfolding_all rfl) ?_ | with_reducible refine Is.call ?_ | with_reducible refine Is.bm ?_ | with_reducible refine Ist.seq ?_ | with_reducible refine Ist.set ?_ | with_reducible refine Ist.ret ?_ | with_reducible refine Ist.ite ?_ | with_reducible refine Ist.st ?_ | with_reducible refine Ist.nil ?_)
  refine isi_is ee (i9 c h1 h10) ?_
  repeat (first | with_reducible refine Is.o2 ?_ | with_reducible refine Is.o1 ?_ | with_reducible refine Is.oa ?_ | with_reducible refine Is.acons ?_ | with_reducible refine Is.anil ?_ | with_reducible refine Is.c ?_ | with_reducible refine Is.var (by with_unfolding_all rfl) ?_ | with_reducible refine Is.call ?_ | with_reducible refine Is.bm ?_ | with_reducible refine Ist.seq ?_ | with_reducible refine Ist.set ?_ | with_reducible refine Ist.ret ?_ | with_reducible refine Ist.ite ?_ | with_reducible refine Ist.st ?_ | with_reducible refine Ist.nil ?_)
  refine lst_is (small_big (by simp)) ?_
  generalize eo6 : (SO.lst [.bl (decide (c = 8)), .bl (decide (c = 9))]) = o6
  have l6 := Le.push he o6
  have n6 := new_at he o6
  have m6 := l6 _ _ n5
  generalize he ++ [o6] = hf at *
  have ef := l6 _ _ ee
  subst eo6
  refine add_is m6 n6 (small_big (by simp)) ?_
  simp only [List.cons_append, List.nil_append]
  generalize eo7 : (SO.lst [.bl (decide (c = 1)), .bl (decide (c = 2)), .bl (decide (c = 3)), .bl (decide (c = 4)), .bl (decide (c = 5)), .bl (decide (c = 6)), .bl (decide (c = 7)), .bl (decide (c = 8)), .bl (decide (c = 9))]) = o7
  have l7 := Le.push hf o7
  have n7 := new_at hf o7
  generalize hf ++ [o7] = hg at *
  have eg := l7 _ _ ef
  subst eo7
  repeat (first | with_reducible refine Is.o2 ?_ | with_reducible refine Is.o1 ?_ | with_reducible refine Is.oa ?_ | with_reducible refine Is.acons ?_ | with_reducible refine Is.anil ?_ | with_reducible refine Is.c ?_ | with_reducible refine Is.var (by with_unfolding_all rfl) ?_ | with_reducible refine Is.call ?_ | with_reducible refine Is.bm ?_ | with_reducible refine Ist.seq ?_ | with_reducible refine Ist.set ?_ | with_reducible refine Ist.ret ?_ | with_reducible refine Ist.ite ?_ | with_reducible refine Ist.st ?_ | with_reducible refine Ist.nil ?_)
  refine Is.bor (Is.bnot (Is.bm (Is.o1 ?_)))
  repeat (first | with_reducible refine Is.o2 ?_ | with_reducible refine Is.o1 ?_ | with_reducible refine Is.oa ?_ | with_reducible refine Is.acons ?_ | with_reducible refine Is.anil ?_ | with_reducible refine Is.c ?_ | with_reducible refine Is.var (by with_unfolding_all rfl) ?_ | with_reducible refine Is.call ?_ | with_reducible refine Is.bm ?_ | with_reducible refine Ist.seq ?_ | with_reducible refine Ist.set ?_ | with_reducible refine Ist.ret ?_ | with_reducible refine Ist.ite ?_ | with_reducible refine Ist.st ?_ | with_reducible refine Ist.nil ?_)
  refine isi_is eg (iW c h1 h10) ⟨_, rfl, ?_⟩
  refine Is.bnot (Is.bm (Is.o1 ?_))
  repeat (first | with_reducible refine Is.o2 ?_ | with_reducible refine Is.o1 ?_ | with_reducible refine Is.oa ?_ | with_reducible refine Is.acons ?_ | with_reducible refine Is.anil ?_ | with_reducible refine Is.c ?_ | with_reducible refine Is.var (by with_unfolding_all rfl) ?_ | with_reducible refine Is.call ?_ | with_reducible refine Is.bm ?_ | with_reducible refine Ist.seq ?_ | with_reducible refine Ist.set ?_ | with_reducible refine Ist.ret ?_ | with_reducible refine Ist.ite ?_ | with_reducible refine Ist.st ?_ | with_reducible refine Ist.nil ?_)
  refine isi_is eg (iV c h1 h10) ⟨_, rfl, ?_⟩
  rw [if_neg (by simp)]
  repeat (first | with_reducible refine Is.o2 ?_ | with_reducible refine Is.o1 ?_ | with_reducible refine Is.oa ?_ | with_reducible refine Is.acons ?_ | with_reducible refine Is.anil ?_ | with_reducible refine Is.c ?_ | with_reducible refine Is.var (by with_unfolding_all rfl) ?_ | with_reducible refine Is.call ?_ | with_reducible refine Is.bm ?_ | with_reducible refine Ist.seq ?_ | with_reducible refine Ist.set ?_ | with_reducible refine Ist.ret ?_ | with_reducible refine Ist.ite ?_ | with_reducible refine Ist.st ?_ | with_reducible refine Ist.nil ?_)
  refine Is.lc ?_
  with_reducible refine Is.rng1 ?_
  repeat (first | with_reducible refine Is.o2 ?_ | with_reducible refine Is.o1 ?_ | with_reducible refine Is.oa ?_ | with_reducible refine Is.acons ?_ | with_reducible refine Is.anil ?_ | with_reducible refine Is.c ?_ | with_reducible refine Is.var (by with_unfolding_all rfl) ?_ | with_reducible refine Is.call ?_ | with_reducible refine Is.bm ?_ | with_reducible refine Ist.seq ?_ | with_reducible refine Ist.set ?_ | with_reducible refine Ist.ret ?_ | with_reducible refine Ist.ite ?_ | with_reducible refine Ist.st ?_ | with_reducible refine Ist.nil ?_)
  refine ⟨10, rfl, by decide, 10, fun k acc hh => Le hg hh ∧ acc = (if c ≤ k then [.int ((c : Int) - 1)] else []), by unfold many; omega, ⟨Le.push _ _, ?_⟩, ?_, ?_⟩
  · rw [if_neg (by omega)]
  · rintro k acc hh hk hD ⟨hle, rfl⟩
    refine ⟨_, _, _, wkRng_at hk, rfl, ?_⟩
    have k10 : k = 0 ∨ k = 1 ∨ k = 2 ∨ k = 3 ∨ k = 4 ∨ k = 5 ∨ k = 6 ∨ k = 7 ∨ k = 8 ∨ k = 9 := by omega
    have at_ : L2.atI (([.bl (decide (c = 1)), .bl (decide (c = 2)), .bl (decide (c = 3)), .bl (decide (c = 4)), .bl (decide (c = 5)), .bl (decide (c = 6)), .bl (decide (c = 7)), .bl (decide (c = 8)), .bl (decide (c = 9))] : List SV) ++ [.bl (decide (c = 10))]) (0 + (k : Int)) = some (.bl (decide (c = k + 1))) := by
      rcases k10 with rfl | rfl | rfl | rfl | rfl | rfl | rfl | rfl | rfl | rfl <;> rfl
    refine Is.tru ?_
    repeat (first | with_reducible refine Is.o2 ?_ | with_reducible refine Is.o1 ?_ | with_reducible refine Is.oa ?_ | with_reducible refine Is.acons ?_ | with_reducible refine Is.anil ?_ | with_reducible refine Is.c ?_ | with_reducible refine Is.var (by with_unfolding_all rfl) ?_ | with_reducible refine Is.call ?_ | with_reducible refine Is.bm ?_ | with_reducible refine Ist.seq ?_ | with_reducible refine Ist.set ?_ | with_reducible refine Ist.ret ?_ | with_reducible refine Ist.ite ?_ | with_reducible refine Ist.st ?_ | with_reducible refine Ist.nil ?_)
    refine isi_is (hle _ _ eg) (i10 c h1 h10) ?_
    repeat (first | with_reducible refine Is.o2 ?_ | with_reducible refine Is.o1 ?_ | with_reducible refine Is.oa ?_ | with_reducible refine Is.acons ?_ | with_reducible refine Is.anil ?_ | with_reducible refine Is.c ?_ | with_reducible refine Is.var (by with_unfolding_all rfl) ?_ | with_reducible refine Is.call ?_ | with_reducible refine Is.bm ?_ | with_reducible refine Ist.seq ?_ | with_reducible refine Ist.set ?_ | with_reducible refine Ist.ret ?_ | with_reducible refine Ist.ite ?_ | with_reducible refine Ist.st ?_ | with_reducible refine Ist.nil ?_)
    refine lst_is (small_big (by simp)) ?_
    refine add_is (Le.push _ _ _ _ (hle _ _ n7)) (new_at _ _) (small_big (by simp)) ?_
    repeat (first | with_reducible refine Is.o2 ?_ | with_reducible refine Is.o1 ?_ | with_reducible refine Is.oa ?_ | with_reducible refine Is.acons ?_ | with_reducible refine Is.anil ?_ | with_reducible refine Is.c ?_ | with_reducible refine Is.var (by with_unfolding_all rfl) ?_ | with_reducible refine Is.call ?_ | with_reducible refine Is.bm ?_ | with_reducible refine Ist.seq ?_ | with_reducible refine Ist.set ?_ | with_reducible refine Ist.ret ?_ | with_reducible refine Ist.ite ?_ | with_reducible refine Ist.st ?_ | with_reducible refine Ist.nil ?_)
    refine ix_is (new_at _ _) at_ ?_
    have lD : Le hh ((hh ++ [.lst [.bl (decide (c = 10))]]) ++ [.lst (([.bl (decide (c = 1)), .bl (decide (c = 2)), .bl (decide (c = 3)), .bl (decide (c = 4)), .bl (decide (c = 5)), .bl (decide (c = 6)), .bl (decide (c = 7)), .bl (decide (c = 8)), .bl (decide (c = 9))] : List SV) ++ [.bl (decide (c = 10))])]) := (Le.push _ _).trans (Le.push _ _)
    show if decide (c = k + 1) = true then _ else _
    by_cases hck : c = k + 1
    · rw [if_pos (decide_eq_true hck)]
      repeat (first | with_reducible refine Is.o2 ?_ | with_reducible refine Is.o1 ?_ | with_reducible refine Is.oa ?_ | with_reducible refine Is.acons ?_ | with_reducible refine Is.anil ?_ | with_reducible refine Is.c ?_ | with_reducible refine Is.var (by with_unfolding_all rfl) ?_ | with_reducible refine Is.call ?_ | with_reducible refine Is.bm ?_ | with_reducible refine Ist.seq ?_ | with_reducible refine Ist.set ?_ | with_reducible refine Ist.ret ?_ | with_reducible refine Ist.ite ?_ | with_reducible refine Ist.st ?_ | with_reducible refine Ist.nil ?_)
      refine ⟨lD _ _ hD, ?_, ?_, ?_⟩
      · rw [if_neg (by omega)]; exact small_lt (by simp)
      · intro j o q
        have hj : hg.length ≠ j := by
          have := (List.getElem?_eq_some_iff.mp q).1
          omega
        rw [set_ne hj]
        exact lD _ _ (hle _ _ q)
      · rw [if_neg (by omega), if_pos (by omega), List.nil_append]
        congr 2
        omega
    · rw [if_neg (by simpa using hck)]
      refine ⟨lD _ _ hD, fun j o q => lD _ _ (hle j o q), ?_⟩
      by_cases hc1 : c ≤ k
      · rw [if_pos hc1, if_pos (by omega)]
      · rw [if_neg hc1, if_neg (by omega)]
  · rintro acc hh hD ⟨hle, rfl⟩
    have lg : Le h hg := fun j o q => l7 j o (l6 j o (l5 j o (l4 j o (l3 j o (l2 j o (l1 j o q))))))
    refine ⟨wkRng_end, p _ _ (fun j o q => hle j o (lg j o q)) lg.len ?_⟩
    rw [hD, if_pos h10]
end Gn
namespace Gn
open PySem PySem.Spec L2 Fw
theorem dataAll_of {f : SV → Option PyData} : ∀ {xs : List SV} {ds : List PyData}, xs.length = ds.length → (∀ (k : Nat) (x : SV), xs[k]? = some x → ∃ d, ds[k]? = some d ∧ f x = some d) → dataAll f xs = some ds
  | [], [], _, _ => rfl
  | x :: xs, d :: ds, hl, h => by
    obtain ⟨d', e1, e2⟩ := h 0 x rfl
    cases e1
    unfold dataAll
    rw [e2]
    simp only
    rw [dataAll_of (by simpa using hl) fun k y e => h (k + 1) y (by simpa using e)]
  | [], _ :: _, hl, _ => by simp at hl
  | _ :: _, [], hl, _ => by simp at hl
theorem dataAll_mono {f f' : SV → Option PyData} (k : ∀ x d, f x = some d → f' x = some d) : ∀ {xs : List SV} {ds : List PyData}, dataAll f xs = some ds → dataAll f' xs = some ds
  | [], _, e => e
  | x :: xs, ds, e => by
    unfold dataAll at e ⊢
    cases e1 : f x with
    | none => rw [e1] at e; cases e
    | some d =>
      rw [e1] at e
      simp only at e
      rw [k x d e1]
      simp only
      cases e2 : dataAll f xs with
      | none => rw [e2] at e; cases e
      | some ds' =>
        rw [e2] at e
        rw [dataAll_mono k e2]
        exact e
theorem dataOf_le {h h' : SH} (l : Le h h') : ∀ (n : Nat) (v : SV) (d : PyData), dataOf n h v = some d → dataOf n h' v = some d
  | 0, _, _, e => by cases e
  | n + 1, v, d, e => by
    cases v with
    | ref i =>
      unfold dataOf at e ⊢
      dsimp only at e ⊢
      cases e1 : h[i]? with
      | none => simp only [e1] at e; cases e
      | some o =>
        rw [l i o e1]
        simp only [e1] at e
        cases o with
        | lst xs =>
          simp only at e ⊢
          cases e2 : dataAll (dataOf n h) xs with
          | none => rw [e2] at e; cases e
          | some ds => rw [e2] at e; rw [dataAll_mono (dataOf_le l n) e2]; exact e
        | tup xs =>
          simp only at e ⊢
          cases e2 : dataAll (dataOf n h) xs with
          | none => rw [e2] at e; cases e
          | some ds => rw [e2] at e; rw [dataAll_mono (dataOf_le l n) e2]; exact e
        | dK kvs =>
          simp only at e ⊢
          cases e2 : dataAll (dataOf n h) (kvs.map (·.2)) with
          | none => rw [e2] at e; cases e
          | some ds => rw [e2] at e; rw [dataAll_mono (dataOf_le l n) e2]; exact e
        | dT kvs => simp only at e; cases e
        | ins c vs => simp only at e; cases e
        | exo c vs => simp only at e; cases e
    | _ => exact e
theorem dataOf_lst {h : SH} {n i : Nat} {xs : List SV} {ds : List PyData} (e : h[i]? = some (.lst xs)) (a : dataAll (dataOf n h) xs = some ds) : dataOf (n + 1) h (.ref i) = some (.list ds) := by
  unfold dataOf; simp only [e, a, Option.map_some]
/-- a list of nine lists [k] -/
theorem nine {h : SH} {D : Nat} {ys : List SV} (e : h[D]? = some (.lst ys)) (hl : ys.length = 9) (hy : ∀ (q : Nat) (v : SV), ys[q]? = some v → ∃ j, v = .ref j ∧ h[j]? = some (.lst [.int q])) : dataOf 64 h (.ref D) = some (.list ((List.range 9).map fun q : Nat => .list [.int (q : Int)])) := by
  refine dataOf_lst e (dataAll_of (by simp [hl]) fun k x ex => ?_)
  obtain ⟨j, rfl, ej⟩ := hy k x ex
  have hk : k < 9 := by rw [← hl]; exact (List.getElem?_eq_some_iff.mp ex).1
  exact ⟨_, by rw [List.getElem?_map, List.getElem?_range hk]; rfl, dataOf_lst ej rfl⟩
/-- the loop state of a comprehension whose answers are kept -/
def Kept (h0 : SH) (D : Nat) (G : Nat → SV → SH → Prop) (k : Nat) (acc : List SV) (h : SH) : Prop := Le h0 h ∧ acc.length = k ∧ ∀ (q : Nat) (v : SV), acc[q]? = some v → G q v h
theorem kept_set {h0 h h3 : SH} {G : Nat → SV → SH → Prop} {k : Nat} {acc : List SV} {y : SV} (inv : Kept h0 h0.length G k acc h) (l : Le h h3) (hG : ∀ q v a b, (∀ (j : Nat) (o : SO), j ≠ h0.length → a[j]? = some o → b[j]? = some o) → G q v a → G q v b) (gy : G k y h3) : Kept h0 h0.length G (k + 1) (acc ++ [y]) (h3.set h0.length (.lst (acc ++ [y]))) := by
  obtain ⟨i1, i2, i3⟩ := inv
  have mv : ∀ (j : Nat) (o : SO), j ≠ h0.length → h3[j]? = some o → (h3.set h0.length (.lst (acc ++ [y])))[j]? = some o := fun j o n e => by rw [set_ne (Ne.symm n)]; exact e
  refine ⟨fun j o e => ?_, by simp [i2], fun q v e => ?_⟩
  · have hj : j ≠ h0.length := Nat.ne_of_lt (List.getElem?_eq_some_iff.mp e).1
    exact mv j o hj (l _ _ (i1 _ _ e))
  · by_cases hq : q < acc.length
    · rw [List.getElem?_append_left hq] at e
      exact hG q v _ _ mv (hG q v _ _ (fun j o _ z => l j o z) (i3 q v e))
    · have hq2 : q = acc.length := by
        have := (List.getElem?_eq_some_iff.mp e).1
        simp at this; omega
      subst hq2
      rw [List.getElem?_append_right (Nat.le_refl _)] at e
      simp at e
      subst e
      rw [i2]
      exact hG _ _ _ _ mv gy
end Gn
namespace Gn
open PySem PySem.Spec L2 Fw
abbrev D9 (d : PyData) : PyData := .list (List.replicate 9 d)
/-- nine errors, the k-th of the class k + 1, all with the value gv -/
structure Errs (h : SH) (es : Nat) (gv : SV) : Prop where
  ex : ∃ rs : List Nat, h[es]? = some (.lst (rs.map SV.ref)) ∧ rs.length = 9 ∧ ∀ (k r : Nat), rs[k]? = some r → h[r]? = some (SO.exo (k + 1) [gv])
theorem kinds_turn {h0 : SH} {rs : List Nat} {es : Nat} (hes : h0[es]? = some (.lst (rs.map SV.ref))) (hl : rs.length = 9) (he : ∀ (k r : Nat), rs[k]? = some r → ∃ gv : SV, h0[r]? = some (SO.exo (k + 1) [gv])) {ss : SS} (h3 : 3 < ss.length)
    {P : SV → SH → Prop} (p : ∀ (h' : SH) (ys : List SV), Le h0 h' → h'[h0.length]? = some (.lst ys) → ys.length = 9 → (∀ (q : Nat) (v : SV), ys[q]? = some v → ∃ j, v = .ref j ∧ h'[j]? = some (.lst [.int q])) → P (.ref h0.length) h') (es0 : ss[0]? = some (some (.ref es))) :
    Is (mLc (mWalk (mVar 0)) (gVar 3) bYes (mCall f17 (aCons (mVar 3) aNil)) [3] ss h0) P := by
  have lw : ∀ h : SH, Le h0 h → h[es]? = some (.lst (rs.map SV.ref)) := fun h l => l _ _ hes
  refine Is.lc (Is.walkL (Is.var es0 ⟨es, rs.map SV.ref, rfl, hes, rs.length, Kept h0 h0.length (fun q v h => ∃ j, v = .ref j ∧ j ≠ h0.length ∧ h[j]? = some (.lst [.int (q : Int)])), by rw [hl]; unfold many; omega, ⟨Le.push _ _, rfl, fun q v e => by simp at e⟩, ?_, ?_⟩))
  · intro k acc h hk hD inv
    have er : rs[k]? = some rs[k] := List.getElem?_eq_getElem hk
    obtain ⟨gv, eo⟩ := he k _ er
    refine ⟨_, _, _, wkL_at (lw h inv.1) (by rw [List.getElem?_map, er]; rfl), rfl, ?_⟩
    show Is (mCall f17 (aCons (mVar 3) aNil) _ _) _
    refine Is.call (Is.acons (Is.var (v := .ref rs[k]) (List.getElem?_set_self (by rw [wipeS, wipeS, List.length_set]; exact h3)) (Is.anil ?_)))
    refine kinds_is (c := k + 1) (by omega) (by omega) (inv.1 _ _ eo) fun h' j l lj ej => ?_
    have hj : j ≠ h0.length := by
      have := (List.getElem?_eq_some_iff.mp hD).1
      omega
    refine ⟨l _ _ hD, small_lt (by rw [inv.2.1]; omega), kept_set inv l (fun q v a b m ⟨j, e1, e2, e3⟩ => ⟨j, e1, e2, m j _ e2 e3⟩) ⟨j, rfl, hj, by rw [ej, show ((k + 1 : Nat) : Int) - 1 = (k : Int) from by omega]⟩⟩
  · intro acc h hD inv
    refine ⟨?_, p h acc inv.1 hD (by rw [inv.2.1, hl]) fun q v e => ?_⟩
    · have z := wkL_end (lw h inv.1)
      rwa [List.length_map] at z
    · obtain ⟨j, e1, _, e3⟩ := inv.2.2 q v e
      exact ⟨j, e1, e3⟩
theorem range_turn {h0 : SH} {ss : SS} (h4 : 4 < ss.length) {P : SV → SH → Prop} (p : ∀ (h' : SH) (ys : List SV), Le h0 h' → h'[h0.length]? = some (.lst ys) → ys.length = 9 → (∀ (q : Nat) (v : SV), ys[q]? = some v → ∃ j, v = .ref j ∧ h'[j]? = some (.lst [.int q])) → P (.ref h0.length) h') :
    Is (mLc (mRng1 (aCons (mC (.int 9)) aNil)) (gVar 4) bYes (mOA opLst (aCons (mVar 4) aNil)) [4] ss h0) P := by
  refine Is.lc ?_
  with_reducible refine Is.rng1 ?_
  refine Is.acons (Is.c (Is.anil ⟨9, rfl, by decide, 9, Kept h0 h0.length (fun q v h => ∃ j, v = .ref j ∧ j ≠ h0.length ∧ h[j]? = some (.lst [.int (q : Int)])), by unfold many; omega, ⟨Le.push _ _, rfl, fun q v e => by simp at e⟩, ?_, ?_⟩))
  · intro k acc h hk hD inv
    refine ⟨_, _, _, wkRng_at hk, rfl, ?_⟩
    show Is (mOA opLst (aCons (mVar 4) aNil) _ _) _
    refine Is.oa (Is.acons (Is.var (v := .int (0 + (k : Int))) (List.getElem?_set_self (by rw [wipeS, wipeS, List.length_set]; exact h4)) (Is.anil (lst_is (small_big (by simp)) ?_))))
    have hlt := (List.getElem?_eq_some_iff.mp hD).1
    refine ⟨Le.push _ _ _ _ hD, small_lt (by rw [inv.2.1]; omega), kept_set inv (Le.push _ _) (fun q v a b m ⟨j, e1, e2, e3⟩ => ⟨j, e1, e2, m j _ e2 e3⟩) ⟨h.length, rfl, by omega, by rw [new_at, show (0 : Int) + (k : Int) = (k : Int) from by omega]⟩⟩
  · intro acc h hD inv
    refine ⟨wkRng_end, p h acc inv.1 hD inv.2.1 fun q v e => ?_⟩
    obtain ⟨j, e1, _, e3⟩ := inv.2.2 q v e
    exact ⟨j, e1, e3⟩
/-- the fields of some of the errors -/
theorem field_turn {h0 : SH} {ix : List (Option Nat)} {rs : List Nat} {gv : SV} {L : Nat} (hL : h0[L]? = some (.lst (rs.map SV.ref))) (hn : rs.length ≤ 100) (he : ∀ (k r : Nat), rs[k]? = some r → ∃ c : Nat, h0[r]? = some (SO.exo c [gv]) ∧ ix[c]? = some (some 0)) {ss : SS} (h3 : 3 < ss.length)
    {P : SV → SH → Prop} (p : ∀ (h' : SH), Le h0 h' → h'[h0.length]? = some (.lst (List.replicate rs.length gv)) → P (.ref h0.length) h') {m : EM} {hs : SH} (hm : Is (m ss hs) fun v h => v = .ref L ∧ h0 = h) :
    Is (mLc (mWalk m) (gVar 3) bYes (mO1 (opExf ix) (mVar 3)) [3] ss hs) P := by
  refine Is.lc (Is.walkL (hm.mono fun v hh ⟨ev, eh⟩ => ?_))
  subst ev eh
  refine ⟨L, rs.map SV.ref, rfl, hL, rs.length, fun k acc h => Le h0 h ∧ acc = List.replicate k gv, by unfold many; omega, ⟨Le.push _ _, rfl⟩, ?_, ?_⟩
  · rintro k acc h hk hD ⟨l, rfl⟩
    have er : rs[k]? = some rs[k] := List.getElem?_eq_getElem hk
    obtain ⟨c, eo, ec⟩ := he k _ er
    refine ⟨_, _, _, wkL_at (l _ _ hL) (by rw [List.getElem?_map, er]; rfl), rfl, ?_⟩
    show Is (mO1 (opExf ix) (mVar 3) _ _) _
    refine Is.o1 (Is.var (v := .ref rs[k]) (List.getElem?_set_self (by rw [wipeS, wipeS, List.length_set]; exact h3)) ⟨gv, h, by unfold opExf; simp only [l _ _ eo, ec]; rfl, hD, small_lt (by simp; omega), fun j o e => ?_, by rw [List.replicate_succ']⟩)
    have hj : h0.length ≠ j := Nat.ne_of_gt (List.getElem?_eq_some_iff.mp e).1
    rw [set_ne hj]
    exact l _ _ e
  · rintro acc h hD ⟨l, rfl⟩
    refine ⟨?_, p h l hD⟩
    have z := wkL_end (l _ _ hL)
    rwa [List.length_map] at z
end Gn
namespace Gn
open PySem PySem.Spec L2 Fw
theorem is_cut {ss : SS} {h : SH} {es : Nat} {i : Nat} {xs ys : List SV} {pl pu : PM} {lo hi : Option Int} (e : h[es]? = some (.lst xs)) (ev : ss[i]? = some (some (.ref es))) (el : pl ss h = .ok lo h) (eu : pu ss h = .ok hi h) (ey : cutS xs lo hi = ys) :
    Is (mCut (mVar i) pl pu ss h) fun v h2 => v = .ref h.length ∧ h ++ [SO.lst ys] = h2 := by
  refine Is.bind (Is.var ev (Is.bind ?_))
  rw [el]
  refine Is.bind (?_ : Is (pu ss h) _)
  rw [eu]
  refine Is.lift ⟨.ref h.length, h ++ [SO.lst ys], ?_, rfl, rfl⟩
  unfold opCut
  simp only [e, ey]
  rfl
theorem mulL_is {h : SH} {r : Nat} {gv : SV} {P : SV → SH → Prop} (e : h[r]? = some (.lst [gv])) (k9 : repS 9 [gv] = List.replicate 9 gv) (p : P (.ref h.length) (h ++ [.lst (List.replicate 9 gv)])) : ∃ v h3, opMul (.ref r) (.int 9) h = some (v, h3) ∧ P v h3 := by
  refine ⟨_, _, ?_, p⟩
  unfold opMul
  simp only [e]
  refine (if_pos ⟨by decide, by decide, by unfold big; simp⟩).trans ?_
  rfl
def Showy (d : PyData) : Prop := (D9 d).showable = true ∧ (D9 d).depth ≤ 64 ∧ (D9 d).shown.length ≤ big ∧ SeqAt.shaped (.str (D9 d).shown) = true
theorem cut6 {α : Type} (xs : List α) (hl : xs.length = 9) : cutS xs none (some 6) = xs.take 6 ∧ cutS xs (some 6) none = xs.drop 6 := by
  match xs, hl with
  | [a, b, c, d, e, f, g, i, j], _ => exact ⟨rfl, rfl⟩
theorem repr_is {h : SH} {r : Nat} {gv : SV} {d : PyData} {P : SV → SH → Prop} (e : h[r]? = some (.lst (List.replicate 9 gv))) (hd : dataOf 63 h gv = some d) (hs : Showy d) (p : P (.str (D9 d).shown) h) : ∃ v h3, un1 opRepr [.ref r] h = some (v, h3) ∧ P v h3 := by
  refine ⟨_, _, ?_, p⟩
  show opRepr (.ref r) h = _
  unfold opRepr
  have a : dataAll (dataOf 63 h) (List.replicate 9 gv) = some (List.replicate 9 d) := dataAll_of (by simp) fun k x ex => by
    have hk := (List.getElem?_eq_some_iff.mp ex).1
    have hx : x = gv := by
      have q := List.mem_of_getElem? ex
      exact (List.mem_replicate.mp q).2
    have hk9 : k < 9 := by simpa using hk
    exact ⟨d, by rw [List.getElem?_replicate, if_pos hk9], by rw [hx]; exact hd⟩
  rw [dataOf_lst e a]
  exact if_pos ⟨hs.1, hs.2.1, hs.2.2.1⟩
theorem right_is {h : SH} {es : Nat} {gv : SV} {d : PyData} {P : SV → SH → Prop} (E : Errs h es gv) (hd : dataOf 63 h gv = some d) (hs : Showy d) (p : ∀ h', Le h h' → P (.bl true) h') : Is (f18 [.ref es, gv] h) P := by
  obtain ⟨rs, e, hl, he⟩ := E.ex
  refine Is.fn rfl ?_
  unfold m18
  refine Ist.seq (Ist.ite (Is.bm (Is.o2 ?_)))
  refine kinds_turn e hl (fun k r er => ⟨gv, he k r er⟩) (by simp) (fun ha ys la ea hya hy => ?_) rfl
  refine range_turn (by simp) fun hb zs lb eb hzb hz => ?_
  have da := dataOf_le lb 64 _ _ (nine ea hya hy)
  have db := nine eb hzb hz
  refine ⟨.bl false, hb, ?_, ⟨false, rfl, ?_⟩⟩
  · unfold eqD
    rw [da, db]
    exact (if_pos (by decide +kernel)).trans (by congr 2)
  rw [if_neg Bool.false_ne_true]
  refine Ist.nil (Ist.seq (Ist.set (Is.o2 ?_)))
  have lab := la.trans lb
  obtain ⟨c1, c2⟩ := cut6 (rs.map SV.ref) (by simpa using hl)
  -- the first six
  have fld1 : ∀ (k r : Nat), (rs.take 6)[k]? = some r → ∃ c : Nat, (hb ++ [SO.lst ((rs.take 6).map SV.ref)])[r]? = some (SO.exo c [gv]) ∧ x_value[c]? = some (some 0) := fun k r er => by
    have hk := (List.getElem?_eq_some_iff.mp er).1
    have hk6 : k < 6 := by simp at hk; omega
    rw [List.getElem?_take_of_lt hk6] at er
    refine ⟨k + 1, Le.push _ _ _ _ (lab _ _ (he k r er)), ?_⟩
    have q : k = 0 ∨ k = 1 ∨ k = 2 ∨ k = 3 ∨ k = 4 ∨ k = 5 := by omega
    rcases q with rfl | rfl | rfl | rfl | rfl | rfl <;> rfl
  refine field_turn (h0 := hb ++ [SO.lst ((rs.take 6).map SV.ref)]) (rs := rs.take 6) (gv := gv) (L := hb.length) (new_at _ _) (by simp; omega) fld1 (by simp) (fun hc lc ec => ?_) (is_cut (lab _ _ e) rfl rfl rfl (by rw [c1, List.map_take]))
  have lbc : Le hb hc := (Le.push _ _).trans lc
  have fld2 : ∀ (k r : Nat), (rs.drop 6)[k]? = some r → ∃ c : Nat, (hc ++ [SO.lst ((rs.drop 6).map SV.ref)])[r]? = some (SO.exo c [gv]) ∧ x_name[c]? = some (some 0) := fun k r er => by
    have hk := (List.getElem?_eq_some_iff.mp er).1
    have hk3 : k < 3 := by simp at hk; omega
    rw [List.getElem?_drop] at er
    refine ⟨6 + k + 1, Le.push _ _ _ _ (lbc _ _ (lab _ _ (he (6 + k) r er))), ?_⟩
    have q : k = 0 ∨ k = 1 ∨ k = 2 := by omega
    rcases q with rfl | rfl | rfl <;> rfl
  refine field_turn (h0 := hc ++ [SO.lst ((rs.drop 6).map SV.ref)]) (rs := rs.drop 6) (gv := gv) (L := hc.length) (new_at _ _) (by simp; omega) fld2 (by simp) (fun hd2 ld ed => ?_) (is_cut (lbc _ _ (lab _ _ e)) rfl rfl rfl (by rw [c2, List.map_drop]))
  have lcd : Le hc hd2 := (Le.push _ _).trans ld
  rw [show (rs.take 6).length = 6 from by simp; omega] at ec
  rw [show (rs.drop 6).length = 3 from by simp; omega] at ed
  refine add_is (ld _ _ (Le.push _ _ _ _ ec)) ed (small_big (by simp)) ?_
  have l5 := Le.push hd2 (SO.lst (List.replicate 6 gv ++ List.replicate 3 gv))
  have n5 := new_at hd2 (SO.lst (List.replicate 6 gv ++ List.replicate 3 gv))
  rw [show List.replicate 6 gv ++ List.replicate 3 gv = List.replicate 9 gv from rfl] at l5 n5 ⊢
  generalize hd2 ++ [SO.lst (List.replicate 9 gv)] = hz' at *
  have lall : Le h hz' := ((lab.trans lbc).trans lcd).trans l5
  refine Ist.ret (Is.o2 (Is.oa (Is.acons (Is.var (v := .ref hd2.length) rfl (Is.anil ?_)))))
  refine repr_is n5 (dataOf_le lall 63 _ _ hd) hs ?_
  refine Is.oa (Is.acons (Is.o2 (Is.oa (Is.acons (Is.var (v := gv) rfl (Is.anil (lst_is (small_big (by simp)) ?_)))))))
  refine Is.c ?_
  refine mulL_is (new_at _ _) rfl ?_
  have l6 := (Le.push hz' (.lst [gv])).trans (Le.push (hz' ++ [.lst [gv]]) (.lst (List.replicate 9 gv)))
  have n6 := new_at (hz' ++ [.lst [gv]]) (.lst (List.replicate 9 gv))
  refine Is.anil ?_
  refine repr_is n6 (dataOf_le (lall.trans l6) 63 _ _ hd) hs ?_
  refine ⟨.bl true, _, ?_, p _ (lall.trans l6)⟩
  unfold eqD
  have ds : dataOf 64 (hz' ++ [.lst [gv]] ++ [.lst (List.replicate 9 gv)]) (.str (D9 d).shown) = some (.str (D9 d).shown) := rfl
  rw [ds]
  refine (if_pos (by rw [hs.2.2.2]; rfl)).trans ?_
  simp [PyData.eqv]
end Gn
namespace Gn
open PySem PySem.Spec L2 Fw
def argsM (ma : AM) : List Nat → AM
  | [] => aNil
  | c :: cs => aCons (mErr c 1 ma) (argsM ma cs)
/-- errors of the classes cs, all with the value gv -/
structure Made (h h' : SH) (cs : List Nat) (gv : SV) (rs : List Nat) : Prop where
  le : Le h h'
  len : rs.length = cs.length
  new : ∀ r ∈ rs, h.length ≤ r
  at_ : ∀ (k r : Nat), rs[k]? = some r → ∃ c, cs[k]? = some c ∧ h'[r]? = some (SO.exo c [gv])
theorem args_is {ma : AM} {gv : SV} {ss : SS} (hma : ∀ h : SH, Is (ma ss h) fun vs h' => h = h' ∧ errV 1 vs = some [gv]) : ∀ (cs : List Nat) {h : SH} {P : List SV → SH → Prop}, (∀ h' rs, Made h h' cs gv rs → P (rs.map SV.ref) h') → Is (argsM ma cs ss h) P
  | [], h, P, p => p h [] ⟨Le.refl h, rfl, fun r m => by simp at m, fun k r e => by simp at e⟩
  | c :: cs, h, P, p => by
    show Is (aCons (mErr c 1 ma) (argsM ma cs) ss h) P
    refine Is.acons (Is.bind ((hma h).mono fun vs h1 ⟨e1, e2⟩ => ?_))
    subst e1
    rw [e2]
    show Is (argsM ma cs ss (h ++ [.exo c [gv]])) _
    refine args_is hma cs fun h' rs m => ?_
    refine p h' (h.length :: rs) ⟨(Le.push _ _).trans m.le, by simp [m.len], fun r hr => ?_, fun k r e => ?_⟩
    · rcases List.mem_cons.mp hr with rfl | hr
      · exact Nat.le_refl _
      · have := m.new r hr
        simp at this; omega
    · cases k with
      | zero => cases e; exact ⟨c, rfl, m.le _ _ (new_at _ _)⟩
      | succ k => exact m.at_ k r e
theorem made_app {h h1 h2 : SH} {as bs : List Nat} {gv : SV} {rs ts : List Nat} (a : Made h h1 as gv rs) (l : Le h1 h2) {h3 : SH} (b : Made h2 h3 bs gv ts) : Made h h3 (as ++ bs) gv (rs ++ ts) where
  le := (a.le.trans l).trans b.le
  len := by simp [a.len, b.len]
  new := fun r m => by
    rcases List.mem_append.mp m with m | m
    · exact a.new r m
    · exact Nat.le_trans (a.le.trans l).len (b.new r m)
  at_ := fun k r e => by
    by_cases hk : k < rs.length
    · rw [List.getElem?_append_left hk] at e
      obtain ⟨c, e1, e2⟩ := a.at_ k r e
      exact ⟨c, by rw [List.getElem?_append_left (by rw [← a.len]; exact hk)]; exact e1, b.le _ _ (l _ _ e2)⟩
    · rw [List.getElem?_append_right (by omega)] at e
      obtain ⟨c, e1, e2⟩ := b.at_ _ r e
      exact ⟨c, by rw [List.getElem?_append_right (by rw [← a.len]; omega), ← a.len]; exact e1, e2⟩
theorem made_errs {h h' : SH} {gv : SV} {rs : List Nat} {es : Nat} (m : Made h h' [1, 2, 3, 4, 5, 6, 7, 8, 9] gv rs) (e : h'[es]? = some (.lst (rs.map SV.ref))) : Errs h' es gv := by
  refine ⟨rs, e, m.len, fun k r er => ?_⟩
  obtain ⟨c, e1, e2⟩ := m.at_ k r er
  have hk : k < 9 := by
    have := (List.getElem?_eq_some_iff.mp e1).1
    simpa using this
  have q : k = 0 ∨ k = 1 ∨ k = 2 ∨ k = 3 ∨ k = 4 ∨ k = 5 ∨ k = 6 ∨ k = 7 ∨ k = 8 := by omega
  rcases q with rfl | rfl | rfl | rfl | rfl | rfl | rfl | rfl | rfl <;> (cases e1; exact e2)
theorem made_keep {h h' h2 : SH} {cs : List Nat} {gv : SV} {rs : List Nat} (m : Made h h' cs gv rs) (l : Le h' h2) : Made h h2 cs gv rs :=
  ⟨m.le.trans l, m.len, m.new, fun k r e => by obtain ⟨c, e1, e2⟩ := m.at_ k r e; exact ⟨c, e1, l _ _ e2⟩⟩
theorem var0 {ss : SS} {gv : SV} (e : ss[0]? = some (some gv)) : ∀ h : SH, Is (aCons (mVar 0) aNil ss h) fun vs h' => h = h' ∧ errV 1 vs = some [gv] := fun h => Is.acons (Is.var e (Is.anil ⟨rfl, rfl⟩))
theorem bare0 {ss : SS} : ∀ h : SH, Is (aNil ss h) fun vs h' => h = h' ∧ errV 1 vs = some [.non] := fun h => ⟨rfl, rfl⟩
theorem map_len {rs : List Nat} {cs : List Nat} (h : rs.length = cs.length) (k : cs.length ≤ 100) : (rs.map SV.ref).length ≤ 100 := by rw [List.length_map, h]; exact k
theorem placed_is {h : SH} {gv : SV} {P : SV → SH → Prop} (p : ∀ (h' : SH) (es : Nat), Le h h' → h.length ≤ es → Errs h' es gv → P (.ref es) h') : Is (f19 [gv] h) P := by
  refine Is.fn rfl ?_
  unfold m19
  refine Ist.seq (Ist.set (Is.oa ?_))
  refine args_is (ma := aCons (mVar 0) aNil) (var0 rfl) [1, 2, 3, 4, 5] fun ha rs a => ?_
  have la := map_len a.len (by decide)
  refine lst_is (small_big (by omega)) ?_
  have n1 := new_at ha (.lst (rs.map SV.ref))
  refine Ist.ret (Is.o2 (Is.var rfl (Is.oa ?_)))
  refine args_is (ma := aCons (mVar 0) aNil) (var0 rfl) [6, 7, 8, 9] fun hb ts b => ?_
  have lb := map_len b.len (by decide)
  refine lst_is (small_big (by omega)) ?_
  refine add_is (Le.push _ _ _ _ (b.le _ _ n1)) (new_at _ _) (small_big (by omega)) ?_
  have m := made_keep (made_app a (Le.push _ _) b) ((Le.push hb (.lst (ts.map SV.ref))).trans (Le.push _ (.lst (rs.map SV.ref ++ ts.map SV.ref))))
  refine p _ _ m.le ?_ (made_errs m (by rw [new_at, List.map_append]))
  have := ((made_app a (Le.push ha (.lst (rs.map SV.ref))) b).le).len
  simp; omega
theorem named_is {h : SH} {gv : SV} {P : SV → SH → Prop} (p : ∀ (h' : SH) (es : Nat), Le h h' → h.length ≤ es → Errs h' es gv → P (.ref es) h') : Is (f20 [gv] h) P := by
  refine Is.fn rfl ?_
  unfold m20
  refine Ist.seq (Ist.set (Is.oa ?_))
  refine args_is (ma := aCons (mVar 0) aNil) (var0 rfl) [1, 2, 3] fun ha rs a => ?_
  have la := map_len a.len (by decide)
  refine lst_is (small_big (by omega)) ?_
  have n1 := new_at ha (.lst (rs.map SV.ref))
  refine Ist.seq (Ist.set (Is.o2 (Is.var rfl (Is.oa ?_))))
  refine args_is (ma := aCons (mVar 0) aNil) (var0 rfl) [4, 5, 6] fun hb ts b => ?_
  have lb := map_len b.len (by decide)
  refine lst_is (small_big (by omega)) ?_
  refine add_is (Le.push _ _ _ _ (b.le _ _ n1)) (new_at _ _) (small_big (by omega)) ?_
  have m := made_keep (made_app a (Le.push _ _) b) ((Le.push hb (.lst (ts.map SV.ref))).trans (Le.push _ (.lst (rs.map SV.ref ++ ts.map SV.ref))))
  have n2 := new_at (hb ++ [.lst (ts.map SV.ref)]) (.lst (rs.map SV.ref ++ ts.map SV.ref))
  generalize hb ++ [SO.lst (ts.map SV.ref)] ++ [SO.lst (rs.map SV.ref ++ ts.map SV.ref)] = hm at *
  refine Ist.ret (Is.o2 (Is.var rfl (Is.oa ?_)))
  refine args_is (ma := aCons (mVar 0) aNil) (var0 rfl) [7, 8, 9] fun hc us c => ?_
  have lc := map_len c.len (by decide)
  refine lst_is (small_big (by omega)) ?_
  refine add_is (Le.push _ _ _ _ (c.le _ _ n2)) (new_at _ _) (small_big (by rw [List.length_append]; omega)) ?_
  have m2 := made_keep (made_app m (Le.refl _) c) ((Le.push hc (.lst (us.map SV.ref))).trans (Le.push _ (.lst (rs.map SV.ref ++ ts.map SV.ref ++ us.map SV.ref))))
  refine p _ _ m2.le ?_ (made_errs m2 (by rw [new_at, List.map_append, List.map_append]))
  have := (made_app m (Le.refl _) c).le.len
  simp; omega
theorem bare_is {h : SH} {P : SV → SH → Prop} (p : ∀ (h' : SH) (es : Nat), Le h h' → h.length ≤ es → Errs h' es .non → P (.ref es) h') : Is (f21 [] h) P := by
  refine Is.fn rfl ?_
  unfold m21
  refine Ist.seq (Ist.set (Is.oa ?_))
  refine args_is (ma := aNil) (gv := .non) bare0 [1, 2, 3, 4, 5, 6] fun ha rs a => ?_
  have la := map_len a.len (by decide)
  refine lst_is (small_big (by omega)) ?_
  have n1 := new_at ha (.lst (rs.map SV.ref))
  refine Ist.ret (Is.o2 (Is.var rfl (Is.oa ?_)))
  refine args_is (ma := aNil) (gv := .non) bare0 [7, 8, 9] fun hb ts b => ?_
  have lb := map_len b.len (by decide)
  refine lst_is (small_big (by omega)) ?_
  refine add_is (Le.push _ _ _ _ (b.le _ _ n1)) (new_at _ _) (small_big (by omega)) ?_
  have m := made_keep (made_app a (Le.push _ _) b) ((Le.push hb (.lst (ts.map SV.ref))).trans (Le.push _ (.lst (rs.map SV.ref ++ ts.map SV.ref))))
  refine p _ _ m.le ?_ (made_errs m (by rw [new_at, List.map_append]))
  have := ((made_app a (Le.push ha (.lst (rs.map SV.ref))) b).le).len
  simp; omega
end Gn
namespace Gn
open PySem PySem.Spec L2 Fw
theorem tru_is {b : Bool} {h : SH} {P : Bool → SH → Prop} (p : P b h) : Is (opTru (.bl b) h) P := p
def mid1 : SM := mIfS (mB (mO1 (opIsi is_list) (mVar 3))) (mDrop (mBm opAppend (mVar 3) (aCons (mC (.str "more")) aNil))) mNil
def mid2 : SM := mIfS (mB (mO1 (opIsi is_dict) (mVar 3))) (mSt (mOA opLst (aCons (mC (.int 1)) aNil)) (mVar 3) (mC (.str "more"))) mNil
def askM : SM := mIfS (bOr (bNot (mTru (mCall f18 (aCons (mVar 4) (aCons (mVar 3) aNil))))) (bNot (mTru (mCall f18 (aCons (mVar 5) (aCons (mVar 3) aNil)))))) (mRet (mC (.bl false))) mNil
def turnM : SM := mSeq (mPar 4 5 (aCons (mCall f19 (aCons (mVar 3) aNil)) (aCons (mCall f20 (aCons (mVar 3) aNil)) aNil))) (mSeq askM (mSeq mid1 (mSeq mid2 askM)))
section
variable {N B C : SS → SH → Prop} {R : SV → SH → Prop}
theorem Ist.par {i j : Nat} {m : AM} {ss : SS} {h : SH} (x : Is (m ss h) fun vs h1 => ∃ v w, vs = [v, w] ∧ N ((ss.set i (some v)).set j (some w)) h1) : Ist (mPar i j m ss h) N R B C := Ist.then (x.mono fun vs h1 y => by
  obtain ⟨v, w, rfl, n⟩ := y; exact n)
theorem ask_is {ss : SS} {h : SH} {gv : SV} {d : PyData} {e1 e2 : Nat} (s3 : ss[3]? = some (some gv)) (s4 : ss[4]? = some (some (.ref e1))) (s5 : ss[5]? = some (some (.ref e2))) (E1 : Errs h e1 gv) (E2 : Errs h e2 gv) (hd : dataOf 63 h gv = some d) (hs : Showy d) (n : ∀ h2, Le h h2 → N ss h2) : Ist (askM ss h) N R B C := by
  unfold askM
  refine Ist.ite (Is.bor (Is.bnot (Is.tru (Is.call (Is.acons (Is.var s4 (Is.acons (Is.var s3 (Is.anil ?_)))))))))
  refine right_is E1 hd hs fun ha la => ?_
  show Is (bNot _ ss ha) _
  obtain ⟨rs, q1, q2, q3⟩ := E2.ex
  refine Is.bnot (Is.tru (Is.call (Is.acons (Is.var s5 (Is.acons (Is.var s3 (Is.anil ?_)))))))
  refine right_is ⟨rs, la _ _ q1, q2, fun k r e => la _ _ (q3 k r e)⟩ (dataOf_le la 63 _ _ hd) hs fun hb lb => ?_
  refine tru_is ?_
  rw [if_neg (by simp)]
  refine Ist.nil ?_
  exact n hb (la.trans lb)
theorem Errs.le {h h2 : SH} {es : Nat} {gv : SV} (E : Errs h es gv) (l : Le h h2) : Errs h2 es gv := by
  obtain ⟨rs, q1, q2, q3⟩ := E.ex
  exact ⟨rs, l _ _ q1, q2, fun k r e => l _ _ (q3 k r e)⟩
theorem Errs.keep {h h2 : SH} {es : Nat} {gv : SV} {K : Nat → Prop} (E : Errs h es gv) (k : ∀ (j : Nat) (o : SO), K j → h[j]? = some o → h2[j]? = some o) (hg : ∀ j c xs, h[j]? = some (.exo c xs) → K j) (he : K es) : Errs h2 es gv := by
  obtain ⟨rs, q1, q2, q3⟩ := E.ex
  exact ⟨rs, k _ _ he q1, q2, fun i r e => k _ _ (hg _ _ _ (q3 i r e)) (q3 i r e)⟩
/-- one value of the thirteen; K tells what stays -/
theorem turn_is {ss : SS} {h : SH} {gv : SV} {d d2 : PyData} {K : Nat → Prop} (hss : ss.length = 6) (s3 : ss[3]? = some (some gv)) (hd : dataOf 63 h gv = some d) (hs : Showy d) (hs2 : Showy d2) (hK1 : ∀ j, h.length ≤ j → K j) (hK2 : ∀ hc, Le h hc → ∀ j c xs, hc[j]? = some (.exo c xs) → K j)
    (chg : ∀ (s1 : SS) (h1 : SH) (rest : SM) (N B C : SS → SH → Prop) (R : SV → SH → Prop), Le h h1 → s1[3]? = some (some gv) → (∀ h2, (∀ (j : Nat) (o : SO), K j → h1[j]? = some o → h2[j]? = some o) → dataOf 63 h2 gv = some d2 → Ist (rest s1 h2) N R B C) → Ist (mSeq mid1 (mSeq mid2 rest) s1 h1) N R B C)
    (n : ∀ s2 h2, (∀ (j : Nat) (o : SO), K j → h[j]? = some o → h2[j]? = some o) → s2.length = 6 → (∀ i, i < 4 → s2[i]? = ss[i]?) → N s2 h2) : Ist (turnM ss h) N R B C := by
  unfold turnM
  refine Ist.seq (Ist.par (Is.acons (Is.call (Is.acons (Is.var s3 (Is.anil ?_))))))
  refine placed_is fun ha e1 la n1 E1 => ?_
  refine Is.acons (Is.call (Is.acons (Is.var s3 (Is.anil ?_))))
  refine named_is fun hb e2 lb n2 E2 => ?_
  refine Is.anil ⟨_, _, rfl, ?_⟩
  have lab := la.trans lb
  have E1b : Errs hb e1 gv := E1.le lb
  have t3 : ((ss.set 4 (some (.ref e1))).set 5 (some (.ref e2)))[3]? = some (some gv) := by rw [List.getElem?_set_ne (by decide), List.getElem?_set_ne (by decide)]; exact s3
  have t4 : ((ss.set 4 (some (.ref e1))).set 5 (some (.ref e2)))[4]? = some (some (.ref e1)) := by rw [List.getElem?_set_ne (by decide), List.getElem?_set_self (by omega)]
  have t5 : ((ss.set 4 (some (.ref e1))).set 5 (some (.ref e2)))[5]? = some (some (.ref e2)) := List.getElem?_set_self (by simp; omega)
  refine Ist.seq (ask_is t3 t4 t5 E1b E2 (dataOf_le lab 63 _ _ hd) hs fun hc lc => ?_)
  have lac := lab.trans lc
  refine chg _ hc _ _ _ _ _ lac t3 fun h2 k d2e => ?_
  have F1 : Errs h2 e1 gv := (E1b.le lc).keep k (hK2 hc lac) (hK1 _ n1)
  have F2 : Errs h2 e2 gv := (E2.le lc).keep k (hK2 hc lac) (hK1 _ (Nat.le_trans la.len n2))
  refine ask_is t3 t4 t5 F1 F2 d2e hs2 fun h3 l3 => n _ h3 (fun j o nj e => l3 _ _ (k j o nj (lac _ _ e))) (by simp [hss]) fun i hi => ?_
  rw [List.getElem?_set_ne (by omega), List.getElem?_set_ne (by omega)]
end
/-- the value stays as it is -/
theorem mut_none {h : SH} {gv : SV} {d : PyData} (hd : dataOf 63 h gv = some d) {t : Tag} (ht : ∀ h1, Le h h1 → tagOf h1 gv = some t) (hl : is_list t = some false) (hdi : is_dict t = some false) (s1 : SS) (h1 : SH) (rest : SM) (N B C : SS → SH → Prop) (R : SV → SH → Prop) (l : Le h h1) (s3 : s1[3]? = some (some gv))
    (k : ∀ h2, (∀ (j : Nat) (o : SO), True → h1[j]? = some o → h2[j]? = some o) → dataOf 63 h2 gv = some d → Ist (rest s1 h2) N R B C) : Ist (mSeq mid1 (mSeq mid2 rest) s1 h1) N R B C := by
  have is_ : ∀ {f : Tag → Option Bool} {P : SV → SH → Prop}, f t = some false → P (.bl false) h1 → ∃ v h', opIsi f gv h1 = some (v, h') ∧ P v h' := fun {f P} e p => ⟨_, _, by unfold opIsi; rw [ht h1 l]; simp only [e], p⟩
  refine Ist.seq (Ist.ite (Is.bm (Is.o1 (Is.var s3 (is_ hl ⟨false, rfl, ?_⟩)))))
  rw [if_neg Bool.false_ne_true]
  refine Ist.nil (Ist.seq (Ist.ite (Is.bm (Is.o1 (Is.var s3 (is_ hdi ⟨false, rfl, ?_⟩))))))
  rw [if_neg Bool.false_ne_true]
  exact Ist.nil (k h1 (fun j o _ e => e) (dataOf_le l 63 _ _ hd))
end Gn
namespace Gn
open PySem PySem.Spec L2 Fw
/-- a list is lengthened -/
theorem chg_lst {h : SH} {g : Nat} {xs : List SV} {d2 : PyData} (hg : h[g]? = some (.lst xs)) (hl : xs.length ≤ 900) (hd2 : ∀ hh : SH, hh[g]? = some (.lst (xs ++ [.str "more"])) → dataOf 63 hh (.ref g) = some d2) (s1 : SS) (h1 : SH) (rest : SM) (N B C : SS → SH → Prop) (R : SV → SH → Prop) (l : Le h h1) (s3 : s1[3]? = some (some (.ref g)))
    (k : ∀ h2, (∀ (j : Nat) (o : SO), j ≠ g → h1[j]? = some o → h2[j]? = some o) → dataOf 63 h2 (.ref g) = some d2 → Ist (rest s1 h2) N R B C) : Ist (mSeq mid1 (mSeq mid2 rest) s1 h1) N R B C := by
  have e := l _ _ hg
  have e2 : (h1.set g (.lst (xs ++ [.str "more"])))[g]? = some (.lst (xs ++ [.str "more"])) := set_at e
  refine Ist.seq (Ist.ite (Is.bm (Is.o1 (Is.var s3 ⟨.bl true, h1, ?_, true, rfl, ?_⟩))))
  · unfold opIsi tagOf
    simp only [e]
    rfl
  rw [if_pos rfl]
  refine Ist.drop (Is.bind (Is.var s3 ?_))
  have il : isLst h1 (.ref g) = true := by unfold isLst; simp only [e]
  rw [if_pos il]
  refine Is.bind (Is.acons (Is.c (Is.anil (Is.lift ⟨.non, h1.set g (.lst (xs ++ [.str "more"])), ?_, ?_⟩))))
  · unfold opAppend
    simp only [e]
    exact if_pos (small_lt (by omega))
  refine Ist.seq (Ist.ite (Is.bm (Is.o1 (Is.var s3 ⟨.bl false, h1.set g (.lst (xs ++ [.str "more"])), ?_, false, rfl, ?_⟩))))
  · unfold opIsi tagOf
    simp only [e2]
    rfl
  rw [if_neg Bool.false_ne_true]
  exact Ist.nil (k _ (fun j o n q => by rw [set_ne (Ne.symm n)]; exact q) (hd2 _ e2))
/-- a dict gets a new entry, a new list [1] -/
theorem chg_dct {h : SH} {g : Nat} {kvs : List (Key × SV)} {d2 : PyData} (hg : h[g]? = some (.dK kvs)) (hl : kvs.length ≤ 900) (hd2 : ∀ (hh : SH) (x : Nat), x ≠ g → hh[g]? = some (.dK (putS kvs (.inr "more") (.ref x))) → hh[x]? = some (.lst [.int 1]) → (∀ (j : Nat) (o : SO), j ≠ g → h[j]? = some o → hh[j]? = some o) → dataOf 63 hh (.ref g) = some d2)
    (s1 : SS) (h1 : SH) (rest : SM) (N B C : SS → SH → Prop) (R : SV → SH → Prop) (l : Le h h1) (s3 : s1[3]? = some (some (.ref g)))
    (k : ∀ h2, (∀ (j : Nat) (o : SO), j ≠ g → h1[j]? = some o → h2[j]? = some o) → dataOf 63 h2 (.ref g) = some d2 → Ist (rest s1 h2) N R B C) : Ist (mSeq mid1 (mSeq mid2 rest) s1 h1) N R B C := by
  have e := l _ _ hg
  have hlt := (List.getElem?_eq_some_iff.mp e).1
  refine Ist.seq (Ist.ite (Is.bm (Is.o1 (Is.var s3 ⟨.bl false, h1, ?_, false, rfl, ?_⟩))))
  · unfold opIsi tagOf
    simp only [e]
    rfl
  rw [if_neg Bool.false_ne_true]
  refine Ist.nil (Ist.seq (Ist.ite (Is.bm (Is.o1 (Is.var s3 ⟨.bl true, h1, ?_, true, rfl, ?_⟩)))))
  · unfold opIsi tagOf
    simp only [e]
    rfl
  rw [if_pos rfl]
  refine Ist.st (Is.oa (Is.acons (Is.c (Is.anil (lst_is (small_big (by simp)) (Is.var s3 (Is.c ⟨(h1 ++ [SO.lst [.int 1]]).set g (.dK (putS kvs (.inr "more") (.ref h1.length))), ?_, ?_⟩)))))))
  · have e3 : (h1 ++ [SO.lst [.int 1]])[g]? = some (.dK kvs) := Le.push _ _ _ _ e
    unfold opSt
    simp only [e3]
    exact if_pos (small_lt (by omega))
  have e3 : (h1 ++ [SO.lst [.int 1]])[g]? = some (.dK kvs) := Le.push _ _ _ _ e
  have e4 : ((h1 ++ [SO.lst [.int 1]]).set g (.dK (putS kvs (.inr "more") (.ref h1.length))))[g]? = some (.dK (putS kvs (.inr "more") (.ref h1.length))) := set_at e3
  have kp : ∀ (j : Nat) (o : SO), j ≠ g → h1[j]? = some o → ((h1 ++ [SO.lst [.int 1]]).set g (.dK (putS kvs (.inr "more") (.ref h1.length))))[j]? = some o := fun j o n q => by rw [set_ne (Ne.symm n)]; exact Le.push _ _ _ _ q
  exact k _ kp (hd2 _ h1.length (by omega) e4 (by rw [set_ne (by omega)]; exact new_at _ _) fun j o n q => kp j o n (l _ _ q))
end Gn
namespace Gn
open PySem PySem.Spec L2 Fw
/-- a text of at most n signs, each of which is one -/
def Sg (n : Nat) (x : Str) : Prop := x.cps.size ≤ n ∧ ∀ c ∈ x.cps, c < 0x110000
theorem Sg.app {a b : Nat} {x y : Str} (p : Sg a x) (q : Sg b y) : Sg (a + b) (x ++ y) := by
  refine ⟨?_, fun c hc => ?_⟩
  · show (x.cps ++ y.cps).size ≤ a + b
    rw [Array.size_append]
    have := p.1
    have := q.1
    omega
  · have hc' : c ∈ x.cps ++ y.cps := hc
    rcases Array.mem_append.mp hc' with h | h
    · exact p.2 c h
    · exact q.2 c h
theorem Sg.up {a b : Nat} {x : Str} (p : Sg a x) (h : a ≤ b) : Sg b x := ⟨Nat.le_trans p.1 h, p.2⟩
theorem Sg.lit {s : String} {n : Nat} (h : s.toList.length ≤ n) : Sg n (Str.ofString s) := by
  rw [Str.ofString_eq_toList]
  refine ⟨by simpa using h, fun c hc => ?_⟩
  obtain ⟨d, _, rfl⟩ : ∃ d, d ∈ s.toList ∧ Char.toNat d = c := by simpa using hc
  have := d.valid
  have h2 : d.toNat.isValidChar := this
  unfold Nat.isValidChar at h2
  omega
theorem Sg.num {i : Int} (h : i.natAbs < 10 ^ 13) : Sg 20 (Str.ofString (toString i)) := by
  refine Sg.lit ?_
  have k := PyProof.Rows.digits10_le (k := 13) (n := i.natAbs) (by omega) h
  cases i with
  | ofNat m =>
    show (Nat.repr m).toList.length ≤ 20
    have e : (Nat.repr m).toList = Nat.toDigits 10 m := by simp [Nat.repr]
    rw [e]
    have : (Nat.toDigits 10 m).length ≤ 13 := k
    omega
  | negSucc m =>
    show (("-" : String) ++ Nat.repr (m + 1)).toList.length ≤ 20
    have e : (("-" : String) ++ Nat.repr (m + 1)).toList = '-' :: Nat.toDigits 10 (m + 1) := by simp [Nat.repr]
    rw [e]
    have : (Nat.toDigits 10 (m + 1)).length ≤ 13 := k
    simp; omega
theorem Sg.from {b : Nat} : ∀ (ts : List Str) (k a : Nat) (acc : Str), Sg a acc → (∀ t ∈ ts, Sg b t) → Sg (a + ts.length * (b + 2)) (textFrom k acc ts)
  | [], k, a, acc, p, _ => by unfold textFrom; exact p.up (by omega)
  | t :: ts, k, a, acc, p, q => by
    unfold textFrom
    have s2 : Sg 2 (if k > 0 then ", " else "" : String) := by
      by_cases hk : k > 0
      · rw [if_pos hk]; exact Sg.lit (by decide)
      · rw [if_neg hk]; exact Sg.lit (by decide)
    refine (Sg.from ts (k + 1) _ _ ((p.app s2).app (q t List.mem_cons_self)) fun u hu => q u (List.mem_cons_of_mem _ hu)).up ?_
    simp only [List.length_cons, Nat.add_mul]
    omega
theorem Sg.list {b : Nat} {ts : List Str} (q : ∀ t ∈ ts, Sg b t) : Sg (2 + ts.length * (b + 2)) (listText ts) := by
  unfold listText
  exact ((Sg.from ts 0 1 _ (Sg.lit (by decide)) q).app (Sg.lit (n := 1) (by decide))).up (by omega)
theorem shownAll_rep (d : PyData) : ∀ n, PyData.shownAll (List.replicate n d) = List.replicate n d.shown
  | 0 => by simp [PyData.shownAll]
  | n + 1 => by rw [List.replicate_succ, List.replicate_succ, PyData.shownAll, shownAll_rep d n]
theorem showableAll_rep {d : PyData} (h : d.showable = true) : ∀ n, PyData.showableAll (List.replicate n d) = true
  | 0 => by simp [PyData.showableAll]
  | n + 1 => by rw [List.replicate_succ, PyData.showableAll, showableAll_rep h n, h]; rfl
theorem depthAll_rep {d : PyData} {m : Nat} (h : d.depth ≤ m) : ∀ n, PyData.depthAll (List.replicate n d) ≤ m
  | 0 => by simp [PyData.depthAll]
  | n + 1 => by
    have := depthAll_rep h n
    rw [List.replicate_succ, PyData.depthAll]
    omega
theorem showy_of {d : PyData} (h1 : d.showable = true) (h2 : d.depth ≤ 60) (h3 : Sg 1000 d.shown) : Showy d := by
  have sg : Sg (2 + 9 * 1002) (D9 d).shown := by
    show Sg _ (PyData.shown (.list (List.replicate 9 d)))
    rw [PyData.shown, shownAll_rep]
    refine (Sg.list (b := 1000) fun t ht => ?_).up (by simp)
    rw [(List.mem_replicate.mp ht).2]; exact h3
  refine ⟨?_, ?_, ?_, ?_⟩
  · show PyData.showable (.list (List.replicate 9 d)) = true
    rw [PyData.showable]; exact showableAll_rep h1 9
  · show PyData.depth (.list (List.replicate 9 d)) ≤ 64
    have := depthAll_rep h2 9
    rw [PyData.depth]
    omega
  · exact Nat.le_trans sg.1 (by unfold big; omega)
  · generalize (D9 d).shown = x at sg
    unfold SeqAt.shaped
    rw [Bool.and_eq_true]
    refine ⟨?_, ?_⟩
    · rw [PyData.canLay0]
      unfold PyData.strOk
      rw [Array.all_eq_true_iff_forall_mem]
      exact fun c hc => decide_eq_true (sg.2 c hc)
    · rw [PyData.depth]; decide
theorem showy_int {i : Int} (h : i.natAbs < 10 ^ 13) : Showy (.int i) := by
  refine showy_of ?_ ?_ ?_
  · rw [PyData.showable]
    refine decide_eq_true ?_
    have : i.natAbs.log2 < 64 := by
      by_cases z : i.natAbs = 0
      · rw [z]; decide
      · exact (Nat.log2_lt z).mpr (Nat.lt_trans h (by decide))
    omega
  · rw [PyData.depth]; omega
  · rw [PyData.shown]; exact (Sg.num h).up (by omega)
theorem log_small {i : Int} (h : i.natAbs < 10 ^ 13) : i.natAbs.log2 < 1920 := by
  by_cases z : i.natAbs = 0
  · rw [z]; decide
  · exact Nat.lt_trans ((Nat.log2_lt (k := 64) z).mpr (Nat.lt_trans h (by decide))) (by decide)
theorem showy_dct1 {i : Int} (h : i.natAbs < 10 ^ 13) : Showy (.dict [(.str "a", .list [.int i])]) := by
  refine showy_of ?_ ?_ ?_
  · simp only [PyData.showable, PyData.showableKv, PyData.showableAll, decide_eq_true (log_small h), Bool.and_self]
  · simp only [PyData.depth, PyData.depthKv, PyData.depthAll]; omega
  · simp only [PyData.shown, PyData.shownKv, PyData.shownAll]
    unfold dictText
    have s1 : Sg 100 (listText [Str.ofString (toString i)]) := (Sg.list (b := 20) fun t ht => by rw [List.mem_singleton.mp ht]; exact Sg.num h).up (by simp)
    have s0 : Sg 50 (reprText "a") := by
      have e : reprText "a" = Str.ofString "'a'" := by decide +kernel
      rw [e]; exact Sg.lit (by decide)
    exact (((Sg.lit (n := 1) (by decide)).app ((s0.app (Sg.lit (n := 2) (by decide))).app s1)).app (Sg.lit (n := 1) (by decide))).up (by omega)
theorem showy_dct2 {i : Int} (h : i.natAbs < 10 ^ 13) : Showy (.dict [(.str "a", .list [.int i]), (.str "more", .list [.int 1])]) := by
  refine showy_of ?_ ?_ ?_
  · simp only [PyData.showable, PyData.showableKv, PyData.showableAll, decide_eq_true (log_small h), decide_eq_true (log_small (i := 1) (by decide)), Bool.and_self]
  · simp only [PyData.depth, PyData.depthKv, PyData.depthAll]; omega
  · simp only [PyData.shown, PyData.shownKv, PyData.shownAll]
    unfold dictText
    have s1 : Sg 100 (listText [Str.ofString (toString i)]) := (Sg.list (b := 20) fun t ht => by rw [List.mem_singleton.mp ht]; exact Sg.num h).up (by simp)
    have s2 : Sg 100 (listText [Str.ofString (toString (1 : Int))]) := (Sg.list (b := 20) fun t ht => by rw [List.mem_singleton.mp ht]; exact Sg.num (by decide)).up (by simp)
    have s0 : Sg 50 (reprText "a") := by
      have e : reprText "a" = Str.ofString "'a'" := by decide +kernel
      rw [e]; exact Sg.lit (by decide)
    have s9 : Sg 50 (reprText "more") := by
      have e : reprText "more" = Str.ofString "'more'" := by decide +kernel
      rw [e]; exact Sg.lit (by decide)
    exact (((Sg.lit (n := 1) (by decide)).app ((((s0.app (Sg.lit (n := 2) (by decide))).app s1).app (Sg.lit (n := 2) (by decide))).app ((s9.app (Sg.lit (n := 2) (by decide))).app s2))).app (Sg.lit (n := 1) (by decide))).up (by omega)
end Gn
namespace Gn
open PySem PySem.Spec L2 Fw
def Fr (n k j : Nat) : Prop := (4 < k → j ≠ n + 2) ∧ (5 < k → j ≠ n + 3) ∧ (6 < k → j ≠ n + 4) ∧ (7 < k → j ≠ n + 5)
structure Inv (hB : SH) (n : Nat) (a b c : Option SV) (k : Nat) (s : SS) (h : SH) : Prop where
  len : s.length = 6
  s0 : s[0]? = some a
  s1 : s[1]? = some b
  s2 : s[2]? = some c
  kp : ∀ (j : Nat) (o : SO), hB[j]? = some o → Fr n k j → h[j]? = some o
section
variable {hB : SH} {n : Nat} {a b c : Option SV} {k : Nat} {s : SS} {h : SH} {gv : SV} {d d2 : PyData}
theorem Inv.next (i : Inv hB n a b c k s h) {K : Nat → Prop} (hK : ∀ j, Fr n (k + 1) j → Fr n k j ∧ K j) {s2 : SS} {h2 : SH} (q : ∀ (j : Nat) (o : SO), K j → h[j]? = some o → h2[j]? = some o) (l : s2.length = 6) (e : ∀ i, i < 4 → s2[i]? = (s.set 3 (some gv))[i]?) : Inv hB n a b c (k + 1) s2 h2 where
  len := l
  s0 := by rw [e 0 (by omega), List.getElem?_set_ne (by decide)]; exact i.s0
  s1 := by rw [e 1 (by omega), List.getElem?_set_ne (by decide)]; exact i.s1
  s2 := by rw [e 2 (by omega), List.getElem?_set_ne (by decide)]; exact i.s2
  kp := fun j o ej f => q j o (hK j f).2 (i.kp j o ej (hK j f).1)
theorem im_turn {R : SV → SH → Prop} {N' C' : SS → SH → Prop} (i : Inv hB n a b c k s h) (hd : dataOf 63 h gv = some d) (hs : Showy d) {t : Tag} (ht : ∀ h1, Le h h1 → tagOf h1 gv = some t) (hl : is_list t = some false) (hdi : is_dict t = some false) (hf : ∀ j, Fr n (k + 1) j → Fr n k j) : Ist (turnM (s.set 3 (some gv)) h) (Inv hB n a b c (k + 1)) R N' C' :=
  turn_is (K := fun _ => True) (by simp [i.len]) (List.getElem?_set_self (by rw [i.len]; decide)) hd hs hs (fun _ _ => trivial) (fun _ _ _ _ _ _ => trivial) (mut_none hd ht hl hdi)
    fun s2 h2 q l e => i.next (K := fun _ => True) (fun j f => ⟨hf j f, trivial⟩) q l e
theorem ls_turn {R : SV → SH → Prop} {N' C' : SS → SH → Prop} {g : Nat} {xs : List SV} (i : Inv hB n a b c k s h) (hg : h[g]? = some (.lst xs)) (hlen : xs.length ≤ 900) (hd : dataOf 63 h (.ref g) = some d) (hd2 : ∀ hh : SH, hh[g]? = some (.lst (xs ++ [.str "more"])) → dataOf 63 hh (.ref g) = some d2) (hs : Showy d) (hs2 : Showy d2) (hf : ∀ j, Fr n (k + 1) j → Fr n k j ∧ j ≠ g) : Ist (turnM (s.set 3 (some (.ref g))) h) (Inv hB n a b c (k + 1)) R N' C' :=
  turn_is (K := fun j => j ≠ g) (by simp [i.len]) (List.getElem?_set_self (by rw [i.len]; decide)) hd hs hs2 (fun j hj => by have := (List.getElem?_eq_some_iff.mp hg).1; omega) (fun hc l j c xs e z => by subst z; rw [l _ _ hg] at e; cases e) (chg_lst hg hlen hd2)
    fun s2 h2 q l e => i.next hf q l e
theorem dc_turn {R : SV → SH → Prop} {N' C' : SS → SH → Prop} {g : Nat} {kvs : List (Key × SV)} (i : Inv hB n a b c k s h) (hg : h[g]? = some (.dK kvs)) (hlen : kvs.length ≤ 900) (hd : dataOf 63 h (.ref g) = some d) (hd2 : ∀ (hh : SH) (x : Nat), x ≠ g → hh[g]? = some (.dK (putS kvs (.inr "more") (.ref x))) → hh[x]? = some (.lst [.int 1]) → (∀ (j : Nat) (o : SO), j ≠ g → h[j]? = some o → hh[j]? = some o) → dataOf 63 hh (.ref g) = some d2) (hs : Showy d) (hs2 : Showy d2) (hf : ∀ j, Fr n (k + 1) j → Fr n k j ∧ j ≠ g) : Ist (turnM (s.set 3 (some (.ref g))) h) (Inv hB n a b c (k + 1)) R N' C' :=
  turn_is (K := fun j => j ≠ g) (by simp [i.len]) (List.getElem?_set_self (by rw [i.len]; decide)) hd hs hs2 (fun j hj => by have := (List.getElem?_eq_some_iff.mp hg).1; omega) (fun hc l j c xs e z => by subst z; rw [l _ _ hg] at e; cases e) (chg_dct hg hlen hd2)
    fun s2 h2 q l e => i.next hf q l e
end
theorem data_tup {h : SH} {n i : Nat} {xs : List SV} {ds : List PyData} (e : h[i]? = some (.tup xs)) (a : dataAll (dataOf n h) xs = some ds) : dataOf (n + 1) h (.ref i) = some (.tuple ds) := by
  unfold dataOf; simp only [e, a, Option.map_some]
theorem data_dct {h : SH} {n i : Nat} {kvs : List (Key × SV)} {ds : List PyData} (e : h[i]? = some (.dK kvs)) (a : dataAll (dataOf n h) (kvs.map (·.2)) = some ds) : dataOf (n + 1) h (.ref i) = some (.dict ((kvs.map fun p => keyD p.1).zip ds)) := by
  unfold dataOf; simp only [e, a, Option.map_some]
theorem data_two {h : SH} {n : Nat} {x y : SV} {dx dy : PyData} (ex : dataOf n h x = some dx) (ey : dataOf n h y = some dy) : dataAll (dataOf n h) [x, y] = some [dx, dy] := by
  simp only [dataAll, ex, ey]
theorem data_one {h : SH} {n : Nat} {x : SV} {dx : PyData} (ex : dataOf n h x = some dx) : dataAll (dataOf n h) [x] = some [dx] := by
  simp only [dataAll, ex]
def items (r : Int) (n : Nat) : List SV := [.int r, .int (0 - r), .ref n, .ref (n + 1), .ref (n + 2), .ref (n + 3), .ref (n + 4), .ref (n + 5), .str "a b", .str "", .bl true, .non, .ref (n + 7)]
def objs (r : Int) (n : Nat) : List SO := [.tup [.int 1, .int 2], .tup [], .lst [.int 1], .lst [], .dK [], .dK [(.inr "a", .ref (n + 6))], .lst [.int r], .tup [.str "a", .int 0, .int 1, .str "b"], .lst (items r n)]
def showM : AM := aCons (mVar 1) (aCons (mO2 opSub (mC (.int 0)) (mVar 1)) (aCons (mOA opTup (aCons (mC (.int 1)) (aCons (mC (.int 2)) aNil))) (aCons (mOA opTup aNil) (aCons (mOA opLst (aCons (mC (.int 1)) aNil)) (aCons (mOA opLst aNil) (aCons mDict0 (aCons (mDict (dCons (mC (.str "a")) (mOA opLst (aCons (mVar 1) aNil)) dNil)) (aCons (mC (.str "a b")) (aCons (mC (.str "")) (aCons (mC (.bl true)) (aCons (mC .non) (aCons (mOA opTup (aCons (mC (.str "a")) (aCons (mC (.int 0)) (aCons (mC (.int 1)) (aCons (mC (.str "b")) aNil))))) aNil))))))))))))
theorem set_mid (H : SH) (x y z : SO) : List.set (H ++ [x] ++ [y]) H.length z = H ++ [z] ++ [y] := by
  rw [List.append_assoc, List.set_append_right _ _ (Nat.le_refl _)]
  simp
theorem show_eq {ss : SS} {h : SH} {r : Int} (e : ss[1]? = some (some (.int r))) : mOA opLst showM ss h = .ok (.ref (h.length + 8)) (h ++ objs r h.length) := by
  have v1 : ∀ h : SH, mVar 1 ss h = .ok (.int r) h := fun h => by unfold mVar; rw [e]
  have b2 : ∀ k, k ≤ 1000 → k ≤ big := fun k hk => small_big hk
  have t : ∀ (xs : List SV) (h : SH), xs.length ≤ 1000 → opTup xs h = some (.ref h.length, h ++ [.tup xs]) := fun xs h hx => by unfold opTup; rw [if_pos (b2 _ hx)]; rfl
  have l : ∀ (xs : List SV) (h : SH), xs.length ≤ 1000 → opLst xs h = some (.ref h.length, h ++ [.lst xs]) := fun xs h hx => by unfold opLst; rw [if_pos (b2 _ hx)]; rfl
  unfold showM
  simp only [mOA, aCons, aNil, mO2, mC, v1, Res.bind, opSub, lift]
  rw [t [.int 1, .int 2] h (by simp)]
  simp only [Res.bind]
  rw [t [] _ (by simp)]
  simp only [Res.bind]
  rw [l [.int 1] _ (by simp)]
  simp only [Res.bind]
  rw [l [] _ (by simp)]
  simp only [Res.bind, mDict0, mDict, dCons, dNil, mC, mOA, aCons, aNil, v1]
  generalize eH : (h ++ [SO.tup [.int 1, .int 2]] ++ [SO.tup []] ++ [SO.lst [.int 1]] ++ [SO.lst []] ++ [SO.dK []]) = H5
  rw [l [.int r] _ (by simp)]
  have e1 : (H5 ++ [SO.dK []] ++ [SO.lst [.int r]])[H5.length]? = some (.dK []) := Le.push _ _ _ _ (new_at _ _)
  have e2 : keysP [(SV.str (Str.ofString "a"), SV.ref (H5 ++ [SO.dK []]).length)] = some [(.inr "a", .ref (H5 ++ [SO.dK []]).length)] := rfl
  simp only [lift, e2]
  rw [if_pos ⟨(by simp : (1 : Nat) ≤ 15), e1⟩, set_mid]
  simp only []
  rw [t [.str "a", .int 0, .int 1, .str "b"] _ (by simp)]
  simp only []
  rw [l _ _ (by simp)]
  simp only []
  subst eH
  simp [items, objs, mergeS, putS, List.append_assoc]
end Gn
namespace Gn
open PySem PySem.Spec L2 Fw
theorem at_off {h : SH} {os : List SO} (i : Nat) : (h ++ os)[h.length + i]? = os[i]? := by
  rw [List.getElem?_append_right (by omega)]
  congr 1
  omega
theorem Inv.at_ {hB : SH} {n : Nat} {a b c : Option SV} {k : Nat} {s : SS} {h : SH} (i : Inv hB n a b c k s h) {j : Nat} {o : SO} (e : hB[j]? = some o) (f : Fr n k j) : h[j]? = some o := i.kp j o e f
theorem tag_tup {h : SH} {j : Nat} {xs : List SV} (e : h[j]? = some (.tup xs)) : ∀ h1, Le h h1 → tagOf h1 (.ref j) = some .tup := fun h1 l => by
  unfold tagOf
  simp only [l _ _ e]
theorem turns {hc : SH} {r : Int} {a b c : Option SV} (hr : r.natAbs < 10 ^ 13) {R : SV → SH → Prop} {N' C' : SS → SH → Prop} {k : Nat} (hk : k < 13) {s : SS} {h : SH} (i : Inv (hc ++ objs r hc.length) hc.length a b c k s h) :
    ∃ x, (items r hc.length)[k]? = some x ∧ Ist (turnM (s.set 3 (some x)) h) (Inv (hc ++ objs r hc.length) hc.length a b c (k + 1)) R N' C' := by
  have at0 : ∀ j, (hc ++ objs r hc.length)[hc.length + j]? = (objs r hc.length)[j]? := fun j => at_off j
  have q : k = 0 ∨ k = 1 ∨ k = 2 ∨ k = 3 ∨ k = 4 ∨ k = 5 ∨ k = 6 ∨ k = 7 ∨ k = 8 ∨ k = 9 ∨ k = 10 ∨ k = 11 ∨ k = 12 := by omega
  rcases q with rfl | rfl | rfl | rfl | rfl | rfl | rfl | rfl | rfl | rfl | rfl | rfl | rfl
  · exact ⟨_, rfl, im_turn i (d := .int r) rfl (showy_int hr) (t := .int) (fun _ _ => rfl) rfl rfl (fun j f => by unfold Fr at *; omega)⟩
  · exact ⟨_, rfl, im_turn i (d := .int (0 - r)) rfl (showy_int (by omega)) (t := .int) (fun _ _ => rfl) rfl rfl (fun j f => by unfold Fr at *; omega)⟩
  · have e := i.at_ (at0 0) (by unfold Fr; omega)
    exact ⟨_, rfl, im_turn i (d := .tuple [.int 1, .int 2]) (data_tup e rfl) (by unfold Showy; decide +kernel) (tag_tup e) rfl rfl (fun j f => by unfold Fr at *; omega)⟩
  · have e := i.at_ (at0 1) (by unfold Fr; omega)
    exact ⟨_, rfl, im_turn i (d := .tuple []) (data_tup e rfl) (by unfold Showy; decide +kernel) (tag_tup e) rfl rfl (fun j f => by unfold Fr at *; omega)⟩
  · have e := i.at_ (at0 2) (by unfold Fr; omega)
    exact ⟨_, rfl, ls_turn i e (by simp) (d := .list [.int 1]) (d2 := .list [.int 1, .str "more"]) (dataOf_lst e rfl) (fun hh eh => dataOf_lst eh rfl) (by unfold Showy; decide +kernel) (by unfold Showy; decide +kernel) (fun j f => by unfold Fr at *; omega)⟩
  · have e := i.at_ (at0 3) (by unfold Fr; omega)
    exact ⟨_, rfl, ls_turn i e (by simp) (d := .list []) (d2 := .list [.str "more"]) (dataOf_lst e rfl) (fun hh eh => dataOf_lst eh rfl) (by unfold Showy; decide +kernel) (by unfold Showy; decide +kernel) (fun j f => by unfold Fr at *; omega)⟩
  · have e := i.at_ (at0 4) (by unfold Fr; omega)
    exact ⟨_, rfl, dc_turn i e (by simp) (d := .dict []) (d2 := .dict [(.str "more", .list [.int 1])]) (data_dct e rfl) (fun hh x hx eh ex _ => data_dct eh (data_one (dataOf_lst ex rfl))) (by unfold Showy; decide +kernel) (by unfold Showy; decide +kernel) (fun j f => by unfold Fr at *; omega)⟩
  · have e := i.at_ (at0 5) (by unfold Fr; omega)
    have e2 := i.at_ (at0 6) (by unfold Fr; omega)
    exact ⟨_, rfl, dc_turn i e (by simp) (d := .dict [(.str "a", .list [.int r])]) (d2 := .dict [(.str "a", .list [.int r]), (.str "more", .list [.int 1])]) (data_dct e (data_one (dataOf_lst e2 rfl))) (fun hh x hx eh ex kp => data_dct eh (data_two (dataOf_lst (kp _ _ (by omega) e2) rfl) (dataOf_lst ex rfl))) (showy_dct1 hr) (showy_dct2 hr) (fun j f => by unfold Fr at *; omega)⟩
  · exact ⟨_, rfl, im_turn i (d := .str "a b") rfl (by unfold Showy; decide +kernel) (t := .str) (fun _ _ => rfl) rfl rfl (fun j f => by unfold Fr at *; omega)⟩
  · exact ⟨_, rfl, im_turn i (d := .str "") rfl (by unfold Showy; decide +kernel) (t := .str) (fun _ _ => rfl) rfl rfl (fun j f => by unfold Fr at *; omega)⟩
  · exact ⟨_, rfl, im_turn i (d := .bool true) rfl (by unfold Showy; decide +kernel) (t := .bl) (fun _ _ => rfl) rfl rfl (fun j f => by unfold Fr at *; omega)⟩
  · exact ⟨_, rfl, im_turn i (d := .none) rfl (by unfold Showy; decide +kernel) (t := .non) (fun _ _ => rfl) rfl rfl (fun j f => by unfold Fr at *; omega)⟩
  · have e := i.at_ (at0 7) (by unfold Fr; omega)
    exact ⟨_, rfl, im_turn i (d := .tuple [.str "a", .int 0, .int 1, .str "b"]) (data_tup e rfl) (by unfold Showy; decide +kernel) (tag_tup e) rfl rfl (fun j f => by unfold Fr at *; omega)⟩
end Gn
namespace Gn
open PySem PySem.Spec L2 Fw
theorem is_ok {α : Type} {a : α} {h : SH} {P : α → SH → Prop} (p : P a h) : Is (.ok a h) P := p
theorem law_true : ∀ ns : List Int, ns.length ≤ 63 → (∀ z ∈ ns, PySem.Builtin.Int.intBits z ≤ 1048576) → ∃ h2, Fw.mFn 1 6 Gn.m22 [.scr ns] [] = .ok (.bl true) h2 := by
  intro ns _ _
  have main : Is (Fw.mFn 1 6 m22 [.scr ns] []) fun v _ => v = .bl true := by
    refine Is.fn rfl ?_
    unfold m22
    refine Ist.seq (Ist.set (Is.call (Is.acons (Is.call (Is.acons (Is.var rfl (Is.acons (Is.c (Is.anil ?_)))))))))
    show Is (mFn 2 3 genM [.scr ns, .int ((0 : Nat) : Int)] _) _
    refine gen_is fun a b ha hb hb2 => ?_
    refine Is.acons (Is.o2 (Is.c (Is.c (pow_is (by decide +kernel) ?_))))
    rw [show (10 : Int) ^ (12 : Int).toNat = 1000000000000 from by decide +kernel]
    refine Is.anil ?_
    show Is (mFn 2 4 randM _ _) _
    have q1 : (0 : Int) < 1000000000000 := by decide
    have q2 : (1000000000000 : Int).natAbs.log2 < 9000 := by decide +kernel
    have q3 : Builtin.Int.intBits 1000000000000 < 100000 := by decide +kernel
    have q4 : (0 : Int) ≤ 1000 * ((0 : Nat) : Int) := by decide
    have q5 : 1000 * ((0 : Nat) : Int) < 1152921504606846976 := by decide
    refine rand_is (new_at _ _) q1 q2 q3 ha q4 q5 fun r a' c' r0 r1 _ _ _ => ?_
    have hr : r.natAbs < 10 ^ 13 := by omega
    generalize List.set (α := SO) _ _ _ = h1
    refine Ist.seq (Ist.set (Is.oa (Is.acons (Is.call (Is.acons (Is.var (v := .int r) rfl (Is.anil ?_)))))))
    refine placed_is fun ha e1 la n1 E1 => ?_
    refine Is.acons (Is.call (Is.acons (Is.c (Is.anil ?_))))
    refine named_is fun hb e2 lb n2 E2 => ?_
    refine Is.anil (lst_is (small_big (by simp)) ?_)
    have E1c := (E1.le lb).le (Le.push hb (.lst [.ref e1, .ref e2]))
    have E2c := E2.le (Le.push hb (.lst [.ref e1, .ref e2]))
    have eE := new_at hb (.lst [.ref e1, .ref e2])
    have lbl : hb.length < (hb ++ [SO.lst [.ref e1, .ref e2]]).length := by simp
    generalize hb ++ [SO.lst [.ref e1, .ref e2]] = hc at *
    refine Ist.seq (Ist.for (Is.walkL ?_))
    show Is (mOA opLst showM _ _) _
    rw [show_eq (r := r) rfl]
    refine ⟨hc.length + 8, items r hc.length, rfl, at_off 8, 13, Inv (hc ++ objs r hc.length) hc.length (some (.scr ns)) (some (.int r)) (some (.ref hb.length)), by unfold many; omega, ⟨rfl, rfl, rfl, rfl, fun j o e _ => e⟩, ?_, ?_⟩
    · intro k s h hk i
      have eL : h[hc.length + 8]? = some (.lst (items r hc.length)) := i.kp _ _ (at_off 8) (by unfold Fr; omega)
      obtain ⟨x, ex, t⟩ := turns hr hk i
      exact ⟨x, h, s.set 3 (some x), wkL_at eL ex, rfl, t⟩
    · intro s h i
      have eL : h[hc.length + 8]? = some (.lst (items r hc.length)) := i.kp _ _ (at_off 8) (by unfold Fr; omega)
      refine ⟨wkL_end eL, ?_⟩
      have old : ∀ (j : Nat) (o : SO), hc[j]? = some o → h[j]? = some o := fun j o e => by
        have := (List.getElem?_eq_some_iff.mp e).1
        exact i.kp j o (Le.trans (Le.refl hc) (fun j o e => by rw [List.getElem?_append_left (List.getElem?_eq_some_iff.mp e).1]; exact e) j o e) (by unfold Fr; omega)
      have F1 := E1c.le old
      have F2 := E2c.le old
      have eE2 := old _ _ eE
      refine Ist.seq (Ist.ite (Is.bor (Is.bnot (Is.tru (Is.call (Is.acons (Is.o2 (Is.var i.s2 (Is.c (ix_is eE2 rfl ?_))))))))))
      refine Is.acons (Is.var i.s1 (Is.anil ?_))
      refine right_is F1 (d := .int r) rfl (showy_int hr) fun h3 l3 => ?_
      refine tru_is ?_
      rw [if_neg (by simp)]
      refine Is.bor (Is.bnot (Is.tru (Is.call (Is.acons (Is.o2 (Is.var i.s2 (Is.c (ix_is (l3 _ _ eE2) rfl ?_))))))))
      refine Is.acons (Is.c (Is.anil ?_))
      refine right_is (F2.le l3) (d := .str "elder") rfl (by unfold Showy; decide +kernel) fun h4 l4 => ?_
      refine tru_is ?_
      rw [if_neg (by simp)]
      refine Is.bnot (Is.tru (Is.call (Is.acons (Is.call (Is.anil ?_)))))
      refine bare_is fun h5 e5 l5 n5 E5 => ?_
      refine Is.acons (Is.c (Is.anil ?_))
      refine right_is E5 (d := .none) rfl (by unfold Showy; decide +kernel) fun h6 l6 => ?_
      refine tru_is ?_
      rw [if_neg (by simp)]
      refine Ist.nil (Ist.ret (Is.o2 (Is.call (Is.acons ?_))))
      show Is (Res.ok (SV.ref h6.length) (h6 ++ [SO.exo 10 []])) _
      refine is_ok ?_
      refine Is.anil ?_
      refine kinds_is (c := 10) (by decide) (by decide) (new_at _ _) fun h7 j7 l7 n7 e7 => ?_
      refine Is.oa (Is.acons (Is.c (Is.anil (lst_is (small_big (by simp)) ?_))))
      have d1 : dataOf 64 (h7 ++ [.lst [.int 9]]) (.ref j7) = some (.list [.int 9]) := dataOf_lst (Le.push _ _ _ _ e7) rfl
      have d2 : dataOf 64 (h7 ++ [.lst [.int 9]]) (.ref h7.length) = some (.list [.int 9]) := dataOf_lst (new_at _ _) rfl
      refine ⟨.bl true, h7 ++ [.lst [.int 9]], ?_, rfl⟩
      unfold eqD
      rw [d1, d2]
      exact (if_pos (by decide +kernel)).trans (by congr 2)
  obtain ⟨v, h2, e, rfl⟩ := main.out
  exact ⟨h2, e⟩
end Gn
open PySem PySem.W PyProof.Rows in
set_option maxRecDepth 100000 in
set_option maxHeartbeats 0 in
theorem PySem.Challenge.cw_floorwalks_k01_errors_holds : PySem.Challenge.rw_floorwalks_k01_errors.Holds := by
  w_on; o_law; k_head; (case hw => w_witness2)
  k_fill
  refine Fw.walk_ofG (l := PySem.Challenge.rw_floorwalks_k01_errors) (m := Gn.m22) (nn := 6) (k := 3) (x := "_law_script") rfl (by decide) rfl ⟨rfl, by decide, by decide⟩ (by decide +kernel) (fun w h Y => PySem.W.kIn_of Y) ?F Gn.law_true
  case F =>
    intro w mg fa h KX G hmg
    refine' Gn.all_mk KX G hmg ?aC0 ?ga0 ?gg0 ?kC0 ?ex0 ?ty0 ?hd0 ?ic0 ?ha0 ?mo0 ?xn0 ?aC1 ?ga1 ?gg1 ?kC1 ?ex1 ?ty1 ?hd1 ?ic1 ?ha1 ?mo1 ?xL1 ?rv1 ?al1 ?sa1 ?no1 ?iC1 ?tF1 ?ve1 ?mr1 ?lF1 ?cF1 ?lD1 ?hv1 ?hf1 ?lcc1 ?lT1 ?aC2 ?ga2 ?gg2 ?kC2 ?ex2 ?ty2 ?hd2 ?ic2 ?ha2 ?mo2 ?xL2 ?rv2 ?al2 ?sa2 ?no2 ?iC2 ?tF2 ?ve2 ?mr2 ?lF2 ?cF2 ?lD2 ?hv2 ?hf2 ?lcc2 ?lT2 ?aC3 ?ga3 ?gg3 ?kC3 ?ex3 ?ty3 ?hd3 ?ic3 ?ha3 ?mo3 ?xL3 ?rv3 ?al3 ?sa3 ?no3 ?iC3 ?tF3 ?ve3 ?mr3 ?lF3 ?cF3 ?lD3 ?hv3 ?hf3 ?lcc3 ?lT3 ?aC4 ?ga4 ?gg4 ?kC4 ?ex4 ?ty4 ?hd4 ?ic4 ?ha4 ?mo4 ?xL4 ?rv4 ?al4 ?sa4 ?no4 ?iC4 ?tF4 ?ve4 ?mr4 ?lF4 ?cF4 ?lD4 ?hv4 ?hf4 ?lcc4 ?lT4 ?aC5 ?ga5 ?gg5 ?kC5 ?ex5 ?ty5 ?hd5 ?ic5 ?ha5 ?mo5 ?xL5 ?rv5 ?al5 ?sa5 ?no5 ?iC5 ?tF5 ?ve5 ?mr5 ?lF5 ?cF5 ?lD5 ?hv5 ?hf5 ?lcc5 ?lT5 ?aC6 ?ga6 ?gg6 ?kC6 ?ex6 ?ty6 ?hd6 ?ic6 ?ha6 ?mo6 ?xL6 ?rv6 ?al6 ?sa6 ?no6 ?iC6 ?tF6 ?ve6 ?mr6 ?lF6 ?cF6 ?lD6 ?hv6 ?hf6 ?lcc6 ?lT6 ?aC7 ?ga7 ?gg7 ?kC7 ?ex7 ?ty7 ?hd7 ?ic7 ?ha7 ?mo7 ?xL7 ?rv7 ?al7 ?sa7 ?no7 ?iC7 ?tF7 ?ve7 ?mr7 ?lF7 ?cF7 ?lD7 ?hv7 ?hf7 ?lcc7 ?lT7 ?aC8 ?ga8 ?gg8 ?kC8 ?ex8 ?ty8 ?hd8 ?ic8 ?ha8 ?mo8 ?xL8 ?rv8 ?al8 ?sa8 ?no8 ?iC8 ?tF8 ?ve8 ?mr8 ?lF8 ?cF8 ?lD8 ?hv8 ?hf8 ?lcc8 ?lT8 ?aC9 ?ga9 ?gg9 ?kC9 ?ex9 ?ty9 ?hd9 ?ic9 ?ha9 ?mo9 ?xL9 ?rv9 ?al9 ?sa9 ?no9 ?iC9 ?tF9 ?ve9 ?mr9 ?lF9 ?cF9 ?lD9 ?hv9 ?hf9 ?lcc9 ?lT9 ?aC10 ?ga10 ?gg10 ?kC10 ?ex10 ?ty10 ?hd10 ?ic10 ?ha10 ?mo10 ?xn10 ?opq ?sup ?hn ?ht ?htop ?b_ValueError ?b_dict ?b_int ?b_isinstance ?b_len ?b_list ?b_max ?b_range ?b_repr ?o0_InvalidItem ?o1_InvalidItem ?o2_InvalidItem ?o3_InvalidItem ?o4_InvalidItem ?o5_InvalidItem ?o6_InvalidItem ?o7_InvalidItem ?o8_InvalidItem ?o9_InvalidItem ?o10_InvalidItem ?o0_InvalidList ?o1_InvalidList ?o2_InvalidList ?o3_InvalidList ?o4_InvalidList ?o5_InvalidList ?o6_InvalidList ?o7_InvalidList ?o8_InvalidList ?o9_InvalidList ?o10_InvalidList ?o0_InvalidName ?o1_InvalidName ?o2_InvalidName ?o3_InvalidName ?o4_InvalidName ?o5_InvalidName ?o6_InvalidName ?o7_InvalidName ?o8_InvalidName ?o9_InvalidName ?o10_InvalidName ?o0_InvalidNumber ?o1_InvalidNumber ?o2_InvalidNumber ?o3_InvalidNumber ?o4_InvalidNumber ?o5_InvalidNumber ?o6_InvalidNumber ?o7_InvalidNumber ?o8_InvalidNumber ?o9_InvalidNumber ?o10_InvalidNumber ?o0_InvalidProgram ?o1_InvalidProgram ?o2_InvalidProgram ?o3_InvalidProgram ?o4_InvalidProgram ?o5_InvalidProgram ?o6_InvalidProgram ?o7_InvalidProgram ?o8_InvalidProgram ?o9_InvalidProgram ?o10_InvalidProgram ?o0_InvalidRow ?o1_InvalidRow ?o2_InvalidRow ?o3_InvalidRow ?o4_InvalidRow ?o5_InvalidRow ?o6_InvalidRow ?o7_InvalidRow ?o8_InvalidRow ?o9_InvalidRow ?o10_InvalidRow ?o0_InvalidText ?o1_InvalidText ?o2_InvalidText ?o3_InvalidText ?o4_InvalidText ?o5_InvalidText ?o6_InvalidText ?o7_InvalidText ?o8_InvalidText ?o9_InvalidText ?o10_InvalidText ?o0_NothingToUndo ?o1_NothingToUndo ?o2_NothingToUndo ?o3_NothingToUndo ?o4_NothingToUndo ?o5_NothingToUndo ?o6_NothingToUndo ?o7_NothingToUndo ?o8_NothingToUndo ?o9_NothingToUndo ?o10_NothingToUndo ?o0_TakenName ?o1_TakenName ?o2_TakenName ?o3_TakenName ?o4_TakenName ?o5_TakenName ?o6_TakenName ?o7_TakenName ?o8_TakenName ?o9_TakenName ?o10_TakenName ?o0_UnknownName ?o1_UnknownName ?o2_UnknownName ?o3_UnknownName ?o4_UnknownName ?o5_UnknownName ?o6_UnknownName ?o7_UnknownName ?o8_UnknownName ?o9_UnknownName ?o10_UnknownName ?o0_ValueError ?o1_ValueError ?o2_ValueError ?o3_ValueError ?o4_ValueError ?o5_ValueError ?o6_ValueError ?o7_ValueError ?o8_ValueError ?o9_ValueError ?o10_ValueError ?o0_WalkError ?o1_WalkError ?o2_WalkError ?o3_WalkError ?o4_WalkError ?o5_WalkError ?o6_WalkError ?o7_WalkError ?o8_WalkError ?o9_WalkError ?o10_WalkError ?a14d ?l14d ?c14d ?k14d ?a16d ?l16d ?c16d ?k16d ?a13d ?l13d ?c13d ?k13d ?a15d ?l15d ?c15d ?k15d ?a20d ?l20d ?c20d ?k20d ?a19d ?l19d ?c19d ?k19d ?a17d ?l17d ?c17d ?k17d ?a18d ?l18d ?c18d ?k18d ?a21d ?l21d ?c21d ?k21d ?a22d ?l22d ?c22d ?k22d
    (case aC0 => k_is)
    (case ga0 => k_is)
    (case gg0 => k_is)
    (case kC0 => k_is)
    (case ex0 => k_is)
    (case ty0 => k_is)
    (case hd0 => k_is)
    (case ic0 => k_is)
    (case ha0 => k_is)
    (case mo0 => k_is)
    (case xn0 => first | k_is | k_exc)
    (case aC1 => k_is)
    (case ga1 => k_is)
    (case gg1 => k_is)
    (case kC1 => k_is)
    (case ex1 => k_is)
    (case ty1 => k_is)
    (case hd1 => k_is)
    (case ic1 => k_is)
    (case ha1 => k_is)
    (case mo1 => k_is)
    (case xL1 => k_is)
    (case rv1 => first | rfl | decide +kernel | k_is)
    (case al1 => ks_is)
    (case sa1 => k_is)
    (case no1 => k_is)
    (case iC1 => k_is)
    (case tF1 => k_is)
    (case ve1 => k_is)
    (case mr1 => k_is)
    (case lF1 => k_is)
    (case cF1 => k_is)
    (case lD1 => k_is)
    (case hv1 => first | rfl | k_is)
    (case hf1 => first | rfl | decide +kernel | k_is)
    (case lcc1 => k_is)
    (case lT1 => k_is)
    (case aC2 => k_is)
    (case ga2 => k_is)
    (case gg2 => k_is)
    (case kC2 => k_is)
    (case ex2 => k_is)
    (case ty2 => k_is)
    (case hd2 => k_is)
    (case ic2 => k_is)
    (case ha2 => k_is)
    (case mo2 => k_is)
    (case xL2 => k_is)
    (case rv2 => first | rfl | decide +kernel | k_is)
    (case al2 => ks_is)
    (case sa2 => k_is)
    (case no2 => k_is)
    (case iC2 => k_is)
    (case tF2 => k_is)
    (case ve2 => k_is)
    (case mr2 => k_is)
    (case lF2 => k_is)
    (case cF2 => k_is)
    (case lD2 => k_is)
    (case hv2 => first | rfl | k_is)
    (case hf2 => first | rfl | decide +kernel | k_is)
    (case lcc2 => k_is)
    (case lT2 => k_is)
    (case aC3 => k_is)
    (case ga3 => k_is)
    (case gg3 => k_is)
    (case kC3 => k_is)
    (case ex3 => k_is)
    (case ty3 => k_is)
    (case hd3 => k_is)
    (case ic3 => k_is)
    (case ha3 => k_is)
    (case mo3 => k_is)
    (case xL3 => k_is)
    (case rv3 => first | rfl | decide +kernel | k_is)
    (case al3 => ks_is)
    (case sa3 => k_is)
    (case no3 => k_is)
    (case iC3 => k_is)
    (case tF3 => k_is)
    (case ve3 => k_is)
    (case mr3 => k_is)
    (case lF3 => k_is)
    (case cF3 => k_is)
    (case lD3 => k_is)
    (case hv3 => first | rfl | k_is)
    (case hf3 => first | rfl | decide +kernel | k_is)
    (case lcc3 => k_is)
    (case lT3 => k_is)
    (case aC4 => k_is)
    (case ga4 => k_is)
    (case gg4 => k_is)
    (case kC4 => k_is)
    (case ex4 => k_is)
    (case ty4 => k_is)
    (case hd4 => k_is)
    (case ic4 => k_is)
    (case ha4 => k_is)
    (case mo4 => k_is)
    (case xL4 => k_is)
    (case rv4 => first | rfl | decide +kernel | k_is)
    (case al4 => ks_is)
    (case sa4 => k_is)
    (case no4 => k_is)
    (case iC4 => k_is)
    (case tF4 => k_is)
    (case ve4 => k_is)
    (case mr4 => k_is)
    (case lF4 => k_is)
    (case cF4 => k_is)
    (case lD4 => k_is)
    (case hv4 => first | rfl | k_is)
    (case hf4 => first | rfl | decide +kernel | k_is)
    (case lcc4 => k_is)
    (case lT4 => k_is)
    (case aC5 => k_is)
    (case ga5 => k_is)
    (case gg5 => k_is)
    (case kC5 => k_is)
    (case ex5 => k_is)
    (case ty5 => k_is)
    (case hd5 => k_is)
    (case ic5 => k_is)
    (case ha5 => k_is)
    (case mo5 => k_is)
    (case xL5 => k_is)
    (case rv5 => first | rfl | decide +kernel | k_is)
    (case al5 => ks_is)
    (case sa5 => k_is)
    (case no5 => k_is)
    (case iC5 => k_is)
    (case tF5 => k_is)
    (case ve5 => k_is)
    (case mr5 => k_is)
    (case lF5 => k_is)
    (case cF5 => k_is)
    (case lD5 => k_is)
    (case hv5 => first | rfl | k_is)
    (case hf5 => first | rfl | decide +kernel | k_is)
    (case lcc5 => k_is)
    (case lT5 => k_is)
    (case aC6 => k_is)
    (case ga6 => k_is)
    (case gg6 => k_is)
    (case kC6 => k_is)
    (case ex6 => k_is)
    (case ty6 => k_is)
    (case hd6 => k_is)
    (case ic6 => k_is)
    (case ha6 => k_is)
    (case mo6 => k_is)
    (case xL6 => k_is)
    (case rv6 => first | rfl | decide +kernel | k_is)
    (case al6 => ks_is)
    (case sa6 => k_is)
    (case no6 => k_is)
    (case iC6 => k_is)
    (case tF6 => k_is)
    (case ve6 => k_is)
    (case mr6 => k_is)
    (case lF6 => k_is)
    (case cF6 => k_is)
    (case lD6 => k_is)
    (case hv6 => first | rfl | k_is)
    (case hf6 => first | rfl | decide +kernel | k_is)
    (case lcc6 => k_is)
    (case lT6 => k_is)
    (case aC7 => k_is)
    (case ga7 => k_is)
    (case gg7 => k_is)
    (case kC7 => k_is)
    (case ex7 => k_is)
    (case ty7 => k_is)
    (case hd7 => k_is)
    (case ic7 => k_is)
    (case ha7 => k_is)
    (case mo7 => k_is)
    (case xL7 => k_is)
    (case rv7 => first | rfl | decide +kernel | k_is)
    (case al7 => ks_is)
    (case sa7 => k_is)
    (case no7 => k_is)
    (case iC7 => k_is)
    (case tF7 => k_is)
    (case ve7 => k_is)
    (case mr7 => k_is)
    (case lF7 => k_is)
    (case cF7 => k_is)
    (case lD7 => k_is)
    (case hv7 => first | rfl | k_is)
    (case hf7 => first | rfl | decide +kernel | k_is)
    (case lcc7 => k_is)
    (case lT7 => k_is)
    (case aC8 => k_is)
    (case ga8 => k_is)
    (case gg8 => k_is)
    (case kC8 => k_is)
    (case ex8 => k_is)
    (case ty8 => k_is)
    (case hd8 => k_is)
    (case ic8 => k_is)
    (case ha8 => k_is)
    (case mo8 => k_is)
    (case xL8 => k_is)
    (case rv8 => first | rfl | decide +kernel | k_is)
    (case al8 => ks_is)
    (case sa8 => k_is)
    (case no8 => k_is)
    (case iC8 => k_is)
    (case tF8 => k_is)
    (case ve8 => k_is)
    (case mr8 => k_is)
    (case lF8 => k_is)
    (case cF8 => k_is)
    (case lD8 => k_is)
    (case hv8 => first | rfl | k_is)
    (case hf8 => first | rfl | decide +kernel | k_is)
    (case lcc8 => k_is)
    (case lT8 => k_is)
    (case aC9 => k_is)
    (case ga9 => k_is)
    (case gg9 => k_is)
    (case kC9 => k_is)
    (case ex9 => k_is)
    (case ty9 => k_is)
    (case hd9 => k_is)
    (case ic9 => k_is)
    (case ha9 => k_is)
    (case mo9 => k_is)
    (case xL9 => k_is)
    (case rv9 => first | rfl | decide +kernel | k_is)
    (case al9 => ks_is)
    (case sa9 => k_is)
    (case no9 => k_is)
    (case iC9 => k_is)
    (case tF9 => k_is)
    (case ve9 => k_is)
    (case mr9 => k_is)
    (case lF9 => k_is)
    (case cF9 => k_is)
    (case lD9 => k_is)
    (case hv9 => first | rfl | k_is)
    (case hf9 => first | rfl | decide +kernel | k_is)
    (case lcc9 => k_is)
    (case lT9 => k_is)
    (case aC10 => k_is)
    (case ga10 => k_is)
    (case gg10 => k_is)
    (case kC10 => k_is)
    (case ex10 => k_is)
    (case ty10 => k_is)
    (case hd10 => k_is)
    (case ic10 => k_is)
    (case ha10 => k_is)
    (case mo10 => k_is)
    (case xn10 => first | k_is | k_exc)
    (case opq => k_is)
    (case sup => k_is)
    (case hn => k_is)
    (case ht => k_is)
    (case htop => first | rfl | decide +kernel)
    (case b_ValueError => k_is)
    (case b_dict => k_is)
    (case b_int => k_is)
    (case b_isinstance => k_is)
    (case b_len => k_is)
    (case b_list => k_is)
    (case b_max => k_is)
    (case b_range => k_is)
    (case b_repr => k_is)
    (case o0_InvalidItem => kit_is)
    (case o1_InvalidItem => kit_is)
    (case o2_InvalidItem => kit_is)
    (case o3_InvalidItem => kit_is)
    (case o4_InvalidItem => kit_is)
    (case o5_InvalidItem => kit_is)
    (case o6_InvalidItem => kit_is)
    (case o7_InvalidItem => kit_is)
    (case o8_InvalidItem => kit_is)
    (case o9_InvalidItem => kit_is)
    (case o10_InvalidItem => kit_is)
    (case o0_InvalidList => kit_is)
    (case o1_InvalidList => kit_is)
    (case o2_InvalidList => kit_is)
    (case o3_InvalidList => kit_is)
    (case o4_InvalidList => kit_is)
    (case o5_InvalidList => kit_is)
    (case o6_InvalidList => kit_is)
    (case o7_InvalidList => kit_is)
    (case o8_InvalidList => kit_is)
    (case o9_InvalidList => kit_is)
    (case o10_InvalidList => kit_is)
    (case o0_InvalidName => kit_is)
    (case o1_InvalidName => kit_is)
    (case o2_InvalidName => kit_is)
    (case o3_InvalidName => kit_is)
    (case o4_InvalidName => kit_is)
    (case o5_InvalidName => kit_is)
    (case o6_InvalidName => kit_is)
    (case o7_InvalidName => kit_is)
    (case o8_InvalidName => kit_is)
    (case o9_InvalidName => kit_is)
    (case o10_InvalidName => kit_is)
    (case o0_InvalidNumber => kit_is)
    (case o1_InvalidNumber => kit_is)
    (case o2_InvalidNumber => kit_is)
    (case o3_InvalidNumber => kit_is)
    (case o4_InvalidNumber => kit_is)
    (case o5_InvalidNumber => kit_is)
    (case o6_InvalidNumber => kit_is)
    (case o7_InvalidNumber => kit_is)
    (case o8_InvalidNumber => kit_is)
    (case o9_InvalidNumber => kit_is)
    (case o10_InvalidNumber => kit_is)
    (case o0_InvalidProgram => kit_is)
    (case o1_InvalidProgram => kit_is)
    (case o2_InvalidProgram => kit_is)
    (case o3_InvalidProgram => kit_is)
    (case o4_InvalidProgram => kit_is)
    (case o5_InvalidProgram => kit_is)
    (case o6_InvalidProgram => kit_is)
    (case o7_InvalidProgram => kit_is)
    (case o8_InvalidProgram => kit_is)
    (case o9_InvalidProgram => kit_is)
    (case o10_InvalidProgram => kit_is)
    (case o0_InvalidRow => kit_is)
    (case o1_InvalidRow => kit_is)
    (case o2_InvalidRow => kit_is)
    (case o3_InvalidRow => kit_is)
    (case o4_InvalidRow => kit_is)
    (case o5_InvalidRow => kit_is)
    (case o6_InvalidRow => kit_is)
    (case o7_InvalidRow => kit_is)
    (case o8_InvalidRow => kit_is)
    (case o9_InvalidRow => kit_is)
    (case o10_InvalidRow => kit_is)
    (case o0_InvalidText => kit_is)
    (case o1_InvalidText => kit_is)
    (case o2_InvalidText => kit_is)
    (case o3_InvalidText => kit_is)
    (case o4_InvalidText => kit_is)
    (case o5_InvalidText => kit_is)
    (case o6_InvalidText => kit_is)
    (case o7_InvalidText => kit_is)
    (case o8_InvalidText => kit_is)
    (case o9_InvalidText => kit_is)
    (case o10_InvalidText => kit_is)
    (case o0_NothingToUndo => kit_is)
    (case o1_NothingToUndo => kit_is)
    (case o2_NothingToUndo => kit_is)
    (case o3_NothingToUndo => kit_is)
    (case o4_NothingToUndo => kit_is)
    (case o5_NothingToUndo => kit_is)
    (case o6_NothingToUndo => kit_is)
    (case o7_NothingToUndo => kit_is)
    (case o8_NothingToUndo => kit_is)
    (case o9_NothingToUndo => kit_is)
    (case o10_NothingToUndo => kit_is)
    (case o0_TakenName => kit_is)
    (case o1_TakenName => kit_is)
    (case o2_TakenName => kit_is)
    (case o3_TakenName => kit_is)
    (case o4_TakenName => kit_is)
    (case o5_TakenName => kit_is)
    (case o6_TakenName => kit_is)
    (case o7_TakenName => kit_is)
    (case o8_TakenName => kit_is)
    (case o9_TakenName => kit_is)
    (case o10_TakenName => kit_is)
    (case o0_UnknownName => kit_is)
    (case o1_UnknownName => kit_is)
    (case o2_UnknownName => kit_is)
    (case o3_UnknownName => kit_is)
    (case o4_UnknownName => kit_is)
    (case o5_UnknownName => kit_is)
    (case o6_UnknownName => kit_is)
    (case o7_UnknownName => kit_is)
    (case o8_UnknownName => kit_is)
    (case o9_UnknownName => kit_is)
    (case o10_UnknownName => kit_is)
    (case o0_ValueError => kit_is)
    (case o1_ValueError => kit_is)
    (case o2_ValueError => kit_is)
    (case o3_ValueError => kit_is)
    (case o4_ValueError => kit_is)
    (case o5_ValueError => kit_is)
    (case o6_ValueError => kit_is)
    (case o7_ValueError => kit_is)
    (case o8_ValueError => kit_is)
    (case o9_ValueError => kit_is)
    (case o10_ValueError => kit_is)
    (case o0_WalkError => kit_is)
    (case o1_WalkError => kit_is)
    (case o2_WalkError => kit_is)
    (case o3_WalkError => kit_is)
    (case o4_WalkError => kit_is)
    (case o5_WalkError => kit_is)
    (case o6_WalkError => kit_is)
    (case o7_WalkError => kit_is)
    (case o8_WalkError => kit_is)
    (case o9_WalkError => kit_is)
    (case o10_WalkError => kit_is)
    (case a14d => k_is)
    (case l14d => k_is)
    (case c14d => k_is)
    (case k14d => k_is)
    (case a16d => k_is)
    (case l16d => k_is)
    (case c16d => k_is)
    (case k16d => k_is)
    (case a13d => k_is)
    (case l13d => k_is)
    (case c13d => k_is)
    (case k13d => k_is)
    (case a15d => k_is)
    (case l15d => k_is)
    (case c15d => k_is)
    (case k15d => k_is)
    (case a20d => k_is)
    (case l20d => k_is)
    (case c20d => k_is)
    (case k20d => k_is)
    (case a19d => k_is)
    (case l19d => k_is)
    (case c19d => k_is)
    (case k19d => k_is)
    (case a17d => k_is)
    (case l17d => k_is)
    (case c17d => k_is)
    (case k17d => k_is)
    (case a18d => k_is)
    (case l18d => k_is)
    (case c18d => k_is)
    (case k18d => k_is)
    (case a21d => k_is)
    (case l21d => k_is)
    (case c21d => k_is)
    (case k21d => k_is)
    (case a22d => k_is)
    (case l22d => k_is)
    (case c22d => k_is)
    (case k22d => k_is)
