import PyProof.Rows.All
import Wide.All
import OpenK.AllK
import Wide.FinOn
import HandS.ForMost
import HandS.Exc
import HandS.ExcOwn
import HandS.WordsExc
import HandS.IsInst
import HandS.Wide
import HandS.Gcd
import PyProof.ReprRoads
import HandS.Dict
import HandS.WideBits
import HandS.WordsList
import HandS.NoneIn
import HandS.Iter
import HandS.Comp
import HandS.ExcSuper
import KE.KExcSuper
import HandS.ExcValue
import KE.KExcIs
import HandS.EndBits
import HandS.SetKeys
import HandS.Conv
import HandS.DictComp
import HandS.Flow
import HandS.Style
import HandS.Flt
import HandS.More
import HandS.OwnEq
import HandS.Text
import HandS.FStr
import HandS.RaiseMore
import PyProof.Rows.StrIntSpec
import PySem.Challenge.RW_floorwalks_k70_programs_written_and_read
set_option Elab.async false
set_option linter.all false
set_option maxRecDepth 100000
set_option maxHeartbeats 4000000
/-! Fw: what a program does, as plain functions over numbered objects; each construct's function is tied to the hand layer once. -/
namespace Fw
open PySem PySem.Spec L2
/-- a value; objects by their number -/
inductive SV where
  | non | bl (b : Bool) | int (i : Int) | str (x : Str) | ref (i : Nat) | scr (ns : List Int)
  deriving DecidableEq, Inhabited
/-- an object -/
inductive SO where
  | lst (xs : List SV) | tup (xs : List SV) | dK (kvs : List (Key × SV)) | dT (kvs : List (List Key × SV)) | ins (c : Nat) (vs : List SV)
  | exo (c : Nat) (vs : List SV)
  | lk (kvs : List (Key × SV))
  deriving DecidableEq, Inhabited
abbrev SH := List SO
abbrev SS := List (Option SV)
inductive Res (α : Type) where
  | stuck | ok (a : α) (h : SH) | ex (c : Nat) (vs : List SV) (h : SH)
@[inline] def Res.bind {α β : Type} (r : Res α) (k : α → SH → Res β) : Res β := match r with
  | .stuck => .stuck
  | .ok a h => k a h
  | .ex c vs h => .ex c vs h
abbrev EM := SS → SH → Res SV
abbrev BM := SS → SH → Res Bool
abbrev AM := SS → SH → Res (List SV)
/-- what stands behind a statement -/
inductive SR where
  | stuck | nx (ss : SS) (h : SH) | rt (v : SV) (h : SH) | bk (ss : SS) (h : SH) | ct (ss : SS) (h : SH) | ex (c : Nat) (vs : List SV) (ss : SS) (h : SH)
abbrev SM := SS → SH → SR
abbrev FM := List SV → SH → Res SV
/-- the classes' places and fields, the written part, the script -/
structure En where
  cl : List (Addr × List Str)
  K : PySem.W.Frag
  a0 : Addr
  ns : List Int
  fz : List (Addr × Obj × List (Key × V))
/-! ### what is held -/
def RS (en : En) (ρ : List Addr) : SV → V → Prop
  | .non, v => v = .non
  | .bl b, v => v = .bl b
  | .int i, v => v = .int i
  | .str x, v => v = .str x
  | .ref i, v => ∃ a, ρ[i]? = some a ∧ v = .ref a
  | .scr ns, v => v = .ref en.a0 ∧ ns = en.ns
abbrev RSs (en : En) (ρ : List Addr) : List SV → List V → Prop := Paired (RS en ρ)
/-- the fields of an error: in its dict, or none -/
def HasF (ρ : List Addr) (H : Hp) (d : Option Addr) (kvs : List (Str × V)) : Prop := (d = none ∧ kvs = []) ∨ ∃ dx, d = some dx ∧ H dx = some (.xd kvs) ∧ dx ∉ ρ
def exoφ (a : Addr) (cls : Value) (d : Option Addr) : Heap → Prop := fun h => ∃ oe us, h.get? a = some oe ∧ Zc cls d oe ∧ oe.data = .fields us
def RO (en : En) (ρ : List Addr) (H : Hp) (a : Addr) : SO → Prop
  | .lst xs => ∃ vs, H a = some (.lst vs) ∧ RSs en ρ xs vs
  | .tup xs => ∃ vs, H a = some (.tup vs) ∧ RSs en ρ xs vs
  | .dK kvs => ∃ kws, H a = some (.dK kws) ∧ Paired (fun p q => p.1 = q.1 ∧ RS en ρ p.2 q.2) kvs kws
  | .dT kvs => ∃ kws, H a = some (.dT kws) ∧ Paired (fun p q => p.1 = q.1 ∧ RS en ρ p.2 q.2) kvs kws
  | .ins c xs => ∃ C ns dx vs, en.cl[c]? = some (C, ns) ∧ H a = some (.ins C dx (ns.zip vs)) ∧ xs.length ≤ ns.length ∧ RSs en ρ xs vs
  | .exo c xs => ∃ C ns d vs, en.cl[c]? = some (C, ns) ∧ H a = some (.ext (exoφ a (.ref C) d)) ∧ HasF ρ H d (ns.zip vs) ∧ xs.length = ns.length ∧ RSs en ρ xs vs
  | .lk kvs => ∃ o kws, en.fz.lookup a = some (o, kws) ∧ H a = some (.frz o (.dK kws)) ∧ Paired (fun p q => p.1 = q.1 ∧ RS en ρ p.2 q.2) kvs kws
structure Rel (en : En) (ρ : List Addr) (h : SH) (H : Hp) : Prop where
  len : ρ.length = h.length
  nd : ρ.Nodup
  ob : ∀ (i : Nat) (a : Addr) (o : SO), ρ[i]? = some a → h[i]? = some o → RO en ρ H a o
  sc : (∃ o, H en.a0 = some (.frz o (.lst (en.ns.map V.int))) ∧ en.a0 ∉ ρ) ∨ SqL en.K (fun _ => none) en.a0 (en.ns.map V.int)
theorem sqL_none {K : PySem.W.Frag} {a : Addr} {xs : List V} (h : SqL K (fun _ => none) a xs) (H : Hp) : SqL K H a xs := by
  rcases h with (h | ⟨o, h⟩) | h
  · cases h
  · cases h
  · exact .inr h
theorem Rel.scr {en : En} {ρ : List Addr} {h : SH} {H : Hp} (R : Rel en ρ h H) : SqL en.K H en.a0 (en.ns.map V.int) := by
  rcases R.sc with ⟨o, e, _⟩ | z
  · exact .inl (.inr ⟨o, e⟩)
  · exact sqL_none z H
structure RSl (en : En) (ρ : List Addr) (ss : SS) (σ : St) : Prop where
  len : ss.length = σ.length
  at_ : ∀ (i : Nat) (v : SV), ss[i]? = some (some v) → ∃ u, σ[i]? = some (some u) ∧ RS en ρ v u
/-- an error in the air: its class, its fields -/
def RX (en : En) (ρ : List Addr) (H : Hp) (c : Nat) (xs : List SV) (cls : Value) (d : Option Addr) : Prop :=
  ∃ C ns vs, en.cl[c]? = some (C, ns) ∧ cls = .ref C ∧ HasF ρ H d (ns.zip vs) ∧ xs.length = ns.length ∧ RSs en ρ xs vs
def Pre (ρ ρ' : List Addr) : Prop := ∃ e, ρ' = ρ ++ e
theorem Pre.refl (ρ : List Addr) : Pre ρ ρ := ⟨[], by simp⟩
theorem Pre.trans {a b c : List Addr} (h : Pre a b) (k : Pre b c) : Pre a c := by
  obtain ⟨x, rfl⟩ := h; obtain ⟨y, rfl⟩ := k; exact ⟨x ++ y, by simp⟩
theorem Pre.one (ρ : List Addr) (p : Addr) : Pre ρ (ρ ++ [p]) := ⟨[p], rfl⟩
theorem Pre.get {ρ ρ' : List Addr} (h : Pre ρ ρ') {i : Nat} {a : Addr} (e : ρ[i]? = some a) : ρ'[i]? = some a := by
  obtain ⟨x, rfl⟩ := h
  rw [List.getElem?_append_left (List.getElem?_eq_some_iff.mp e).1]; exact e
theorem RS.mono {en : En} {ρ ρ' : List Addr} (h : Pre ρ ρ') {x : SV} {v : V} (r : RS en ρ x v) : RS en ρ' x v := by
  cases x <;> first | exact r | (obtain ⟨a, e, q⟩ := r; exact ⟨a, h.get e, q⟩)
theorem paired_mono {α β : Type} {R R' : α → β → Prop} (f : ∀ a b, R a b → R' a b) : ∀ {xs : List α} {ys : List β}, Paired R xs ys → Paired R' xs ys
  | _, _, .nil => .nil
  | _, _, .cons r t => .cons (f _ _ r) (paired_mono f t)
theorem RSs.mono {en : En} {ρ ρ' : List Addr} (h : Pre ρ ρ') {xs : List SV} {vs : List V} (r : RSs en ρ xs vs) : RSs en ρ' xs vs := paired_mono (fun _ _ q => q.mono h) r
theorem RSl.mono {en : En} {ρ ρ' : List Addr} (h : Pre ρ ρ') {ss : SS} {σ : St} (r : RSl en ρ ss σ) : RSl en ρ' ss σ :=
  ⟨r.len, fun i v e => let ⟨u, e', q⟩ := r.at_ i v e; ⟨u, e', q.mono h⟩⟩
theorem RSl.set {en : En} {ρ : List Addr} {ss : SS} {σ : St} (r : RSl en ρ ss σ) {x : SV} {v : V} (q : RS en ρ x v) (i : Nat) : RSl en ρ (ss.set i (some x)) (σ.set i (some v)) := by
  refine ⟨by simp [r.len], fun j y e => ?_⟩
  by_cases hj : i = j
  · subst hj
    by_cases hl : i < ss.length
    · rw [List.getElem?_set_self hl] at e
      cases e
      exact ⟨v, List.getElem?_set_self (by rw [← r.len]; exact hl), q⟩
    · rw [List.getElem?_eq_none (by simpa using hl)] at e; cases e
  · rw [List.getElem?_set_ne hj] at e ⊢
    exact r.at_ j y e
theorem RSl.clear {en : En} {ρ : List Addr} {ss : SS} {σ : St} (r : RSl en ρ ss σ) (i : Nat) : RSl en ρ (ss.set i none) (σ.set i none) := by
  refine ⟨by simp [r.len], fun j y e => ?_⟩
  by_cases hj : i = j
  · subst hj
    by_cases hl : i < ss.length
    · rw [List.getElem?_set_self hl] at e; cases e
    · rw [List.getElem?_eq_none (by simpa using hl)] at e; cases e
  · rw [List.getElem?_set_ne hj] at e ⊢
    exact r.at_ j y e
theorem Rel.at {en : En} {ρ : List Addr} {h : SH} {H : Hp} (R : Rel en ρ h H) {i : Nat} {o : SO} (e : h[i]? = some o) : ∃ a, ρ[i]? = some a ∧ RO en ρ H a o := by
  have hl : i < ρ.length := by rw [R.len]; exact (List.getElem?_eq_some_iff.mp e).1
  exact ⟨ρ[i], List.getElem?_eq_getElem hl, R.ob i _ o (List.getElem?_eq_getElem hl) e⟩
theorem Rel.at2 {en : En} {ρ : List Addr} {h : SH} {H : Hp} (R : Rel en ρ h H) {i : Nat} {o : SO} {a : Addr} (ea : ρ[i]? = some a) (e : h[i]? = some o) : RO en ρ H a o := R.ob i a o ea e
/-- what a held object is stays so where its own place and its error's dict are as they were -/
theorem RO.keep {en : En} {ρ ρ' : List Addr} {H H' : Hp} {a : Addr} {o : SO} (p : Pre ρ ρ') (r : RO en ρ H a o) (k : H' a = H a) (kx : ∀ d fs, d ∉ ρ → H d = some (.xd fs) → H' d = some (.xd fs) ∧ d ∉ ρ') : RO en ρ' H' a o := by
  cases o with
  | lst xs => obtain ⟨vs, e, q⟩ := r; exact ⟨vs, k.trans e, q.mono p⟩
  | tup xs => obtain ⟨vs, e, q⟩ := r; exact ⟨vs, k.trans e, q.mono p⟩
  | dK kvs => obtain ⟨vs, e, q⟩ := r; exact ⟨vs, k.trans e, paired_mono (fun _ _ z => ⟨z.1, z.2.mono p⟩) q⟩
  | dT kvs => obtain ⟨vs, e, q⟩ := r; exact ⟨vs, k.trans e, paired_mono (fun _ _ z => ⟨z.1, z.2.mono p⟩) q⟩
  | ins c xs => obtain ⟨C, ns, dx, vs, e1, e, l, q⟩ := r; exact ⟨C, ns, dx, vs, e1, k.trans e, l, q.mono p⟩
  | lk kvs => obtain ⟨ob, vs, ef, e, q⟩ := r; exact ⟨ob, vs, ef, k.trans e, paired_mono (fun _ _ z => ⟨z.1, z.2.mono p⟩) q⟩
  | exo c xs =>
    obtain ⟨C, ns, d, vs, e1, e, hf, l, q⟩ := r
    refine ⟨C, ns, d, vs, e1, k.trans e, ?_, l, q.mono p⟩
    rcases hf with z | ⟨dx, ed, hd, nd⟩
    · exact .inl z
    · obtain ⟨kd, nd'⟩ := kx dx _ nd hd
      exact .inr ⟨dx, ed, kd, nd'⟩
/-- a held place is tracked -/
theorem RO.some {en : En} {ρ : List Addr} {H : Hp} {a : Addr} {o : SO} (r : RO en ρ H a o) : ∃ u, H a = some u ∧ ∀ fs, u ≠ .xd fs := by
  cases o with
  | lst xs => obtain ⟨vs, e, q⟩ := r; exact ⟨_, e, fun _ z => by cases z⟩
  | tup xs => obtain ⟨vs, e, q⟩ := r; exact ⟨_, e, fun _ z => by cases z⟩
  | dK kvs => obtain ⟨vs, e, q⟩ := r; exact ⟨_, e, fun _ z => by cases z⟩
  | dT kvs => obtain ⟨vs, e, q⟩ := r; exact ⟨_, e, fun _ z => by cases z⟩
  | ins c xs => obtain ⟨C, ns, dx, vs, e1, e, l, q⟩ := r; exact ⟨_, e, fun _ z => by cases z⟩
  | exo c xs => obtain ⟨C, ns, d, vs, e1, e, hf, l, q⟩ := r; exact ⟨_, e, fun _ z => by cases z⟩
  | lk kvs => obtain ⟨ob, vs, ef, e, q⟩ := r; exact ⟨_, e, fun _ z => by cases z⟩
theorem Rel.mem {en : En} {ρ : List Addr} {h : SH} {H : Hp} (R : Rel en ρ h H) {a : Addr} (m : a ∈ ρ) : ∃ u, H a = some u ∧ ∀ fs, u ≠ .xd fs := by
  obtain ⟨i, hl, e⟩ := List.getElem_of_mem m
  have e2 : h[i]? = some (h[i]'(by rw [← R.len]; exact hl)) := List.getElem?_eq_getElem _
  exact (R.ob i a _ (by rw [List.getElem?_eq_getElem hl, e]) e2).some
/-- one object anew -/
theorem Rel.push {en : En} {ρ : List Addr} {h : SH} {H : Hp} (R : Rel en ρ h H) {p : Addr} {u : HO} {o : SO} (hp : H p = none) (r : RO en (ρ ++ [p]) (upd H p u) p o) : Rel en (ρ ++ [p]) (h ++ [o]) (upd H p u) := by
  have np : p ∉ ρ := fun m => by obtain ⟨u, e, _⟩ := R.mem m; rw [hp] at e; cases e
  refine ⟨by simp [R.len], ?_, fun i a ob ea eo => ?_, ?_⟩
  · rw [List.nodup_append]
    exact ⟨R.nd, by simp, fun a ha b hb => by simp at hb; subst hb; exact fun z => np (z ▸ ha)⟩
  · by_cases hi : i < ρ.length
    · rw [List.getElem?_append_left hi] at ea
      rw [List.getElem?_append_left (by rw [← R.len]; exact hi)] at eo
      have ra := R.ob i a ob ea eo
      obtain ⟨w, ew, _⟩ := ra.some
      refine ra.keep (Pre.one ρ p) (upd_ne (ne_of_none ew hp)) fun d fs nd ed => ⟨by rw [upd_ne (ne_of_none ed hp)]; exact ed, fun m => ?_⟩
      rcases List.mem_append.mp m with m | m
      · exact nd m
      · simp at m; subst m; rw [hp] at ed; cases ed
    · have hi2 : ¬ i < h.length := by rw [← R.len]; exact hi
      rw [List.getElem?_append_right (by omega)] at ea
      rw [List.getElem?_append_right (by omega)] at eo
      have e0 : i - ρ.length = 0 := by
        have := (List.getElem?_eq_some_iff.mp ea).1
        simp at this; omega
      have e1 : i - h.length = 0 := by rw [← R.len]; exact e0
      rw [e0] at ea; rw [e1] at eo
      cases ea; cases eo
      exact r
  · rcases R.sc with ⟨ob, e, n⟩ | z
    · refine .inl ⟨ob, by rw [upd_ne (ne_of_none e hp)]; exact e, fun m => ?_⟩
      rcases List.mem_append.mp m with m | m
      · exact n m
      · simp at m; rw [m, hp] at e; cases e
    · exact .inr z
/-- one object changed -/
theorem Rel.put {en : En} {ρ : List Addr} {h : SH} {H : Hp} (R : Rel en ρ h H) {i : Nat} {p : Addr} {u : HO} {o : SO} (hp : ρ[i]? = some p) (r : RO en ρ (upd H p u) p o) : Rel en ρ (h.set i o) (upd H p u) := by
  refine ⟨by simp [R.len], R.nd, fun j a ob ea eo => ?_, ?_⟩
  by_cases hj : i = j
  · subst hj
    rw [hp] at ea; cases ea
    have hl : i < h.length := by rw [← R.len]; exact (List.getElem?_eq_some_iff.mp hp).1
    rw [List.getElem?_set_self hl] at eo; cases eo
    exact r
  · rw [List.getElem?_set_ne hj] at eo
    have ne : a ≠ p := fun z => by
      subst z
      exact hj (nd_ix R.nd hp ea)
    have mp : p ∈ ρ := List.mem_of_getElem? hp
    have kx : ∀ (d : Addr) (fs : List (Str × V)), d ∉ ρ → H d = some (.xd fs) → upd H p u d = some (.xd fs) ∧ d ∉ ρ := fun d fs nd ed => by
      have nd2 : d ≠ p := fun z => nd (by rw [z]; exact mp)
      exact ⟨by rw [upd_ne nd2]; exact ed, nd⟩
    exact (R.ob j a ob ea eo).keep (Pre.refl ρ) (upd_ne ne) kx
  · rcases R.sc with ⟨ob, e, n⟩ | z
    · have ne : en.a0 ≠ p := fun q => n (by rw [q]; exact List.mem_of_getElem? hp)
      exact .inl ⟨ob, by rw [upd_ne ne]; exact e, n⟩
    · exact .inr z
/-- what is not held may change -/
theorem Rel.keep {en : En} {ρ : List Addr} {h : SH} {H H' : Hp} (R : Rel en ρ h H) (k : ∀ a u, H a = some u → H' a = some u) : Rel en ρ h H' :=
  ⟨R.len, R.nd, fun i a o ea eo => by
    have r := R.ob i a o ea eo
    obtain ⟨w, ew, _⟩ := r.some
    exact r.keep (Pre.refl ρ) ((k a w ew).trans ew.symm) fun d fs nd ed => ⟨k d _ ed, nd⟩,
   R.sc.imp (fun ⟨o, e, n⟩ => ⟨o, k _ _ e, n⟩) id⟩
end Fw
namespace Fw
open PySem PySem.Spec L2
/-- what is wanted behind a run r from the places rho -/
def fin {α β : Type} (en : En) (W : WX) (R : List Addr → α → β → Prop) (σ : L2.St) (ρ : List Addr) (r : Res α) (Q : β → Hp → Prop) : Prop := match r with
  | .stuck => False
  | .ok a h => ∀ ρ' H b, Pre ρ ρ' → Rel en ρ' h H → R ρ' a b → Q b H
  | .ex c xs h => ∀ ρ' H cls d, Pre ρ ρ' → Rel en ρ' h H → RX en ρ' H c xs cls d → W cls d σ H
/-- the reading of a meaning m -/
def tM {α β : Type} (en : En) (W : WX) (R : List Addr → α → β → Prop) (m : SS → SH → Res α) : L2.St → Hp → (β → Hp → Prop) → Prop := fun σ H Q =>
  ∃ ρ ss h, Rel en ρ h H ∧ RSl en ρ ss σ ∧ fin en W R σ ρ (m ss h) Q
abbrev RB : List Addr → Bool → Bool → Prop := fun _ a b => a = b
abbrev tE (en : En) (W : WX) (m : EM) : TE := tM en W (RS en) m
abbrev tT (en : En) (W : WX) (m : BM) : TT := tM en W RB m
abbrev tA (en : En) (W : WX) (m : AM) : TA := tM en W (RSs en) m
theorem fin.mono {α β : Type} {en : En} {W : WX} {R : List Addr → α → β → Prop} {σ : L2.St} {ρ ρ' : List Addr} {r : Res α} {Q : β → Hp → Prop} (p : Pre ρ ρ') (f : fin en W R σ ρ r Q) : fin en W R σ ρ' r Q := by
  cases r with
  | stuck => exact f
  | ok a h => exact fun ρ2 H b p2 => f ρ2 H b (p.trans p2)
  | ex c xs h => exact fun ρ2 H cls d p2 => f ρ2 H cls d (p.trans p2)
theorem tM.bind {α β γ δ : Type} {en : En} {W : WX} {R1 : List Addr → α → β → Prop} {R2 : List Addr → γ → δ → Prop} {ma : SS → SH → Res α} {k : α → SS → SH → Res γ} {σ : L2.St} {H : Hp} {Q : δ → Hp → Prop}
    (t : tM en W R2 (fun ss h => (ma ss h).bind fun a h1 => k a ss h1) σ H Q) :
    tM en W R1 ma σ H fun b H1 => ∃ ρ ss h a, Rel en ρ h H1 ∧ RSl en ρ ss σ ∧ R1 ρ a b ∧ fin en W R2 σ ρ (k a ss h) Q := by
  obtain ⟨ρ, ss, h, rel, rs, f⟩ := t
  refine ⟨ρ, ss, h, rel, rs, ?_⟩
  cases e : ma ss h with
  | stuck => simp only [e, Res.bind, fin] at f
  | ok a h1 =>
    simp only [e, Res.bind] at f
    exact fun ρ' H' b p rel' rb => ⟨ρ', ss, h1, a, rel', rs.mono p, rb, f.mono p⟩
  | ex c xs h1 =>
    simp only [e, Res.bind, fin] at f
    exact f
theorem tM.imp {α β : Type} {en : En} {W : WX} {R : List Addr → α → β → Prop} {m : SS → SH → Res α} {σ : L2.St} {H : Hp} {Q Q' : β → Hp → Prop} (t : tM en W R m σ H Q) (k : ∀ b H, Q b H → Q' b H) : tM en W R m σ H Q' := by
  obtain ⟨ρ, ss, h, rel, rs, f⟩ := t
  refine ⟨ρ, ss, h, rel, rs, ?_⟩
  cases e : m ss h with
  | stuck => rw [e] at f; exact f
  | ok a h1 => rw [e] at f; exact fun ρ' H' b p r q => k _ _ (f ρ' H' b p r q)
  | ex c xs h1 => rw [e] at f; exact f
theorem PEimp {X : Cx} {e : Expr} {t t' : TE} (h : PE X e t) (k : ∀ σ H Q, t' σ H Q → t σ H Q) : PE X e t' := ⟨fun pins s σ H Q I q => h.run pins s σ H Q I (k σ H Q q)⟩
theorem PTimp {X : Cx} {e : Expr} {t t' : TT} (h : PT X e t) (k : ∀ σ H Q, t' σ H Q → t σ H Q) : PT X e t' := ⟨fun pins s σ H Q I q => h.run pins s σ H Q I (k σ H Q q)⟩
theorem PWimp {X : Cx} {e : Expr} {t t' : TT} (h : PW X e t) (k : ∀ σ H Q, t' σ H Q → t σ H Q) : PW X e t' := ⟨fun wh pins s σ H Q I q => h.run wh pins s σ H Q I (k σ H Q q)⟩
theorem PAimp {X : Cx} {e : List Expr} {t t' : TA} (h : PA X e t) (k : ∀ σ H Q, t' σ H Q → t σ H Q) : PA X e t' := ⟨fun ps pins s σ H Q I q => h.run ps pins s σ H Q I (k σ H Q q)⟩
theorem PSimp {X : Cx} {e : Stmt} {t t' : TS} (h : PS X e t) (k : ∀ D σ H, t' D σ H → t D σ H) : PS X e t' := ⟨fun pins s σ H D I q => h.run pins s σ H D I (k D σ H q)⟩
theorem PSsimp {X : Cx} {e : List Stmt} {t t' : TS} (h : PSs X e t) (k : ∀ D σ H, t' D σ H → t D σ H) : PSs X e t' := ⟨fun pins s σ H D I q => h.run pins s σ H D I (k D σ H q)⟩
/-! ### operations by values -/
abbrev O1 := SV → SH → Option (SV × SH)
abbrev O2 := SV → SV → SH → Option (SV × SH)
abbrev OA := List SV → SH → Option (SV × SH)
def lift {α : Type} (o : Option (α × SH)) : Res α := match o with
  | some (a, h) => .ok a h
  | none => .stuck
/-- what is wanted of an operation's answer -/
def finO (en : En) (ρ : List Addr) (o : Option (SV × SH)) (Q : V → Hp → Prop) : Prop := ∃ a h, o = some (a, h) ∧ ∀ ρ' H b, Pre ρ ρ' → Rel en ρ' h H → RS en ρ' a b → Q b H
theorem fin.lift {en : En} {W : WX} {σ : L2.St} {ρ : List Addr} {o : Option (SV × SH)} {Q : V → Hp → Prop} (f : fin en W (RS en) σ ρ (lift o) Q) : finO en ρ o Q := by
  cases o with
  | none => exact f.elim
  | some p => exact ⟨p.1, p.2, rfl, f⟩
def rO2 (en : En) (op : O2) : R2 := fun x y H Q => ∃ ρ h a b, Rel en ρ h H ∧ RS en ρ a x ∧ RS en ρ b y ∧ finO en ρ (op a b h) Q
def rO1 (en : En) (op : O1) : V → Hp → VK → Prop := fun x H Q => ∃ ρ h a, Rel en ρ h H ∧ RS en ρ a x ∧ finO en ρ (op a h) Q
def rOA (en : En) (op : OA) : List V → Hp → VK → Prop := fun xs H Q => ∃ ρ h as, Rel en ρ h H ∧ RSs en ρ as xs ∧ finO en ρ (op as h) Q
def mO2 (op : O2) (ma mb : EM) : EM := fun ss h => (ma ss h).bind fun a h1 => (mb ss h1).bind fun b h2 => lift (op a b h2)
def mO1 (op : O1) (ma : EM) : EM := fun ss h => (ma ss h).bind fun a h1 => lift (op a h1)
def mOA (op : OA) (ma : AM) : EM := fun ss h => (ma ss h).bind fun a h1 => lift (op a h1)
section
variable {X : Cx} {en : En} {W : WX} {a b : Expr} {ma mb : EM} {pos : Pos}
theorem tO2 {op : O2} (σ : L2.St) (H : Hp) (Q : VK) (t : tE en W (mO2 op ma mb) σ H Q) : tOp (rO2 en op) (tE en W ma) (tE en W mb) σ H Q := by
  refine (tM.bind (R1 := RS en) (k := fun a ss h => (mb ss h).bind fun b h2 => lift (op a b h2)) t).imp fun x H1 ⟨ρ, ss, h, a, rel, rs, ra, f⟩ => ?_
  have t2 : tM en W (RS en) (fun ss h => (mb ss h).bind fun b h2 => (fun b (ss : SS) h2 => lift (op a b h2)) b ss h2) σ H1 Q := ⟨ρ, ss, h, rel, rs, f⟩
  obtain ⟨ρ2, ss2, h2, rel2, rs2, f2⟩ := t2
  -- keep a's relation: rebuild with the places at hand
  refine ⟨ρ, ss, h, rel, rs, ?_⟩
  cases e : mb ss h with
  | stuck => simp only [e, Res.bind, fin] at f
  | ok b h1 =>
    simp only [e, Res.bind] at f
    exact fun ρ' H' u p rel' rb => ⟨ρ', h1, a, b, rel', ra.mono p, rb, (f.mono p).lift⟩
  | ex c xs h1 =>
    simp only [e, Res.bind, fin] at f
    exact f
theorem PE.o2 {op : Operator} {o : O2} (ho : OpR X (binaryOp op) (rO2 en o)) (ha : PE X a (tE en W ma)) (hb : PE X b (tE en W mb)) : PE X (.BinOp a op b pos) (tE en W (mO2 o ma mb)) := PEimp (pe_op ho ha hb) fun σ H Q t => tO2 σ H Q t
theorem PE.cmp {op : CmpOp} {o : O2} (ho : OpR X (compareOp op) (rO2 en o)) (ha : PE X a (tE en W ma)) (hb : PE X b (tE en W mb)) (hm : behindInMarks op b = false) : PE X (.Compare a [op] [b] pos) (tE en W (mO2 o ma mb)) := PEimp (pe_cmpR ho ha hb hm) fun σ H Q t => tO2 σ H Q t
/-- a meaning that gives a Bool, as a test -/
def mB (m : EM) : BM := fun ss h => (m ss h).bind fun v h1 => match v with
  | .bl b => .ok b h1
  | _ => .stuck
theorem tBool {m : EM} (σ : L2.St) (H : Hp) (Q : Bool → Hp → Prop) (t : tT en W (mB m) σ H Q) : tB (tE en W m) σ H Q := by
  refine (tM.bind (R1 := RS en) (k := fun v ss h1 => match v with | .bl b => .ok b h1 | _ => .stuck) t).imp fun x H1 ⟨ρ, ss, h, v, rel, rs, rv, f⟩ => ?_
  cases v with
  | bl b =>
    cases rv
    exact ⟨b, rfl, f ρ H1 b (Pre.refl ρ) rel rfl⟩
  | _ => exact f.elim
theorem PT.val {e : Expr} {m : EM} (h : PE X e (tE en W m)) (he : ∀ whole, isTrue e X.env whole = (do let v ← whole; standAt e.pos; holding [v] (truthy v)) := by intro _; rfl) : PT X e (tT en W (mB m)) := PTimp (pt_val h he) fun σ H Q t => tBool σ H Q t
/-! names, constants -/
def mVar (i : Nat) : EM := fun ss h => match ss[i]? with
  | some (some v) => .ok v h
  | _ => .stuck
def mC (v : SV) : EM := fun _ h => .ok v h
theorem PE.var (i : Nat) {x : Str} (hN : X.N[i]? = some x := by rfl) (hv : Vis X.env.scope x := by first | exact Or.inl rfl | exact Or.inr (Or.inl rfl) | exact Or.inr (Or.inr rfl)) (hd : (x == ("__debug__" : Str)) = false := by decide)
    (hcd : (x == ("__classdict__" : Str)) = false := by decide) : PE X (.Name x pos) (tE en W (mVar i)) := by
  refine PEimp (pe_var hN hv hd hcd) fun σ H Q ⟨ρ, ss, h, rel, rs, f⟩ => ?_
  unfold mVar at f
  cases e : ss[i]? with
  | none => rw [e] at f; exact f.elim
  | some o =>
    cases o with
    | none => rw [e] at f; exact f.elim
    | some v =>
      rw [e] at f
      obtain ⟨u, eu, r⟩ := rs.at_ i v e
      exact ⟨u, eu, f ρ H u (Pre.refl ρ) rel r⟩
theorem constOf {v : SV} {u : V} (hr : ∀ ρ, RS en ρ v u) (σ : L2.St) (H : Hp) (Q : VK) (t : tE en W (mC v) σ H Q) : tC u σ H Q := by
  obtain ⟨ρ, ss, h, rel, rs, f⟩ := t
  exact f ρ H u (Pre.refl ρ) rel (hr ρ)
theorem PE.int {i : Int} {j : Nat} : PE X (.Constant (.int i) j pos) (tE en W (mC (.int i))) := PEimp pe_int (constOf fun _ => rfl)
theorem PE.bl {i : Bool} {j : Nat} : PE X (.Constant (.bool i) j pos) (tE en W (mC (.bl i))) := PEimp pe_bl (constOf fun _ => rfl)
theorem PE.non {j : Nat} : PE X (.Constant .none j pos) (tE en W (mC .non)) := PEimp pe_non (constOf fun _ => rfl)
theorem PE.str {x : Str} {j : Nat} : PE X (.Constant (.str x) j pos) (tE en W (mC (.str x))) := PEimp pe_str (constOf fun _ => rfl)
end
end Fw
namespace Fw
open PySem PySem.Spec L2
theorem OpRimp {X : Cx} {f : Value → Value → Sem Value} {r r' : R2} (h : OpR X f r) (k : ∀ x y H Q, r' x y H Q → r x y H Q) : OpR X f r' := fun pins s σ H x y v u Q I rx ry q => h pins s σ H x y v u Q I rx ry (k _ _ _ _ q)
theorem CallRimp {X : Cx} {f : Value} {r r' : List V → Hp → VK → Prop} (h : CallR X f r) (k : ∀ xs H Q, r' xs H Q → r xs H Q) : CallR X f r' := fun pins s σ H xs us Q I r q => h pins s σ H xs us Q I r (k _ _ _ q)
def big : Nat := 16777216
theorem big_eq : (sizeLine : Nat) = big := by rw [sizeLine_eq]; rfl
/-- a new object -/
def alloc (o : SO) : SH → Option (SV × SH) := fun h => some (.ref h.length, h ++ [o])
section
variable {X : Cx} {en : En}
/-- what stays: the places at hand, the answer without objects -/
theorem finO.here {ρ : List Addr} {h : SH} {H : Hp} {a : SV} {b : V} {Q : V → Hp → Prop} (f : finO en ρ (some (a, h)) Q) (rel : Rel en ρ h H) (r : RS en ρ a b) : Q b H := by
  obtain ⟨a', h', e, k⟩ := f
  cases e
  exact k ρ H b (Pre.refl ρ) rel r
theorem finO.new {ρ : List Addr} {h : SH} {H : Hp} {o : SO} {Q : V → Hp → Prop} (f : finO en ρ (alloc o h) Q) (rel : Rel en ρ h H) {p : Addr} {u : HO} (hp : H p = none) (r : RO en (ρ ++ [p]) (upd H p u) p o) : Q (.ref p) (upd H p u) := by
  obtain ⟨a', h', e, k⟩ := f
  cases e
  exact k (ρ ++ [p]) _ _ (Pre.one ρ p) (rel.push hp r) ⟨p, by rw [← rel.len, List.getElem?_append_right (Nat.le_refl _)]; simp, rfl⟩
theorem finO.newLst {ρ : List Addr} {h : SH} {H : Hp} {xs : List SV} {vs : List V} {Q : V → Hp → Prop} (f : finO en ρ (alloc (.lst xs) h) Q) (rel : Rel en ρ h H) (r : RSs en ρ xs vs) : ∀ p, H p = none → Q (.ref p) (upd H p (.lst vs)) :=
  fun p hp => f.new rel hp ⟨vs, upd_same, r.mono (Pre.one ρ p)⟩
theorem finO.newTup {ρ : List Addr} {h : SH} {H : Hp} {xs : List SV} {vs : List V} {Q : V → Hp → Prop} (f : finO en ρ (alloc (.tup xs) h) Q) (rel : Rel en ρ h H) (r : RSs en ρ xs vs) : ∀ p, H p = none → Q (.ref p) (upd H p (.tup vs)) :=
  fun p hp => f.new rel hp ⟨vs, upd_same, r.mono (Pre.one ρ p)⟩
theorem finO.put {ρ : List Addr} {h : SH} {H : Hp} {a : SV} {b : V} {i : Nat} {o : SO} {Q : V → Hp → Prop} (f : finO en ρ (some (a, h.set i o)) Q) (rel : Rel en ρ h H) {p : Addr} {u : HO} (hp : ρ[i]? = some p) (r : RO en ρ (upd H p u) p o) (rb : RS en ρ a b) : Q b (upd H p u) := by
  obtain ⟨a', h', e, k⟩ := f
  cases e
  exact k ρ _ _ (Pre.refl ρ) (rel.put hp r) rb
theorem RSs.len {en : En} {ρ : List Addr} : ∀ {xs : List SV} {vs : List V}, RSs en ρ xs vs → xs.length = vs.length := fun r => Paired.length r
theorem RSs.app {en : En} {ρ : List Addr} : ∀ {xs ys : List SV} {vs ws : List V}, RSs en ρ xs vs → RSs en ρ ys ws → RSs en ρ (xs ++ ys) (vs ++ ws)
  | _, _, _, _, .nil, s => s
  | _, _, _, _, .cons r t, s => .cons r (RSs.app t s)
theorem RSs.get {en : En} {ρ : List Addr} : ∀ {xs : List SV} {vs : List V} {i : Nat} {x : SV}, RSs en ρ xs vs → xs[i]? = some x → ∃ v, vs[i]? = some v ∧ RS en ρ x v
  | _, _, _, _, .nil, e => by simp at e
  | _, _, 0, _, .cons r _, e => by simp at e; subst e; exact ⟨_, rfl, r⟩
  | _, _, i + 1, x, .cons _ t, e => by
    obtain ⟨u, h1, h2⟩ := RSs.get (i := i) (x := x) t (by simpa using e)
    exact ⟨u, by simpa using h1, h2⟩
theorem RSs.set {en : En} {ρ : List Addr} {x : SV} {v : V} (r : RS en ρ x v) : ∀ {xs : List SV} {vs : List V} (i : Nat), RSs en ρ xs vs → RSs en ρ (xs.set i x) (vs.set i v)
  | _, _, _, .nil => .nil
  | _, _, 0, .cons _ t => .cons r t
  | _, _, i + 1, .cons q t => .cons q (RSs.set r i t)
theorem RSs.take {en : En} {ρ : List Addr} : ∀ {xs : List SV} {vs : List V} (n : Nat), RSs en ρ xs vs → RSs en ρ (xs.take n) (vs.take n)
  | _, _, 0, _ => .nil
  | _, _, _ + 1, .nil => .nil
  | _, _, n + 1, .cons r t => .cons r (RSs.take n t)
theorem RSs.drop {en : En} {ρ : List Addr} : ∀ {xs : List SV} {vs : List V} (n : Nat), RSs en ρ xs vs → RSs en ρ (xs.drop n) (vs.drop n)
  | _, _, 0, r => r
  | _, _, _ + 1, .nil => .nil
  | _, _, n + 1, .cons _ t => RSs.drop n t
/-- a list's object -/
theorem Rel.lst {ρ : List Addr} {h : SH} {H : Hp} (R : Rel en ρ h H) {i : Nat} {xs : List SV} {v : V} (e : h[i]? = some (.lst xs)) (r : RS en ρ (.ref i) v) : ∃ p vs, v = .ref p ∧ ρ[i]? = some p ∧ H p = some (.lst vs) ∧ RSs en ρ xs vs := by
  obtain ⟨p, ep, rfl⟩ := r
  obtain ⟨vs, e1, q⟩ := R.at2 ep e
  exact ⟨p, vs, rfl, ep, e1, q⟩
theorem Rel.tup {ρ : List Addr} {h : SH} {H : Hp} (R : Rel en ρ h H) {i : Nat} {xs : List SV} {v : V} (e : h[i]? = some (.tup xs)) (r : RS en ρ (.ref i) v) : ∃ p vs, v = .ref p ∧ ρ[i]? = some p ∧ H p = some (.tup vs) ∧ RSs en ρ xs vs := by
  obtain ⟨p, ep, rfl⟩ := r
  obtain ⟨vs, e1, q⟩ := R.at2 ep e
  exact ⟨p, vs, rfl, ep, e1, q⟩
/-! ### + - * // % ** -/
def opAdd : O2 := fun a b h => match a, b with
  | .int i, .int j => some (.int (i + j), h)
  | .str x, .str y => if x.length + y.length ≤ big then some (.str (x ++ y), h) else none
  | .ref i, .ref j => match h[i]?, h[j]? with
    | some (.lst xs), some (.lst ys) => if xs.length + ys.length ≤ big then alloc (.lst (xs ++ ys)) h else none
    | _, _ => none
  | _, _ => none
theorem op_addM : OpR X (binaryOp .Add) (rO2 en opAdd) := by
  refine OpRimp (op_add.or (op_add_str.or op_cat)) fun x y H Q ⟨ρ, h, a, b, rel, ra, rb, v, h', e, k⟩ => ?_
  unfold opAdd at e
  split at e
  · cases ra; cases rb
    exact .inl ⟨_, _, rfl, rfl, finO.here ⟨_, _, e, k⟩ rel rfl⟩
  · cases ra; cases rb
    split at e
    · exact .inr (.inl ⟨_, _, rfl, rfl, by rw [big_eq]; assumption, finO.here ⟨_, _, e, k⟩ rel rfl⟩)
    · cases e
  · split at e
    · rename_i ei ej
      split at e
      · obtain ⟨p, vs, rfl, ep, e1, r1⟩ := rel.lst ei ra
        obtain ⟨q, ws, rfl, eq, e2, r2⟩ := rel.lst ej rb
        exact .inr (.inr ⟨p, q, vs, ws, rfl, rfl, e1, e2, by rw [big_eq, ← r1.len, ← r2.len]; assumption, finO.newLst ⟨_, _, e, k⟩ rel (r1.app r2)⟩)
      · cases e
    · cases e
  · cases e
end
end Fw
namespace Fw
open PySem PySem.Spec L2
section
variable {X : Cx} {en : En}
def opSub : O2 := fun a b h => match a, b with
  | .int i, .int j => some (.int (i - j), h)
  | _, _ => none
theorem op_subM : OpR X (binaryOp .Sub) (rO2 en opSub) := by
  refine OpRimp op_sub fun x y H Q ⟨ρ, h, a, b, rel, ra, rb, v, h', e, k⟩ => ?_
  unfold opSub at e
  split at e
  · cases ra; cases rb
    exact ⟨_, _, rfl, rfl, finO.here ⟨_, _, e, k⟩ rel rfl⟩
  · cases e
def okMul (i j : Int) : Bool := decide ((-18446744073709551616 < i ∧ i < 18446744073709551616) ∨ (-18446744073709551616 < j ∧ j < 18446744073709551616))
theorem okMul_of {i j : Int} (h : okMul i j = true) : CMul i j := by
  have e : (2 : Int) ^ 64 = 18446744073709551616 := by decide
  unfold CMul
  rw [e]
  exact of_decide_eq_true h
/-- k times the items -/
def repS : Nat → List SV → List SV
  | 0, _ => []
  | n + 1, xs => xs ++ repS n xs
theorem repS_rel {ρ : List Addr} {xs : List SV} {vs : List V} (r : RSs en ρ xs vs) : ∀ n, RSs en ρ (repS n xs) (List.replicate n vs).flatten
  | 0 => .nil
  | n + 1 => by
    rw [List.replicate_succ, List.flatten_cons]
    exact r.app (repS_rel r n)
def opMul : O2 := fun a b h => match a, b with
  | .int i, .int j => if okMul i j = true then some (.int (i * j), h) else none
  | .ref i, .int k => match h[i]? with
    | some (.lst xs) => if k ≤ 16777216 ∧ -16777216 ≤ k ∧ xs.length * k.toNat ≤ big then alloc (.lst (repS k.toNat xs)) h else none
    | _ => none
  | _, _ => none
theorem op_mulM : OpR X (binaryOp .Mult) (rO2 en opMul) := by
  refine OpRimp (op_mul.or op_rep) fun x y H Q ⟨ρ, h, a, b, rel, ra, rb, v, h', e, k⟩ => ?_
  unfold opMul at e
  split at e
  · cases ra; cases rb
    split at e
    · rename_i hk
      exact .inl ⟨_, _, rfl, rfl, okMul_of hk, finO.here ⟨_, _, e, k⟩ rel rfl⟩
    · cases e
  · split at e
    · rename_i ei
      split at e
      · rename_i hk
        cases rb
        obtain ⟨p, vs, rfl, ep, e1, r1⟩ := rel.lst ei ra
        exact .inr ⟨p, _, vs, rfl, rfl, e1, by omega, by omega, by rw [big_eq, ← r1.len]; exact hk.2.2, finO.newLst ⟨_, _, e, k⟩ rel (repS_rel r1 _)⟩
      · cases e
    · cases e
  · cases e
def opFdiv : O2 := fun a b h => match a, b with
  | .int i, .int j => if 0 < j ∧ j.natAbs.log2 < 9000 then some (.int (i / j), h) else none
  | _, _ => none
theorem op_fdivM : OpR X (binaryOp .FloorDiv) (rO2 en opFdiv) := by
  refine OpRimp op_fdivW fun x y H Q ⟨ρ, h, a, b, rel, ra, rb, v, h', e, k⟩ => ?_
  unfold opFdiv at e
  split at e
  · cases ra; cases rb
    split at e
    · rename_i hk
      exact ⟨_, _, rfl, rfl, hk, finO.here ⟨_, _, e, k⟩ rel rfl⟩
    · cases e
  · cases e
def opMod : O2 := fun a b h => match a, b with
  | .int i, .int j => if 0 < j then some (.int (i % j), h) else none
  | _, _ => none
theorem op_modM : OpR X (binaryOp .Mod) (rO2 en opMod) := by
  refine OpRimp op_mod fun x y H Q ⟨ρ, h, a, b, rel, ra, rb, v, h', e, k⟩ => ?_
  unfold opMod at e
  split at e
  · cases ra; cases rb
    split at e
    · rename_i hk
      exact ⟨_, _, rfl, rfl, hk, finO.here ⟨_, _, e, k⟩ rel rfl⟩
    · cases e
  · cases e
def opPow : O2 := fun a b h => match a, b with
  | .int i, .int j => if 0 ≤ j ∧ (Builtin.Int.intBits i : Int) * j ≤ 134217728 then some (.int (i ^ j.toNat), h) else none
  | _, _ => none
theorem op_powW : OpR X (binaryOp .Pow) (rI (fun i j => 0 ≤ j ∧ (Builtin.Int.intBits i : Int) * j ≤ 134217728) fun i j => .int (i ^ j.toNat)) := opI fun i j _ _ _ _ _ hc q => PyProof.Rows.pow_int hc.1 hc.2 q
theorem op_powM : OpR X (binaryOp .Pow) (rO2 en opPow) := by
  refine OpRimp op_powW fun x y H Q ⟨ρ, h, a, b, rel, ra, rb, v, h', e, k⟩ => ?_
  unfold opPow at e
  split at e
  · cases ra; cases rb
    split at e
    · rename_i hk
      exact ⟨_, _, rfl, rfl, hk, finO.here ⟨_, _, e, k⟩ rel rfl⟩
    · cases e
  · cases e
def opNeg : O1 := fun a h => match a with
  | .int i => some (.int (-i), h)
  | _ => none
theorem op_negM : UnR X (unaryOp .USub) (rO1 en opNeg) := fun pins s σ H x v Q I rx ⟨ρ, h, a, rel, ra, w, h', e, k⟩ => by
  unfold opNeg at e
  split at e
  · cases ra
    exact un_neg pins s σ H _ v Q I rx ⟨_, rfl, finO.here ⟨_, _, e, k⟩ rel rfl⟩
  · cases e
theorem PE.un {W : WX} {a : Expr} {ma : EM} {pos : Pos} {op : UnaryOp} {o : O1} (ho : UnR X (unaryOp op) (rO1 en o)) (ha : PE X a (tE en W ma)) : PE X (.UnaryOp op a pos) (tE en W (mO1 o ma)) :=
  PEimp (pe_un ho ha) fun σ H Q t => (tM.bind (R1 := RS en) (k := fun a ss h => lift (o a h)) t).imp fun x H1 ⟨ρ, ss, h, a, rel, rs, ra, f⟩ => ⟨ρ, h, a, rel, ra, f.lift⟩
/-! ### < <= > >= of ints (and <= of one-sign texts), is None -/
def opLt : O2 := fun a b h => match a, b with
  | .int i, .int j => some (.bl (decide (i < j)), h)
  | _, _ => none
def opLe : O2 := fun a b h => match a, b with
  | .int i, .int j => some (.bl (decide (i ≤ j)), h)
  | .str x, .str y => some (.bl (!decide (y.cps.toList < x.cps.toList)), h)
  | _, _ => none
def opGt : O2 := fun a b h => match a, b with
  | .int i, .int j => some (.bl (decide (j < i)), h)
  | _, _ => none
def opGe : O2 := fun a b h => match a, b with
  | .int i, .int j => some (.bl (decide (j ≤ i)), h)
  | _, _ => none
theorem op_ltM : OpR X (compareOp .Lt) (rO2 en opLt) := by
  refine OpRimp op_lt fun x y H Q ⟨ρ, h, a, b, rel, ra, rb, v, h', e, k⟩ => ?_
  unfold opLt at e
  split at e
  · cases ra; cases rb
    exact ⟨_, _, rfl, rfl, finO.here ⟨_, _, e, k⟩ rel rfl⟩
  · cases e
theorem op_gtM : OpR X (compareOp .Gt) (rO2 en opGt) := by
  refine OpRimp op_gt fun x y H Q ⟨ρ, h, a, b, rel, ra, rb, v, h', e, k⟩ => ?_
  unfold opGt at e
  split at e
  · cases ra; cases rb
    exact ⟨_, _, rfl, rfl, finO.here ⟨_, _, e, k⟩ rel rfl⟩
  · cases e
theorem op_geM : OpR X (compareOp .GtE) (rO2 en opGe) := by
  refine OpRimp op_ge fun x y H Q ⟨ρ, h, a, b, rel, ra, rb, v, h', e, k⟩ => ?_
  unfold opGe at e
  split at e
  · cases ra; cases rb
    exact ⟨_, _, rfl, rfl, finO.here ⟨_, _, e, k⟩ rel rfl⟩
  · cases e
theorem op_leM : OpR X (compareOp .LtE) (rO2 en opLe) := by
  refine OpRimp (op_le.or op_le_str) fun x y H Q ⟨ρ, h, a, b, rel, ra, rb, v, h', e, k⟩ => ?_
  unfold opLe at e
  split at e
  · cases ra; cases rb
    exact .inl ⟨_, _, rfl, rfl, finO.here ⟨_, _, e, k⟩ rel rfl⟩
  · cases ra; cases rb
    exact .inr ⟨_, _, rfl, rfl, finO.here ⟨_, _, e, k⟩ rel rfl⟩
  · cases e
def opIsN : O2 := fun a b h => match b with
  | .non => some (.bl (decide (a = .non)), h)
  | _ => none
def opNotN : O2 := fun a b h => match b with
  | .non => some (.bl (!decide (a = .non)), h)
  | _ => none
theorem RS.non_iff {en : En} {ρ : List Addr} {a : SV} {x : V} (r : RS en ρ a x) : decide (a = .non) = decide (x = .non) := by
  cases a with
  | ref i => obtain ⟨p, _, rfl⟩ := r; rfl
  | scr ns => obtain ⟨rfl, _⟩ := r; rfl
  | _ => cases r; rfl
theorem op_isNM : OpR X (compareOp .Is) (rO2 en opIsN) := by
  refine OpRimp op_isN fun x y H Q ⟨ρ, h, a, b, rel, ra, rb, v, h', e, k⟩ => ?_
  unfold opIsN at e
  split at e
  · cases rb
    refine ⟨rfl, ?_⟩
    rw [← ra.non_iff]
    exact finO.here ⟨_, _, e, k⟩ rel rfl
  · cases e
theorem op_notNM : OpR X (compareOp .IsNot) (rO2 en opNotN) := by
  refine OpRimp op_notN fun x y H Q ⟨ρ, h, a, b, rel, ra, rb, v, h', e, k⟩ => ?_
  unfold opNotN at e
  split at e
  · cases rb
    refine ⟨rfl, ?_⟩
    rw [← ra.non_iff]
    exact finO.here ⟨_, _, e, k⟩ rel rfl
  · cases e
end
end Fw
namespace Fw
open PySem PySem.Spec L2
/-- an object's places read as data -/
def dataAll (f : SV → Option PyData) : List SV → Option (List PyData)
  | [] => some []
  | x :: xs => match f x with
    | none => none
    | some d => match dataAll f xs with
      | none => none
      | some ds => some (d :: ds)
def keyD : Key → PyData
  | .inl i => .int i
  | .inr x => .str x
def dataOf : Nat → SH → SV → Option PyData
  | 0, _, _ => none
  | n + 1, h, v => match v with
    | .non => some .none
    | .bl b => some (.bool b)
    | .int i => some (.int i)
    | .str x => some (.str x)
    | .scr _ => none
    | .ref i => match h[i]? with
      | some (.lst xs) => (dataAll (dataOf n h) xs).map .list
      | some (.tup xs) => (dataAll (dataOf n h) xs).map .tuple
      | some (.dK kvs) => (dataAll (dataOf n h) (kvs.map (·.2))).map fun ds => .dict ((kvs.map fun p => keyD p.1).zip ds)
      | _ => none
theorem paired_map {α β γ δ : Type} {R : α → β → Prop} {R' : γ → δ → Prop} {f : α → γ} {g : β → δ} (k : ∀ a b, R a b → R' (f a) (g b)) : ∀ {xs : List α} {ys : List β}, Paired R xs ys → Paired R' (xs.map f) (ys.map g)
  | _, _, .nil => .nil
  | _, _, .cons r t => .cons (k _ _ r) (paired_map k t)
theorem paired_eq {α : Type} : ∀ {xs ys : List α}, Paired Eq xs ys → xs = ys
  | _, _, .nil => rfl
  | _, _, .cons r t => by rw [r, paired_eq t]
theorem readsAll_len {h : Heap} : ∀ {vs : List Value} {ds : List PyData} {as : List Addr}, ReadsAll h vs ds as → vs.length = ds.length
  | _, _, _, .nil => rfl
  | _, _, _, .cons _ t => by rw [List.length_cons, List.length_cons, readsAll_len t]
section
variable {X : Cx} {en : En} {pins : List (Addr × Obj)} {σ : L2.St} {H : Hp} {s : Shared} {ρ : List Addr} {h : SH}
theorem pairs_keys {P : Program} {w : World} : ∀ {es : List DictEntry} {kvs : List (Key × Value)}, Pairs (mixKind P w) es kvs → ReadsAll s.heap (es.map (·.key)) (kvs.map fun p => keyD p.1) []
  | _, _, .nil => .nil
  | e :: es, (k, v) :: kvs, .cons hk hv t => by
    have r : Reads s.heap e.key (keyD k) [] := by
      have hk' : keyIs k e.key = true := hk
      rcases keyIs_shape hk' with ⟨i, u, e1, e2⟩ | ⟨x, u, e1, e2⟩
      · have e1' : k = .inl i := e1
        subst e1'; rw [e2]; exact Reads.int i u
      · have e1' : k = .inr x := e1
        subst e1'; rw [e2]; exact Reads.str x u
    exact ReadsAll.cons r (pairs_keys t)
theorem pairs_vals {P : Program} {w : World} : ∀ {es : List DictEntry} {kvs : List (Key × Value)}, Pairs (mixKind P w) es kvs → es.map (·.val) = kvs.map (·.2)
  | _, _, .nil => rfl
  | e :: es, (k, v) :: kvs, .cons hk hv t => by
    show e.val :: es.map (·.val) = v :: kvs.map (·.2)
    rw [pairs_vals t, hv]
/-- the trackable places of data are not sys.modules -/
theorem reads_of (I : Inv X pins σ H s) (hsm : ∃ o, X.base.get? sysModules = some o) (rel : Rel en ρ h H) : ∀ (n : Nat) (v : SV) (d : PyData) (x : V) (u : Value), dataOf n h v = some d → RS en ρ v x → RelV x u → ∃ as, Reads s.heap u d as ∧ sysModules ∉ as := by
  have ns : ∀ a o, H a = some o → a ≠ sysModules := fun a o e z => by
    obtain ⟨ob, eb⟩ := hsm
    have := (I.bs _ _ eb).2
    rw [← z, e] at this; cases this
  intro n
  induction n with
  | zero => intro v d x u e; cases e
  | succ n ih =>
    have all : ∀ (vs : List SV) (ds : List PyData) (xs : List V) (us : List Value), dataAll (dataOf n h) vs = some ds → RSs en ρ vs xs → Vals xs us → ∃ as, ReadsAll s.heap us ds as ∧ sysModules ∉ as := by
      intro vs
      induction vs with
      | nil => intro ds xs us e r r2; cases r; cases r2; cases e; exact ⟨_, .nil, by simp⟩
      | cons v vs ihv =>
        intro ds xs us e r r2
        cases r with
        | cons r rt =>
          cases r2 with
          | cons r2 rt2 =>
            unfold dataAll at e
            split at e
            · cases e
            · rename_i d ed
              split at e
              · cases e
              · rename_i ds' eds
                cases e
                obtain ⟨as, q1, n1⟩ := ih _ _ _ _ ed r r2
                obtain ⟨bs, q2, n2⟩ := ihv _ _ _ eds rt rt2
                exact ⟨_, .cons q1 q2, by simp [n1, n2]⟩
    intro v d x u e r r2
    unfold dataOf at e
    split at e
    · cases e; cases r; cases r2; exact ⟨_, Reads.none, by simp⟩
    · cases e; cases r; cases r2; exact ⟨_, Reads.bool _, by simp⟩
    · cases e; cases r; obtain ⟨t, rfl⟩ := r2; exact ⟨_, Reads.int _ t, by simp⟩
    · cases e; cases r; obtain ⟨t, rfl⟩ := r2; exact ⟨_, Reads.str _ t, by simp⟩
    · cases e
    · split at e
      · rename_i xs ei
        obtain ⟨p, vs, rfl, ep, e1, r1⟩ := rel.lst ei r
        cases r2
        cases eds : dataAll (dataOf n h) xs with
        | none => rw [eds] at e; cases e
        | some ds =>
          rw [eds] at e; cases e
          obtain ⟨its, rv, ⟨o, n', ho, hc, _, hd⟩, _⟩ := I.list (SqL.of (K := X.K) e1)
          obtain ⟨as, hr, hn⟩ := all _ _ _ _ eds r1 rv
          exact ⟨_, Reads.list ho hc hd hr, by simp [hn]; exact fun z => ns _ _ e1 z.symm⟩
      · rename_i xs ei
        obtain ⟨p, vs, rfl, ep, e1, r1⟩ := rel.tup ei r
        cases r2
        cases eds : dataAll (dataOf n h) xs with
        | none => rw [eds] at e; cases e
        | some ds =>
          rw [eds] at e; cases e
          obtain ⟨its, rv, ⟨o, ho, hc, n', hd⟩, _⟩ := I.tuple (SqT.of (K := X.K) e1)
          obtain ⟨as, hr, hn⟩ := all _ _ _ _ eds r1 rv
          exact ⟨_, Reads.tuple ho hc hd hr, hn⟩
      · rename_i kvs ei
        obtain ⟨p, ep, rfl⟩ := r
        obtain ⟨kws, e1, r1⟩ := rel.at2 ep ei
        cases r2
        cases eds : dataAll (dataOf n h) (kvs.map (·.2)) with
        | none => rw [eds] at e; cases e
        | some ds =>
          rw [eds] at e; cases e
          obtain ⟨_, hsm', vs, rv, o, es, epp, ho, hx, hd, _, hp, _⟩ := dk_of I.hok e1
          have rs : RSs en ρ (kvs.map (·.2)) (kws.map (·.2)) := paired_map (fun _ _ q => q.2) r1
          have rvs : Vals (kws.map (·.2)) (vs.map (·.2)) := paired_map (fun _ _ q => q.2) rv
          have ks : (kvs.map fun p => keyD p.1) = vs.map fun p => keyD p.1 := by
            have k1 : kvs.map (·.1) = kws.map (·.1) := paired_eq (paired_map (fun _ _ q => q.1) r1)
            have k2 : kws.map (·.1) = vs.map (·.1) := paired_eq (paired_map (fun _ _ q => q.1) rv)
            have k3 := congrArg (List.map keyD) (k1.trans k2)
            rw [List.map_map, List.map_map] at k3
            exact k3
          obtain ⟨as, hr, hn⟩ := all _ _ _ _ eds rs rvs
          have hl : ds.length = (vs.map fun p => keyD p.1).length := by
            have l1 := readsAll_len hr
            rw [List.length_map] at l1 ⊢
            exact l1.symm
          refine ⟨_, Reads.dict (kvs := (kvs.map fun p => keyD p.1).zip ds) (as := []) (bs := as) ho hx.1 hd ?_ ?_, ?_⟩
          · rw [ks, List.map_fst_zip (by omega)]
            exact pairs_keys hp
          · rw [ks, List.map_snd_zip (by omega), pairs_vals hp]
            exact hr
          · simp [hn]; exact fun z => ns _ _ e1 z.symm
      · cases e
/-! ### ==, !=, repr of data -/
def eqD (neg : Bool) : O2 := fun a b h => match dataOf 64 h a, dataOf 64 h b with
  | some d, some e => if (SeqAt.shaped d && SeqAt.shaped e) = true then some (.bl (if neg = true then !PyData.eqv d e else PyData.eqv d e), h) else none
  | _, _ => none
theorem op_eqM (hsm : ∃ o, X.base.get? sysModules = some o) (hu : X.A.units + 64 < cLine) : OpR X (compareOp .Eq) (rO2 en (eqD false)) := by
  intro pins s σ H x y v u Q I rx ry ⟨ρ, h, a, b, rel, ra, rb, w, h', e, k⟩
  unfold eqD at e
  split at e
  · rename_i d e' ed ee
    split at e
    · rename_i hs
      obtain ⟨as, r1, _⟩ := reads_of I hsm rel _ _ _ _ _ ed ra rx
      obtain ⟨bs, r2, _⟩ := reads_of I hsm rel _ _ _ _ _ ee rb ry
      have z := Bool.and_eq_true_iff.mp hs
      exact SeqAt.compareEq_shaped r1 r2 z.1 z.2 hu ⟨.bl _, H, I, rfl, finO.here ⟨_, _, e, k⟩ rel rfl⟩
    · cases e
  · cases e
theorem op_neM (hsm : ∃ o, X.base.get? sysModules = some o) (hu : X.A.units + 64 < cLine) : OpR X (compareOp .NotEq) (rO2 en (eqD true)) := by
  intro pins s σ H x y v u Q I rx ry ⟨ρ, h, a, b, rel, ra, rb, w, h', e, k⟩
  unfold eqD at e
  split at e
  · rename_i d e' ed ee
    split at e
    · rename_i hs
      obtain ⟨as, r1, _⟩ := reads_of I hsm rel _ _ _ _ _ ed ra rx
      obtain ⟨bs, r2, _⟩ := reads_of I hsm rel _ _ _ _ _ ee rb ry
      have z := Bool.and_eq_true_iff.mp hs
      exact SeqAt.compareNe_shaped r1 r2 z.1 z.2 hu ⟨.bl _, H, I, rfl, finO.here ⟨_, _, e, k⟩ rel rfl⟩
    · cases e
  · cases e
def opRepr : O1 := fun a h => match dataOf 64 h a with
  | some d => if d.showable = true ∧ d.depth ≤ 64 ∧ d.shown.length ≤ big then some (.str d.shown, h) else none
  | none => none
def un1 (o : O1) : OA := fun as h => match as with
  | [a] => o a h
  | _ => none
def bin2 (o : O2) : OA := fun as h => match as with
  | [a, b] => o a b h
  | _ => none
theorem vals1' {en : En} {ρ : List Addr} {a : SV} {xs : List V} {us : List Value} (r : RSs en ρ [a] xs) (r2 : Vals xs us) : ∃ x u, xs = [x] ∧ us = [u] ∧ RS en ρ a x ∧ RelV x u := by
  cases r with
  | cons r t =>
    cases t
    cases r2 with
    | cons r2 t2 =>
      cases t2
      exact ⟨_, _, rfl, rfl, r, r2⟩
theorem call_reprM (hsm : ∃ o, X.base.get? sysModules = some o) (hg : X.A.guards = some []) (hu : X.A.units + 66 < cLine) : CallR X (.builtin "repr") (rOA en (un1 opRepr)) := by
  intro pins s σ H xs us Q I r ⟨ρ, h, as, rel, ra, w, h', e, k⟩
  unfold un1 at e
  split at e
  · rename_i a
    obtain ⟨x, u, rfl, rfl, rx, ru⟩ := vals1' ra r
    unfold opRepr at e
    split at e
    · rename_i d ed
      split at e
      · rename_i hs
        obtain ⟨hs1, hs2, hs3⟩ := hs
        have hsz : d.shown.length ≤ sizeLine := by rw [big_eq]; exact hs3
        obtain ⟨bs, r1, n1⟩ := reads_of I hsm rel _ _ _ _ _ ed rx ru
        have fin : ∀ (u : Tok) (s' : Shared), Inv X pins σ H s' → EP X pins σ Q (.str d.shown u) s' := fun u s' I' => ⟨.str _, H, I', ⟨u, rfl⟩, finO.here ⟨_, _, e, k⟩ rel rfl⟩
        cases r1 with
        | none => exact PySem.P.repr_of_none (fin _ _ (I.tok _))
        | bool b => exact PySem.P.repr_of_bool (fin _ _ (I.tok _))
        | int i t => exact PySem.P.repr_of_int (by simpa [PyData.showable] using hs1) (fin _ _ (I.tok _))
        | str z t => exact PySem.P.repr_of_str (fin _ _ (I.tok _)) 
        | list h1 h2 h3 h4 => exact PySem.repr_of_reads' (Reads.list h1 h2 h3 h4) hs1 (fun _ => n1) hg (by omega) (fun _ _ z => z) (fun h' u tk hk => fin u _ (I.kept (t' := tk) hk)) hsz
        | tuple h1 h2 h3 h4 => exact PySem.repr_of_reads' (Reads.tuple h1 h2 h3 h4) hs1 (fun _ => n1) hg (by omega) (fun _ _ z => z) (fun h' u tk hk => fin u _ (I.kept (t' := tk) hk)) hsz
        | dict h1 h2 h3 h4 h5 => exact PySem.repr_of_reads' (Reads.dict h1 h2 h3 h4 h5) hs1 (fun _ => n1) hg (by omega) (fun _ _ z => z) (fun h' u tk hk => fin u _ (I.kept (t' := tk) hk)) hsz
      · cases e
    · cases e
  · cases e
end
end Fw
namespace Fw
open PySem PySem.Spec L2
section
variable {X : Cx} {en : En} {W : WX} {a b c : Expr} {ma mb mc : EM} {ta tb : BM} {pos : Pos} {rest : List Expr}
/-- from a meaning's reading to the reading of its first part, the places kept -/
theorem tM.bind2 {α β γ δ : Type} {R1 : List Addr → α → β → Prop} {R2 : List Addr → γ → δ → Prop} {m1 : SS → SH → Res α} {k : α → SS → SH → Res γ} {σ : L2.St} {H : Hp} {Q : δ → Hp → Prop} {Q' : β → Hp → Prop}
    (t : tM en W R2 (fun ss h => (m1 ss h).bind fun a h1 => k a ss h1) σ H Q)
    (f : ∀ ρ ss h a b H1, Rel en ρ h H1 → RSl en ρ ss σ → R1 ρ a b → fin en W R2 σ ρ (k a ss h) Q → Q' b H1) : tM en W R1 m1 σ H Q' :=
  (tM.bind (R1 := R1) t).imp fun b H1 ⟨ρ, ss, h, a, rel, rs, ra, q⟩ => f ρ ss h a b H1 rel rs ra q
/-! ### and, or, not, if else, as values and as tests -/
def mAnd (ma mb : EM) : EM := fun ss h => (ma ss h).bind fun v h1 => match v with
  | .bl true => mb ss h1
  | .bl false => .ok (.bl false) h1
  | _ => .stuck
def mOr (ma mb : EM) : EM := fun ss h => (ma ss h).bind fun v h1 => match v with
  | .bl true => .ok (.bl true) h1
  | .bl false => mb ss h1
  | _ => .stuck
def mNot (ma : EM) : EM := fun ss h => (ma ss h).bind fun v h1 => match v with
  | .bl b => .ok (.bl (!b)) h1
  | _ => .stuck
def mIf (ta : BM) (ma mb : EM) : EM := fun ss h => (ta ss h).bind fun b h1 => if b = true then ma ss h1 else mb ss h1
def bAnd (ta tb : BM) : BM := fun ss h => (ta ss h).bind fun b h1 => if b = true then tb ss h1 else .ok false h1
def bOr (ta tb : BM) : BM := fun ss h => (ta ss h).bind fun b h1 => if b = true then .ok true h1 else tb ss h1
def bNot (ta : BM) : BM := fun ss h => (ta ss h).bind fun b h1 => .ok (!b) h1
theorem PE.and1 {op : PySem.BoolOp} (h : PE X a (tE en W ma)) : PE X (.BoolOp op [a] pos) (tE en W ma) := pe_one h
theorem PE.and (ha : PE X a (tE en W ma)) (hb : PE X (.BoolOp .And (b :: rest) pos) (tE en W mb)) : PE X (.BoolOp .And (a :: b :: rest) pos) (tE en W (mAnd ma mb)) :=
  PEimp (pe_and ha hb) fun σ H Q t => tM.bind2 (R1 := RS en) (k := fun v ss h1 => match v with | .bl true => mb ss h1 | .bl false => .ok (.bl false) h1 | _ => .stuck) t fun ρ ss h v x H1 rel rs r f => by
    cases v with
    | bl b =>
      cases r
      cases b with
      | true => exact ⟨true, rfl, ρ, ss, h, rel, rs, f⟩
      | false => exact ⟨false, rfl, f ρ H1 _ (Pre.refl ρ) rel rfl⟩
    | _ => exact f.elim
theorem PE.or (ha : PE X a (tE en W ma)) (hb : PE X (.BoolOp .Or (b :: rest) pos) (tE en W mb)) : PE X (.BoolOp .Or (a :: b :: rest) pos) (tE en W (mOr ma mb)) :=
  PEimp (pe_or ha hb) fun σ H Q t => tM.bind2 (R1 := RS en) (k := fun v ss h1 => match v with | .bl true => .ok (.bl true) h1 | .bl false => mb ss h1 | _ => .stuck) t fun ρ ss h v x H1 rel rs r f => by
    cases v with
    | bl b =>
      cases r
      cases b with
      | true => exact ⟨true, rfl, f ρ H1 _ (Pre.refl ρ) rel rfl⟩
      | false => exact ⟨false, rfl, ρ, ss, h, rel, rs, f⟩
    | _ => exact f.elim
theorem PE.not (ha : PE X a (tE en W ma)) : PE X (.UnaryOp .Not a pos) (tE en W (mNot ma)) :=
  PEimp (pe_not ha) fun σ H Q t => tM.bind2 (R1 := RS en) (R2 := RS en) (k := fun v (ss : SS) h1 => match v with | .bl b => (Res.ok (SV.bl (!b)) h1 : Res SV) | _ => .stuck) t fun ρ ss h v x H1 rel rs r f => by
    cases v with
    | bl b => cases r; exact ⟨b, rfl, f ρ H1 _ (Pre.refl ρ) rel rfl⟩
    | _ => exact f.elim
theorem PE.ifx (hc : PT X c (tT en W ta)) (ha : PE X a (tE en W ma)) (hb : PE X b (tE en W mb)) : PE X (.IfExp c a b pos) (tE en W (mIf ta ma mb)) :=
  PEimp (pe_ifExp hc ha hb) fun σ H Q t => tM.bind2 (R1 := RB) (k := fun b ss h1 => if b = true then ma ss h1 else mb ss h1) t fun ρ ss h v x H1 rel rs r f => by
    cases r
    cases v with
    | true => exact ⟨ρ, ss, h, rel, rs, f⟩
    | false => exact ⟨ρ, ss, h, rel, rs, f⟩
theorem PW.and1 (ha : PT X a (tT en W ta)) : PW X (.BoolOp .And [a] pos) (tT en W ta) := pw_and1 ha
theorem PW.or1 (ha : PT X a (tT en W ta)) : PW X (.BoolOp .Or [a] pos) (tT en W ta) := pw_or1 ha
theorem PW.and (ha : PT X a (tT en W ta)) (hb : PW X (.BoolOp .And (b :: rest) pos) (tT en W tb)) : PW X (.BoolOp .And (a :: b :: rest) pos) (tT en W (bAnd ta tb)) :=
  PWimp (pw_and ha hb) fun σ H Q t => tM.bind2 (R1 := RB) (k := fun b ss h1 => if b = true then tb ss h1 else .ok false h1) t fun ρ ss h v x H1 rel rs r f => by
    cases r
    cases v with
    | true => exact ⟨ρ, ss, h, rel, rs, f⟩
    | false => exact f ρ H1 _ (Pre.refl ρ) rel rfl
theorem PW.or (ha : PT X a (tT en W ta)) (hb : PW X (.BoolOp .Or (b :: rest) pos) (tT en W tb)) : PW X (.BoolOp .Or (a :: b :: rest) pos) (tT en W (bOr ta tb)) :=
  PWimp (pw_or ha hb) fun σ H Q t => tM.bind2 (R1 := RB) (k := fun b ss h1 => if b = true then .ok true h1 else tb ss h1) t fun ρ ss h v x H1 rel rs r f => by
    cases r
    cases v with
    | true => exact f ρ H1 _ (Pre.refl ρ) rel rfl
    | false => exact ⟨ρ, ss, h, rel, rs, f⟩
theorem PT.not (ha : PT X a (tT en W ta)) : PT X (.UnaryOp .Not a pos) (tT en W (bNot ta)) :=
  PTimp (pt_not ha) fun σ H Q t => tM.bind2 (R1 := RB) (k := fun b ss h1 => .ok (!b) h1) t fun ρ ss h v x H1 rel rs r f => by
    cases r
    exact f ρ H1 _ (Pre.refl ρ) rel rfl
/-! ### a < b < c -/
def mChain (o1 o2 : O2) (ma mb mc : EM) : EM := fun ss h => (ma ss h).bind fun x h1 => (mb ss h1).bind fun y h2 => (lift (o1 x y h2)).bind fun z h3 => match z with
  | .bl true => (mc ss h3).bind fun w h4 => lift (o2 y w h4)
  | .bl false => .ok (.bl false) h3
  | _ => .stuck
theorem chain_read {o1 o2 : O2} (σ : L2.St) (H : Hp) (Q : VK) (t : tE en W (mChain o1 o2 ma mb mc) σ H Q) : tChain (rO2 en o1) (rO2 en o2) (tE en W ma) (tE en W mb) (tE en W mc) σ H Q := by
    obtain ⟨ρ, ss, h, rel, rs, f⟩ := t
    refine ⟨ρ, ss, h, rel, rs, ?_⟩
    unfold mChain at f
    cases e : ma ss h with
    | stuck => simp only [e, Res.bind, fin] at f
    | ex cc xs h1 => simp only [e, Res.bind, fin] at f; exact f
    | ok x h1 =>
      simp only [e, Res.bind] at f
      intro ρ1 H1 u p1 rel1 ru
      refine ⟨ρ1, ss, h1, rel1, rs.mono p1, ?_⟩
      cases e2 : mb ss h1 with
      | stuck => simp only [e2, fin] at f
      | ex cc xs h1 => simp only [e2, fin] at f ⊢; exact fun ρ' H cls d p => f ρ' H cls d (p1.trans p)
      | ok y h2 =>
        simp only [e2] at f
        intro ρ2 H2 v p2 rel2 rv
        refine ⟨ρ2, h2, x, y, rel2, ru.mono p2, rv, ?_⟩
        cases e3 : o1 x y h2 with
        | none => simp only [e3, lift, fin] at f
        | some q =>
          obtain ⟨z, h3⟩ := q
          simp only [e3, lift] at f
          refine ⟨z, h3, rfl, fun ρ3 H3 w p3 rel3 rw' => ?_⟩
          cases z with
          | bl k =>
            cases rw'
            cases k with
            | false => exact ⟨false, rfl, f ρ3 H3 _ ((p1.trans p2).trans p3) rel3 rfl⟩
            | true =>
              refine ⟨true, rfl, ρ3, ss, h3, rel3, ((rs.mono p1).mono p2).mono p3, ?_⟩
              have f' := (f : fin en W (RS en) σ ρ ((mc ss h3).bind fun w h4 => lift (o2 y w h4)) Q)
              cases e4 : mc ss h3 with
              | stuck => simp only [e4, Res.bind, fin] at f'
              | ex cc xs h1 => simp only [e4, Res.bind, fin] at f' ⊢; exact fun ρ' H cls d p => f' ρ' H cls d (((p1.trans p2).trans p3).trans p)
              | ok w' h4 =>
                simp only [e4, Res.bind] at f'
                intro ρ4 H4 uu p4 rel4 ruu
                exact ⟨ρ4, h4, y, w', rel4, (rv.mono p3).mono p4, ruu, ((f'.mono (((p1.trans p2).trans p3).trans p4))).lift⟩
          | _ => exact (f : False).elim
theorem PE.chain {op op' : CmpOp} {o1 o2 : O2} (h1 : OpR X (compareOp op) (rO2 en o1)) (h2 : OpR X (compareOp op') (rO2 en o2)) (ha : PE X a (tE en W ma)) (hb : PE X b (tE en W mb)) (hc : PE X c (tE en W mc))
    (hm : lastMarks [op, op'] [b, c] = false := by with_unfolding_all rfl) : PE X (.Compare a [op, op'] [b, c] pos) (tE en W (mChain o1 o2 ma mb mc)) :=
  PEimp (pe_chain h1 h2 ha hb hc hm) fun σ H Q t => chain_read σ H Q t
theorem PT.chain {op op' : CmpOp} {o1 o2 : O2} (h1 : OpR X (compareOp op) (rO2 en o1)) (h2 : OpR X (compareOp op') (rO2 en o2)) (ha : PE X a (tE en W ma)) (hb : PE X b (tE en W mb)) (hc : PE X c (tE en W mc))
    (hm : lastMarks [op, op'] [b, c] = false := by with_unfolding_all rfl) : PT X (.Compare a [op, op'] [b, c] pos) (tT en W (mB (mChain o1 o2 ma mb mc))) :=
  PTimp (pt_chain h1 h2 ha hb hc hm) fun σ H Q t => chain_read σ H _ (tBool σ H Q t)
theorem PT.cmp {op : CmpOp} {o : O2} (ho : OpR X (compareOp op) (rO2 en o)) (ha : PE X a (tE en W ma)) (hb : PE X b (tE en W mb)) (hm : behindInMarks op b = false) : PT X (.Compare a [op] [b] pos) (tT en W (mB (mO2 o ma mb))) :=
  PTimp (pt_cmpR ho ha hb hm) fun σ H Q t => tO2 σ H _ (tBool σ H Q t)
/-! ### arguments -/
def aNil : AM := fun _ h => .ok [] h
def aCons (ma : EM) (mr : AM) : AM := fun ss h => (ma ss h).bind fun x h1 => (mr ss h1).bind fun xs h2 => .ok (x :: xs) h2
theorem PA.nil : PA X [] (tA en W aNil) := PAimp pa_nil fun σ H Q ⟨ρ, ss, h, rel, rs, f⟩ => f ρ H [] (Pre.refl ρ) rel .nil
theorem PA.cons {es : List Expr} {mr : AM} (ha : PE X a (tE en W ma)) (hr : PA X es (tA en W mr)) (hs : starEach (a :: es) X.env = (false, eval a X.env) :: starEach es X.env := by rfl) : PA X (a :: es) (tA en W (aCons ma mr)) :=
  PAimp (pa_cons ha hr hs) fun σ H Q t => by
    obtain ⟨ρ, ss, h, rel, rs, f⟩ := t
    refine ⟨ρ, ss, h, rel, rs, ?_⟩
    unfold aCons at f
    cases e : ma ss h with
    | stuck => simp only [e, Res.bind, fin] at f
    | ex cc xs h1 => simp only [e, Res.bind, fin] at f; exact f
    | ok x h1 =>
      simp only [e, Res.bind] at f
      intro ρ1 H1 u p1 rel1 ru
      refine ⟨ρ1, ss, h1, rel1, rs.mono p1, ?_⟩
      cases e2 : mr ss h1 with
      | stuck => simp only [e2, fin] at f
      | ex cc xs h1 => simp only [e2, fin] at f ⊢; exact fun ρ' H cls d p => f ρ' H cls d (p1.trans p)
      | ok ys h2 =>
        simp only [e2] at f
        exact fun ρ2 H2 v p2 rel2 rv => f ρ2 H2 _ (p1.trans p2) rel2 (.cons (ru.mono p2) rv)
/-- an operation on an argument list -/
theorem tOA {op : OA} {m : AM} (σ : L2.St) (H : Hp) (Q : VK) (t : tE en W (mOA op m) σ H Q) : tA en W m σ H fun xs H1 => rOA en op xs H1 Q :=
  tM.bind2 (R1 := RSs en) (k := fun as ss h1 => lift (op as h1)) t fun ρ ss h as xs H1 rel rs r f => ⟨ρ, h, as, rel, r, f.lift⟩
theorem PE.callB {x : Str} {id : String} {op : OA} {e : Expr} {es : List Expr} {m : AM} {p : Pos} (hc : CallR X (.builtin id) (rOA en op)) (hg : Gl X x) (hm : X.mg x = none) (hv : bootBuiltins x = some (.builtin id)) (ha : PA X (e :: es) (tA en W m)) (hn : x ≠ "__name__" := by decide) (hdb : (x == ("__debug__" : Str)) = false := by decide)
    (he : starEach (e :: es) X.env = (false, eval e X.env) :: starEach es X.env := by rfl) (hpl : (backTo pos (starEach es X.env)).any (·.1) = false := by rfl) : PE X (.Call (.Name x p) (e :: es) [] pos) (tE en W (mOA op m)) :=
  PEimp (pe_callB hc hg hm hv ha hn hdb he hpl) fun σ H Q t => tOA σ H Q t
theorem PE.callTy {x : Str} {T : String} {op : OA} {e : Expr} {es : List Expr} {m : AM} {p : Pos} (hc : CallR X (.type T) (rOA en op)) (hg : Gl X x) (hm : X.mg x = none) (hv : bootBuiltins x = some (.type T)) (ha : PA X (e :: es) (tA en W m)) (hn : x ≠ "__name__" := by decide) (hdb : (x == ("__debug__" : Str)) = false := by decide)
    (he : starEach (e :: es) X.env = (false, eval e X.env) :: starEach es X.env := by rfl) (hpl : (backTo pos (starEach es X.env)).any (·.1) = false := by rfl) : PE X (.Call (.Name x p) (e :: es) [] pos) (tE en W (mOA op m)) :=
  PEimp (pe_callTy hc hg hm hv ha hn hdb he hpl) fun σ H Q t => tOA σ H Q t
/-- displays -/
def opLst : OA := fun as h => if as.length ≤ big then alloc (.lst as) h else none
def opTup : OA := fun as h => if as.length ≤ big then alloc (.tup as) h else none
theorem PE.lst {es : List Expr} {m : AM} (ha : PA X es (tA en W m)) : PE X (.List es pos) (tE en W (mOA opLst m)) :=
  PEimp (pe_lst ha) fun σ H Q t => tM.imp (tOA σ H Q t) fun xs H1 ⟨ρ, h, as, rel, r, v, h', e, k⟩ => by
    unfold opLst at e
    split at e
    · exact ⟨by rw [big_eq, ← r.len]; assumption, finO.newLst ⟨_, _, e, k⟩ rel r⟩
    · cases e
theorem PE.tup {es : List Expr} {m : AM} {x1 : Nat} (ha : PA X es (tA en W m)) : PE X (.Tuple es x1 pos) (tE en W (mOA opTup m)) :=
  PEimp (pe_tup ha) fun σ H Q t => tM.imp (tOA σ H Q t) fun xs H1 ⟨ρ, h, as, rel, r, v, h', e, k⟩ => by
    unfold opTup at e
    split at e
    · exact ⟨by rw [big_eq, ← r.len]; assumption, finO.newTup ⟨_, _, e, k⟩ rel r⟩
    · cases e
end
end Fw
namespace Fw
open PySem PySem.Spec L2
/-! ### dicts -/
section
variable {κ : Type} [DecidableEq κ]
def getS (kvs : List (κ × SV)) (k : κ) : Option SV := (kvs.find? fun kv => decide (kv.1 = k)).map (·.2)
def putS (kvs : List (κ × SV)) (k : κ) (v : SV) : List (κ × SV) :=
  if (kvs.any fun kv => decide (kv.1 = k)) = true then kvs.map (fun kv => if kv.1 = k then (kv.1, v) else kv) else kvs ++ [(k, v)]
abbrev RK (en : En) (ρ : List Addr) : List (κ × SV) → List (κ × V) → Prop := Paired (fun p q => p.1 = q.1 ∧ RS en ρ p.2 q.2)
theorem RK.get {en : En} {ρ : List Addr} {k : κ} : ∀ {kvs : List (κ × SV)} {kws : List (κ × V)}, RK en ρ kvs kws → (∀ x, getS kvs k = some x → ∃ v, valV kws k = some v ∧ RS en ρ x v) ∧ (getS kvs k = none → valV kws k = none)
  | _, _, .nil => ⟨fun x e => by simp [getS] at e, fun _ => rfl⟩
  | p :: kvs, q :: kws, .cons r t => by
    by_cases h : p.1 = k
    · have h2 : q.1 = k := by rw [← r.1]; exact h
      refine ⟨fun x e => ?_, fun e => ?_⟩
      · simp [getS, List.find?_cons, h] at e
        exact ⟨q.2, valV_pos h2, e ▸ r.2⟩
      · simp [getS, List.find?_cons, h] at e
    · have h2 : ¬ q.1 = k := by rw [← r.1]; exact h
      have e1 : getS (p :: kvs) k = getS kvs k := by simp [getS, List.find?_cons, h]
      rw [e1, valV_neg h2]
      exact RK.get t
theorem RK.any {en : En} {ρ : List Addr} {k : κ} : ∀ {kvs : List (κ × SV)} {kws : List (κ × V)}, RK en ρ kvs kws → (kvs.any fun kv => decide (kv.1 = k)) = (kws.any fun kv => decide (kv.1 = k))
  | _, _, .nil => rfl
  | p :: kvs, q :: kws, .cons r t => by rw [List.any_cons, List.any_cons, r.1, RK.any t]
theorem RK.app {en : En} {ρ : List Addr} {k : κ} {x : SV} {v : V} (h : RS en ρ x v) : ∀ {kvs : List (κ × SV)} {kws : List (κ × V)}, RK en ρ kvs kws → RK en ρ (kvs ++ [(k, x)]) (kws ++ [(k, v)])
  | _, _, .nil => .cons ⟨rfl, h⟩ .nil
  | _, _, .cons r t => .cons r (RK.app h t)
theorem RK.put {en : En} {ρ : List Addr} {k : κ} {x : SV} {v : V} (h : RS en ρ x v) {kvs : List (κ × SV)} {kws : List (κ × V)} (r : RK en ρ kvs kws) : RK en ρ (putS kvs k x) (putK kws k v) := by
  unfold putS putK
  rw [r.any]
  split
  · refine paired_map (fun p q z => ?_) r
    by_cases e : p.1 = k
    · have e2 : q.1 = k := by rw [← z.1]; exact e
      rw [if_pos e, if_pos e2]; exact ⟨z.1, h⟩
    · have e2 : ¬ q.1 = k := by rw [← z.1]; exact e
      rw [if_neg e, if_neg e2]; exact z
  · exact RK.app h r
end
def keyOf : SV → Option Key
  | .int i => some (.inl i)
  | .str x => some (.inr x)
  | _ => none
def keysOf : List SV → Option (List Key)
  | [] => some []
  | x :: xs => match keyOf x with
    | none => none
    | some k => match keysOf xs with
      | none => none
      | some ks => some (k :: ks)
theorem keyOf_rel {en : En} {ρ : List Addr} {a : SV} {v : V} {k : Key} (e : keyOf a = some k) (r : RS en ρ a v) : v = kV k := by
  cases a with
  | int i => cases e; cases r; rfl
  | str x => cases e; cases r; rfl
  | _ => cases e
theorem keysOf_rel {en : En} {ρ : List Addr} : ∀ {xs : List SV} {vs : List V} {ks : List Key}, keysOf xs = some ks → RSs en ρ xs vs → vs = ks.map kV
  | [], _, _, e, r => by cases r; cases e; rfl
  | x :: xs, _, _, e, r => by
    cases r with
    | cons r t =>
      unfold keysOf at e
      split at e
      · cases e
      · rename_i k ek
        split at e
        · cases e
        · rename_i ks eks
          cases e
          rw [List.map_cons, keyOf_rel ek r, keysOf_rel eks t]
/-- what a dict's object holds at a key; none: that can't be asked here -/
def dictGet (h : SH) (o : SO) (k : SV) : Option (Option SV) := match o with
  | .dK kvs => (keyOf k).map fun k => getS kvs k
  | .dT kvs => match k with
    | .ref j => match h[j]? with
      | some (.tup xs) => (keysOf xs).map fun ks => getS kvs ks
      | _ => none
    | _ => none
  | _ => none
section
variable {X : Cx} {en : En} {W : WX} {ρ : List Addr} {h : SH} {H : Hp}
theorem dictGet_rel (rel : Rel en ρ h H) {i : Nat} {o : SO} {a : Addr} {k : SV} {y : V} {r : Option SV} (eo : h[i]? = some o) (ea : ρ[i]? = some a) (e : dictGet h o k = some r) (ry : RS en ρ k y) :
    (∀ x, r = some x → ∃ v, DGet H a y (some v) ∧ RS en ρ x v) ∧ (r = none → DGet H a y none) := by
  unfold dictGet at e
  split at e
  · rename_i kvs
    obtain ⟨kws, e1, rk⟩ := rel.at2 ea eo
    cases ek : keyOf k with
    | none => rw [ek] at e; cases e
    | some kk =>
      rw [ek] at e
      cases e
      obtain rfl := keyOf_rel ek ry
      refine ⟨fun x hx => ?_, fun hn => ?_⟩
      · obtain ⟨v, ev, rv⟩ := (RK.get rk).1 x hx
        exact ⟨v, by rw [← ev]; exact DGet.k e1, rv⟩
      · rw [← (RK.get rk).2 hn]; exact DGet.k e1
  · rename_i kvs
    obtain ⟨kws, e1, rk⟩ := rel.at2 ea eo
    split at e
    · rename_i j
      split at e
      · rename_i xs ej
        cases ek : keysOf xs with
        | none => rw [ek] at e; cases e
        | some ks =>
          rw [ek] at e
          cases e
          obtain ⟨b, vs, rfl, eb, e2, rvs⟩ := rel.tup ej ry
          obtain rfl := keysOf_rel ek rvs
          refine ⟨fun x hx => ?_, fun hn => ?_⟩
          · obtain ⟨v, ev, rv⟩ := (RK.get rk).1 x hx
            exact ⟨v, by rw [← ev]; exact DGet.t e1 e2, rv⟩
          · rw [← (RK.get rk).2 hn]; exact DGet.t e1 e2
      · cases e
    · cases e
  · cases e
/-! ### a[b] -/
def atS {α : Type} (xs : List α) (i : Int) : Option α := atI xs i
theorem RSs.atI {xs : List SV} {vs : List V} (r : RSs en ρ xs vs) {i : Int} {x : SV} (e : L2.atI xs i = some x) : ∃ v, L2.atI vs i = some v ∧ RS en ρ x v := by
  unfold L2.atI at e ⊢
  rw [← r.len]
  cases q : L2.ixN xs.length i with
  | none => rw [q] at e; cases e
  | some j => rw [q] at e; exact r.get e
def opIx : O2 := fun a b h => match a with
  | .scr ns => match b with
    | .int i => match L2.atI ns i with
      | some n => some (.int n, h)
      | none => none
    | _ => none
  | .str z => match b with
    | .int i => if z.length ≤ big then match L2.atI z.cps.toList i with
      | some c => some (.str ⟨#[c]⟩, h)
      | none => none
      else none
    | _ => none
  | .ref i => match h[i]? with
    | some (.lst xs) => match b with
      | .int i => match L2.atI xs i with
        | some x => some (x, h)
        | none => none
      | _ => none
    | some (.tup xs) => match b with
      | .int i => match L2.atI xs i with
        | some x => some (x, h)
        | none => none
      | _ => none
    | some o => match dictGet h o b with
      | some (some x) => some (x, h)
      | _ => none
    | none => none
  | _ => none
theorem atI_map {α β : Type} (f : α → β) (xs : List α) (i : Int) : L2.atI (xs.map f) i = (L2.atI xs i).map f := by
  unfold L2.atI
  rw [List.length_map]
  cases L2.ixN xs.length i with
  | none => rfl
  | some j => simp
theorem subTail {A : Around} {E : Value → Shared → Prop} {s : Shared} {prog : Program} {w : World} {value slice : Expr} {o i : Value} {T id : String} {Q : Value → Shared → Prop} (hT : s.TypeIs o T) (hl : typeLookup (.type T) "__getitem__" = pure (some (.builtin id)))
    (hg : wpAny (model prog w) A (getItem o i) Q E s) (hs : subscripted slice false o i = operate [o, i] (getItem o i)) : wpAny (model prog w) A (PyProof.Rows.subscriptTail value slice o i) Q E s := by
  unfold PyProof.Rows.subscriptTail
  refine wpAny_bind ?_
  rw [getitemInPython_of_ne hT.not_modules]
  refine wpAny_bind (wpAny_specialOf hT hl ?_)
  have z : wpAny (model prog w) A (subscripted slice false o i) (fun r s2 => wpAny (model prog w) A (letTemporaryGo value o r >>= fun _ => pure r) Q E s2) E s := by
    rw [hs]
    exact wpAny_operating (wpAny_mono hg (fun r s2 hq => wpAny_bind (wpAny_letTemporaryGo (wpAny_pure hq))) fun _ _ x => x)
  first
    | exact wpAny_pure (wpAny_bind z)
    | exact wpAny_bind (wpAny_pure (wpAny_bind z))
    | exact wpAny_bind z
theorem ix_dict (hu : X.A.units + 1 < cLine) : IxR X (fun x y H Q => ∃ a v, x = .ref a ∧ DGet H a y (some v) ∧ Q v H) := by
  intro value slice pins s σ H x y v u Q I rx ry ⟨a, w, e, g, q⟩ hs
  subst e
  obtain rfl : v = Value.ref a := rx
  exact subTail (dict_typeIs I g) PySem.F.slot_dict_getitem.lookup (d_getItem hu I g ry fun w' s3 I3 rw' => ⟨w, H, I3, rw', q⟩) hs
theorem IxRimp {r r' : R2} (h : IxR X r) (k : ∀ x y H Q, r' x y H Q → r x y H Q) : IxR X r' := fun value slice pins s σ H x y v u Q I rx ry q hs => h value slice pins s σ H x y v u Q I rx ry (k _ _ _ _ q) hs
theorem ixM (hK : X.K = en.K) (hu : X.A.units + 1 < cLine) : IxR X (rO2 en opIx) := by
  refine IxRimp (ix_list.or (ix_tup.or (ix_str.or (ix_dict hu)))) fun x y H Q ⟨ρ, h, a, b, rel, ra, rb, v, h', e, k⟩ => ?_
  unfold opIx at e
  split at e
  · split at e
    · split at e
      · rename_i en'
        cases rb
        obtain ⟨rfl, rfl⟩ := ra
        refine .inl ⟨_, _, _, _, rfl, rfl, by rw [hK]; exact rel.scr, by rw [atI_map, en']; rfl, finO.here ⟨_, _, e, k⟩ rel rfl⟩
      · cases e
    · cases e
  · split at e
    · split at e
      · rename_i hz
        split at e
        · rename_i ec
          cases ra; cases rb
          exact .inr (.inr (.inl ⟨_, _, _, rfl, rfl, by rw [big_eq]; exact hz, ec, finO.here ⟨_, _, e, k⟩ rel rfl⟩))
        · cases e
      · cases e
    · cases e
  · split at e
    · rename_i xs ei
      split at e
      · split at e
        · rename_i ex
          obtain ⟨p, vs, rfl, ep, e1, r1⟩ := rel.lst ei ra
          cases rb
          obtain ⟨w, ew, rw'⟩ := r1.atI ex
          exact .inl ⟨_, _, _, w, rfl, rfl, SqL.of e1, ew, finO.here ⟨_, _, e, k⟩ rel rw'⟩
        · cases e
      · cases e
    · rename_i xs ei
      split at e
      · split at e
        · rename_i ex
          obtain ⟨p, vs, rfl, ep, e1, r1⟩ := rel.tup ei ra
          cases rb
          obtain ⟨w, ew, rw'⟩ := r1.atI ex
          exact .inr (.inl ⟨_, _, _, w, rfl, rfl, SqT.of e1, ew, finO.here ⟨_, _, e, k⟩ rel rw'⟩)
        · cases e
      · cases e
    · rename_i o _ _ ei
      split at e
      · rename_i ex
        obtain ⟨p, ep, rfl⟩ := ra
        obtain ⟨w, ew, rw'⟩ := (dictGet_rel rel ei ep ex rb).1 _ rfl
        exact .inr (.inr (.inr ⟨p, w, rfl, ew, finO.here ⟨_, _, e, k⟩ rel rw'⟩))
      · cases e
    · cases e
  · cases e
theorem PE.ix {a b : Expr} {ma mb : EM} {pos : Pos} (hK : X.K = en.K) (hu : X.A.units + 1 < cLine) (ha : PE X a (tE en W ma)) (hb : PE X b (tE en W mb)) (hs : PlainIx b) : PE X (.Subscript a b pos) (tE en W (mO2 opIx ma mb)) :=
  PEimp (pe_ix (ixM hK hu) ha hb hs) fun σ H Q t => tO2 σ H Q t
end
end Fw
namespace Fw
open PySem PySem.Spec L2
section
variable {X : Cx} {en : En} {W : WX} {ρ : List Addr} {h : SH} {H : Hp}
/-! ### slices -/
abbrev PM := SS → SH → Res (Option Int)
abbrev RP : List Addr → Option Int → Option Int → Prop := fun _ a b => a = b
def pNone : PM := fun _ h => .ok none h
def pSome (ma : EM) : PM := fun ss h => (ma ss h).bind fun v h1 => match v with
  | .int i => .ok (some i) h1
  | _ => .stuck
abbrev tP (en : En) (W : WX) (m : PM) : TO := tM en W RP m
theorem POimp {e : Option Expr} {t t' : TO} (h : PO X e t) (k : ∀ σ H Q, t' σ H Q → t σ H Q) : PO X e t' := ⟨fun pins s σ H Q I q => h.run pins s σ H Q I (k σ H Q q)⟩
theorem PO.non : PO X none (tP en W pNone) := POimp po_none fun σ H Q ⟨ρ, ss, h, rel, rs, f⟩ => f ρ H none (Pre.refl ρ) rel rfl
theorem PO.som {e : Expr} {ma : EM} (ha : PE X e (tE en W ma)) : PO X (some e) (tP en W (pSome ma)) :=
  POimp (po_some ha) fun σ H Q t => tM.bind2 (R1 := RS en) (R2 := RP) (k := fun v (ss : SS) h1 => match v with | .int i => (Res.ok (some i) h1 : Res (Option Int)) | _ => .stuck) t fun ρ ss h v x H1 rel rs r f => by
    cases v with
    | int i => cases r; exact ⟨i, rfl, f ρ H1 _ (Pre.refl ρ) rel rfl⟩
    | _ => exact f.elim
def cutS {α : Type} (xs : List α) (lo hi : Option Int) : List α := (xs.drop (HT.sIx xs.length 0 lo)).take (HT.sIx xs.length xs.length hi - HT.sIx xs.length 0 lo)
theorem RSs.cut {xs : List SV} {vs : List V} (r : RSs en ρ xs vs) (lo hi : Option Int) : RSs en ρ (cutS xs lo hi) (cutV vs lo hi) := by
  unfold cutS cutV
  rw [r.len]
  exact (r.drop _).take _
def opCut (a : SV) (lo hi : Option Int) (h : SH) : Option (SV × SH) := match a with
  | .ref i => match h[i]? with
    | some (.lst xs) => alloc (.lst (cutS xs lo hi)) h
    | some (.tup xs) => if HT.sIx xs.length 0 lo = 0 ∧ HT.sIx xs.length xs.length hi = xs.length then none else alloc (.tup (cutS xs lo hi)) h
    | _ => none
  | _ => none
def mCut (ma : EM) (pl pu : PM) : EM := fun ss h => (ma ss h).bind fun a h1 => (pl ss h1).bind fun lo h2 => (pu ss h2).bind fun hi h3 => lift (opCut a lo hi h3)
theorem PE.cut {e : Expr} {lo hi : Option Expr} {ma : EM} {pl pu : PM} {p2 pos : Pos} (ha : PE X e (tE en W ma)) (hl : PO X lo (tP en W pl)) (hu : PO X hi (tP en W pu)) : PE X (.Subscript e (.Slice lo hi none p2) pos) (tE en W (mCut ma pl pu)) :=
  PEimp (pe_slice (SlR.or sl_list sl_tup) ha hl hu) fun σ H Q t => by
    obtain ⟨ρ, ss, h, rel, rs, f⟩ := t
    refine ⟨ρ, ss, h, rel, rs, ?_⟩
    unfold mCut at f
    cases e : ma ss h with
    | stuck => simp only [e, Res.bind, fin] at f
    | ex cc xs h1 => simp only [e, Res.bind, fin] at f; exact f
    | ok x h1 =>
      simp only [e, Res.bind] at f
      intro ρ1 H1 u p1 rel1 ru
      refine ⟨ρ1, ss, h1, rel1, rs.mono p1, ?_⟩
      cases e2 : pl ss h1 with
      | stuck => simp only [e2, fin] at f
      | ex cc xs h1 => simp only [e2, fin] at f ⊢; exact fun ρ' H cls d p => f ρ' H cls d (p1.trans p)
      | ok y h2 =>
        simp only [e2] at f
        intro ρ2 H2 v p2 rel2 rv
        refine ⟨ρ2, ss, h2, rel2, (rs.mono p1).mono p2, ?_⟩
        cases e3 : pu ss h2 with
        | stuck => simp only [e3, fin] at f
        | ex cc xs h1 => simp only [e3, fin] at f ⊢; exact fun ρ' H cls d p => f ρ' H cls d ((p1.trans p2).trans p)
        | ok z h3 =>
          simp only [e3] at f
          intro ρ3 H3 w p3 rel3 rw'
          obtain ⟨a', h', e4, k⟩ := (f.mono ((p1.trans p2).trans p3)).lift
          unfold opCut at e4
          cases rv; cases rw'
          split at e4
          · split at e4
            · rename_i ei
              obtain ⟨p, vs, rfl, ep, ee, r1⟩ := rel3.lst ei ((ru.mono p2).mono p3)
              exact .inl ⟨p, vs, rfl, SqL.of ee, finO.newLst ⟨_, _, e4, k⟩ rel3 (r1.cut _ _)⟩
            · rename_i ei
              obtain ⟨p, vs, rfl, ep, ee, r1⟩ := rel3.tup ei ((ru.mono p2).mono p3)
              split at e4
              · cases e4
              · rename_i hw
                exact .inr ⟨p, vs, rfl, SqT.of ee, by rw [← r1.len]; exact hw, finO.newTup ⟨_, _, e4, k⟩ rel3 (r1.cut _ _)⟩
            · cases e4
          · cases e4
/-! ### in, not in -/
def flatS : SV → Bool
  | .non => true
  | .bl _ => true
  | .int _ => true
  | .str _ => true
  | _ => false
def eqS : SV → SV → Bool
  | .non, .non => true
  | .bl a, .bl b => a == b
  | .bl a, .int b => (if a then 1 else 0) == b
  | .int a, .bl b => a == (if b then 1 else 0)
  | .int a, .int b => a == b
  | .str a, .str b => a == b
  | _, _ => false
theorem flatS_rel {a : SV} {v : V} (r : RS en ρ a v) (f : flatS a = true) : flatV v = true := by
  cases a <;> first | (cases r; rfl) | cases f
theorem flatS_all : ∀ {xs : List SV} {vs : List V}, RSs en ρ xs vs → xs.all flatS = true → vs.all flatV = true
  | _, _, .nil, _ => rfl
  | _, _, .cons r t, f => by
    rw [List.all_cons, Bool.and_eq_true] at f ⊢
    exact ⟨flatS_rel r f.1, flatS_all t f.2⟩
theorem eqS_rel {a b : SV} {v u : V} (ra : RS en ρ a v) (rb : RS en ρ b u) (fa : flatS a = true) (fb : flatS b = true) : eqV v u = eqS a b := by
  cases a <;> cases b <;> first | (cases ra; cases rb; rfl) | exact absurd fa Bool.false_ne_true | exact absurd fb Bool.false_ne_true
theorem anyS_rel {x : SV} {v : V} (rx : RS en ρ x v) (fx : flatS x = true) : ∀ {xs : List SV} {vs : List V}, RSs en ρ xs vs → xs.all flatS = true → inV v vs = xs.any fun y => eqS y x
  | _, _, .nil, _ => rfl
  | _, _, .cons r t, f => by
    rw [List.all_cons, Bool.and_eq_true] at f
    have z := anyS_rel rx fx t f.2
    unfold inV at z ⊢
    rw [List.any_cons, List.any_cons, eqS_rel r rx f.1 fx, z]
def opIn (neg : Bool) : O2 := fun a b h => match b with
  | .ref i => match h[i]? with
    | some (.lst xs) => if (flatS a && xs.all flatS) = true then some (.bl (if neg then !(xs.any fun y => eqS y a) else (xs.any fun y => eqS y a)), h) else none
    | some (.tup xs) => if (flatS a && xs.all flatS) = true then some (.bl (if neg then !(xs.any fun y => eqS y a) else (xs.any fun y => eqS y a)), h) else none
    | some o => match dictGet h o a with
      | some r => some (.bl (if neg then !r.isSome else r.isSome), h)
      | none => none
    | none => none
  | _ => none
theorem op_in_dict (hu : X.A.units + 1 < cLine) : OpR X (compareOp .In) (fun y x H Q => ∃ a o, x = .ref a ∧ DGet H a y o ∧ Q (.bl o.isSome) H) := by
  intro pins s σ H y x u v Q I ry rx ⟨a, o, e, g, q⟩
  subst e
  obtain rfl : v = Value.ref a := rx
  exact d_in hu I g ry fun s3 I3 => ⟨.bl o.isSome, H, I3, rfl, q⟩
theorem op_notin_dict (hu : X.A.units + 1 < cLine) : OpR X (compareOp .NotIn) (fun y x H Q => ∃ a o, x = .ref a ∧ DGet H a y o ∧ Q (.bl (!o.isSome)) H) := by
  intro pins s σ H y x u v Q I ry rx ⟨a, o, e, g, q⟩
  subst e
  obtain rfl : v = Value.ref a := rx
  exact d_notIn hu I g ry fun s3 I3 => ⟨.bl (!o.isSome), H, I3, rfl, q⟩
theorem inCore {neg : Bool} {x y : V} {a b : SV} {Q : VK} (rel : Rel en ρ h H) (ra : RS en ρ a x) (rb : RS en ρ b y) (f : finO en ρ (opIn neg a b h) Q) :
    (∃ p xs, y = .ref p ∧ (SqL X.K H p xs ∨ SqT X.K H p xs) ∧ flatV x = true ∧ xs.all flatV = true ∧ Q (.bl (if neg then !inV x xs else inV x xs)) H) ∨ (∃ a o, y = .ref a ∧ DGet H a x o ∧ Q (.bl (if neg then !o.isSome else o.isSome)) H) := by
  obtain ⟨v, h', e, k⟩ := f
  unfold opIn at e
  split at e
  · split at e
    · rename_i ei
      split at e
      · rename_i hf
        obtain ⟨p, vs, rfl, ep, e1, r1⟩ := rel.lst ei rb
        have z := Bool.and_eq_true_iff.mp hf
        refine .inl ⟨p, vs, rfl, .inl (SqL.of e1), flatS_rel ra z.1, flatS_all r1 z.2, ?_⟩
        rw [anyS_rel ra z.1 r1 z.2]
        exact finO.here ⟨_, _, e, k⟩ rel rfl
      · cases e
    · rename_i ei
      split at e
      · rename_i hf
        obtain ⟨p, vs, rfl, ep, e1, r1⟩ := rel.tup ei rb
        have z := Bool.and_eq_true_iff.mp hf
        refine .inl ⟨p, vs, rfl, .inr (SqT.of e1), flatS_rel ra z.1, flatS_all r1 z.2, ?_⟩
        rw [anyS_rel ra z.1 r1 z.2]
        exact finO.here ⟨_, _, e, k⟩ rel rfl
      · cases e
    · rename_i o _ _ ei
      split at e
      · rename_i r er
        obtain ⟨p, ep, rfl⟩ := rb
        obtain ⟨g1, g2⟩ := dictGet_rel rel ei ep er ra
        cases r with
        | none => exact .inr ⟨p, none, rfl, g2 rfl, finO.here ⟨_, _, e, k⟩ rel rfl⟩
        | some w =>
          obtain ⟨u, ug, _⟩ := g1 w rfl
          exact .inr ⟨p, some u, rfl, ug, finO.here ⟨_, _, e, k⟩ rel rfl⟩
      · cases e
    · cases e
  · cases e
theorem op_inM (hu : X.A.units + 1 < cLine) : OpR X (compareOp .In) (rO2 en (opIn false)) := by
  refine OpRimp (op_in_seq.or (op_in_dict hu)) fun x y H Q ⟨ρ, h, a, b, rel, ra, rb, f⟩ => ?_
  exact (inCore (X := X) rel ra rb f).imp (fun z => by simpa [rIn] using z) fun z => by simpa using z
theorem op_notInM (hu : X.A.units + 1 < cLine) : OpR X (compareOp .NotIn) (rO2 en (opIn true)) := by
  refine OpRimp (op_notIn_seq.or (op_notin_dict hu)) fun x y H Q ⟨ρ, h, a, b, rel, ra, rb, f⟩ => ?_
  exact (inCore (X := X) rel ra rb f).imp (fun z => by simpa [rIn] using z) fun z => by simpa using z
/-! ### len, int, bool, max, min, abs, list, tuple -/
def opLen : O1 := fun a h => match a with
  | .scr ns => some (.int ns.length, h)
  | .str z => if z.length ≤ big then some (.int z.length, h) else none
  | .ref i => match h[i]? with
    | some (.lst xs) => some (.int xs.length, h)
    | some (.tup xs) => some (.int xs.length, h)
    | some (.dK kvs) => some (.int kvs.length, h)
    | _ => none
  | _ => none
theorem CallRor {f : Value} {r r' : List V → Hp → VK → Prop} (h : CallR X f r) (h' : CallR X f r') : CallR X f (fun xs H Q => r xs H Q ∨ r' xs H Q) := fun pins s σ H xs us Q I r2 q => q.elim (h pins s σ H xs us Q I r2) (h' pins s σ H xs us Q I r2)
theorem RSs.one {a : SV} {xs : List V} (r : RSs en ρ [a] xs) : ∃ x, xs = [x] ∧ RS en ρ a x := by
  cases r with
  | cons r t => cases t; exact ⟨_, rfl, r⟩
theorem RSs.two {a b : SV} {xs : List V} (r : RSs en ρ [a, b] xs) : ∃ x y, xs = [x, y] ∧ RS en ρ a x ∧ RS en ρ b y := by
  cases r with
  | cons r t =>
    obtain ⟨y, rfl, ry⟩ := RSs.one t
    exact ⟨_, _, rfl, r, ry⟩
theorem un1_of {o : O1} {xs : List V} {H : Hp} {Q : VK} (q : rOA en (un1 o) xs H Q) : ∃ ρ h a x, xs = [x] ∧ Rel en ρ h H ∧ RS en ρ a x ∧ finO en ρ (o a h) Q := by
  obtain ⟨ρ, h, as, rel, r, v, h', e, k⟩ := q
  unfold un1 at e
  split at e
  · obtain ⟨x, rfl, rx⟩ := RSs.one r
    exact ⟨ρ, h, _, x, rfl, rel, rx, v, h', e, k⟩
  · cases e
theorem bin2_of {o : O2} {xs : List V} {H : Hp} {Q : VK} (q : rOA en (bin2 o) xs H Q) : ∃ ρ h a b x y, xs = [x, y] ∧ Rel en ρ h H ∧ RS en ρ a x ∧ RS en ρ b y ∧ finO en ρ (o a b h) Q := by
  obtain ⟨ρ, h, as, rel, r, v, h', e, k⟩ := q
  unfold bin2 at e
  split at e
  · obtain ⟨x, y, rfl, rx, ry⟩ := RSs.two r
    exact ⟨ρ, h, _, _, x, y, rfl, rel, rx, ry, v, h', e, k⟩
  · cases e
theorem call_lenM (hK : X.K = en.K) : CallR X (.builtin "len") (rOA en (un1 opLen)) := by
  refine CallRimp (CallRor call_len_seq (CallRor call_len_str call_lenD)) fun xs H Q q => ?_
  obtain ⟨ρ, h, a, x, rfl, rel, ra, v, h', e, k⟩ := un1_of q
  unfold opLen at e
  split at e
  · obtain ⟨rfl, rfl⟩ := ra
    refine .inl ⟨_, _, rfl, .inl (by rw [hK]; exact rel.scr), ?_⟩
    rw [List.length_map]
    exact finO.here ⟨_, _, e, k⟩ rel rfl
  · split at e
    · cases ra
      exact .inr (.inl ⟨_, rfl, by rw [big_eq]; assumption, finO.here ⟨_, _, e, k⟩ rel rfl⟩)
    · cases e
  · split at e
    · rename_i ei
      obtain ⟨p, vs, rfl, ep, e1, r1⟩ := rel.lst ei ra
      refine .inl ⟨_, _, rfl, .inl (SqL.of e1), ?_⟩
      rw [← r1.len]
      exact finO.here ⟨_, _, e, k⟩ rel rfl
    · rename_i ei
      obtain ⟨p, vs, rfl, ep, e1, r1⟩ := rel.tup ei ra
      refine .inl ⟨_, _, rfl, .inr (SqT.of e1), ?_⟩
      rw [← r1.len]
      exact finO.here ⟨_, _, e, k⟩ rel rfl
    · rename_i kvs ei
      obtain ⟨p, ep, rfl⟩ := ra
      obtain ⟨kws, e1, r1⟩ := rel.at2 ep ei
      refine .inr (.inr ⟨p, kws, rfl, e1, ?_⟩)
      rw [← Paired.length r1]
      exact finO.here ⟨_, _, e, k⟩ rel rfl
    · cases e
  · cases e
def opInt : O1 := fun a h => match a with
  | .int i => some (.int i, h)
  | .bl b => some (.int (if b then 1 else 0), h)
  | _ => none
theorem call_intM : CallR X (.type "int") (rOA en (un1 opInt)) := by
  refine CallRimp call_int1 fun xs H Q q => ?_
  obtain ⟨ρ, h, a, x, rfl, rel, ra, v, h', e, k⟩ := un1_of q
  unfold opInt at e
  split at e
  · cases ra; exact .inl ⟨_, rfl, finO.here ⟨_, _, e, k⟩ rel rfl⟩
  · cases ra; exact .inr ⟨_, rfl, finO.here ⟨_, _, e, k⟩ rel rfl⟩
  · cases e
def opMax : O2 := fun a b h => match a, b with
  | .int i, .int j => some (.int (if j > i then j else i), h)
  | _, _ => none
def opMin : O2 := fun a b h => match a, b with
  | .int i, .int j => some (.int (if j < i then j else i), h)
  | _, _ => none
def opAbs : O1 := fun a h => match a with
  | .int i => some (.int (if i < 0 then -i else i), h)
  | _ => none
theorem call_maxM (hc : X.calm = true) : CallR X (.builtin "max") (rOA en (bin2 opMax)) := by
  refine CallRimp (call_max2 hc) fun xs H Q q => ?_
  obtain ⟨ρ, h, a, b, x, y, rfl, rel, ra, rb, v, h', e, k⟩ := bin2_of q
  unfold opMax at e
  split at e
  · cases ra; cases rb; exact ⟨_, _, rfl, finO.here ⟨_, _, e, k⟩ rel rfl⟩
  · cases e
theorem call_minM (hc : X.calm = true) : CallR X (.builtin "min") (rOA en (bin2 opMin)) := by
  refine CallRimp (call_min2 hc) fun xs H Q q => ?_
  obtain ⟨ρ, h, a, b, x, y, rfl, rel, ra, rb, v, h', e, k⟩ := bin2_of q
  unfold opMin at e
  split at e
  · cases ra; cases rb; exact ⟨_, _, rfl, finO.here ⟨_, _, e, k⟩ rel rfl⟩
  · cases e
theorem call_absM : CallR X (.builtin "abs") (rOA en (un1 opAbs)) := by
  refine CallRimp call_abs fun xs H Q q => ?_
  obtain ⟨ρ, h, a, x, rfl, rel, ra, v, h', e, k⟩ := un1_of q
  unfold opAbs at e
  split at e
  · cases ra; exact ⟨_, rfl, finO.here ⟨_, _, e, k⟩ rel rfl⟩
  · cases e
def opList : O1 := fun a h => match a with
  | .ref i => match h[i]? with
    | some (.lst xs) => alloc (.lst xs) h
    | some (.tup xs) => alloc (.lst xs) h
    | _ => none
  | _ => none
theorem call_listM : CallR X (.type "list") (rOA en (un1 opList)) := by
  refine CallRimp call_list_of fun xs H Q q => ?_
  obtain ⟨ρ, h, a, x, rfl, rel, ra, v, h', e, k⟩ := un1_of q
  unfold opList at e
  split at e
  · split at e
    · rename_i ei
      obtain ⟨p, vs, rfl, ep, e1, r1⟩ := rel.lst ei ra
      exact ⟨_, _, rfl, .inl (SqL.of e1), finO.newLst ⟨_, _, e, k⟩ rel r1⟩
    · rename_i ei
      obtain ⟨p, vs, rfl, ep, e1, r1⟩ := rel.tup ei ra
      exact ⟨_, _, rfl, .inr (SqT.of e1), finO.newLst ⟨_, _, e, k⟩ rel r1⟩
    · cases e
  · cases e
def opTuple : O1 := fun a h => match a with
  | .ref i => match h[i]? with
    | some (.lst xs) => alloc (.tup xs) h
    | some (.tup xs) => some (a, h)
    | _ => none
  | _ => none
theorem call_tupleM : CallR X (.type "tuple") (rOA en (un1 opTuple)) := by
  refine CallRimp call_tuple_of fun xs H Q q => ?_
  obtain ⟨ρ, h, a, x, rfl, rel, ra, v, h', e, k⟩ := un1_of q
  unfold opTuple at e
  split at e
  · split at e
    · rename_i ei
      obtain ⟨p, vs, rfl, ep, e1, r1⟩ := rel.lst ei ra
      exact ⟨_, _, rfl, .inl ⟨SqL.of e1, finO.newTup ⟨_, _, e, k⟩ rel r1⟩⟩
    · rename_i ei
      obtain ⟨p, vs, rfl, ep, e1, r1⟩ := rel.tup ei ra
      exact ⟨_, _, rfl, .inr ⟨SqT.of e1, finO.here ⟨_, _, e, k⟩ rel ⟨p, ep, rfl⟩⟩⟩
    · cases e
  · cases e
end
end Fw
namespace Fw
open PySem PySem.Spec L2
def finS (en : En) (W : WX) (ρ : List Addr) (r : SR) (D : Ends) : Prop := match r with
  | .stuck => False
  | .nx ss h => ∀ ρ' σ H, Pre ρ ρ' → Rel en ρ' h H → RSl en ρ' ss σ → D.nx σ H
  | .rt v h => ∀ ρ' H u, Pre ρ ρ' → Rel en ρ' h H → RS en ρ' v u → D.rt u H
  | .bk ss h => ∀ ρ' σ H, Pre ρ ρ' → Rel en ρ' h H → RSl en ρ' ss σ → D.bk σ H
  | .ct ss h => ∀ ρ' σ H, Pre ρ ρ' → Rel en ρ' h H → RSl en ρ' ss σ → D.ct σ H
  | .ex c xs ss h => ∀ ρ' σ H cls d, Pre ρ ρ' → Rel en ρ' h H → RSl en ρ' ss σ → RX en ρ' H c xs cls d → W cls d σ H
def tS (en : En) (W : WX) (m : SM) : TS := fun D σ H => ∃ ρ ss h, Rel en ρ h H ∧ RSl en ρ ss σ ∧ finS en W ρ (m ss h) D
theorem finS.mono {en : En} {W : WX} {ρ ρ' : List Addr} {r : SR} {D : Ends} (p : Pre ρ ρ') (f : finS en W ρ r D) : finS en W ρ' r D := by
  cases r with
  | stuck => exact f
  | nx ss h => exact fun ρ2 σ H p2 => f ρ2 σ H (p.trans p2)
  | rt v h => exact fun ρ2 σ H p2 => f ρ2 σ H (p.trans p2)
  | bk ss h => exact fun ρ2 σ H p2 => f ρ2 σ H (p.trans p2)
  | ct ss h => exact fun ρ2 σ H p2 => f ρ2 σ H (p.trans p2)
  | ex c xs ss h => exact fun ρ2 σ H cls d p2 => f ρ2 σ H cls d (p.trans p2)
/-- an expression's run goes on as a statement's -/
def thenS {α : Type} (r : Res α) (ss : SS) (k : α → SH → SR) : SR := match r with
  | .stuck => .stuck
  | .ok a h => k a h
  | .ex c xs h => .ex c xs ss h
section
variable {X : Cx} {en : En} {W : WX} {pos : Pos}
theorem tS.bind {α β : Type} {R1 : List Addr → α → β → Prop} {m1 : SS → SH → Res α} {k : SS → α → SH → SR} {D : Ends} {σ : L2.St} {H : Hp} {Q' : β → Hp → Prop}
    (t : tS en W (fun ss h => thenS (m1 ss h) ss (k ss)) D σ H)
    (f : ∀ ρ ss h a b H1, Rel en ρ h H1 → RSl en ρ ss σ → R1 ρ a b → finS en W ρ (k ss a h) D → Q' b H1) : tM en W R1 m1 σ H Q' := by
  obtain ⟨ρ, ss, h, rel, rs, q⟩ := t
  refine ⟨ρ, ss, h, rel, rs, ?_⟩
  cases e : m1 ss h with
  | stuck => simp only [e, thenS, finS] at q
  | ok a h1 =>
    simp only [e, thenS] at q
    exact fun ρ' H' b p rel' rb => f ρ' ss h1 a b H' rel' (rs.mono p) rb (q.mono p)
  | ex c xs h1 =>
    simp only [e, thenS, finS] at q
    exact fun ρ' H' cls d p rel' rx => q ρ' σ H' cls d p rel' (rs.mono p) rx
/-! ### one after the other, if, return, an expression -/
def mNil : SM := fun ss h => .nx ss h
def mSeq (m1 m2 : SM) : SM := fun ss h => match m1 ss h with
  | .nx ss h => m2 ss h
  | r => r
def mIfS (t : BM) (m1 m2 : SM) : SM := fun ss h => thenS (t ss h) ss fun b h1 => if b = true then m1 ss h1 else m2 ss h1
def mRet (m : EM) : SM := fun ss h => thenS (m ss h) ss fun v h1 => .rt v h1
def mRetN : SM := fun _ h => .rt .non h
def mDrop (m : EM) : SM := fun ss h => thenS (m ss h) ss fun _ h1 => .nx ss h1
def mBrk : SM := fun ss h => .bk ss h
def mCnt : SM := fun ss h => .ct ss h
theorem PSs.nil : PSs X [] (tS en W mNil) := PSsimp pss_nil fun D σ H ⟨ρ, ss, h, rel, rs, f⟩ => f ρ σ H (Pre.refl ρ) rel rs
theorem tS.seq {m1 m2 : SM} (D : Ends) (σ : L2.St) (H : Hp) (t : tS en W (mSeq m1 m2) D σ H) : tSeq (tS en W m1) (tS en W m2) D σ H := by
  obtain ⟨ρ, ss, h, rel, rs, f⟩ := t
  refine ⟨ρ, ss, h, rel, rs, ?_⟩
  unfold mSeq at f
  cases e : m1 ss h with
  | nx ss' h' => simp only [e] at f; exact fun ρ' σ' H' p rel' rs' => ⟨ρ', ss', h', rel', rs', f.mono p⟩
  | stuck => simp only [e] at f; exact f
  | rt v h => simp only [e] at f; exact f
  | bk v h => simp only [e] at f; exact f
  | ct v h => simp only [e] at f; exact f
  | ex c xs v h => simp only [e] at f; exact f
theorem PSs.cons {st : Stmt} {rest : List Stmt} {m1 m2 : SM} (h1 : PS X st (tS en W m1)) (h2 : PSs X rest (tS en W m2)) : PSs X (st :: rest) (tS en W (mSeq m1 m2)) := PSsimp (pss_cons h1 h2) tS.seq
theorem PSs.one {st : Stmt} {m1 : SM} (h1 : PS X st (tS en W m1)) : PSs X [st] (tS en W m1) := pss_one h1
theorem PS.pass : PS X (.Pass pos) (tS en W mNil) := PSimp ps_pass fun D σ H ⟨ρ, ss, h, rel, rs, f⟩ => f ρ σ H (Pre.refl ρ) rel rs
theorem PS.doc {x : Str} {j : Nat} {pos' : Pos} : PS X (.Expr (.Constant (.str x) j pos) pos') (tS en W mNil) := PSimp ps_doc fun D σ H ⟨ρ, ss, h, rel, rs, f⟩ => f ρ σ H (Pre.refl ρ) rel rs
theorem PS.brk : PS X (.Break pos) (tS en W mBrk) := PSimp ps_break fun D σ H ⟨ρ, ss, h, rel, rs, f⟩ => f ρ σ H (Pre.refl ρ) rel rs
theorem PS.cnt : PS X (.Continue pos) (tS en W mCnt) := PSimp ps_continue fun D σ H ⟨ρ, ss, h, rel, rs, f⟩ => f ρ σ H (Pre.refl ρ) rel rs
theorem PS.retN : PS X (.Return none pos) (tS en W mRetN) := PSimp ps_retN fun D σ H ⟨ρ, ss, h, rel, rs, f⟩ => f ρ H .non (Pre.refl ρ) rel rfl
theorem PS.ret {e : Expr} {m : EM} (he : PE X e (tE en W m)) : PS X (.Return (some e) pos) (tS en W (mRet m)) :=
  PSimp (ps_ret he) fun D σ H t => tS.bind (R1 := RS en) (k := fun _ v h1 => .rt v h1) t fun ρ ss h a b H1 rel rs r f => f ρ H1 b (Pre.refl ρ) rel r
theorem PS.expr {e : Expr} {m : EM} (he : PE X e (tE en W m)) (hs : swapsWith e none pos.line X.env = pure false := by rfl) : PS X (.Expr e pos) (tS en W (mDrop m)) :=
  PSimp (ps_expr he hs) fun D σ H t => tS.bind (R1 := RS en) (k := fun ss _ h1 => .nx ss h1) t fun ρ ss h a b H1 rel rs r f => f ρ σ H1 (Pre.refl ρ) rel rs
theorem PS.if {c : Expr} {a b : List Stmt} {t : BM} {m1 m2 : SM} (hc : PT X c (tT en W t)) (ha : PSs X a (tS en W m1)) (hb : PSs X b (tS en W m2)) : PS X (.If c a b pos) (tS en W (mIfS t m1 m2)) :=
  PSimp (ps_if hc ha hb) fun D σ H q => tS.bind (R1 := RB) (k := fun ss b h1 => if b = true then m1 ss h1 else m2 ss h1) q fun ρ ss h a b H1 rel rs r f => by
    cases r
    cases a with
    | true => exact ⟨ρ, ss, h, rel, rs, f⟩
    | false => exact ⟨ρ, ss, h, rel, rs, f⟩
/-! ### truth of any value -/
def opTru (v : SV) (h : SH) : Res Bool := match v with
  | .non => .ok false h
  | .bl b => .ok b h
  | .int i => .ok (i != 0) h
  | .str y => if y.length ≤ big then .ok ((y.length : Int) != 0) h else .stuck
  | .scr ns => .ok (!ns.isEmpty) h
  | .ref i => match h[i]? with
    | some (.lst xs) => .ok (!xs.isEmpty) h
    | some (.tup xs) => .ok (!xs.isEmpty) h
    | some (.dK kvs) => .ok (!kvs.isEmpty) h
    | _ => .stuck
def mTru (m : EM) : BM := fun ss h => (m ss h).bind fun v h1 => opTru v h1
theorem Paired.isEmpty {α β : Type} {R : α → β → Prop} : ∀ {xs : List α} {ys : List β}, Paired R xs ys → xs.isEmpty = ys.isEmpty
  | _, _, .nil => rfl
  | _, _, .cons _ _ => rfl
theorem PT.tru {e : Expr} {m : EM} (hK : X.K = en.K) (he : PE X e (tE en W m)) (hi : ∀ whole, isTrue e X.env whole = (do let v ← whole; standAt e.pos; holding [v] (truthy v)) := by intro _; rfl) : PT X e (tT en W (mTru m)) :=
  PTimp (pt_truth he hi) fun σ H Q t => tM.bind2 (R1 := RS en) (R2 := RB) (k := fun v (ss : SS) h1 => opTru v h1) t fun ρ ss h v x H1 rel rs r f => by
    have go : ∀ k : Bool, opTru v h = .ok k h → TruV X.K x H1 k → ∃ k, TruV X.K x H1 k ∧ Q k H1 := fun k e z => by
      rw [e] at f
      exact ⟨k, z, f ρ H1 k (Pre.refl ρ) rel rfl⟩
    have nostuck : opTru v h ≠ .stuck := fun e => by rw [e] at f; exact f
    cases v with
    | non => cases r; exact go _ rfl rfl
    | bl b => cases r; exact go _ rfl rfl
    | int i => cases r; exact go _ rfl rfl
    | str y =>
      cases r
      by_cases hl : y.length ≤ big
      · exact go ((y.length : Int) != 0) (by simp only [opTru, if_pos hl]) ⟨by rw [big_eq]; exact hl, rfl⟩
      · exact (nostuck (by simp only [opTru, if_neg hl])).elim
    | scr ns =>
      obtain ⟨rfl, rfl⟩ := r
      refine go (!en.ns.isEmpty) rfl (.inl ⟨_, by rw [hK]; exact rel.scr, by cases en.ns <;> rfl⟩)
    | ref i =>
      cases ei : h[i]? with
      | none => exact (nostuck (by simp only [opTru, ei])).elim
      | some o =>
        cases o with
        | lst xs =>
          obtain ⟨p, vs, rfl, ep, e1, r1⟩ := rel.lst ei r
          exact go (!xs.isEmpty) (by simp only [opTru, ei]) (.inl ⟨vs, SqL.of e1, by rw [Paired.isEmpty r1]⟩)
        | tup xs =>
          obtain ⟨p, vs, rfl, ep, e1, r1⟩ := rel.tup ei r
          exact go (!xs.isEmpty) (by simp only [opTru, ei]) (.inr (.inl ⟨vs, SqT.of e1, by rw [Paired.isEmpty r1]⟩))
        | dK kvs =>
          obtain ⟨p, ep, rfl⟩ := r
          obtain ⟨kws, e1, r1⟩ := rel.at2 ep ei
          exact go (!kvs.isEmpty) (by simp only [opTru, ei]) (.inr (.inr ⟨kws, e1, by rw [Paired.isEmpty r1]⟩))
        | _ => exact (nostuck (by simp only [opTru, ei])).elim
/-! ### targets -/
abbrev GM := SV → SS → SH → Option SS
abbrev GMs := List SV → SS → SH → Option SS
/-- two slots' lists that differ at the places is alone -/
structure SameOut (is : List Nat) (σ σ' : L2.St) : Prop where
  len : σ'.length = σ.length
  out : ∀ j, j ∉ is → σ'[j]? = σ[j]?
theorem SameOut.refl (is : List Nat) (σ : L2.St) : SameOut is σ σ := ⟨rfl, fun _ _ => rfl⟩
theorem SameOut.set {is : List Nat} {σ : L2.St} {i : Nat} {v : Option V} : SameOut (i :: is) σ (σ.set i v) := ⟨by simp, fun j h => by
  have : i ≠ j := fun e => h (by rw [e]; exact List.mem_cons_self)
  rw [List.getElem?_set_ne this]⟩
theorem SameOut.trans {is js : List Nat} {a b c : L2.St} (h : SameOut is a b) (k : SameOut js b c) : SameOut (is ++ js) a c := ⟨k.len.trans h.len, fun j m => (k.out j fun z => m (List.mem_append_right _ z)).trans (h.out j fun z => m (List.mem_append_left _ z))⟩
def tG (en : En) (is : List Nat) (g : GM) : TG := fun v σ H Q => ∃ ρ ss h x ss', Rel en ρ h H ∧ RSl en ρ ss σ ∧ RS en ρ x v ∧ g x ss h = some ss' ∧ ∀ σ', RSl en ρ ss' σ' → SameOut is σ σ' → Q σ' H
def tGs (en : En) (is : List Nat) (g : GMs) : TGs := fun vs σ H Q => ∃ ρ ss h xs ss', Rel en ρ h H ∧ RSl en ρ ss σ ∧ RSs en ρ xs vs ∧ g xs ss h = some ss' ∧ ∀ σ', RSl en ρ ss' σ' → SameOut is σ σ' → Q σ' H
theorem PGimp {e : Expr} {t t' : TG} (h : PG X e t) (k : ∀ v σ H Q, t' v σ H Q → t v σ H Q) : PG X e t' := ⟨fun pins s σ H v u Q I r q => h.run pins s σ H v u Q I r (k v σ H Q q)⟩
theorem PGsimp {e : List Expr} {t t' : TGs} (h : PGs X e t) (k : ∀ v σ H Q, t' v σ H Q → t v σ H Q) : PGs X e t' := ⟨fun pins s σ H v u Q I r q => h.run pins s σ H v u Q I r (k v σ H Q q)⟩
theorem PGor {e : Expr} {t t' : TG} (h : PG X e t) (h' : PG X e t') : PG X e (fun v σ H Q => t v σ H Q ∨ t' v σ H Q) := ⟨fun pins s σ H v u Q I r q => q.elim (h.run pins s σ H v u Q I r) (h'.run pins s σ H v u Q I r)⟩
def gVar (i : Nat) : GM := fun v ss _ => some (ss.set i (some v))
def gsNil : GMs := fun vs ss _ => match vs with
  | [] => some ss
  | _ => none
def gsCons (g : GM) (gs : GMs) : GMs := fun vs ss h => match vs with
  | v :: r => match g v ss h with
    | some ss' => gs r ss' h
    | none => none
  | [] => none
def gTupM (n : Nat) (g : GMs) : GM := fun v ss h => match v with
  | .ref i => match h[i]? with
    | some (.tup xs) => if xs.length = n then g xs ss h else none
    | some (.lst xs) => if xs.length = n then g xs ss h else none
    | _ => none
  | _ => none
theorem PG.var {i : Nat} {x : Str} (hN : X.N.Nodup) (hi : X.N[i]? = some x) (hx : Loc X.env.scope x) (hf : X.fn x = true ∨ X.env.scope.names.lookup x = some .local := by first | exact .inl rfl | exact .inr rfl | assumption) : PG X (.Name x pos) (tG en [i] (gVar i)) :=
  PGimp (pg_name hN hi hx hf) fun v σ H Q ⟨ρ, ss, h, x, ss', rel, rs, r, e, f⟩ => by
    cases e
    exact f _ (rs.set r i) SameOut.set
theorem PGs.nil : PGs X [] (tGs en [] gsNil) := PGsimp pgs_nil fun vs σ H Q ⟨ρ, ss, h, xs, ss', rel, rs, r, e, f⟩ => by
  cases r with
  | nil => cases e; exact ⟨rfl, f _ rs (SameOut.refl _ _)⟩
  | cons _ _ => cases e
theorem PGs.cons {e : Expr} {es : List Expr} {g : GM} {gs : GMs} {is js : List Nat} (h1 : PG X e (tG en is g)) (h2 : PGs X es (tGs en js gs))
    (hs : (assignEach (e :: es) X.env).map (·.2) = assign e X.env :: (assignEach es X.env).map (·.2) := by rfl) : PGs X (e :: es) (tGs en (is ++ js) (gsCons g gs)) :=
  PGsimp (pgs_cons h1 h2 hs) fun vs σ H Q ⟨ρ, ss, h, xs, ss', rel, rs, r, e, f⟩ => by
    cases r with
    | nil => cases e
    | cons r t =>
      unfold gsCons at e
      split at e
      · rename_i ez
        cases ez
        split at e
        · rename_i ss1 e1
          exact ⟨_, _, rfl, ρ, ss, h, _, ss1, rel, rs, r, e1, fun σ' rs' o => ⟨ρ, ss1, h, _, ss', rel, rs', t, e, fun σ2 rs2 o2 => f σ2 rs2 (o.trans o2)⟩⟩
        · cases e
      · cases e
theorem PG.tup {es : List Expr} {k n : Nat} {g : GMs} {is : List Nat} (hc : X.calm = true) (h : PGs X es (tGs en is g)) (hn : (assignEach es X.env).length = n := by rfl) (hst : (assignEach es X.env).findIdx? (·.1) = none := by rfl) : PG X (.Tuple es k pos) (tG en is (gTupM n g)) :=
  PGimp (PGor (pg_tup hc h hn hst) (pg_unl hc h hn hst)) fun v σ H Q ⟨ρ, ss, h, x, ss', rel, rs, r, e, f⟩ => by
    unfold gTupM at e
    split at e
    · split at e
      · rename_i ei
        split at e
        · obtain ⟨p, vs, rfl, ep, e1, r1⟩ := rel.tup ei r
          exact .inl ⟨p, vs, rfl, SqT.of e1, by rw [← r1.len]; assumption, ρ, ss, h, _, ss', rel, rs, r1, e, f⟩
        · cases e
      · rename_i ei
        split at e
        · obtain ⟨p, vs, rfl, ep, e1, r1⟩ := rel.lst ei r
          exact .inr ⟨p, vs, rfl, SqL.of e1, by rw [← r1.len]; assumption, ρ, ss, h, _, ss', rel, rs, r1, e, f⟩
        · cases e
      · cases e
    · cases e
/-! ### assignments -/
def mSet (i : Nat) (m : EM) : SM := fun ss h => thenS (m ss h) ss fun v h1 => .nx (ss.set i (some v)) h1
def mAsg (g : GM) (m : EM) : SM := fun ss h => thenS (m ss h) ss fun v h1 => match g v ss h1 with
  | some ss' => .nx ss' h1
  | none => .stuck
theorem PS.set {i : Nat} {x : Str} {e : Expr} {m : EM} {pos' : Pos} (hN : X.N.Nodup) (hi : X.N[i]? = some x) (hx : Loc X.env.scope x) (he : PE X e (tE en W m)) (hs : swapsWith e (some (.Name x pos')) pos.line X.env = pure false := by rfl)
    (hf : X.fn x = true ∨ X.env.scope.names.lookup x = some .local := by first | exact .inl rfl | exact .inr rfl | assumption) : PS X (.Assign [.Name x pos'] e pos) (tS en W (mSet i m)) :=
  PSimp (ps_set hN hi hx he hs hf) fun D σ H t => tS.bind (R1 := RS en) (k := fun ss v h1 => .nx (ss.set i (some v)) h1) t fun ρ ss h a b H1 rel rs r f => f ρ _ H1 (Pre.refl ρ) rel (rs.set r i)
theorem PS.asg {tg e : Expr} {g : GM} {m : EM} {is : List Nat} (he : PE X e (tE en W m)) (hg : PG X tg (tG en is g)) (hs : swapsWithSole [tg] e pos.line X.env = pure false := by rfl) (hw : swappedStores [tg] e X.env = pure none := by rfl)
    (h1 : (assignEach [tg] X.env).map (·.2) = [assign tg X.env] := by rfl) : PS X (.Assign [tg] e pos) (tS en W (mAsg g m)) :=
  PSimp (ps_asg he hg hs hw h1) fun D σ H t => tS.bind (R1 := RS en) (k := fun ss v h1 => match g v ss h1 with | some ss' => .nx ss' h1 | none => .stuck) t fun ρ ss h a b H1 rel rs r f => by
    cases e : g a ss h with
    | none => simp only [e, finS] at f
    | some ss' =>
      simp only [e] at f
      exact ⟨ρ, ss, h, a, ss', rel, rs, r, e, fun σ' rs' _ => f ρ σ' H1 (Pre.refl ρ) rel rs'⟩
def mPar (i j : Nat) (m : AM) : SM := fun ss h => thenS (m ss h) ss fun vs h1 => match vs with
  | [v, w] => .nx ((ss.set i (some v)).set j (some w)) h1
  | _ => .stuck
theorem PS.par {i j : Nat} {x y : Str} {a b : Expr} {m : AM} {px py pt pos : Pos} {kt k2 : Nat} {pt2 : Pos} (hc : X.calm = true) (hN : X.N.Nodup) (hi : X.N[i]? = some x) (hj : X.N[j]? = some y) (hij : i ≠ j)
    (hx : X.env.scope.names.lookup x = some .local) (hy : X.env.scope.names.lookup y = some .local) (ha : PA X [a, b] (tA en W m))
    (hw : swappedStores [.Tuple [.Name x px, .Name y py] kt pt] (.Tuple [a, b] k2 pt2) X.env = pure (some [x, y]))
    (hs : swapsWithSole [.Tuple [.Name x px, .Name y py] kt pt] (.Tuple [a, b] k2 pt2) pos.line X.env = pure false := by rfl) :
    PS X (.Assign [.Tuple [.Name x px, .Name y py] kt pt] (.Tuple [a, b] k2 pt2) pos) (tS en W (mPar i j m)) :=
  PSimp (ps_par hc hN hi hj hij hx hy ha hw hs) fun D σ H t => tS.bind (R1 := RSs en) (k := fun ss vs h1 => match vs with | [v, w] => .nx ((ss.set i (some v)).set j (some w)) h1 | _ => .stuck) t fun ρ ss h as bs H1 rel rs r f => by
    split at f
    · obtain ⟨x, y, rfl, rx, ry⟩ := RSs.two r
      exact ⟨x, y, rfl, f ρ _ H1 (Pre.refl ρ) rel ((rs.set rx i).set ry j)⟩
    · exact f.elim
/-- x += e, x -= e -/
def mAug (i : Nat) (o : O2) (m : EM) : SM := fun ss h => match ss[i]? with
  | some (some x) => thenS (m ss h) ss fun v h1 => thenS (lift (o x v h1)) ss fun w h2 => .nx (ss.set i (some w)) h2
  | _ => .stuck
end
end Fw
namespace Fw
open PySem PySem.Spec L2
section
variable {X : Cx} {en : En} {W : WX} {pos : Pos}
def opAddI : O2 := fun a b h => match a, b with
  | .int i, .int j => some (.int (i + j), h)
  | .str x, .str y => if x.length + y.length ≤ big then some (.str (x ++ y), h) else none
  | _, _ => none
theorem ip_addM : PIp X .Add (rO2 en opAddI) := by
  intro pins s σ H x y v u Q I rx ry ⟨ρ, h, a, b, rel, ra, rb, w, h', e, k⟩
  unfold opAddI at e
  split at e
  · cases ra; cases rb
    exact iop_add pins s σ H _ _ v u Q I rx ry ⟨_, _, rfl, rfl, finO.here ⟨_, _, e, k⟩ rel rfl⟩
  · cases ra; cases rb
    split at e
    · exact iop_add_str pins s σ H _ _ v u Q I rx ry ⟨_, _, rfl, rfl, by rw [big_eq]; assumption, finO.here ⟨_, _, e, k⟩ rel rfl⟩
    · cases e
  · cases e
theorem ip_subM : PIp X .Sub (rO2 en opSub) := by
  intro pins s σ H x y v u Q I rx ry ⟨ρ, h, a, b, rel, ra, rb, w, h', e, k⟩
  unfold opSub at e
  split at e
  · cases ra; cases rb
    exact iop_sub pins s σ H _ _ v u Q I rx ry ⟨_, _, rfl, rfl, finO.here ⟨_, _, e, k⟩ rel rfl⟩
  · cases e
theorem PS.aug {i : Nat} {x : Str} {e : Expr} {m : EM} {op : Operator} {o : O2} {pos' : Pos} (hN : X.N.Nodup) (hi : X.N[i]? = some x) (hx : Loc X.env.scope x) (he : PE X e (tE en W m)) (ho : PIp X op (rO2 en o))
    (hf : X.fn x = true ∨ X.env.scope.names.lookup x = some .local := by first | exact .inl rfl | exact .inr rfl | assumption) : PS X (.AugAssign (.Name x pos') op e pos) (tS en W (mAug i o m)) :=
  PSimp (ps_aug hN hi hx he ho hf) fun D σ H ⟨ρ, ss, h, rel, rs, f⟩ => by
    unfold mAug at f
    split at f
    · rename_i x ex
      obtain ⟨u, eu, ru⟩ := rs.at_ i x ex
      refine ⟨u, eu, ρ, ss, h, rel, rs, ?_⟩
      cases e1 : m ss h with
      | stuck => simp only [e1, thenS, finS] at f
      | ex c xs h1 => simp only [e1, thenS, finS] at f; exact fun ρ' H' cls d p rel' rx => f ρ' σ H' cls d p rel' (rs.mono p) rx
      | ok v h1 =>
        simp only [e1, thenS] at f
        intro ρ1 H1 w p1 rel1 rw1
        refine ⟨ρ1, h1, x, v, rel1, ru.mono p1, rw1, ?_⟩
        cases e2 : o x v h1 with
        | none => simp only [e2, lift, finS] at f
        | some q =>
          obtain ⟨z, h2⟩ := q
          simp only [e2, lift] at f
          exact ⟨z, h2, rfl, fun ρ2 H2 b p2 rel2 rb => f ρ2 _ H2 (p1.trans p2) rel2 (((rs.mono p1).mono p2).set rb i)⟩
    · exact f.elim
/-! ### o[i] = e, o.f = e -/
def opSt (o i v : SV) (h : SH) : Option SH := match o with
  | .ref a => match h[a]? with
    | some (.lst xs) => match i with
      | .int k => match L2.ixN xs.length k with
        | some j => some (h.set a (.lst (xs.set j v)))
        | none => none
      | _ => none
    | some (.dK kvs) => match keyOf i with
      | some k => if kvs.length < big then some (h.set a (.dK (putS kvs k v))) else none
      | none => none
    | some (.dT kvs) => match i with
      | .ref b => match h[b]? with
        | some (.tup xs) => match keysOf xs with
          | some ks => if kvs.length < big then some (h.set a (.dT (putS kvs ks v))) else none
          | none => none
        | _ => none
      | _ => none
    | _ => none
  | _ => none
def mSt (me mo mi : EM) : SM := fun ss h => thenS (me ss h) ss fun v h1 => thenS (mo ss h1) ss fun o h2 => thenS (mi ss h2) ss fun i h3 => match opSt o i v h3 with
  | some h4 => .nx ss h4
  | none => .stuck
def rSt (en : En) : TSet := fun o i v H Q => ∃ ρ h a b c h', Rel en ρ h H ∧ RS en ρ a o ∧ RS en ρ b i ∧ RS en ρ c v ∧ opSt a b c h = some h' ∧ ∀ H', Rel en ρ h' H' → Q H'
theorem PSetOr {t t' : TSet} (h : PSet X t) (h' : PSet X t') : PSet X (fun o i v H Q => t o i v H Q ∨ t' o i v H Q) := fun pins s σ H o i v ov iv u Q I ro ri rv q => q.elim (h pins s σ H o i v ov iv u Q I ro ri rv) (h' pins s σ H o i v ov iv u Q I ro ri rv)
theorem set_dict (hu : X.A.units + 1 < cLine) : PSet X (fun o i v H Q => ∃ a H', o = .ref a ∧ DPut H a i v H' ∧ Q H') := by
  intro pins s σ H o i v ov iv u Q I ro ri rv ⟨a, H', e, g, q⟩
  subst e
  obtain rfl : ov = Value.ref a := ro
  exact d_setItem hu I g ri rv fun s4 I4 => ⟨H', I4, q⟩
theorem setM (hu : X.A.units + 1 < cLine) : PSet X (rSt en) := by
  have base := PSetOr (X := X) set_list (set_dict hu)
  intro pins s σ H o i v ov iv u Q I ro ri rv ⟨ρ, h, a, b, c, h', rel, ra, rb, rc, e, k⟩
  refine base pins s σ H o i v ov iv u Q I ro ri rv ?_
  unfold opSt at e
  split at e
  · split at e
    · rename_i ei
      split at e
      · split at e
        · rename_i ej
          cases e
          obtain ⟨p, vs, rfl, ep, e1, r1⟩ := rel.lst ei ra
          cases rb
          refine .inl ⟨p, vs, _, _, rfl, rfl, e1, by rw [← r1.len]; exact ej, k _ (rel.put ep ⟨_, upd_same, r1.set rc _⟩)⟩
        · cases e
      · cases e
    · rename_i ei
      split at e
      · rename_i kk ek
        split at e
        · rename_i hl
          cases e
          obtain ⟨p, ep, rfl⟩ := ra
          obtain ⟨kws, e1, r1⟩ := rel.at2 ep ei
          obtain rfl := keyOf_rel ek rb
          exact .inr ⟨p, _, rfl, DPut.k e1 (by rw [big_eq, ← Paired.length r1]; exact hl), k _ (rel.put ep ⟨_, upd_same, RK.put rc r1⟩)⟩
        · cases e
      · cases e
    · rename_i ei
      split at e
      · split at e
        · rename_i ej
          split at e
          · rename_i ks ek
            split at e
            · rename_i hl
              cases e
              obtain ⟨p, ep, rfl⟩ := ra
              obtain ⟨kws, e1, r1⟩ := rel.at2 ep ei
              obtain ⟨q, ws, rfl, eq, e2, r2⟩ := rel.tup ej rb
              obtain rfl := keysOf_rel ek r2
              exact .inr ⟨p, _, rfl, DPut.t e1 e2 (by rw [big_eq, ← Paired.length r1]; exact hl), k _ (rel.put ep ⟨_, upd_same, RK.put rc r1⟩)⟩
            · cases e
          · cases e
        · cases e
      · cases e
    · cases e
  · cases e
theorem PS.st {o i e : Expr} {me mo mi : EM} {pos' : Pos} (hu : X.A.units + 1 < cLine) (he : PE X e (tE en W me)) (ho : PE X o (tE en W mo)) (hi : PE X i (tE en W mi)) (hs : swapsWithSole [.Subscript o i pos'] e pos.line X.env = pure false := by rfl) (hw : swappedStores [.Subscript o i pos'] e X.env = pure none := by rfl)
    (h1 : (assignEach [.Subscript o i pos'] X.env).map (·.2) = [assign (.Subscript o i pos') X.env] := by rfl)
    (ha : ∀ v, assign (.Subscript o i pos') X.env v = (do
      let ov ← holding [v] (eval o X.env)
      let iv ← holding [v, ov] (eval i X.env)
      standAt pos'
      holding [v, ov, iv] (setItem ov iv v)
      release [v, ov, iv] []) := by intro _; rfl) : PS X (.Assign [.Subscript o i pos'] e pos) (tS en W (mSt me mo mi)) :=
  PSimp (ps_asg he (pg_sub ho hi (setM hu) ha) hs hw h1) fun D σ H t => tS.bind (R1 := RS en) (k := fun ss v h1 => thenS (mo ss h1) ss fun o h2 => thenS (mi ss h2) ss fun i h3 => match opSt o i v h3 with | some h4 => .nx ss h4 | none => .stuck) t fun ρ ss h v x H1 rel rs rv f => by
    refine ⟨ρ, ss, h, rel, rs, ?_⟩
    cases e1 : mo ss h with
    | stuck => simp only [e1, thenS, finS] at f
    | ex c xs h1 => simp only [e1, thenS, finS] at f; exact fun ρ' H' cls d p rel' rx => f ρ' σ H' cls d p rel' (rs.mono p) rx
    | ok o h1 =>
      simp only [e1, thenS] at f
      intro ρ1 H2 y p1 rel1 ro
      refine ⟨ρ1, ss, h1, rel1, rs.mono p1, ?_⟩
      cases e2 : mi ss h1 with
      | stuck => simp only [e2, thenS, finS] at f
      | ex c xs h1 => simp only [e2, thenS, finS] at f; exact fun ρ' H' cls d p rel' rx => f ρ' σ H' cls d (p1.trans p) rel' ((rs.mono p1).mono p) rx
      | ok i h2 =>
        simp only [e2, thenS] at f
        intro ρ2 H3 z p2 rel2 ri
        cases e3 : opSt o i v h2 with
        | none => simp only [e3, finS] at f
        | some h4 =>
          simp only [e3] at f
          exact ⟨ρ2, h2, o, i, v, h4, rel2, ro.mono p2, ri, (rv.mono p1).mono p2, e3, fun H' rel' => f ρ2 σ H' (p1.trans p2) rel' ((rs.mono p1).mono p2)⟩
end
end Fw
namespace Fw
open PySem PySem.Spec L2
/-- what the written part says of the class with the number c: its place, its fields' names in order -/
structure ClsF (en : En) (c : Nat) (C : Addr) (ns : List Str) : Prop where
  at_ : en.cl[c]? = some (C, ns)
  cls : L2.Cls en.K C
  no : ∀ f ∈ ns, NoAttr en.K C f
  nd : ns.Nodup
  few : ns.length ≤ 900
/-- the place of the field f by the class's number: right for the classes that it names -/
def FldOk (en : En) (f : Str) (ix : List (Option Nat)) : Prop := ∀ (c k : Nat), ix[c]? = some (some k) → ∃ C ns, ClsF en c C ns ∧ ns[k]? = some f
theorem zip_lookup {f : Str} : ∀ {ns : List Str} {vs : List V} {k : Nat} {v : V}, ns.Nodup → ns[k]? = some f → vs[k]? = some v → (ns.zip vs).lookup f = some v
  | [], _, _, _, _, h, _ => by simp at h
  | _ :: _, [], _, _, _, _, h => by simp at h
  | n :: ns, w :: vs, 0, v, nd, h1, h2 => by
    simp at h1 h2; subst h1; subst h2
    simp [List.lookup]
  | n :: ns, w :: vs, k + 1, v, nd, h1, h2 => by
    have h1' : ns[k]? = some f := by simpa using h1
    have hn : n ≠ f := fun e => (List.nodup_cons.mp nd).1 (by rw [e]; exact List.mem_of_getElem? h1')
    have hb : (f == n) = false := by simpa using fun e : f = n => hn e.symm
    rw [List.zip_cons_cons, List.lookup_cons, hb]
    exact zip_lookup (List.nodup_cons.mp nd).2 h1' (by simpa using h2)
theorem zip_put {f : Str} {y : V} : ∀ {ns : List Str} {vs : List V} {k : Nat}, ns.Nodup → ns[k]? = some f → k < vs.length → putF f y (ns.zip vs) = ns.zip (vs.set k y)
  | [], _, _, _, h, _ => by simp at h
  | _ :: _, [], _, _, _, h => by simp at h
  | n :: ns, w :: vs, 0, nd, h1, h2 => by
    simp at h1; subst h1
    simp [putF]
  | n :: ns, w :: vs, k + 1, nd, h1, h2 => by
    have h1' : ns[k]? = some f := by simpa using h1
    have hn : n ≠ f := fun e => (List.nodup_cons.mp nd).1 (by rw [e]; exact List.mem_of_getElem? h1')
    rw [List.zip_cons_cons, List.set_cons_succ, List.zip_cons_cons]
    unfold putF
    rw [if_neg hn, zip_put (List.nodup_cons.mp nd).2 h1' (by simpa using h2)]
theorem zip_new {f : Str} {y : V} : ∀ {ns : List Str} {vs : List V}, ns.Nodup → ns[vs.length]? = some f → putF f y (ns.zip vs) = ns.zip (vs ++ [y])
  | [], _, _, h => by simp at h
  | n :: ns, [], nd, h1 => by
    simp at h1; subst h1
    simp [putF]
  | n :: ns, w :: vs, nd, h1 => by
    have h1' : ns[vs.length]? = some f := by simpa using h1
    have hn : n ≠ f := fun e => (List.nodup_cons.mp nd).1 (by rw [e]; exact List.mem_of_getElem? h1')
    rw [List.zip_cons_cons, List.cons_append, List.zip_cons_cons]
    unfold putF
    rw [if_neg hn, zip_new (List.nodup_cons.mp nd).2 h1']
section
variable {X : Cx} {en : En} {W : WX} {pos : Pos}
def opFld (ix : List (Option Nat)) : O1 := fun a h => match a with
  | .ref i => match h[i]? with
    | some (.ins c vs) => match ix[c]? with
      | some (some k) => match vs[k]? with
        | some v => some (v, h)
        | none => none
      | _ => none
    | _ => none
  | _ => none
theorem PE.fld {e : Expr} {f : Str} {m : EM} {ix : List (Option Nat)} (hK : X.K = en.K) (hf : FldOk en f ix) (he : PE X e (tE en W m)) (hb : attributeBase e f X.env (eval e X.env) = eval e X.env := by rfl) : PE X (.Attribute e f pos) (tE en W (mO1 (opFld ix) m)) :=
  PEimp (pe_fld he hb) fun σ H Q t => tM.bind2 (R1 := RS en) (R2 := RS en) (k := fun a (ss : SS) h => lift (opFld ix a h)) t fun ρ ss h a x H1 rel rs ra fn => by
    obtain ⟨v, h', e, k⟩ := fn.lift
    unfold opFld at e
    split at e
    · split at e
      · rename_i ei
        split at e
        · rename_i kk ek
          split at e
          · rename_i ev
            obtain ⟨C, ns, F, en'⟩ := hf _ _ ek
            obtain ⟨p, ep, rfl⟩ := ra
            obtain ⟨C', ns', dx, ws, e1, e2, l, r⟩ := rel.at2 ep ei
            rw [F.at_] at e1; cases e1
            obtain ⟨w, ew, rw'⟩ := r.get ev
            exact ⟨p, C, dx, _, w, rfl, e2, by rw [hK]; exact F.cls, by rw [hK]; exact F.no _ (List.mem_of_getElem? en'), zip_lookup F.nd en' ew, finO.here ⟨_, _, e, k⟩ rel rw'⟩
          · cases e
        · cases e
      · cases e
    · cases e
def opFst (ix : List (Option Nat)) (o v : SV) (h : SH) : Option SH := match o with
  | .ref i => match h[i]? with
    | some (.ins c vs) => match ix[c]? with
      | some (some k) => if k < vs.length then some (h.set i (.ins c (vs.set k v))) else if k = vs.length then some (h.set i (.ins c (vs ++ [v]))) else none
      | _ => none
    | _ => none
  | _ => none
def mFst (ix : List (Option Nat)) (me mo : EM) : SM := fun ss h => thenS (me ss h) ss fun v h1 => thenS (mo ss h1) ss fun o h2 => match opFst ix o v h2 with
  | some h3 => .nx ss h3
  | none => .stuck
theorem PS.fst {o e : Expr} {f : Str} {me mo : EM} {ix : List (Option Nat)} {pos' : Pos} (hK : X.K = en.K) (hf : FldOk en f ix) (ho : PE X o (tE en W mo)) (he : PE X e (tE en W me)) (hs : swapsWith e (some (.Attribute o f pos')) pos.line X.env = pure false := by rfl) :
    PS X (.Assign [.Attribute o f pos'] e pos) (tS en W (mFst ix me mo)) :=
  PSimp (ps_fld ho he hs) fun D σ H t => tS.bind (R1 := RS en) (k := fun ss v h1 => thenS (mo ss h1) ss fun o h2 => match opFst ix o v h2 with | some h3 => .nx ss h3 | none => .stuck) t fun ρ ss h v x H1 rel rs rv fn => by
    refine ⟨ρ, ss, h, rel, rs, ?_⟩
    cases e1 : mo ss h with
    | stuck => simp only [e1, thenS, finS] at fn
    | ex c xs h1 => simp only [e1, thenS, finS] at fn; exact fun ρ' H' cls d p rel' rx => fn ρ' σ H' cls d p rel' (rs.mono p) rx
    | ok o h1 =>
      simp only [e1, thenS] at fn
      intro ρ1 H2 y p1 rel1 ro
      cases e2 : opFst ix o v h1 with
      | none => simp only [e2, finS] at fn
      | some h3 =>
        simp only [e2] at fn
        unfold opFst at e2
        split at e2
        · split at e2
          · rename_i ei
            split at e2
            · rename_i kk ek
              obtain ⟨C, ns, F, en'⟩ := hf _ _ ek
              obtain ⟨p, ep, rfl⟩ := ro
              obtain ⟨C', ns', dx, ws, e1', e2', l, r⟩ := rel1.at2 ep ei
              rw [F.at_] at e1'; cases e1'
              have few : (ns.zip ws).length < 1000 := by
                have := F.few
                rw [List.length_zip]; omega
              refine ⟨p, C, dx, _, rfl, e2', by rw [hK]; exact F.cls, by rw [hK]; exact F.no _ (List.mem_of_getElem? en'), few, ?_⟩
              split at e2
              · rename_i hk
                cases e2
                rw [zip_put F.nd en' (by rw [← r.len]; exact hk)]
                exact fn ρ1 σ _ p1 (rel1.put ep ⟨C, ns, dx, _, F.at_, upd_same, by simpa using l, RSs.set (rv.mono p1) _ r⟩) (rs.mono p1)
              · split at e2
                · rename_i hk
                  cases e2
                  have hl : kk = ws.length := by rw [← r.len]; exact hk
                  rw [zip_new F.nd (by rw [← hl]; exact en')]
                  have hlt : kk < ns.length := (List.getElem?_eq_some_iff.mp en').1
                  exact fn ρ1 σ _ p1 (rel1.put ep ⟨C, ns, dx, _, F.at_, upd_same, by rw [List.length_append, List.length_singleton]; omega, RSs.app r (.cons (rv.mono p1) .nil)⟩) (rs.mono p1)
                · cases e2
            · cases e2
          · cases e2
        · cases e2
end
end Fw
namespace Fw
open PySem PySem.Spec L2
/-- what a loop walks: at turn i an item, or the end -/
abbrev Wk := SH → Nat → Option (Option (SV × SH))
abbrev IM := SS → SH → Res Wk
def ItOk (en : En) (ρ : List Addr) (J : It) (wk : Wk) : Prop := ∀ ρ2 h2 H2 i, Pre ρ ρ2 → Rel en ρ2 h2 H2 →
  (wk h2 i = some none → J.stop i H2) ∧ ∀ x h3, wk h2 i = some (some (x, h3)) → J.go i H2 ∧ ∀ v H3, J.yld i H2 v H3 → ∃ ρ3, Pre ρ2 ρ3 ∧ Rel en ρ3 h3 H3 ∧ RS en ρ3 x v
def tI (en : En) (W : WX) (m : IM) : TI := fun σ H R => ∃ ρ ss h, Rel en ρ h H ∧ RSl en ρ ss σ ∧ match m ss h with
  | .stuck => False
  | .ok wk h1 => ∀ ρ' H' J, Pre ρ ρ' → Rel en ρ' h1 H' → ItOk en ρ' J wk → R J H'
  | .ex c xs h1 => ∀ ρ' H' cls d, Pre ρ ρ' → Rel en ρ' h1 H' → RX en ρ' H' c xs cls d → W cls d σ H'
theorem PIimp {X : Cx} {tg e : Expr} {t t' : TI} (h : PI X tg e t) (k : ∀ σ H R, t' σ H R → t σ H R) : PI X tg e t' := ⟨fun pins s σ H R I q => h.run pins s σ H R I (k σ H R q)⟩
theorem PIor {X : Cx} {tg e : Expr} {t t' : TI} (h : PI X tg e t) (h' : PI X tg e t') : PI X tg e (fun σ H R => t σ H R ∨ t' σ H R) := ⟨fun pins s σ H R I q => q.elim (h.run pins s σ H R I) (h'.run pins s σ H R I)⟩
/-- the walk of a list, of a tuple, as it stands at each turn -/
def wkL (r : Nat) : Wk := fun h i => match h[r]? with
  | some (.lst xs) => match xs[i]? with
    | some x => some (some (x, h))
    | none => some none
  | _ => none
def wkT (r : Nat) : Wk := fun h i => match h[r]? with
  | some (.tup xs) => match xs[i]? with
    | some x => some (some (x, h))
    | none => some none
  | _ => none
def wkScr (ns : List Int) : Wk := fun h i => match ns[i]? with
  | some n => some (some (.int n, h))
  | none => some none
def wkStr (z : Str) : Wk := fun h i => match z.cps[i]? with
  | some c => some (some (.str ⟨#[c]⟩, h))
  | none => some none
def wkRng (lo : Int) (n : Nat) : Wk := fun h i => if i < n then some (some (.int (lo + i), h)) else some none
/-- the walk of enumerate over a list -/
def wkEnum (r : Nat) : Wk := fun h i => match h[r]? with
  | some (.lst xs) => match xs[i]? with
    | some x => some (some (.ref h.length, h ++ [.tup [.int (i : Nat), x]]))
    | none => some none
  | _ => none
def mWalk (m : EM) : IM := fun ss h => (m ss h).bind fun v h1 => match v with
  | .scr ns => .ok (wkScr ns) h1
  | .str z => .ok (wkStr z) h1
  | .ref r => match h1[r]? with
    | some (.lst _) => .ok (wkL r) h1
    | some (.tup _) => .ok (wkT r) h1
    | _ => .stuck
  | _ => .stuck
def mEnum (m : AM) : IM := fun ss h => (m ss h).bind fun vs h1 => match vs with
  | [.ref r] => match h1[r]? with
    | some (.lst _) => .ok (wkEnum r) h1
    | _ => .stuck
  | _ => .stuck
def rngB (i : Int) : Bool := decide (-4611686018427387904 ≤ i ∧ i < 4611686018427387904)
def mRng1 (m : AM) : IM := fun ss h => (m ss h).bind fun vs h1 => match vs with
  | [.int j] => if rngB j = true then .ok (wkRng 0 j.toNat) h1 else .stuck
  | _ => .stuck
def mRng2 (m : AM) : IM := fun ss h => (m ss h).bind fun vs h1 => match vs with
  | [.int i, .int j] => if (rngB i && rngB j) = true then .ok (wkRng i (j - i).toNat) h1 else .stuck
  | _ => .stuck
section
variable {X : Cx} {en : En} {W : WX} {pos : Pos}
theorem rngB_of {i : Int} (h : rngB i = true) : -(2 ^ 62) ≤ i ∧ i < 2 ^ 62 := by
  have e : (2 : Int) ^ 62 = 4611686018427387904 := by decide
  rw [e]
  exact of_decide_eq_true h
theorem itL {ρ : List Addr} {r : Nat} {p : Addr} (K : PySem.W.Frag) (ep : ρ[r]? = some p) : ItOk en ρ (Itl K p) (wkL r) := fun ρ2 h2 H2 i pr rel => by
  have ep2 := pr.get ep
  unfold wkL
  refine ⟨fun e => ?_, fun x h3 e => ?_⟩
  · split at e
    · rename_i ei
      obtain ⟨p', vs, e0, ep', e1, r1⟩ := rel.lst ei ⟨p, ep2, rfl⟩
      cases e0
      split at e
      · cases e
      · rename_i en'
        exact ⟨vs, SqL.of e1, by rw [← r1.len]; exact List.getElem?_eq_none_iff.mp en'⟩
    · cases e
  · split at e
    · rename_i ei
      obtain ⟨p', vs, e0, ep', e1, r1⟩ := rel.lst ei ⟨p, ep2, rfl⟩
      cases e0
      split at e
      · rename_i ex
        cases e
        obtain ⟨w, ew, rw'⟩ := r1.get ex
        refine ⟨⟨vs, w, SqL.of e1, ew⟩, fun v H3 ⟨eh, q⟩ => ?_⟩
        have z := q vs (SqL.of e1)
        rw [ew] at z; cases z; subst eh
        exact ⟨ρ2, Pre.refl ρ2, rel, rw'⟩
      · cases e
    · cases e
theorem itT {ρ : List Addr} {r : Nat} {p : Addr} (K : PySem.W.Frag) (ep : ρ[r]? = some p) : ItOk en ρ (Itt K p) (wkT r) := fun ρ2 h2 H2 i pr rel => by
  have ep2 := pr.get ep
  unfold wkT
  refine ⟨fun e => ?_, fun x h3 e => ?_⟩
  · split at e
    · rename_i ei
      obtain ⟨p', vs, e0, ep', e1, r1⟩ := rel.tup ei ⟨p, ep2, rfl⟩
      cases e0
      split at e
      · cases e
      · rename_i en'
        exact ⟨vs, SqT.of e1, by rw [← r1.len]; exact List.getElem?_eq_none_iff.mp en'⟩
    · cases e
  · split at e
    · rename_i ei
      obtain ⟨p', vs, e0, ep', e1, r1⟩ := rel.tup ei ⟨p, ep2, rfl⟩
      cases e0
      split at e
      · rename_i ex
        cases e
        obtain ⟨w, ew, rw'⟩ := r1.get ex
        refine ⟨⟨vs, w, SqT.of e1, ew⟩, fun v H3 ⟨eh, q⟩ => ?_⟩
        have z := q vs (SqT.of e1)
        rw [ew] at z; cases z; subst eh
        exact ⟨ρ2, Pre.refl ρ2, rel, rw'⟩
      · cases e
    · cases e
theorem itScr {ρ : List Addr} : ItOk en ρ (Itl en.K en.a0) (wkScr en.ns) := fun ρ2 h2 H2 i pr rel => by
  unfold wkScr
  have s := rel.scr
  have m : (en.ns.map V.int)[i]? = (en.ns[i]?).map V.int := List.getElem?_map
  refine ⟨fun e => ?_, fun x h3 e => ?_⟩
  · split at e
    · cases e
    · rename_i en'
      exact ⟨_, s, by rw [List.length_map]; exact List.getElem?_eq_none_iff.mp en'⟩
  · split at e
    · rename_i ex
      cases e
      rw [ex] at m
      refine ⟨⟨_, _, s, m⟩, fun v H3 ⟨eh, q⟩ => ?_⟩
      have z := q _ s
      rw [m] at z; cases z; subst eh
      exact ⟨ρ2, Pre.refl ρ2, rel, rfl⟩
    · cases e
theorem itStr {ρ : List Addr} (z : Str) : ItOk en ρ (Its z) (wkStr z) := fun ρ2 h2 H2 i pr rel => by
  unfold wkStr
  refine ⟨fun e => ?_, fun x h3 e => ?_⟩
  · split at e
    · cases e
    · rename_i en'
      exact Array.getElem?_eq_none_iff.mp en'
  · split at e
    · rename_i ex
      cases e
      refine ⟨(Array.getElem?_eq_some_iff.mp ex).1, fun v H3 ⟨eh, c, ec, q⟩ => ?_⟩
      rw [ex] at ec; cases ec; subst eh; subst q
      exact ⟨ρ2, Pre.refl ρ2, rel, rfl⟩
    · cases e
theorem itRng {ρ : List Addr} (lo : Int) (n : Nat) : ItOk en ρ (Itr lo n) (wkRng lo n) := fun ρ2 h2 H2 i pr rel => by
  unfold wkRng
  refine ⟨fun e => ?_, fun x h3 e => ?_⟩
  · split at e
    · cases e
    · exact Nat.le_of_not_lt (by assumption)
  · split at e
    · cases e
      refine ⟨by assumption, fun v H3 ⟨eh, q⟩ => ?_⟩
      subst eh; subst q
      exact ⟨ρ2, Pre.refl ρ2, rel, rfl⟩
    · cases e
theorem itEnum {ρ : List Addr} {r : Nat} {p : Addr} (K : PySem.W.Frag) (ep : ρ[r]? = some p) : ItOk en ρ (Ite K p) (wkEnum r) := fun ρ2 h2 H2 i pr rel => by
  have ep2 := pr.get ep
  unfold wkEnum
  refine ⟨fun e => ?_, fun x h3 e => ?_⟩
  · split at e
    · rename_i ei
      obtain ⟨p', vs, e0, ep', e1, r1⟩ := rel.lst ei ⟨p, ep2, rfl⟩
      cases e0
      split at e
      · cases e
      · rename_i en'
        exact ⟨vs, SqL.of e1, by rw [← r1.len]; exact List.getElem?_eq_none_iff.mp en'⟩
    · cases e
  · split at e
    · rename_i ei
      obtain ⟨p', vs, e0, ep', e1, r1⟩ := rel.lst ei ⟨p, ep2, rfl⟩
      cases e0
      split at e
      · rename_i ex
        cases e
        obtain ⟨w, ew, rw'⟩ := r1.get ex
        refine ⟨⟨vs, w, SqL.of e1, ew⟩, fun v H3 ⟨T, x, ev, nT, eh, q⟩ => ?_⟩
        have z := q vs (SqL.of e1)
        rw [ew] at z; cases z; subst eh; subst ev
        exact ⟨ρ2 ++ [T], Pre.one ρ2 T, rel.push nT ⟨_, upd_same, .cons rfl (.cons (rw'.mono (Pre.one ρ2 T)) .nil)⟩, ⟨T, by rw [← rel.len, List.getElem?_append_right (Nat.le_refl _)]; simp, rfl⟩⟩
      · cases e
    · cases e
theorem tI.bind {α β : Type} {R1 : List Addr → α → β → Prop} {m1 : SS → SH → Res α} {k : α → SH → Res Wk} {σ : L2.St} {H : Hp} {R : It → Hp → Prop} {Q' : β → Hp → Prop} (t : tI en W (fun ss h => (m1 ss h).bind k) σ H R)
    (f : ∀ ρ h a b H1, Rel en ρ h H1 → R1 ρ a b → (match k a h with | .stuck => False | .ok wk h1 => ∀ ρ' H' J, Pre ρ ρ' → Rel en ρ' h1 H' → ItOk en ρ' J wk → R J H' | .ex c xs h1 => ∀ ρ' H' cls d, Pre ρ ρ' → Rel en ρ' h1 H' → RX en ρ' H' c xs cls d → W cls d σ H') → Q' b H1) : tM en W R1 m1 σ H Q' := by
  obtain ⟨ρ, ss, h, rel, rs, q⟩ := t
  refine ⟨ρ, ss, h, rel, rs, ?_⟩
  cases e : m1 ss h with
  | stuck => simp only [e, Res.bind] at q
  | ex c xs h1 => simp only [e, Res.bind] at q; exact q
  | ok a h1 =>
    simp only [e, Res.bind] at q
    intro ρ1 H1 b p rel1 r
    refine f ρ1 h1 a b H1 rel1 r ?_
    cases e2 : k a h1 with
    | stuck => simp only [e2] at q
    | ok wk h2 => simp only [e2] at q ⊢; exact fun ρ' H' J p' => q ρ' H' J (p.trans p')
    | ex c xs h2 => simp only [e2] at q ⊢; exact fun ρ' H' cls d p' => q ρ' H' cls d (p.trans p')
theorem PI.walk {tg e : Expr} {m : EM} (hK : X.K = en.K) (he : PE X e (tE en W m)) : PI X tg e (tI en W (mWalk m)) := by
  refine PIimp (PIor (pi_list he) (PIor (pi_tup he) (pi_str he))) fun σ H R t => ?_
  have t' := t
  obtain ⟨ρ, ss, h, rel, rs, q⟩ := t
  unfold mWalk at q
  cases e1 : m ss h with
  | stuck => simp only [e1, Res.bind] at q
  | ex c xs h1 => simp only [e1, Res.bind] at q; exact .inl ⟨ρ, ss, h, rel, rs, by rw [e1]; exact q⟩
  | ok v h1 =>
    simp only [e1, Res.bind] at q
    cases v with
    | scr ns =>
      refine .inl ⟨ρ, ss, h, rel, rs, ?_⟩
      rw [e1]
      intro ρ1 H1 b p rel1 ⟨eb, en'⟩
      subst eb; subst en'
      exact ⟨en.a0, rfl, ⟨_, by rw [hK]; exact rel1.scr⟩, q ρ1 H1 _ p rel1 (by rw [hK]; exact itScr)⟩
    | str z =>
      refine .inr (.inr ⟨ρ, ss, h, rel, rs, ?_⟩)
      rw [e1]
      intro ρ1 H1 b p rel1 r
      cases r
      exact ⟨z, rfl, q ρ1 H1 _ p rel1 (itStr z)⟩
    | ref r =>
      cases ei : h1[r]? with
      | none => simp only [ei] at q
      | some o =>
        cases o with
        | lst xs =>
          simp only [ei] at q
          refine .inl ⟨ρ, ss, h, rel, rs, ?_⟩
          rw [e1]
          intro ρ1 H1 b p rel1 ⟨a, ea, eb⟩
          subst eb
          obtain ⟨p', vs, e0, ep', e3, r1⟩ := rel1.lst ei ⟨a, ea, rfl⟩
          cases e0
          exact ⟨a, rfl, ⟨_, SqL.of e3⟩, q ρ1 H1 _ p rel1 (itL _ ea)⟩
        | tup xs =>
          simp only [ei] at q
          refine .inr (.inl ⟨ρ, ss, h, rel, rs, ?_⟩)
          rw [e1]
          intro ρ1 H1 b p rel1 ⟨a, ea, eb⟩
          subst eb
          obtain ⟨p', vs, e0, ep', e3, r1⟩ := rel1.tup ei ⟨a, ea, rfl⟩
          cases e0
          exact ⟨a, rfl, ⟨_, SqT.of e3⟩, q ρ1 H1 _ p rel1 (itT _ ea)⟩
        | _ => simp only [ei] at q
    | _ => exact q.elim
theorem PI.rng1 {tg a : Expr} {m : AM} {p : Pos} (hg : Gl X "range") (hm : X.mg "range" = none) (ha : PA X [a] (tA en W m)) (hs : starEach [a] X.env = [(false, eval a X.env)] := by rfl) : PI X tg (.Call (.Name "range" p) [a] [] pos) (tI en W (mRng1 m)) :=
  PIimp (pi_range1 hg hm ha hs) fun σ H R t => tI.bind (R1 := RSs en) t fun ρ h as bs H1 rel r q => by
    split at q
    · exact q.elim
    · rename_i e2
      split at e2
      · split at e2
        · rename_i hb
          cases e2
          obtain ⟨x, rfl, rx⟩ := RSs.one r
          cases rx
          exact ⟨_, rfl, (rngB_of hb).1, (rngB_of hb).2, q ρ H1 _ (Pre.refl ρ) rel (itRng 0 _)⟩
        · cases e2
      · cases e2
    · rename_i e2
      split at e2
      · split at e2 <;> cases e2
      · cases e2
theorem PI.rng2 {tg a b : Expr} {m : AM} {p : Pos} (hg : Gl X "range") (hm : X.mg "range" = none) (ha : PA X [a, b] (tA en W m)) (hs : starEach [a, b] X.env = [(false, eval a X.env), (false, eval b X.env)] := by rfl) (hs2 : starEach [b] X.env = [(false, eval b X.env)] := by rfl) : PI X tg (.Call (.Name "range" p) [a, b] [] pos) (tI en W (mRng2 m)) :=
  PIimp (pi_range2 hg hm ha hs hs2) fun σ H R t => tI.bind (R1 := RSs en) t fun ρ h as bs H1 rel r q => by
    split at q
    · exact q.elim
    · rename_i e2
      split at e2
      · split at e2
        · rename_i hb
          cases e2
          obtain ⟨x, y, rfl, rx, ry⟩ := RSs.two r
          cases rx; cases ry
          have z := Bool.and_eq_true_iff.mp hb
          exact ⟨_, _, rfl, ⟨(rngB_of z.1).1, (rngB_of z.1).2, (rngB_of z.2).1, (rngB_of z.2).2⟩, q ρ H1 _ (Pre.refl ρ) rel (itRng _ _)⟩
        · cases e2
      · cases e2
    · rename_i e2
      split at e2
      · split at e2 <;> cases e2
      · cases e2
theorem PI.enm {e : Expr} {m : AM} {p tpos : Pos} {elts : List Expr} {kk : Nat} (hg : Gl X "enumerate") (hm : X.mg "enumerate" = none) (ha : PA X [e] (tA en W m)) (hs : starEach [e] X.env = [(false, eval e X.env)] := by rfl) : PI X (.Tuple elts kk tpos) (.Call (.Name "enumerate" p) [e] [] pos) (tI en W (mEnum m)) :=
  PIimp (pi_enum hg hm ha hs) fun σ H R t => tI.bind (R1 := RSs en) t fun ρ h as bs H1 rel r q => by
    split at q
    · exact q.elim
    · rename_i e2
      split at e2
      · split at e2
        · rename_i ei
          cases e2
          obtain ⟨x, rfl, rx⟩ := RSs.one r
          obtain ⟨p', vs, rfl, ep', e3, r1⟩ := rel.lst ei rx
          exact ⟨p', vs, rfl, SqL.of e3, q ρ H1 _ (Pre.refl ρ) rel (itEnum _ ep')⟩
        · cases e2
      · cases e2
    · rename_i e2
      split at e2
      · split at e2 <;> cases e2
      · cases e2
end
end Fw
namespace Fw
open PySem PySem.Spec L2
/-- the turns of a for -/
def forM (g : GM) (wk : Wk) (body : SM) : Nat → Nat → SM
  | 0, _ => fun _ _ => .stuck
  | n + 1, i => fun ss h => match wk h i with
    | none => .stuck
    | some none => .nx ss h
    | some (some (x, h1)) => match g x ss h1 with
      | none => .stuck
      | some ss1 => match body ss1 h1 with
        | .nx ss2 h2 => forM g wk body n (i + 1) ss2 h2
        | .ct ss2 h2 => forM g wk body n (i + 1) ss2 h2
        | .bk ss2 h2 => .nx ss2 h2
        | r => r
/-- more turns than there are -/
def many : Nat := 18446744073709551616
def mFor (m : IM) (g : GM) (body : SM) : SM := fun ss h => match m ss h with
  | .stuck => .stuck
  | .ex c xs h1 => .ex c xs ss h1
  | .ok wk h1 => forM g wk body many 0 ss h1
/-- the turns of a while -/
def whileM (t : BM) (body : SM) : Nat → SM
  | 0 => fun _ _ => .stuck
  | n + 1 => fun ss h => thenS (t ss h) ss fun b h1 => if b = true then (match body ss h1 with
    | .nx ss2 h2 => whileM t body n ss2 h2
    | .ct ss2 h2 => whileM t body n ss2 h2
    | .bk ss2 h2 => .nx ss2 h2
    | r => r) else .nx ss h1
def mWhile (t : BM) (body : SM) : SM := whileM t body many
section
variable {X : Cx} {en : En} {W : WX} {pos : Pos}
theorem PS.for {tg iter : Expr} {body : List Stmt} {m : IM} {g : GM} {mb : SM} {is : List Nat} (hp : PassesOwn (model X.prog X.w) X.A X.env X.xe) (hc : X.calm = true) (hi : PI X tg iter (tI en W m)) (hg : PG X tg (tG en is g)) (hb : PSs X body (tS en W mb))
    (hs : ∀ x, foldedSetIterable iter X.env x = pure x := by intro _; rfl) : PS X (.For tg iter body [] pos) (tS en W (mFor m g mb)) :=
  PSimp (ps_for hp hc hi hg hb hs) fun D σ H t => by
    obtain ⟨ρ, ss, h, rel, rs, f⟩ := t
    refine ⟨ρ, ss, h, rel, rs, ?_⟩
    unfold mFor at f
    cases e : m ss h with
    | stuck => simp only [e, finS] at f
    | ex c xs h1 => simp only [e, finS] at f ⊢; exact fun ρ' H' cls d p rel' rx => f ρ' σ H' cls d p rel' (rs.mono p) rx
    | ok wk h1 =>
      simp only [e] at f ⊢
      intro ρ1 H1 J p1 rel1 ok
      refine ⟨fun i n σ2 H2 => ∃ ρ2 ss2 h2, Pre ρ1 ρ2 ∧ Rel en ρ2 h2 H2 ∧ RSl en ρ2 ss2 σ2 ∧ finS en W ρ2 (forM g wk mb n i ss2 h2) D, ⟨many, ρ1, ss, h1, Pre.refl ρ1, rel1, rs.mono p1, f.mono p1⟩, ?_⟩
      rintro i n σ2 H2 ⟨ρ2, ss2, h2, p2, rel2, rs2, f2⟩
      cases n with
      | zero => exact f2.elim
      | succ n =>
        unfold forM at f2
        obtain ⟨k1, k2⟩ := ok ρ2 h2 H2 i p2 rel2
        cases e2 : wk h2 i with
        | none => simp only [e2, finS] at f2
        | some o =>
          cases o with
          | none =>
            simp only [e2] at f2
            exact .inl ⟨k1 e2, f2 ρ2 σ2 H2 (Pre.refl ρ2) rel2 rs2⟩
          | some q =>
            obtain ⟨x, h3⟩ := q
            simp only [e2] at f2
            obtain ⟨go, yl⟩ := k2 x h3 e2
            refine .inr ⟨go, fun σ' H' => ∃ ρ4 ss4 h4, Pre ρ2 ρ4 ∧ Rel en ρ4 h4 H' ∧ RSl en ρ4 ss4 σ' ∧ finS en W ρ4 (forM g wk mb n (i + 1) ss4 h4) D, fun σ' H' ⟨ρ4, ss4, h4, p4, rel4, rs4, f4⟩ => ⟨n, Nat.lt_succ_self n, ρ4, ss4, h4, p2.trans p4, rel4, rs4, f4⟩, fun v H3 yv => ?_⟩
            obtain ⟨ρ3, p3, rel3, rv⟩ := yl v H3 yv
            cases e3 : g x ss2 h3 with
            | none => simp only [e3, finS] at f2
            | some ss1 =>
              simp only [e3] at f2
              refine ⟨ρ3, ss2, h3, x, ss1, rel3, rs2.mono p3, rv, e3, fun σ' rs' _ => ⟨ρ3, ss1, h3, rel3, rs', ?_⟩⟩
              cases e4 : mb ss1 h3 with
              | stuck => simp only [e4] at f2; exact f2
              | nx ss5 h5 => simp only [e4] at f2; exact fun ρ5 σ5 H5 p5 rel5 rs5 => ⟨ρ5, ss5, h5, p3.trans p5, rel5, rs5, f2.mono (p3.trans p5)⟩
              | ct ss5 h5 => simp only [e4] at f2; exact fun ρ5 σ5 H5 p5 rel5 rs5 => ⟨ρ5, ss5, h5, p3.trans p5, rel5, rs5, f2.mono (p3.trans p5)⟩
              | bk ss5 h5 => simp only [e4] at f2; exact fun ρ5 σ5 H5 p5 rel5 rs5 => f2 ρ5 σ5 H5 (p3.trans p5) rel5 rs5
              | rt v h5 => simp only [e4] at f2; exact f2.mono p3
              | ex c xs ss5 h5 => simp only [e4] at f2; exact f2.mono p3
theorem PS.while {c : Expr} {body : List Stmt} {t : BM} {mb : SM} (hp : PassesOwn (model X.prog X.w) X.A X.env X.xe) (hc : PT X c (tT en W t)) (hb : PSs X body (tS en W mb)) : PS X (.While c body [] pos) (tS en W (mWhile t mb)) :=
  PSimp (ps_while hp hc hb) fun D σ H q => by
    obtain ⟨ρ, ss, h, rel, rs, f⟩ := q
    refine ⟨fun n σ2 H2 => ∃ ρ2 ss2 h2, Rel en ρ2 h2 H2 ∧ RSl en ρ2 ss2 σ2 ∧ finS en W ρ2 (whileM t mb n ss2 h2) D, ⟨many, ρ, ss, h, rel, rs, f⟩, ?_⟩
    rintro n σ2 H2 ⟨ρ2, ss2, h2, rel2, rs2, f2⟩
    cases n with
    | zero => exact f2.elim
    | succ n =>
      unfold whileM at f2
      refine tS.bind (D := D) (R1 := RB) (k := fun ss b h1 => if b = true then (match mb ss h1 with
        | .nx ss2 h2 => whileM t mb n ss2 h2
        | .ct ss2 h2 => whileM t mb n ss2 h2
        | .bk ss2 h2 => .nx ss2 h2
        | r => r) else .nx ss h1) ⟨ρ2, ss2, h2, rel2, rs2, f2⟩ fun ρ3 ss3 h3 a b H3 rel3 rs3 r f3 => ?_
      cases r
      cases a with
      | false => exact f3 ρ3 σ2 H3 (Pre.refl ρ3) rel3 rs3
      | true =>
        rw [if_pos rfl] at f3
        refine ⟨fun σ' H' => ∃ ρ4 ss4 h4, Rel en ρ4 h4 H' ∧ RSl en ρ4 ss4 σ' ∧ finS en W ρ4 (whileM t mb n ss4 h4) D, fun σ' H' z => ⟨n, Nat.lt_succ_self n, z⟩, ρ3, ss3, h3, rel3, rs3, ?_⟩
        cases e4 : mb ss3 h3 with
        | stuck => simp only [e4] at f3; exact f3
        | nx ss5 h5 => simp only [e4] at f3; exact fun ρ5 σ5 H5 p5 rel5 rs5 => ⟨ρ5, ss5, h5, rel5, rs5, f3.mono p5⟩
        | ct ss5 h5 => simp only [e4] at f3; exact fun ρ5 σ5 H5 p5 rel5 rs5 => ⟨ρ5, ss5, h5, rel5, rs5, f3.mono p5⟩
        | bk ss5 h5 => simp only [e4] at f3; exact fun ρ5 σ5 H5 p5 rel5 rs5 => f3 ρ5 σ5 H5 p5 rel5 rs5
        | rt v h5 => simp only [e4] at f3; exact f3
        | ex c xs ss5 h5 => simp only [e4] at f3; exact f3
end
end Fw
namespace Fw
open PySem PySem.Spec L2
/-- what a run of a def's meaning is to bring -/
def finF (en : En) (ρ : List Addr) (r : Res SV) (Q : VK) (E : XK) : Prop := match r with
  | .stuck => False
  | .ok v h => ∀ ρ' H u, Pre ρ ρ' → Rel en ρ' h H → RS en ρ' v u → Q u H
  | .ex c xs h => ∀ ρ' H cls d, Pre ρ ρ' → Rel en ρ' h H → RX en ρ' H c xs cls d → E cls d H
def spM (en : En) (n : Nat) (m : FM) : Sp := fun vs H Q E => vs.length = n ∧ ∃ ρ svs h, Rel en ρ h H ∧ RSs en ρ svs vs ∧ finF en ρ (m svs h) Q E
/-- a def keeps a promise wherever no text is being shown and sys.modules stands -/
structure FnG (P : Program) (w : World) (K : PySem.W.Frag) (mg : Str → Option Value) (base : Heap) (k : Nat) (f : Addr) (fd : FuncData) (ps : List Str) (sp : Sp) : Prop where
  len : ∀ vs H Q E, sp vs H Q E → vs.length = ps.length
  run : ∀ (A : Around) (outer : List Env) (s : Shared) (H : Hp) (args : Args) (us : List Value) (vs : List V) (Q : VK) (E : XK), Room k A → A.guards = some [] → Env0 P w K mg base A outer s H → BindsTo s fd args (ps.zip us) → Vals vs us → sp vs H Q E →
    codeAny (model P w) A (.call (.ref f) args) (CR (L2.CX P w) outer P w H s Q E) s
theorem FnG.mono {P : Program} {w : World} {K : PySem.W.Frag} {mg : Str → Option Value} {base : Heap} {j k : Nat} {f : Addr} {fd : FuncData} {ps : List Str} {sp : Sp} (F : FnG P w K mg base j f fd ps sp) (h : j ≤ k) : FnG P w K mg base k f fd ps sp :=
  ⟨F.len, fun A outer s H args us vs Q E hr => F.run A outer s H args us vs Q E (hr.mono h)⟩
/-- a def's body, at its entry -/
structure Good (en : En) (X : Cx) (W : WX) (k : Nat) : Prop where
  tk : Takes X W
  pass : PassesOwn (model X.prog X.w) X.A X.env X.xe
  room : Room k X.A
  gd : X.A.guards = some []
  sm : ∃ o, X.base.get? sysModules = some o
  calm : X.calm = true
  K : X.K = en.K
theorem Good.u64 {en : En} {X : Cx} {W : WX} {k : Nat} (G : Good en X W k) : X.A.units + 64 < cLine := G.room.units
theorem Good.u1 {en : En} {X : Cx} {W : WX} {k : Nat} (G : Good en X W k) : X.A.units + 1 < cLine := by have := G.room.un; omega
theorem Good.u66 {en : En} {X : Cx} {W : WX} {k : Nat} (G : Good en X W k) : X.A.units + 66 < cLine := by have := G.room.un; omega
def endF (r : SR) : Res SV := match r with
  | .stuck => .stuck
  | .nx _ h => .ok .non h
  | .rt v h => .ok v h
  | .bk _ _ => .stuck
  | .ct _ _ => .stuck
  | .ex c xs _ h => .ex c xs h
/-- what is wanted behind a body -/
theorem finS.body {en : En} {ρ : List Addr} {m : SM} {ss : SS} {h : SH} {Q : VK} {E : XK} (f : finF en ρ (endF (m ss h)) Q E) :
    finS en (fun cls d _ H => E cls d H) ρ (m ss h) { nx := fun _ H' => Q .non H', rt := Q } := by
  cases e : m ss h with
  | stuck => rw [e] at f; exact f
  | nx ss' h' => rw [e] at f; exact fun ρ' σ H p rel rs => f ρ' H .non p rel rfl
  | rt v h' => rw [e] at f; exact f
  | bk ss' h' => rw [e] at f; exact f.elim
  | ct ss' h' => rw [e] at f; exact f.elim
  | ex c xs ss' h' => rw [e] at f; exact fun ρ' σ H cls d p rel rs rx => f ρ' H cls d p rel rx
/-- a def's meaning by its body's: n slots, the first for the arguments -/
def mFn (np n : Nat) (m : SM) : FM := fun vs h => if vs.length = np then endF (m (vs.map some ++ List.replicate (n - vs.length) none) h) else .stuck
theorem mFn_fin {en : En} {ρ : List Addr} {np n : Nat} {m : SM} {svs : List SV} {vs : List V} {h : SH} {Q : VK} {E : XK} (hl : vs.length = np) (r : RSs en ρ svs vs) (f : finF en ρ (mFn np n m svs h) Q E) : finF en ρ (endF (m (svs.map some ++ List.replicate (n - svs.length) none) h)) Q E := by
  unfold mFn at f
  rw [if_pos (by rw [r.len]; exact hl)] at f
  exact f
theorem mFn_len {np n : Nat} {m : SM} {vs : List SV} {h : SH} (e : mFn np n m vs h ≠ .stuck) : vs.length = np := by
  unfold mFn at e
  split at e
  · assumption
  · exact absurd rfl e
theorem start_rel {en : En} {ρ : List Addr} {svs : List SV} {vs : List V} {N : List Str} (r : RSs en ρ svs vs) : RSl en ρ (svs.map some ++ List.replicate (N.length - svs.length) none) (L2.start N vs) := by
  unfold L2.start
  rw [r.len]
  refine ⟨by simp [r.len], fun i v e => ?_⟩
  by_cases hi : i < svs.length
  · rw [List.getElem?_append_left (by simpa using hi), List.getElem?_map] at e
    cases q : svs[i]? with
    | none => rw [q] at e; cases e
    | some x =>
      rw [q] at e; cases e
      obtain ⟨u, eu, ru⟩ := r.get q
      exact ⟨u, by rw [List.getElem?_append_left (by rw [List.length_map, ← r.len]; exact hi), List.getElem?_map, eu]; rfl, ru⟩
  · rw [List.getElem?_append_right (by simpa using hi), List.getElem?_replicate] at e
    split at e <;> cases e
section
variable {P : Program} {w : World} {K : PySem.W.Frag} {mg : Str → Option Value} {base : Heap} {en : En}
/-- THE RULE for a def -/
theorem fnG_of {k : Nat} {f : Addr} {name qual : Str} {params : Arguments} {body : List Stmt} {scope : Scope} {dV kV doc pm cdv ct oc : Value} {an od : Option Addr} {osl : Array (Option Value)} {N ps : List Str} {m : SM}
    (lk : K.lookup f = some ⟨oc, od, .func (PySem.W.fnOf name qual params body scope dV kV doc pm an cdv ct), osl⟩) (hcd : PySem.W.codeIn K cdv qual = true) (S : FnScope N ps scope) (hK : K = en.K) (hsm : ∃ o, base.get? sysModules = some o)
    (hb : ∀ (A : Around) (outer : List Env) (s : Shared) (H : Hp) (E : XK), Good en (cxOf (L2.CX P w) P w K mg base N qual scope f cdv A outer s H E) (fun cls d _ H => E cls d H) k → PSs (cxOf (L2.CX P w) P w K mg base N qual scope f cdv A outer s H E) body (tS en (fun cls d _ H => E cls d H) m)) :
    FnG P w K mg base (k + 1) f (PySem.W.fnOf name qual params body scope dV kV doc pm an cdv ct) ps (spM en ps.length (mFn ps.length N.length m)) := by
  refine ⟨fun vs H Q E h => h.1, fun A outer s H args us vs Q E hr hgd e0 hbd r hsp => ?_⟩
  obtain ⟨hl, ρ, svs, h, rel, rvs, fq⟩ := hsp
  have inK : K.In s.heap := e0.mod.kin.keeps fun b o e => (e0.bs b o e).1
  have noL : s.heap.NoLimit := e0.mod.nolimit.keeps fun b o e => (e0.bs b o e).1
  have kinds : ∀ y ∈ ps.zip us, scope.names.lookup y.1 = some .local ∨ (scope.names.lookup y.1 = some .cell ∧ ((cellsFrom (s.heap.objs.size + 1) scope.names []).lookup y.1).isSome = true) := by
    intro y hy
    rcases S.par y.1 (List.of_mem_zip (show (y.1, y.2) ∈ ps.zip us from hy)).1 with q | q
    · exact .inl q
    · exact .inr ⟨q, PySem.W.cellsFrom_some _ _ _ (.inl q)⟩
  refine codeAny_call_function hr.depth (inK _ _ lk) rfl S.co S.gen rfl (PySem.W.codeRec_of inK hcd) (hbd _ _ _ _ ?_)
  refine wpAny_newFunctionEnv_cells S.kind kinds fun env he s1 x => ?_
  subst he
  refine ⟨noL.keeps x.toInCall.keep, codeAny_func ?_⟩
  obtain ⟨X, hX⟩ : ∃ X, X = cxOf (L2.CX P w) P w K mg base N qual scope f cdv A outer s H E := ⟨_, rfl⟩
  have body : PSs X body (tS en (fun cls d _ H => E cls d H) m) := by
    subst hX
    exact hb A outer s H E ⟨takes_of rfl rfl rfl rfl, passes_of (K := fun e s'' => L2.CX P w outer H s E e s'') rfl, hr.deeper _, hgd, hsm, rfl, hK⟩
  have I : Inv X [] (L2.start N vs) H s1 := by
    subst hX
    exact inv_start S hr.hd e0 hl r x
  have t : tS en (fun cls d _ H => E cls d H) m { nx := fun _ H' => Q .non H', rt := Q } (L2.start N vs) H := ⟨ρ, _, h, rel, start_rel rvs, finS.body (mFn_fin hl rvs fq)⟩
  have run := body.run [] s1 (L2.start N vs) H _ I t
  subst hX
  refine wpAny_mono run (fun fl s' hs => ?_) fun e s' hs => hs
  cases fl with
  | ret u =>
    obtain ⟨v, σ', H', J, rv, q⟩ := hs
    exact ⟨v, H', J.os, J.bare, J.base, J.hok, rv, q⟩
  | next =>
    obtain ⟨σ', H', J, q⟩ := hs
    exact ⟨.non, H', J.os, J.bare, J.base, J.hok, rfl, q⟩
  | brk =>
    obtain ⟨_, _, _, q⟩ := hs
    exact False.elim q
  | cont =>
    obtain ⟨_, _, _, q⟩ := hs
    exact False.elim q
end
/-! ### calls -/
def mCall (f : FM) (ma : AM) : EM := fun ss h => (ma ss h).bind fun vs h1 => f vs h1
theorem finF.call {en : En} {W : WX} {σ : L2.St} {ρ : List Addr} {r : Res SV} {Q : VK} (f : fin en W (RS en) σ ρ r Q) : finF en ρ r Q (fun cls d H => W cls d σ H) := by
  cases r with
  | stuck => exact f
  | ok v h => exact f
  | ex c xs h => exact f
section
variable {X : Cx} {en : En} {W : WX} {k j : Nat} {f : Addr} {fd : FuncData} {ps : List Str} {sp : Sp} {x mn : Str} {p pos apos : Pos} {e o : Expr} {es : List Expr} {ma : AM} {mo : EM} {m : FM}
theorem run_fnG {pins : List (Addr × Obj)} {σ : L2.St} {H : Hp} {s : Shared} {Q : VK} {us : List Value} {vs : List V} (F : FnG X.prog X.w X.K X.mg X.base k f fd ps sp) (hr : Room k X.A) (hg : X.A.guards = some []) (hb : Binds X.K fd ps []) (tk : Takes X W)
    (I : Inv X pins σ H s) (r : Vals vs us) (h : sp vs H Q (fun cls d H => W cls d σ H)) : wpAny (model X.prog X.w) X.A (call (.ref f) us) (EP X pins σ Q) X.xe s := by
  have hl : us.length = ps.length := by rw [← r.length]; exact F.len _ _ _ _ h
  have b := hb s us I.kIn (by rw [List.append_nil]; exact hl)
  rw [List.append_nil] at b
  refine wpAny_call (codeAny_mono (F.run X.A X.stack s H ⟨us, []⟩ us vs Q _ hr hg I.env0 b r h) fun rr s' hq => ?_)
  match rr, hq with
  | .error e, hq => exact tk e s' (XE.of_call I (fun _ _ _ z => z) hq)
  | .ok (.ret u), hq => exact I.after hq
  | .ok .next, hq => exact False.elim hq
  | .ok .brk, hq => exact False.elim hq
  | .ok .cont, hq => exact False.elim hq
/-- a def that is called by its name -/
structure DefAt (P : Program) (w : World) (K : PySem.W.Frag) (mg : Str → Option Value) (base : Heap) (en : En) (k : Nat) (x : Str) (n : Nat) (m : FM) : Prop where
  ex : ∃ f fd ps, mg x = some (.ref f) ∧ PySem.W.keepIn K (.ref f) = true ∧ FnG P w K mg base k f fd ps (spM en n m) ∧ Binds K fd ps []
  len : ∀ vs h, m vs h ≠ .stuck → vs.length = n
theorem PE.call (D : DefAt X.prog X.w X.K X.mg X.base en j x n m) (G : Good en X W k) (hj : j ≤ k) (hg : Gl X x) (ha : PA X (e :: es) (tA en W ma))
    (hdb : (x == ("__debug__" : Str)) = false := by decide) (he : starEach (e :: es) X.env = (false, eval e X.env) :: starEach es X.env := by rfl) (hpl : (backTo pos (starEach es X.env)).any (·.1) = false := by rfl) : PE X (.Call (.Name x p) (e :: es) [] pos) (tE en W (mCall m ma)) := by
  obtain ⟨f, fd, ps, hm, hk, F, hb⟩ := D.ex
  refine ⟨fun pins s σ H Q I t => ?_⟩
  refine wpAny_Call_Name_kw (ld_glob I hg hm ?_ hdb)
  have t2 : tA en W ma σ H fun vs H1 => spM en n m vs H1 Q (fun cls d H => W cls d σ H) := by
    obtain ⟨ρ, ss, h, rel, rs, q⟩ := t
    refine ⟨ρ, ss, h, rel, rs, ?_⟩
    unfold mCall at q
    cases e1 : ma ss h with
    | stuck => simp only [e1, Res.bind, fin] at q
    | ex c xs h1 => simp only [e1, Res.bind, fin] at q; exact q
    | ok vs h1 =>
      simp only [e1, Res.bind] at q
      exact fun ρ1 H1 b p1 rel1 rb => ⟨by rw [← rb.len]; exact D.len vs h1 (fun z => by rw [z] at q; exact q), ρ1, vs, h1, rel1, rb, finF.call (q.mono p1)⟩
  refine PySem.W.callWith_K (h₀ := X.base) I.ok.mod.kin hk (thn (ha.run pos pins s σ H _ I t2) fun us s1 ⟨vs, H1, I1, r, q⟩ => ⟨I1.kIn, ?_⟩) he hpl
  exact run_fnG F (G.room.mono hj) G.gd hb G.tk I1 r q
theorem PE.call0 (D : DefAt X.prog X.w X.K X.mg X.base en j x 0 m) (G : Good en X W k) (hj : j ≤ k) (hg : Gl X x) (hdb : (x == ("__debug__" : Str)) = false := by decide) : PE X (.Call (.Name x p) [] [] pos) (tE en W (mCall m aNil)) := by
  obtain ⟨f, fd, ps, hm, hk, F, hb⟩ := D.ex
  refine ⟨fun pins s σ H Q I t => ?_⟩
  refine wpAny_Call_Name_kw (ld_glob I hg hm ?_ hdb)
  obtain ⟨ρ, ss, h, rel, rs, q⟩ := t
  exact PySem.W.callWith_K0 I.kIn hk (run_fnG (us := []) F (G.room.mono hj) G.gd hb G.tk I .nil ⟨rfl, ρ, [], h, rel, .nil, finF.call q⟩)
/-! ### o.m(..) -/
/-- a method of the classes with the numbers that cs names -/
structure MethAt (P : Program) (w : World) (K : PySem.W.Frag) (mg : Str → Option Value) (base : Heap) (en : En) (k : Nat) (c : Nat) (mn : Str) (n : Nat) (m : FM) : Prop where
  ex : ∃ f fd ps C ns, ClsF en c C ns ∧ mn ∉ ns ∧ Meth K C mn f ∧ FnG P w K mg base k f fd ps (spM en n m) ∧ Binds K fd ps []
  len : ∀ vs h, m vs h ≠ .stuck → vs.length = n
def insOf (h : SH) (v : SV) : Option Nat := match v with
  | .ref i => match h[i]? with
    | some (.ins c _) => some c
    | _ => none
  | _ => none
def mMeth (c : Nat) (f : FM) (mo : EM) (ma : AM) : EM := fun ss h => (mo ss h).bind fun o h1 => if insOf h1 o = some c then (ma ss h1).bind fun vs h2 => f (o :: vs) h2 else .stuck
theorem insOf_rel {ρ : List Addr} {h : SH} {H : Hp} {o : SV} {v : V} {c : Nat} (rel : Rel en ρ h H) (ro : RS en ρ o v) (e : insOf h o = some c) : ∃ a C ns dx vs, v = .ref a ∧ en.cl[c]? = some (C, ns) ∧ H a = some (.ins C dx (ns.zip vs)) := by
  unfold insOf at e
  split at e
  · split at e
    · rename_i ei
      cases e
      obtain ⟨p, ep, rfl⟩ := ro
      obtain ⟨C, ns, dx, vs, e1, e2, l, r⟩ := rel.at2 ep ei
      exact ⟨p, C, ns, dx, vs, rfl, e1, e2⟩
    · cases e
  · cases e
theorem zip_none {f : Str} : ∀ {ns : List Str} {vs : List V}, f ∉ ns → (ns.zip vs).lookup f = none
  | [], _, _ => rfl
  | _ :: _, [], _ => rfl
  | n :: ns, v :: vs, h => by
    have hb : (f == n) = false := by simpa using fun e : f = n => h (by rw [e]; exact List.mem_cons_self)
    rw [List.zip_cons_cons, List.lookup_cons, hb]
    exact zip_none fun m => h (List.mem_cons_of_mem _ m)
theorem PE.meth {c : Nat} {pl : Sem Bool} (D : MethAt X.prog X.w X.K X.mg X.base en j c mn n m) (G : Good en X W k) (hj : j ≤ k) (ho : PE X o (tE en W mo)) (ha : PA X (e :: es) (tA en W ma))
    (hst : starEach (e :: es) X.env = (false, eval e X.env) :: starEach es X.env := by rfl) (hpl : (backTo pos (starEach es X.env)).any (·.1) = false := by rfl)
    (ht : eval (.Call (.Attribute o mn apos) (e :: es) [] pos) X.env = (do
      let ov ← eval o X.env
      standAt apos.atName
      let (f, first) ← holding [ov] (getMethod ov mn pl)
      callWith pos f first (backTo pos (starEach (e :: es) X.env)) (backToKw pos (keywordEach [] X.env))) := by rfl) :
    PE X (.Call (.Attribute o mn apos) (e :: es) [] pos) (tE en W (mMeth c m mo ma)) := by
  obtain ⟨f, fd, ps, C, ns, cf, hnn, hm, F, hb⟩ := D.ex
  refine ⟨fun pins s σ H Q I t => ?_⟩
  have t1 : tE en W mo σ H fun x H1 => ∃ a dx fs, x = .ref a ∧ H1 a = some (.ins C dx fs) ∧ fs.lookup mn = none ∧ tA en W ma σ H1 fun vs H2 => spM en n m (x :: vs) H2 Q (fun cls d H => W cls d σ H) := by
    obtain ⟨ρ, ss, h, rel, rs, q⟩ := t
    refine ⟨ρ, ss, h, rel, rs, ?_⟩
    unfold mMeth at q
    cases e1 : mo ss h with
    | stuck => simp only [e1, Res.bind, fin] at q
    | ex c xs h1 => simp only [e1, Res.bind, fin] at q; exact q
    | ok ov h1 =>
      simp only [e1, Res.bind] at q
      intro ρ1 H1 b p1 rel1 rb
      split at q
      · rename_i hc
        obtain ⟨a, C', ns', dx, vs0, rfl, ec, eh⟩ := insOf_rel rel1 rb hc
        rw [cf.at_] at ec; cases ec
        refine ⟨a, dx, _, rfl, eh, zip_none hnn, ρ1, ss, h1, rel1, rs.mono p1, ?_⟩
        cases e2 : ma ss h1 with
        | stuck => simp only [e2, fin] at q
        | ex c xs h1 => simp only [e2, fin] at q ⊢; exact fun ρ' H' cls d p => q ρ' H' cls d (p1.trans p)
        | ok vs h2 =>
          simp only [e2] at q
          exact fun ρ2 H2 bs p2 rel2 rbs => ⟨by rw [List.length_cons, ← rbs.len]; exact D.len (ov :: vs) h2 (fun z => by rw [z] at q; exact q), ρ2, ov :: vs, h2, rel2, .cons (rb.mono p2) rbs, finF.call (q.mono (p1.trans p2))⟩
      · exact q.elim
  refine PySem.W.methodCall_KW (pl := pl) (thn (ho.run pins s σ H _ I t1) fun u s1 ⟨x, H1, I1, rx, a, dx, fs, ex, ea, l, q⟩ => ?_) ht
  subst ex
  obtain rfl : u = Value.ref a := rx
  refine getmeth_ok I1 ea (by rw [G.K]; exact cf.cls) hm l ?_
  refine PySem.W.callWith_K (first := [.ref a]) (h₀ := X.base) I.ok.mod.kin hm.kp (thn (ha.run pos pins s1 σ H1 _ I1 q) fun us s2 ⟨vs, H2, I2, r, q2⟩ => ⟨I2.kIn, ?_⟩) hst hpl
  exact run_fnG (us := .ref a :: us) (vs := .ref a :: vs) F (G.room.mono hj) G.gd hb G.tk I2 (.cons rfl r) q2
theorem PE.meth0 {c : Nat} {pl : Sem Bool} (D : MethAt X.prog X.w X.K X.mg X.base en j c mn 1 m) (G : Good en X W k) (hj : j ≤ k) (ho : PE X o (tE en W mo))
    (ht : eval (.Call (.Attribute o mn apos) [] [] pos) X.env = (do
      let ov ← eval o X.env
      standAt apos.atName
      let (f, first) ← holding [ov] (getMethod ov mn pl)
      callWith pos f first (backTo pos (starEach [] X.env)) (backToKw pos (keywordEach [] X.env))) := by rfl) :
    PE X (.Call (.Attribute o mn apos) [] [] pos) (tE en W (mMeth c m mo aNil)) := by
  obtain ⟨f, fd, ps, C, ns, cf, hnn, hm, F, hb⟩ := D.ex
  refine ⟨fun pins s σ H Q I t => ?_⟩
  have t1 : tE en W mo σ H fun x H1 => ∃ a dx fs, x = .ref a ∧ H1 a = some (.ins C dx fs) ∧ fs.lookup mn = none ∧ spM en 1 m [x] H1 Q (fun cls d H => W cls d σ H) := by
    obtain ⟨ρ, ss, h, rel, rs, q⟩ := t
    refine ⟨ρ, ss, h, rel, rs, ?_⟩
    unfold mMeth at q
    cases e1 : mo ss h with
    | stuck => simp only [e1, Res.bind, fin] at q
    | ex c xs h1 => simp only [e1, Res.bind, fin] at q; exact q
    | ok ov h1 =>
      simp only [e1, Res.bind] at q
      intro ρ1 H1 b p1 rel1 rb
      split at q
      · rename_i hc
        obtain ⟨a, C', ns', dx, vs0, rfl, ec, eh⟩ := insOf_rel rel1 rb hc
        rw [cf.at_] at ec; cases ec
        exact ⟨a, dx, _, rfl, eh, zip_none hnn, rfl, ρ1, [ov], h1, rel1, .cons rb .nil, finF.call (q.mono p1)⟩
      · exact q.elim
  refine PySem.W.methodCall_KW (pl := pl) (thn (ho.run pins s σ H _ I t1) fun u s1 ⟨x, H1, I1, rx, a, dx, fs, ex, ea, l, q⟩ => ?_) ht
  subst ex
  obtain rfl : u = Value.ref a := rx
  refine getmeth_ok I1 ea (by rw [G.K]; exact cf.cls) hm l ?_
  exact PySem.W.callWith_K0 (first := [.ref a]) I1.kIn hm.kp (run_fnG (us := [.ref a]) (vs := [.ref a]) F (G.room.mono hj) G.gd hb G.tk I1 (.cons rfl .nil) q)
/-! ### C(..) -/
structure MakeAt (P : Program) (w : World) (K : PySem.W.Frag) (mg : Str → Option Value) (base : Heap) (en : En) (k : Nat) (x : Str) (c : Nat) (n : Nat) (m : FM) : Prop where
  ex : ∃ f fd ps C ns, ClsF en c C ns ∧ mg x = some (.ref C) ∧ Mk K C f ∧ FnG P w K mg base k f fd ps (spM en n m) ∧ Binds K fd ps []
  len : ∀ vs h, m vs h ≠ .stuck → vs.length = n
def mMake (c : Nat) (f : FM) (ma : AM) : EM := fun ss h => (ma ss h).bind fun vs h1 => (f (.ref h1.length :: vs) (h1 ++ [.ins c []])).bind fun v h2 => match v with
  | .non => .ok (.ref h1.length) h2
  | _ => .stuck
theorem guards_make {A : Around} {C : Addr} {us : List Value} {kw : List (Str × Value)} (h : A.guards = some []) : (A.under (.builtin "type.__call__" ⟨.ref C :: us, kw⟩)).guards = some [] := by
  first | exact h | simp [Around.under, Code.guards, Code.isGuard, guardIds, pushGuards, h]
theorem run_makeG {pins : List (Addr × Obj)} {σ : L2.St} {H : Hp} {s : Shared} {Q : VK} {us : List Value} {vs : List V} {C : Addr} (M : Mk X.K C f) (F : FnG X.prog X.w X.K X.mg X.base j f fd ps sp) (hr : Room (j + 1) X.A) (hg : X.A.guards = some []) (hb : Binds X.K fd ps []) (tk : Takes X W) (I : Inv X pins σ H s) (r : Vals vs us)
    (h : ∀ x dx, H x = none → H dx = none → dx ≠ x → sp (.ref x :: vs) (upd (upd H dx (.own x)) x (.ins C dx [])) (fun v H2 => v = .non ∧ Q (.ref x) H2) (fun cls d H => W cls d σ H)) :
    wpAny (model X.prog X.w) X.A (call (.ref C) us) (EP X pins σ Q) X.xe s := by
  obtain ⟨n, hn⟩ : ∃ n, n = s.heap.objs.size := ⟨_, rfl⟩
  have q := h (n + 1) n (I.hok.fresh (by omega)) (I.hok.fresh (by omega)) (Nat.ne_of_lt (Nat.lt_succ_self n))
  subst hn
  have I2 := Inv.made (C := C) I
  have r2 : Vals (V.ref (s.heap.objs.size + 1) :: vs) (Value.ref (s.heap.objs.size + 1) :: us) := .cons rfl r
  have hl : (Value.ref (s.heap.objs.size + 1) :: us).length = ps.length := by rw [← r2.length]; exact F.len _ _ _ _ q
  have b := hb _ (Value.ref (s.heap.objs.size + 1) :: us) I2.kIn (by rw [List.append_nil]; exact hl)
  rw [List.append_nil] at b
  refine wpAny_call (make_map (f := f) I.kIn M.makes M.init (beq_iff_eq.mp M.fn) (codeAny_mono (F.run _ X.stack _ _ ⟨Value.ref (s.heap.objs.size + 1) :: us, []⟩ _ _ _ _ (hr.make C us []) (guards_make hg) (I2.env0.make C us []) b r2 q) fun rr s' hq => ?_))
  match rr, hq with
  | .error e, hq => exact tk e s' (XE.of_call I2 (fun _ _ _ z => z) hq)
  | .ok (.ret u), hq =>
    obtain ⟨v, H', I3, rv, ev, q3⟩ := I2.after hq
    subst ev
    exact ⟨rv, .ref (s.heap.objs.size + 1), H', I3, rfl, q3⟩
  | .ok .next, hq => exact False.elim hq
  | .ok .brk, hq => exact False.elim hq
  | .ok .cont, hq => exact False.elim hq
/-- the new instance is held -/
theorem made_rel {ρ : List Addr} {h : SH} {H : Hp} {c : Nat} {C : Addr} {ns : List Str} {x dx : Addr} (rel : Rel en ρ h H) (cf : ClsF en c C ns) (nx : H x = none) (nd : H dx = none) (ne : dx ≠ x) : Rel en (ρ ++ [x]) (h ++ [.ins c []]) (upd (upd H dx (.own x)) x (.ins C dx [])) := by
  have rel1 : Rel en ρ h (upd H dx (.own x)) := rel.keep fun a u e => by rw [upd_ne (ne_of_none e nd)]; exact e
  refine rel1.push (by rw [upd_ne (Ne.symm ne)]; exact nx) ⟨C, ns, dx, [], cf.at_, ?_, Nat.zero_le _, .nil⟩
  rw [upd_same]
  cases ns <;> rfl
theorem PE.make {c : Nat} (D : MakeAt X.prog X.w X.K X.mg X.base en j x c n m) (G : Good en X W k) (hj : j + 1 ≤ k) (hg : Gl X x) (ha : PA X (e :: es) (tA en W ma))
    (hdb : (x == ("__debug__" : Str)) = false := by decide) (he : starEach (e :: es) X.env = (false, eval e X.env) :: starEach es X.env := by rfl) (hpl : (backTo pos (starEach es X.env)).any (·.1) = false := by rfl) : PE X (.Call (.Name x p) (e :: es) [] pos) (tE en W (mMake c m ma)) := by
  obtain ⟨f, fd, ps, C, ns, cf, hm, M, F, hb⟩ := D.ex
  refine ⟨fun pins s σ H Q I t => ?_⟩
  refine wpAny_Call_Name_kw (ld_glob I hg hm ?_ hdb)
  have t2 : tA en W ma σ H fun vs H1 => ∀ x dx, H1 x = none → H1 dx = none → dx ≠ x → spM en n m (.ref x :: vs) (upd (upd H1 dx (.own x)) x (.ins C dx [])) (fun v H2 => v = .non ∧ Q (.ref x) H2) (fun cls d H => W cls d σ H) := by
    obtain ⟨ρ, ss, h, rel, rs, q⟩ := t
    refine ⟨ρ, ss, h, rel, rs, ?_⟩
    unfold mMake at q
    cases e1 : ma ss h with
    | stuck => simp only [e1, Res.bind, fin] at q
    | ex c xs h1 => simp only [e1, Res.bind, fin] at q; exact q
    | ok vs h1 =>
      simp only [e1, Res.bind] at q
      intro ρ1 H1 b p1 rel1 rb x dx nx nd ne
      have rel2 := made_rel rel1 cf nx nd ne
      have rx : RS en (ρ1 ++ [x]) (.ref h1.length) (.ref x) := ⟨x, by rw [← rel1.len, List.getElem?_append_right (Nat.le_refl _)]; simp, rfl⟩
      refine ⟨?_, ρ1 ++ [x], .ref h1.length :: vs, h1 ++ [.ins c []], rel2, .cons rx (rb.mono (Pre.one ρ1 x)), ?_⟩
      · rw [List.length_cons, ← rb.len]
        exact D.len (.ref h1.length :: vs) _ fun z => by rw [z] at q; exact q
      · cases e2 : m (.ref h1.length :: vs) (h1 ++ [.ins c []]) with
        | stuck => rw [e2] at q; exact q
        | ex c xs h2 => rw [e2] at q; exact fun ρ' H' cls d p => q ρ' H' cls d ((p1.trans (Pre.one ρ1 x)).trans p)
        | ok v h2 =>
          rw [e2] at q
          intro ρ2 H2 u p2 rel3 ru
          cases v with
          | non => cases ru; exact ⟨rfl, q ρ2 H2 _ ((p1.trans (Pre.one ρ1 x)).trans p2) rel3 (rx.mono p2)⟩
          | _ => exact (q : False).elim
  refine PySem.W.callWith_K (h₀ := X.base) I.ok.mod.kin M.kp (thn (ha.run pos pins s σ H _ I t2) fun us s1 ⟨vs, H1, I1, r, q⟩ => ⟨I1.kIn, ?_⟩) he hpl
  exact run_makeG M F (G.room.mono hj) G.gd hb G.tk I1 r q
end
end Fw
namespace Fw
open PySem PySem.Spec L2
section
variable {X : Cx} {en : En} {W : WX} {pos apos cpos : Pos} {o e : Expr} {es : List Expr} {mo : EM} {ma : AM}
/-! ### methods of lists -/
def isLst (h : SH) (v : SV) : Bool := match v with
  | .ref i => match h[i]? with
    | some (.lst _) => true
    | _ => false
  | _ => false
def mBm (f : SV → OA) (mo : EM) (ma : AM) : EM := fun ss h => (mo ss h).bind fun o h1 => if isLst h1 o = true then (ma ss h1).bind fun vs h2 => lift (f o vs h2) else .stuck
def rBm (en : En) (f : SV → OA) : V → List V → Hp → VK → Prop := fun x xs H Q => ∃ ρ h a as, Rel en ρ h H ∧ RS en ρ a x ∧ RSs en ρ as xs ∧ finO en ρ (f a as h) Q
theorem isLst_ty {ρ : List Addr} {h : SH} {H : Hp} {a : SV} {x : V} {K : PySem.W.Frag} (rel : Rel en ρ h H) (r : RS en ρ a x) (e : isLst h a = true) : tyV K "list" x H := by
  unfold isLst at e
  split at e
  · split at e
    · rename_i ei
      obtain ⟨p, vs, rfl, ep, e1, r1⟩ := rel.lst ei r
      exact .inl ⟨rfl, _, SqL.of e1⟩
    · cases e
  · cases e
theorem tBmM {f : SV → OA} (σ : L2.St) (H : Hp) (Q : VK) (t : tE en W (mBm f mo ma) σ H Q) : tBM X.K "list" (rBm en f) (tE en W mo) (tA en W ma) σ H Q := by
  obtain ⟨ρ, ss, h, rel, rs, q⟩ := t
  refine ⟨ρ, ss, h, rel, rs, ?_⟩
  unfold mBm at q
  cases e1 : mo ss h with
  | stuck => simp only [e1, Res.bind, fin] at q
  | ex c xs h1 => simp only [e1, Res.bind, fin] at q; exact q
  | ok ov h1 =>
    simp only [e1, Res.bind] at q
    intro ρ1 H1 b p1 rel1 rb
    split at q
    · rename_i hc
      refine ⟨isLst_ty rel1 rb hc, ρ1, ss, h1, rel1, rs.mono p1, ?_⟩
      cases e2 : ma ss h1 with
      | stuck => simp only [e2, fin] at q
      | ex c xs h1 => simp only [e2, fin] at q ⊢; exact fun ρ' H' cls d p => q ρ' H' cls d (p1.trans p)
      | ok vs h2 =>
        simp only [e2] at q
        exact fun ρ2 H2 bs p2 rel2 rbs => ⟨ρ2, h2, ov, vs, rel2, rb.mono p2, rbs, (q.mono (p1.trans p2)).lift⟩
    · exact q.elim
theorem tBmM0 {f : SV → OA} (σ : L2.St) (H : Hp) (Q : VK) (t : tE en W (mBm f mo aNil) σ H Q) : tBM0 X.K "list" (rBm en f) (tE en W mo) σ H Q := by
  obtain ⟨ρ, ss, h, rel, rs, q⟩ := t
  refine ⟨ρ, ss, h, rel, rs, ?_⟩
  unfold mBm at q
  cases e1 : mo ss h with
  | stuck => simp only [e1, Res.bind, fin] at q
  | ex c xs h1 => simp only [e1, Res.bind, fin] at q; exact q
  | ok ov h1 =>
    simp only [e1, Res.bind] at q
    intro ρ1 H1 b p1 rel1 rb
    split at q
    · rename_i hc
      exact ⟨isLst_ty rel1 rb hc, ρ1, h1, ov, [], rel1, rb, .nil, ((show fin en W (RS en) σ ρ (lift (f ov [] h1)) Q from q).mono p1).lift⟩
    · exact q.elim
theorem MtRimp {id : String} {r r' : V → List V → Hp → VK → Prop} (h : MtR X id r) (k : ∀ x xs H Q, r' x xs H Q → r x xs H Q) : MtR X id r' := fun pins s σ H x xs v us Q I rx rs q => h pins s σ H x xs v us Q I rx rs (k _ _ _ _ q)
def opAppend (a : SV) : OA := fun as h => match a, as with
  | .ref i, [y] => match h[i]? with
    | some (.lst xs) => if xs.length < big then some (.non, h.set i (.lst (xs ++ [y]))) else none
    | _ => none
  | _, _ => none
theorem mt_appendM : MtR X "list.append" (rBm en opAppend) := by
  refine MtRimp mt_append fun x xs H Q ⟨ρ, h, a, as, rel, ra, ras, v, h', e, k⟩ => ?_
  unfold opAppend at e
  split at e
  · split at e
    · rename_i ei
      split at e
      · obtain ⟨p, vs, rfl, ep, e1, r1⟩ := rel.lst ei ra
        obtain ⟨y, rfl, ry⟩ := RSs.one ras
        exact ⟨p, vs, y, rfl, rfl, e1, by rw [big_eq, ← r1.len]; assumption, finO.put ⟨_, _, e, k⟩ rel ep ⟨_, upd_same, r1.app (.cons ry .nil)⟩ rfl⟩
      · cases e
    · cases e
  · cases e
theorem dropLast_rel {ρ : List Addr} {xs : List SV} {vs : List V} (r : RSs en ρ xs vs) : RSs en ρ xs.dropLast vs.dropLast := by
  rw [List.dropLast_eq_take, List.dropLast_eq_take, r.len]
  exact r.take _
def opPop (a : SV) : OA := fun as h => match a, as with
  | .ref i, [] => match h[i]? with
    | some (.lst xs) => match xs[xs.length - 1]? with
      | some y => some (y, h.set i (.lst xs.dropLast))
      | none => none
    | _ => none
  | .ref i, [.int 0] => match h[i]? with
    | some (.lst (y :: xs)) => some (y, h.set i (.lst xs))
    | _ => none
  | _, _ => none
theorem mt_popM : MtR X "list.pop" (rBm en opPop) := by
  refine MtRimp (MtR.or mt_pop mt_popAt) fun x xs H Q ⟨ρ, h, a, as, rel, ra, ras, v, h', e, k⟩ => ?_
  unfold opPop at e
  split at e
  · split at e
    · rename_i ei
      split at e
      · rename_i ey
        obtain ⟨p, vs, rfl, ep, e1, r1⟩ := rel.lst ei ra
        cases ras
        obtain ⟨w, ew, rw'⟩ := r1.get ey
        rw [r1.len] at ew
        refine .inl ⟨p, vs, w, rfl, rfl, e1, ew, finO.put ⟨_, _, e, k⟩ rel ep ⟨_, upd_same, dropLast_rel r1⟩ rw'⟩
      · cases e
    · cases e
  · split at e
    · rename_i ei
      obtain ⟨p, vs, rfl, ep, e1, r1⟩ := rel.lst ei ra
      obtain ⟨z, rfl, rz⟩ := RSs.one ras
      cases rz
      cases r1 with
      | cons r0 rt =>
        refine .inr ⟨p, _, 0, 0, _, rfl, rfl, e1, by decide, by decide, ?_, rfl, finO.put ⟨_, _, e, k⟩ rel ep ⟨_, upd_same, rt⟩ r0⟩
        rw [seqIndex_of (by decide) (by rw [List.length_cons]; omega)]
        rfl
    · cases e
  · cases e
/-- the first place of y -/
def findS (y : SV) : List SV → Option Nat
  | [] => none
  | x :: xs => if eqS x y = true then some 0 else (findS y xs).map (· + 1)
theorem findS_spec {ρ : List Addr} {y : SV} {u : V} (ry : RS en ρ y u) (fy : flatS y = true) : ∀ {xs : List SV} {vs : List V} {j : Nat}, RSs en ρ xs vs → xs.all flatS = true → findS y xs = some j →
    ∃ z, vs[j]? = some z ∧ eqV z u = true ∧ ∀ (m : Nat) (z' : V), m < j → vs[m]? = some z' → eqV z' u = false
  | [], _, _, _, _, e => by cases e
  | x :: xs, _, j, .cons r t, f, e => by
    rw [List.all_cons, Bool.and_eq_true] at f
    unfold findS at e
    have q := eqS_rel r ry f.1 fy
    by_cases hx : eqS x y = true
    · rw [if_pos hx] at e
      cases e
      exact ⟨_, rfl, by rw [q]; exact hx, fun m z' hm => by omega⟩
    · rw [if_neg hx] at e
      cases ej : findS y xs with
      | none => rw [ej] at e; cases e
      | some i =>
        rw [ej] at e
        cases e
        obtain ⟨z, h1, h2, h3⟩ := findS_spec ry fy t f.2 ej
        refine ⟨z, by simpa using h1, h2, fun m z' hm hz => ?_⟩
        cases m with
        | zero => simp at hz; subst hz; rw [q]; simpa using hx
        | succ m =>
          have hm' : m + 1 < i + 1 := hm
          exact h3 m z' (by omega) (by simpa using hz)
def opIndex (a : SV) : OA := fun as h => match a, as with
  | .ref i, [y] => match h[i]? with
    | some (.lst xs) => if (flatS y && xs.all flatS) = true then match findS y xs with
      | some j => some (.int (j : Nat), h)
      | none => none
      else none
    | _ => none
  | _, _ => none
theorem mt_indexM : MtR X "list.index" (rBm en opIndex) := by
  refine MtRimp mt_index fun x xs H Q ⟨ρ, h, a, as, rel, ra, ras, v, h', e, k⟩ => ?_
  unfold opIndex at e
  split at e
  · split at e
    · rename_i ei
      split at e
      · rename_i hf
        split at e
        · rename_i ej
          obtain ⟨p, vs, rfl, ep, e1, r1⟩ := rel.lst ei ra
          obtain ⟨y, rfl, ry⟩ := RSs.one ras
          have z := Bool.and_eq_true_iff.mp hf
          obtain ⟨w, h1, h2, h3⟩ := findS_spec ry z.1 r1 z.2 ej
          exact ⟨p, vs, y, _, w, rfl, rfl, SqL.of e1, flatS_rel ry z.1, flatS_all r1 z.2, h1, h2, h3, finO.here ⟨_, _, e, k⟩ rel rfl⟩
        · cases e
      · cases e
    · cases e
  · cases e
theorem PE.append (ho : PE X o (tE en W mo)) (ha : PA X [e] (tA en W ma)) (hbase : attributeBase o "append" X.env (eval o X.env) = eval o X.env := by rfl)
    (hfew : ((backTo cpos (starEach [e] X.env)).all (fun x => !x.1) && (backToKw cpos (keywordEach [] X.env)).all (fun x => x.1.isSome) && decide ([e].length + ([] : List Keyword).length + (if ([] : List Keyword).isEmpty then 0 else 1) < 30)) = true := by rfl)
    (hline : (apos.endLine == cpos.line) = true := by rfl) (hs : starEach [e] X.env = (false, eval e X.env) :: starEach [] X.env := by rfl) (hplain : (backTo cpos (starEach [] X.env)).any (·.1) = false := by rfl) :
    PE X (.Call (.Attribute o "append" apos) [e] [] cpos) (tE en W (mBm opAppend mo ma)) :=
  PEimp (pe_bm PySem.F.plainAttrs_list PySem.F.slot_list_append PySem.F.type_list_append mt_appendM ho ha hbase hfew hline hs hplain) fun σ H Q t => tBmM σ H Q t
theorem PE.pop1 (ho : PE X o (tE en W mo)) (ha : PA X [e] (tA en W ma)) (hbase : attributeBase o "pop" X.env (eval o X.env) = eval o X.env := by rfl)
    (hfew : ((backTo cpos (starEach [e] X.env)).all (fun x => !x.1) && (backToKw cpos (keywordEach [] X.env)).all (fun x => x.1.isSome) && decide ([e].length + ([] : List Keyword).length + (if ([] : List Keyword).isEmpty then 0 else 1) < 30)) = true := by rfl)
    (hline : (apos.endLine == cpos.line) = true := by rfl) (hs : starEach [e] X.env = (false, eval e X.env) :: starEach [] X.env := by rfl) (hplain : (backTo cpos (starEach [] X.env)).any (·.1) = false := by rfl) :
    PE X (.Call (.Attribute o "pop" apos) [e] [] cpos) (tE en W (mBm opPop mo ma)) :=
  PEimp (pe_bm PySem.F.plainAttrs_list PySem.F.slot_list_pop PySem.F.type_list_pop mt_popM ho ha hbase hfew hline hs hplain) fun σ H Q t => tBmM σ H Q t
theorem PE.pop0 (ho : PE X o (tE en W mo)) (hbase : attributeBase o "pop" X.env (eval o X.env) = eval o X.env := by rfl) (hline : (apos.endLine == cpos.line) = true := by rfl) :
    PE X (.Call (.Attribute o "pop" apos) [] [] cpos) (tE en W (mBm opPop mo aNil)) :=
  PEimp (pe_bm0 PySem.F.plainAttrs_list PySem.F.slot_list_pop PySem.F.type_list_pop mt_popM ho hbase hline) fun σ H Q t => tBmM0 σ H Q t
theorem PE.index (ho : PE X o (tE en W mo)) (ha : PA X [e] (tA en W ma)) (hbase : attributeBase o "index" X.env (eval o X.env) = eval o X.env := by rfl)
    (hfew : ((backTo cpos (starEach [e] X.env)).all (fun x => !x.1) && (backToKw cpos (keywordEach [] X.env)).all (fun x => x.1.isSome) && decide ([e].length + ([] : List Keyword).length + (if ([] : List Keyword).isEmpty then 0 else 1) < 30)) = true := by rfl)
    (hline : (apos.endLine == cpos.line) = true := by rfl) (hs : starEach [e] X.env = (false, eval e X.env) :: starEach [] X.env := by rfl) (hplain : (backTo cpos (starEach [] X.env)).any (·.1) = false := by rfl) :
    PE X (.Call (.Attribute o "index" apos) [e] [] cpos) (tE en W (mBm opIndex mo ma)) :=
  PEimp (pe_bm PySem.F.plainAttrs_list PySem.F.slot_list_index PySem.F.type_list_index mt_indexM ho ha hbase hfew hline hs hplain) fun σ H Q t => tBmM σ H Q t
/-! ### n.bit_length() -/
def opBits : O1 := fun a h => match a with
  | .int i => some (.int (Builtin.Int.intBits i : Nat), h)
  | _ => none
theorem PE.bits (ho : PE X o (tE en W mo)) (hbase : attributeBase o "bit_length" X.env (eval o X.env) = eval o X.env := by rfl) (hline : (apos.endLine == pos.line) = true := by rfl) : PE X (.Call (.Attribute o "bit_length" apos) [] [] pos) (tE en W (mO1 opBits mo)) :=
  PEimp (pe_bits ho hbase hline) fun σ H Q t => tM.bind2 (R1 := RS en) (R2 := RS en) (k := fun a (ss : SS) h => lift (opBits a h)) t fun ρ ss h a x H1 rel rs ra f => by
    obtain ⟨v, h', e, k⟩ := f.lift
    unfold opBits at e
    split at e
    · cases ra; exact ⟨_, rfl, finO.here ⟨_, _, e, k⟩ rel rfl⟩
    · cases e
/-! ### sum, all of a list -/
def intsOf : List SV → Option (List Int)
  | [] => some []
  | x :: xs => match x with
    | .int i => match intsOf xs with
      | some is => some (i :: is)
      | none => none
    | _ => none
theorem intsOf_rel {ρ : List Addr} : ∀ {xs : List SV} {vs : List V} {is : List Int}, intsOf xs = some is → RSs en ρ xs vs → vs = is.map V.int
  | [], _, _, e, r => by cases r; cases e; rfl
  | x :: xs, _, _, e, r => by
    cases r with
    | cons r t =>
      unfold intsOf at e
      split at e
      · split at e
        · rename_i ei
          cases e
          cases r
          rw [List.map_cons, intsOf_rel ei t]
        · cases e
      · cases e
def opSum : O1 := fun a h => match a with
  | .ref i => match h[i]? with
    | some (.lst xs) => match intsOf xs with
      | some is => some (.int is.sum, h)
      | none => none
    | _ => none
  | _ => none
theorem call_sumM (hc : X.calm = true) : CallR X (.builtin "sum") (rOA en (un1 opSum)) := by
  refine CallRimp (cr_sum hc) fun xs H Q q => ?_
  obtain ⟨ρ, h, a, x, rfl, rel, ra, v, h', e, k⟩ := un1_of q
  unfold opSum at e
  split at e
  · split at e
    · rename_i ei
      split at e
      · rename_i es
        obtain ⟨p, vs, rfl, ep, e1, r1⟩ := rel.lst ei ra
        obtain rfl := intsOf_rel es r1
        exact ⟨p, _, rfl, SqL.of e1, finO.here ⟨_, _, e, k⟩ rel rfl⟩
      · cases e
    · cases e
  · cases e
def boolsOf : List SV → Option (List Bool)
  | [] => some []
  | x :: xs => match x with
    | .bl i => match boolsOf xs with
      | some is => some (i :: is)
      | none => none
    | _ => none
theorem boolsOf_rel {ρ : List Addr} : ∀ {xs : List SV} {vs : List V} {is : List Bool}, boolsOf xs = some is → RSs en ρ xs vs → vs = is.map V.bl
  | [], _, _, e, r => by cases r; cases e; rfl
  | x :: xs, _, _, e, r => by
    cases r with
    | cons r t =>
      unfold boolsOf at e
      split at e
      · split at e
        · rename_i ei
          cases e
          cases r
          rw [List.map_cons, boolsOf_rel ei t]
        · cases e
      · cases e
def opAll : O1 := fun a h => match a with
  | .ref i => match h[i]? with
    | some (.lst xs) => match boolsOf xs with
      | some bs => some (.bl (bs.all id), h)
      | none => none
    | _ => none
  | _ => none
theorem call_allM (hc : X.calm = true) : CallR X (.builtin "all") (rOA en (un1 opAll)) := by
  refine CallRimp (cr_all hc) fun xs H Q q => ?_
  obtain ⟨ρ, h, a, x, rfl, rel, ra, v, h', e, k⟩ := un1_of q
  unfold opAll at e
  split at e
  · split at e
    · rename_i ei
      split at e
      · rename_i es
        obtain ⟨p, vs, rfl, ep, e1, r1⟩ := rel.lst ei ra
        obtain rfl := boolsOf_rel es r1
        exact ⟨p, _, rfl, SqL.of e1, finO.here ⟨_, _, e, k⟩ rel rfl⟩
      · cases e
    · cases e
  · cases e
end
end Fw
namespace Fw
open PySem PySem.Spec L2
def wipeS (ss : SS) : List Nat → SS
  | [] => ss
  | i :: is => (wipeS ss is).set i none
theorem wipe_rel {en : En} {ρ : List Addr} {ss : SS} {σ : L2.St} (r : RSl en ρ ss σ) : ∀ is : List Nat, RSl en ρ (wipeS ss is) (wipe σ is)
  | [] => r
  | i :: is => (wipe_rel r is).clear i
/-- the turns of a list comprehension, D its list's number -/
def lcM (g : GM) (wk : Wk) (t : BM) (e : EM) (is : List Nat) (D : Nat) (ss : SS) : Nat → Nat → SH → Res SV
  | 0, _ => fun _ => .stuck
  | n + 1, i => fun h => match wk h i with
    | none => .stuck
    | some none => .ok (.ref D) h
    | some (some (x, h1)) => match g x (wipeS ss is) h1 with
      | none => .stuck
      | some ss1 => match t ss1 h1 with
        | .ok b h2 => if b = true then (match e ss1 h2 with
          | .ok y h3 => match h3[D]? with
            | some (.lst acc) => if acc.length < big then lcM g wk t e is D ss n (i + 1) (h3.set D (.lst (acc ++ [y]))) else .stuck
            | _ => .stuck
          | _ => .stuck) else lcM g wk t e is D ss n (i + 1) h2
        | _ => .stuck
def mLc (m : IM) (g : GM) (t : BM) (e : EM) (is : List Nat) : EM := fun ss h => match m ss h with
  | .stuck => .stuck
  | .ex c xs h1 => .ex c xs h1
  | .ok wk h1 => lcM g wk t e is h1.length ss many 0 (h1 ++ [.lst []])
def bYes : BM := fun _ h => .ok true h
abbrev W0 : WX := fun _ _ _ _ => False
theorem wipe_get {σ : L2.St} {i : Nat} : ∀ {vs : List Nat}, i ∉ vs → (wipe σ vs)[i]? = σ[i]?
  | [], _ => rfl
  | v :: vs, h => by
    unfold wipe
    have : v ≠ i := fun e => h (by rw [e]; exact List.mem_cons_self)
    rw [List.getElem?_set_ne this]
    exact wipe_get fun m => h (List.mem_cons_of_mem _ m)
theorem wipe_in {σ : L2.St} {i : Nat} (hi : i < σ.length) : ∀ {vs : List Nat}, i ∈ vs → (wipe σ vs)[i]? = some none
  | v :: vs, h => by
    unfold wipe
    by_cases e : v = i
    · subst e
      rw [List.getElem?_set_self (by rw [wipe_length]; exact hi)]
    · rw [List.getElem?_set_ne e]
      rcases List.mem_cons.mp h with z | z
      · exact absurd z.symm e
      · exact wipe_in hi z
theorem wipe_same {σ σ2 : L2.St} {vs : List Nat} (o : SameOut vs (wipe σ vs) σ2) : wipe σ2 vs = wipe σ vs := by
  have hl : σ2.length = σ.length := by rw [o.len, wipe_length]
  apply List.ext_getElem?
  intro i
  by_cases hi : i ∈ vs
  · by_cases hlt : i < σ.length
    · rw [wipe_in (by rw [hl]; exact hlt) hi, wipe_in hlt hi]
    · rw [List.getElem?_eq_none (by rw [wipe_length, hl]; omega), List.getElem?_eq_none (by rw [wipe_length]; omega)]
  · rw [wipe_get hi, o.out i hi]
section
variable {X : Cx} {en : En} {W : WX} {pos : Pos}
theorem Good.blk {k : Nat} (G : Good en X W k) (s : Shared) (H : Hp) (sc : Scope) (ce : Env) (fp : List Addr) : Good en (X.blk s H sc ce fp) W0 k :=
  ⟨takes0, PassesOwn.never, G.room, G.gd, G.sm, G.calm, G.K⟩
theorem PTs.nil : PTs X [] (tT en W bYes) := ⟨fun pins s σ H Q I ⟨ρ, ss, h, rel, rs, f⟩ => pts_nil.run pins s σ H Q I (f ρ H true (Pre.refl ρ) rel rfl)⟩
theorem PTs.one {c : Expr} {t : BM} (h : PT X c (tT en W t)) : PTs X [c] (tT en W t) := pts_one h
/-- the reading of a comprehension from its meaning -/
theorem tLcM {m : IM} {g : GM} {t : BM} {e : EM} {is : List Nat} (σ : L2.St) (H : Hp) (Q : VK) (q : tE en W (mLc m g t e is) σ H Q) : tLc (tI en W m) (tG en is g) (tT en W0 t) (tE en W0 e) is σ H Q := by
  obtain ⟨ρ, ss, h, rel, rs, f⟩ := q
  refine ⟨ρ, ss, h, rel, rs, ?_⟩
  unfold mLc at f
  cases e1 : m ss h with
  | stuck => simp only [e1, fin] at f
  | ex c xs h1 => simp only [e1, fin] at f ⊢; exact f
  | ok wk h1 =>
    simp only [e1] at f ⊢
    intro ρ1 H1 J p1 rel1 ok D nD
    have relD : Rel en (ρ1 ++ [D]) (h1 ++ [.lst []]) (upd H1 D (.lst [])) := rel1.push nD ⟨[], upd_same, .nil⟩
    have eD : (ρ1 ++ [D])[h1.length]? = some D := by rw [← rel1.len, List.getElem?_append_right (Nat.le_refl _)]; simp
    refine ⟨fun i n H2 => ∃ ρ2 h2, Pre (ρ1 ++ [D]) ρ2 ∧ Rel en ρ2 h2 H2 ∧ fin en W (RS en) σ ρ2 (lcM g wk t e is h1.length ss n i h2) Q, ⟨many, ρ1 ++ [D], h1 ++ [.lst []], Pre.refl _, relD, f.mono (p1.trans (Pre.one ρ1 D))⟩, ?_⟩
    rintro i n H2 ⟨ρ2, h2, p2, rel2, f2⟩
    have pr : Pre ρ1 ρ2 := (Pre.one ρ1 D).trans p2
    cases n with
    | zero => exact f2.elim
    | succ n =>
      unfold lcM at f2
      obtain ⟨k1, k2⟩ := ok ρ2 h2 H2 i pr rel2
      cases e2 : wk h2 i with
      | none => simp only [e2, fin] at f2
      | some o =>
        cases o with
        | none =>
          simp only [e2] at f2
          exact .inl ⟨k1 e2, f2 ρ2 H2 _ (Pre.refl ρ2) rel2 ⟨D, p2.get eD, rfl⟩⟩
        | some qq =>
          obtain ⟨x, h3⟩ := qq
          simp only [e2] at f2
          obtain ⟨go, yl⟩ := k2 x h3 e2
          refine .inr ⟨go, fun H' => ∃ ρ4 h4, Pre (ρ1 ++ [D]) ρ4 ∧ Rel en ρ4 h4 H' ∧ fin en W (RS en) σ ρ4 (lcM g wk t e is h1.length ss n (i + 1) h4) Q, fun H' z => ⟨n, Nat.lt_succ_self n, z⟩, fun v H3 yv => ?_⟩
          obtain ⟨ρ3, p3, rel3, rv⟩ := yl v H3 yv
          have rsw : RSl en ρ3 (wipeS ss is) (wipe σ is) := wipe_rel (rs.mono (p1.trans (pr.trans p3))) is
          cases e3 : g x (wipeS ss is) h3 with
          | none => simp only [e3, fin] at f2
          | some ss1 =>
            simp only [e3] at f2
            refine ⟨ρ3, _, h3, x, ss1, rel3, rsw, rv, e3, fun σ2 rs2 so => ⟨wipe_same so, ρ3, ss1, h3, rel3, rs2, ?_⟩⟩
            cases e4 : t ss1 h3 with
            | stuck => simp only [e4, fin] at f2
            | ex c xs h4 => simp only [e4, fin] at f2
            | ok b h4 =>
              simp only [e4] at f2
              intro ρ4 H4 b' p4 rel4 rb
              cases rb
              cases b with
              | false =>
                have f3 : fin en W (RS en) σ ρ2 (lcM g wk t e is h1.length ss n (i + 1) h4) Q := f2
                exact ⟨ρ4, h4, (p2.trans p3).trans p4, rel4, f3.mono (p3.trans p4)⟩
              | true =>
                rw [if_pos rfl] at f2
                refine ⟨ρ4, ss1, h4, rel4, rs2.mono p4, ?_⟩
                cases e5 : e ss1 h4 with
                | stuck => simp only [e5, fin] at f2
                | ex c xs h5 => simp only [e5, fin] at f2
                | ok y h5 =>
                  simp only [e5] at f2
                  intro ρ5 H5 u p5 rel5 ru
                  cases e6 : h5[h1.length]? with
                  | none => simp only [e6, fin] at f2
                  | some o6 =>
                    cases o6 with
                    | lst acc =>
                      simp only [e6] at f2
                      split at f2
                      · rename_i hz
                        have p25 : Pre (ρ1 ++ [D]) ρ5 := ((p2.trans p3).trans p4).trans p5
                        obtain ⟨D', vs, e0, ep, e7, r7⟩ := rel5.lst e6 ⟨D, p25.get eD, rfl⟩
                        cases e0
                        exact ⟨vs, e7, by rw [big_eq, ← r7.len]; exact hz, ρ5, _, p25, rel5.put (o := .lst (acc ++ [y])) (p25.get eD) ⟨_, upd_same, r7.app (.cons ru .nil)⟩, f2.mono ((p3.trans p4).trans p5)⟩
                      · exact f2.elim
                    | _ => simp only [e6, fin] at f2
theorem PE.lc {elt tg iter : Expr} {ifs : List Expr} {scope : Scope} {own : List (Str × Nat)} {m : IM} {g : GM} {t : BM} {e : EM} (hc : X.calm = true) (hN : X.N.Nodup) (hi : PI X tg iter (tI en W m)) (ok : BlkOk X.N X.env.scope scope own)
    (hg : ∀ (s : Shared) (H : Hp) (C : Addr) (cl : List (Str × Addr)) (fp : List Addr), PG (X.blk s H scope (compEnvC scope cl C X.env) fp) tg (tG en (own.map (·.2)) g)) (ht : ∀ (s : Shared) (H : Hp) (C : Addr) (cl : List (Str × Addr)) (fp : List Addr), PTs (X.blk s H scope (compEnvC scope cl C X.env) fp) ifs (tT en W0 t))
    (he : ∀ (s : Shared) (H : Hp) (C : Addr) (cl : List (Str × Addr)) (fp : List Addr), PE (X.blk s H scope (compEnvC scope cl C X.env) fp) elt (tE en W0 e)) (hs : ∀ x, foldedSetIterable iter X.env x = pure x := by intro _; rfl) :
    PE X (.ListComp elt [⟨tg, iter, ifs, 0⟩] scope pos) (tE en W (mLc m g t e (own.map (·.2)))) :=
  PEimp (pe_lc hc hN hi ok hg ht he hs) fun σ H Q q => tLcM σ H Q q
theorem PS.setLc {i : Nat} {y : Str} {py : Pos} {elt tg iter : Expr} {ifs : List Expr} {scope : Scope} {own : List (Str × Nat)} {spos : Pos} {m : IM} {g : GM} {t : BM} {e : EM} (hc : X.calm = true) (hN : X.N.Nodup) (hy : X.N[i]? = some y) (hyl : X.env.scope.names.lookup y = some .local)
    (hsw : swapsWith (.ListComp elt [⟨tg, iter, ifs, 0⟩] scope pos) (some (.Name y py)) spos.line X.env = pure true) (hi : PI X tg iter (tI en W m)) (ok : BlkOk X.N X.env.scope scope own)
    (hg : ∀ (s : Shared) (H : Hp) (C : Addr) (cl : List (Str × Addr)) (fp : List Addr), PG (X.blk s H scope (compEnvC scope cl C X.env) fp) tg (tG en (own.map (·.2)) g)) (ht : ∀ (s : Shared) (H : Hp) (C : Addr) (cl : List (Str × Addr)) (fp : List Addr), PTs (X.blk s H scope (compEnvC scope cl C X.env) fp) ifs (tT en W0 t))
    (he : ∀ (s : Shared) (H : Hp) (C : Addr) (cl : List (Str × Addr)) (fp : List Addr), PE (X.blk s H scope (compEnvC scope cl C X.env) fp) elt (tE en W0 e)) (hs : ∀ x, foldedSetIterable iter X.env x = pure x := by intro _; rfl) :
    PS X (.Assign [.Name y py] (.ListComp elt [⟨tg, iter, ifs, 0⟩] scope pos) spos) (tS en W (mSet i (mLc m g t e (own.map (·.2))))) :=
  PSimp (ps_setLc hc hN hy hyl hsw hi ok hg ht he hs) fun D σ H q => tLcM σ H _ (tS.bind (R1 := RS en) (k := fun ss v h1 => .nx (ss.set i (some v)) h1) q fun ρ ss h a b H1 rel rs r f => f ρ _ H1 (Pre.refl ρ) rel (rs.set r i))
end
end Fw
namespace Er
open PySem PySem.W PySem.Calls PyProof.Rows PySem.HandSPX
/-! an own error: class X(Base): def __init__(self, f=None): super().__init__('..'); self.f = f -/
def eA (f : Str) (p1 p2 p3 : Pos) (k : Nat) : Arguments := { posonlyargs := [], args := [{ arg := "self", annotation := none, pos := p1 }, { arg := f, annotation := none, pos := p2 }], vararg := none, kwonlyargs := [], kw_defaults := [], kwarg := none, defaults := [.Constant .none k p3] }
def eB (f txt : Str) (q1 q2 q3 q4 q5 q6 q7 q8 q9 q10 : Pos) (k : Nat) : List Stmt :=
  [.Expr (.Call (.Attribute (.Call (.Name "super" q1) [] [] q2) "__init__" q3) [.Constant (.str txt) k q4] [] q5) q6, .Assign [.Attribute (.Name "self" q7) f q8] (.Name f q9) q10]
def eS (f : Str) : Scope := { kind := .function, names := [(PySem.Str.ofString "self", .local), (f, .local), (PySem.Str.ofString "__class__", .free), (PySem.Str.ofString "super", .globalImplicit)], isGenerator := false, isCoroutine := false, more := [] }
/-- what the written part says of the error class at C, its __init__ at fI, its cell, its code -/
structure ErrTxt (P : Program) (K : Frag) (f : Str) (C fI : Addr) : Prop where
  cls : ∃ nm q N bs bm sn sub ab col dd k0 k1 k2 k3 k5, K.lookup C = some (excClassObj nm q C N bs bm true sn sub ab col dd k0 k1 k2 k3 k5 "ValueError.__new__") ∧ refsVE bm = true ∧ alongIn K "__init__" bm = some (some (.builtin "ValueError.__init__"))
  sa : findIn K (.ref C) "__setattr__" = some (some (.builtin "object.__setattr__"))
  ga : findIn K (.ref C) "__getattribute__" = some (some (.builtin "BaseException.__getattribute__"))
  gg : findIn K (.ref C) "__getattr__" = some none
  noN : findIn K (.ref C) f = some none
  iC : findIn K (.ref C) "__init__" = some (some (.ref fI))
  tC : typeIn K (.ref fI) = some (.type "function")
  kC : keepIn K (.ref C) = true
  exC : subIn K (.ref C) (.type "BaseException") = some true
  veC : subIn K (.ref C) (.type "ValueError") = some true
  tyC : typeIn K (.ref C) = some (.type "type")
  hdC : hasDictIn K C = true
  mrC : mroIn K C (.ref C) = some true
  opq : nsIn K cStatics "thirdparty.any" = some none
  fn : ∃ (qual txt : Str) (oc ccl cl : Value) (od cdd cld : Option Addr) (kV doc pm : Value) (dv : Value) (an : Option Addr) (cda cc : Addr) (ct : Value) (osl ccs csl : Array (Option Value)) (vs : Array Value) (file : Str) (tf : Tok) (p1 p2 p3 q1 q2 q3 q4 q5 q6 q7 q8 q9 q10 : Pos) (k k' : Nat),
    K.lookup fI = some ⟨oc, od, .func (fnX "__init__" qual (eA f p1 p2 p3 k) (eB f txt q1 q2 q3 q4 q5 q6 q7 q8 q9 q10 k') (eS f) [("__class__", cc)] dv kV doc pm an (.ref cda) ct), osl⟩ ∧ codeIn K (.ref cda) qual = true ∧
    K.lookup cda = some ⟨ccl, cdd, .fields vs, ccs⟩ ∧ vs[2]? = some (.str file tf) ∧ ((P.main.file : Str) == file) = true ∧ K.lookup cc = some ⟨cl, cld, .cell (some (.ref C)), csl⟩ ∧ txt.length ≤ sizeLine ∧ (q3.endLine == q5.line) = true
  b0 : ∀ oc od fd osl, K.lookup fI = some ⟨oc, od, .func fd, osl⟩ → L2.Binds K fd ["self", f] [] ∧ L2.Binds K fd ["self", f] [.none]
  bK : ∀ oc od fd osl, K.lookup fI = some ⟨oc, od, .func fd, osl⟩ → ∀ (s : Shared) (x v : Value), K.In s.heap → BindsTo s fd ⟨[x], [(f, v)]⟩ [("self", x), (f, v)]
  htop : (P.main.scope.names.lookup ("super" : Str)).isSome = false
  fgood : (f == ("self" : Str)) = false ∧ (f == ("__class__" : Str)) = false ∧ (f == ("super" : Str)) = false ∧ (f == ("__debug__" : Str)) = false
/-- what ValueError.__init__ bound to a fresh error does -/
theorem call_mw {prog : Program} {w : World} {A : Around} {E : Value → Shared → Prop} {h : Heap} {g : Array GenState} {d : Drawn} {t : Nat} {os : OsState} {nm q : Str} {C N : Addr} {bs bm : List Value} {hdct : Bool} {sn : List Str} {sub : List Value} {ab : Bool} {col : Option Bool} {dd : Option Addr} {k0 k1 k2 k3 k5 : Option Value}
    {u e t0 : Addr} {rest : List Value} {Q : Value → Shared → Prop}
    (hC : h.get? C = some (excClassObj nm q C N bs bm hdct sn sub ab col dd k0 k1 k2 k3 k5 "ValueError.__new__")) (he : h.get? e = some (excO C t0)) (hu : h.get? u = some (kxs_mw "ValueError.__init__" e)) (hrest : rest.length ≤ sizeLine)
    (hq : ∀ h' t1, (∀ b o, b ≠ e → h.get? b = some o → h'.get? b = some o) → h'.get? e = some (excO C t1) → Q .none ⟨h', g, d, t, os⟩) :
    wpAny (model prog w) A (call (.ref u) rest) Q E ⟨h, g, d, t, os⟩ := by
  refine wpAny_call (codeAny_of_tree ?_)
  show wpAny _ A.in1 (callAny (.ref u) ⟨rest, []⟩) _ _ _
  simp only [callAny]
  refine wpAny_bind (wpAny_load hu ?_)
  have e1 : (Value.type "method-wrapper" == Value.type "method" || Value.type "method-wrapper" == Value.type "builtin_function_or_method" || Value.type "method-wrapper" == Value.type "method-wrapper") = true := by decide
  simp only [kxs_mw, e1, if_true]
  refine KFB.if_so (by decide) ?_
  refine wpAny_bind (check_bound_init PySem.F.excBase_ValueError.toExcCallFacts hC he rfl ?_)
  refine wpAny_bind (wpAny_pure (wpAny_pure ?_))
  refine ⟨Code.quiet_builtin _ (by decide +kernel), codeAny_builtin PySem.F.excBase_ValueError.initEntry ?_⟩
  rw [Around.under_plainId PySem.F.excBase_ValueError.init.plain _]
  wp_walk
  refine hq _ h.objs.size (fun b o hb ho => ?_) ?_
  · rw [Heap.get?_update_other _ _ (Ne.symm hb)]
    exact Heap.get?_push_of_some _ ho
  · rw [Heap.get?_update_self _ (Heap.get?_push_of_some _ he) rfl]
    rfl
/-- a call of an attribute of what is no name: the place it stands at -/
theorem mcall {o : Expr} {name : Str} {q3 q5 : Pos} {a : Expr} {env : Env} (hpos : (q3.endLine == q5.line) = true) (hf : methodCallForm 1 (backTo q5 (starEach [a] env)) [] = true) :
    eval (.Call (.Attribute o name q3) [a] [] q5) env = (do
      let ov ← attributeBase o name env (eval o env)
      standAt q3.atName
      let (f, first) ← holding [ov] (getMethod ov name (do return (← importBound o env).getD true))
      callWith q5 f first (backTo q5 (starEach [a] env)) []) := by
  have e : methodCallPos (methodCallForm 1 (backTo q5 (starEach [a] env)) []) o env q3 q5 = pure q5 := by
    unfold methodCallPos
    rw [hpos, Bool.or_true]; rfl
  have e2 : ∀ ov, calleeOf (methodCallForm 1 (backTo q5 (starEach [a] env)) []) o env ov name = getMethod ov name (do return (← importBound o env).getD true) := by
    intro ov
    unfold calleeOf
    rw [hf]; rfl
  show (do
    let ov ← attributeBase o name env (eval o env)
    standAt q3.atName
    methodCall o name q3 q5 env ov 1 (backTo q5 (starEach [a] env)) []) = _
  unfold methodCall
  rw [e]
  simp only [e2, pure_bind]
/-- what __init__ leaves of a fresh error at x -/
structure InitEnd (h h' : Heap) (x C dx : Addr) (f : Str) (v : Value) : Prop where
  keep : ∀ b o, b ≠ x → h.get? b = some o → h'.get? b = some o
  obj : ∃ t1, h'.get? x = some { cls := .ref C, dict := some dx, data := .fields #[.ref t1, .none, .none, .none, .bool false, .none] }
  dbig : h.objs.size ≤ dx
  dne : dx ≠ x
  ns : h'.Ns1 dx (fun y => if y = f then some v else none)
theorem lookup_eS (f : Str) (g : (f == ("self" : Str)) = false ∧ (f == ("__class__" : Str)) = false ∧ (f == ("super" : Str)) = false ∧ (f == ("__debug__" : Str)) = false) : (eS f).names.lookup f = some .local := by
  show List.lookup f [(PySem.Str.ofString "self", NameKind.local), (f, .local), (PySem.Str.ofString "__class__", .free), (PySem.Str.ofString "super", .globalImplicit)] = _
  rw [List.lookup_cons, show (f == PySem.Str.ofString "self") = false from g.1, List.lookup_cons, show (f == f) = true from by simp]
theorem neS {a b : Str} (h : (a == b) = false) : (b == a) = false := by
  have : a ≠ b := by simpa using h
  simpa using Ne.symm this
theorem lookup_super (f : Str) (g : (f == ("self" : Str)) = false ∧ (f == ("__class__" : Str)) = false ∧ (f == ("super" : Str)) = false ∧ (f == ("__debug__" : Str)) = false) : (eS f).names.lookup ("super" : Str) = some .globalImplicit := by
  show List.lookup (PySem.Str.ofString "super") [(PySem.Str.ofString "self", NameKind.local), (f, .local), (PySem.Str.ofString "__class__", .free), (PySem.Str.ofString "super", .globalImplicit)] = _
  rw [List.lookup_cons, show (PySem.Str.ofString "super" == PySem.Str.ofString "self") = false from by decide, List.lookup_cons, show (PySem.Str.ofString "super" == f) = false from neS g.2.2.1]
  rfl
theorem lookup_class (f : Str) (g : (f == ("self" : Str)) = false ∧ (f == ("__class__" : Str)) = false ∧ (f == ("super" : Str)) = false ∧ (f == ("__debug__" : Str)) = false) : (eS f).names.lookup ("__class__" : Str) = some .free := by
  show List.lookup (PySem.Str.ofString "__class__") [(PySem.Str.ofString "self", NameKind.local), (f, .local), (PySem.Str.ofString "__class__", .free), (PySem.Str.ofString "super", .globalImplicit)] = _
  rw [List.lookup_cons, show (PySem.Str.ofString "__class__" == PySem.Str.ofString "self") = false from by decide, List.lookup_cons, show (PySem.Str.ofString "__class__" == f) = false from neS g.2.1]
  rfl
theorem _root_.PySem.LowY.one_size (v : Value) : [v].length ≤ sizeLine := by
  rw [sizeLine_eq]
  exact (by decide : 1 ≤ 16777216)
section
variable {prog : Program} {w : World} {A : Around} {R : Result → Shared → Prop} {s : Shared} {K : Frag} {C fI : Addr} {f : Str} {mg mb : Str → Option Value}
theorem err_init (T : ErrTxt prog K f C fI) {x t0 : Addr} {v : Value} (X : K.In s.heap) (hG : s.heap.Ns mainGlobals mg) (hB : s.heap.Ns builtinsNs mb) (hs1 : mg "super" = none) (hs2 : mb "super" = some (.type "super")) (hlim : s.heap.NoLimit) (hx : s.heap.get? x = some (excO C t0)) (hnx : K.lookup x = none) (hroom : A.depth < recursionLimit)
    {args : Args} (hbd : ∀ oc od fd osl, K.lookup fI = some ⟨oc, od, .func fd, osl⟩ → BindsTo s fd args [("self", .ref x), (f, v)])
    (hq : ∀ h' tk dx, InitEnd s.heap h' x C dx f v → R (.ok (.ret .none)) { s with heap := h', toks := tk }) :
    codeAny (model prog w) A (.call (.ref fI) args) R s := by
  obtain ⟨qual, txt, oc, ccl, cl, od, cdd, cld, kV, doc, pm, dv, an, cda, cc, ct, osl, ccs, csl, vs, file, tf, p1, p2, p3, q1, q2, q3, q4, q5, q6, q7, q8, q9, q10, k, k', ho, hcd, hcda, hvs, hfile, hcc, htxt, hpos⟩ := T.fn
  obtain ⟨nm, q, N, bs, bm, sn, sub, ab, col, dd, k0, k1, k2, k3, k5, hC, hbm, hal⟩ := T.cls
  have g := T.fgood
  have hcl : clsIn K C = some { name := nm, bases := bs, mro := .ref C :: bm, ns := N, qualname := q, hasDict := true, slotNames := sn, subclasses := sub, abstract := ab, collection := col, hasDel := false } := by unfold clsIn; rw [hC] <;> rfl
  have lf := lookup_eS f g
  refine ks_codeAny_call_defAt (fd := fnX "__init__" qual (eA f p1 p2 p3 k) (eB f txt q1 q2 q3 q4 q5 q6 q7 q8 q9 q10 k') (eS f) [("__class__", cc)] dv kV doc pm an (.ref cda) ct) (binds := [("self", .ref x), (f, v)]) hroom (X _ _ ho) rfl hlim (codeRec_of X hcd) rfl
    (hbd _ _ _ _ ho) (fun y hy => ?_) (fun y hy => ?_) (fun h1 hns hk1 => ?_)
  · have : y ∈ [(PySem.Str.ofString "self", NameKind.local), (f, .local), (PySem.Str.ofString "__class__", .free), (PySem.Str.ofString "super", .globalImplicit)] := hy
    simp at this
    rcases this with rfl | rfl | rfl | rfl <;> simp
  · have : y = (PySem.Str.ofString "self", .ref x) ∨ y = (f, v) := by simpa using hy
    rcases this with rfl | rfl
    · rfl
    · exact lf
  · have X1 : K.In h1 := X.keeps hk1
    have hx1 := hk1 _ _ hx
    have mself : (fun y => ([(("self" : Str), Value.ref x), (f, v)] : List (Str × Value)).reverse.lookup y) ("self" : Str) = some (.ref x) := by
      show List.lookup (PySem.Str.ofString "self") [(f, v), (PySem.Str.ofString "self", .ref x)] = _
      rw [List.lookup_cons, show (PySem.Str.ofString "self" == f) = false from neS g.1]
      rfl
    have mval : (fun y => ([(("self" : Str), Value.ref x), (f, v)] : List (Str × Value)).reverse.lookup y) f = some v := by
      show List.lookup f [(f, v), (PySem.Str.ofString "self", .ref x)] = _
      rw [List.lookup_cons, show (f == f) = true from by simp]
    have I1 : InstAt h1 x (excO C t0) C none := ⟨hx1, rfl, rfl, trivial⟩
    have lk2 := lookup_super f g
    have lk3 := lookup_class f g
    obtain ⟨hp, gn, dr, tk, os⟩ := s
    refine ks_wpAt_execs_cons (ks_wpAt_Expr_any (ks_wpAt_MethodCall ?_ (mcall hpos (by rfl))))
    refine ks_wpAt_super_base (f := fI) (cc := cda) lk2 lk3 rfl rfl (X1 _ _ ho) rfl rfl rfl (X1 _ _ hcda) rfl hvs hfile T.htop ?_
    refine ks_loadName_global rfl lk2 (loadGlobal_builtin (hG.keeps hk1) hs1 (hB.keeps hk1) hs2 ⟨rfl, ?_⟩)
    refine wpAny_loadName_free (c := cc) rfl lk3 rfl ⟨_, X1 _ _ hcc, rfl⟩ ?_
    refine wpAny_loadName_local rfl rfl hns mself ?_
    refine ks_wpAny_isType_cls (X1 _ _ hC) rfl ⟨rfl, ?_⟩
    refine ks_wpAny_call_super (X1 _ _ hC) rfl hx1 rfl (fun c e => by cases e) (looks_mroIn X1 T.mrC) (fun h2 e2 k2 => ?_)
    have X2 : K.In h2 := X1.keeps k2
    have hx2 := k2 _ _ hx1
    have I2 : InstAt h2 x (excO C t0) C none := ⟨hx2, rfl, rfl, trivial⟩
    have hI2 : Looks (model prog w) h2 (isInstance (.ref x) (.type "ValueError")) true := I2.type.andThen (looks_subIn X2 T.veC)
    refine kxs_getMethod kxs_ValueError e2 (looks_opaque X2 T.opq) (l₀ := .ref C :: bm) ?_ (ESX.drop_own C bm) X2 hal hI2 (ks_ne X2 I2 hcl) (by decide) ?_
    · exact fun A Q E s kk qq => wpAny_bind ((looks_clsIn X2 hcl) A _ E s kk (wpAny_pure qq))
    · have hu : (h2.push (kxs_mw "ValueError.__init__" x)).get? h2.objs.size = some (kxs_mw "ValueError.__init__" x) := Heap.get?_push_at rfl rfl
      refine kxs_callWith (i := "ValueError.__init__") (x := x) (by rfl) (evalArgs_plain ?_)
      refine Calls.spliced_cons (Calls.Constant_str (pos := q4) (k := k') (Calls.spliced_nil ?_))
      refine ⟨hu, call_mw (h := h2.push (kxs_mw "ValueError.__init__" x)) (Heap.get?_push_of_some _ (X2 _ _ hC)) (Heap.get?_push_of_some _ hx2) hu (PySem.LowY.one_size _) ?_⟩
      intro h3 t1 k3 hx3
      show PyProof.Rows.wpAt _ _ _ (execs _ _) _ _ _
      have old : ∀ b o, b ≠ x → h1.get? b = some o → h3.get? b = some o := fun b o hb e => k3 b o hb (Heap.get?_push_of_some _ (k2 b o e))
      have X3 : K.In h3 := fun a o e => old a o (fun z => by rw [z, hnx] at e; cases e) (X1 a o e)
      have hxL : hp.objs.size ≠ x := Nat.ne_of_gt (Heap.lt_size hx)
      have hns3 := hns.at (fun o e => old _ o hxL e)
      refine wpAt_of_wpAny (wpAny_execs_cons (plainObj_wpAny_Assign_Attribute ?_ ?_))
      · refine wpAny_Name (wpAny_loadName_local rfl lf hns3 mval ?_) g.2.2.2
        refine wpAny_Name (wpAny_loadName_local rfl rfl hns3 mself ?_) (by decide)
        refine W.set_plain X3 (ox := excO C t1) (od := none) ⟨hx3, rfl, rfl, trivial⟩ T.sa ?_
        refine exc_osa X3 hx3 hcl (show refsVE (.ref C :: bm) = true from hbm) rfl T.noN (fun h₃ tk₃ dx k₃ dn dne hx₃ hn₃ => ?_)
        show wpAny _ _ (execs _ _) _ _ _
        refine wpAny_execs_nil (hq h₃ tk₃ dx ⟨fun b o hb e => k₃ b o hb (old b o hb (hk1 b o e)), ⟨t1, hx₃⟩, Nat.le_of_lt (Nat.lt_of_lt_of_le hns3.lt dn), dne, hn₃⟩)
      · rfl
end
end Er
namespace Er
open PySem PySem.W PySem.Calls PyProof.Rows PySem.HandSPX
/-- a made error at e, its dict d -/
structure MadeE (h h' : Heap) (e C : Addr) (d : Option Addr) (kvs : List (Str × Value)) : Prop where
  keep : ∀ b o, h.get? b = some o → h'.get? b = some o
  new : h.get? e = none
  obj : ∃ oe vs, h'.get? e = some oe ∧ L2.Zc (.ref C) d oe ∧ oe.data = .fields vs ∧ vs[1]? = some .none
  dict : (d = none ∧ kvs = []) ∨ ∃ dx f v, d = some dx ∧ kvs = [(f, v)] ∧ h.objs.size ≤ dx ∧ dx ≠ e ∧ h'.Ns1 dx (fun y => if y = f then some v else none)
/-- what a call of an own error class does -/
def Makes (P : Program) (w : World) (K : Frag) (mg : Str → Option Value) (C : Addr) (fs : List Str) : Prop :=
  ∀ (A : Around) (mb : Str → Option Value) (s : Shared) (us : List Value) (v : Value) (R : Value → Shared → Prop) (E : Value → Shared → Prop), K.In s.heap → s.heap.Ns mainGlobals mg → s.heap.Ns builtinsNs mb → mb "super" = some (.type "super") → s.heap.NoLimit → A.depth + 1 < recursionLimit →
    (us = [v] ∨ (us = [] ∧ v = .none)) → (∀ h' tk e d, MadeE s.heap h' e C d (fs.zip [v]) → R (.ref e) { s with heap := h', toks := tk }) → wpAny (model P w) A (call (.ref C) us) R E s
theorem err_made {P : Program} {w : World} {K : Frag} {mg : Str → Option Value} {C fI : Addr} {f : Str} (T : ErrTxt P K f C fI) (hs1 : mg "super" = none) : Makes P w K mg C [f] := by
  intro A mb s us v R E X hG hB hs2 hlim hroom hus hq
  obtain ⟨nm, q, N, bs, bm, sn, sub, ab, col, dd, k0, k1, k2, k3, k5, hC, hbm, hal⟩ := T.cls
  obtain ⟨hp, g, dr, tk, os⟩ := s
  have hlen : us.length ≤ sizeLine := by
    rcases hus with rfl | ⟨rfl, _⟩
    · exact PySem.LowY.one_size v
    · exact Nat.zero_le _
  have k : ∀ b o, hp.get? b = some o → ((hp.push (kdv_tup us)).push (excO C hp.objs.size)).get? b = some o := fun b o e => Heap.get?_push_of_some _ (Heap.get?_push_of_some _ e)
  have hget : ((hp.push (kdv_tup us)).push (excO C hp.objs.size)).get? (hp.objs.size + 1) = some (excO C hp.objs.size) := by heap_get
  have hnx : K.lookup (hp.objs.size + 1) = none := by
    cases e : K.lookup (hp.objs.size + 1) with
    | none => rfl
    | some o =>
      have z : hp.get? (hp.objs.size + 1) = some o := X _ _ e
      have z2 : hp.objs.size + 1 < hp.objs.size := Heap.lt_size z
      omega
  refine wpAny_call (call_own PySem.F.excBase_ValueError (fun X => refsVE_contains X bm hbm) (X _ _ hC) (looks_findIn X T.iC) (fun self => bind_fn X self T.tC) hlen ?_)
  refine err_init (s := ⟨(hp.push (kdv_tup us)).push (excO C hp.objs.size), g, dr, tk, os⟩) (mg := mg) (mb := mb) (v := v) T (X.keeps k) (hG.keeps k) (hB.keeps k) hs1 hs2 (hlim.keeps k) hget hnx ?_ (fun oc od fd osl e => ?_) fun h' tk' dx ie => ?_
  · show A.depth + 1 < recursionLimit
    exact hroom
  · obtain ⟨b0, b1⟩ := T.b0 oc od fd osl e
    rcases hus with rfl | ⟨rfl, rfl⟩
    · exact b0 _ [.ref (hp.objs.size + 1), v] (X.keeps k) rfl
    · exact b1 _ [.ref (hp.objs.size + 1)] (X.keeps k) rfl
  · have k' := ie.keep
    have old : ∀ b o, hp.get? b = some o → h'.get? b = some o := fun b o e => k' b o (Nat.ne_of_lt (Nat.lt_succ_of_lt (Heap.lt_size e))) (k b o e)
    have dn := ie.dbig
    have z : hp.objs.size + 1 + 1 ≤ dx := by
      first
        | (simpa only [Heap.size_push] using dn)
        | exact dn
        | (have q := dn; rw [Heap.size_push, Heap.size_push] at q; exact q)
    obtain ⟨t1, ho⟩ := ie.obj
    have z3 : hp.objs.size ≤ dx := by omega
    have z4 : hp.get? (hp.objs.size + 1) = none := by
      cases e : hp.get? (hp.objs.size + 1) with
      | none => rfl
      | some o => have z2 : hp.objs.size + 1 < hp.objs.size := Heap.lt_size e; omega
    exact ⟨rfl, hq h' tk' (hp.objs.size + 1) (some dx) ⟨old, z4, ⟨_, _, ho, ⟨rfl, rfl⟩, rfl, rfl⟩, .inr ⟨dx, f, v, rfl, rfl, z3, ie.dne, ie.ns⟩⟩⟩
/-- a class without an own __init__ -/
theorem err_made0 {P : Program} {w : World} {K : Frag} {mg : Str → Option Value} {C : Addr} {bmB : List Value} {B newId initId : String} (F : ExcBaseFacts B newId initId bmB) (q : PySem.W.excIn K C bmB newId = true) : Makes P w K mg C [] := by
  intro A mb s us v R E X hG hB hs2 hlim hroom hus hq
  obtain ⟨hp, g, dr, tk, os⟩ := s
  obtain ⟨bm, N, nm, qn, bs, hdct, sn, sub, ab, col, dd, k0, k1, k2, k3, k5, mN, hC, hN, hni, T⟩ := L2.exc_obj X q
  refine wpAny_call_exc_subT F T hC hN hni (fun h' e hm => ?_) ?_
  · obtain ⟨t, he, _, _⟩ := hm.there
    exact hq h' tk e none ⟨hm.keeps, hm.new, ⟨_, _, he, ⟨rfl, rfl⟩, rfl, rfl⟩, .inl ⟨rfl, rfl⟩⟩
  · rcases hus with rfl | ⟨rfl, _⟩
    · exact PySem.LowY.one_size v
    · exact Nat.zero_le _
end Er
namespace Fw
open PySem PySem.Spec PyProof.Rows L2
/-- an own error class with the number c, called x -/
structure ErrAt (P : Program) (w : World) (K : PySem.W.Frag) (mg : Str → Option Value) (en : En) (c : Nat) (n : Nat) (x : Str) : Prop where
  n1 : n ≤ 1
  ex : ∃ C ns, en.cl[c]? = some (C, ns) ∧ ns.length = n ∧ mg x = some (.ref C) ∧ PySem.W.keepIn K (.ref C) = true ∧ Er.Makes P w K mg C ns ∧ PySem.W.subIn K (.ref C) (.type "BaseException") = some true ∧ PySem.W.typeIn K (.ref C) = some (.type "type")
/-- how the tracked heap grows where an error is made -/
def Grown (ns : List Str) (v : V) (d : Option Addr) (H H' : Hp) : Prop := (d = none ∧ ns = [] ∧ H' = H) ∨ ∃ dx f, d = some dx ∧ ns = [f] ∧ H dx = none ∧ H' = upd H dx (.xd [(f, v)])
section
variable {X : Cx} {en : En} {W : WX} {k c n : Nat} {x : Str} {p pos : Pos} {e : Expr} {ma : AM} {pins : List (Addr × Obj)} {σ : L2.St}
theorem made_inv {H1 : Hp} {s1 : Shared} {h' : Heap} {tk' : Nat} {a C : Addr} {d : Option Addr} {ns : List Str} {v : V} {v' : Value} (I1 : Inv X pins σ H1 s1) (M : Er.MadeE s1.heap h' a C d (ns.zip [v'])) (hn : ns.length ≤ 1) (rv : RelV v v') :
    ∃ G H2, Inv X pins σ H2 { s1 with heap := G, toks := tk' } ∧ G.get? a = none ∧ (∀ b o, G.get? b = some o → h'.get? b = some o) ∧ H2 a = none ∧ Grown ns v d H1 H2 := by
  have hna : H1 a = none := I1.hok.gone M.new
  rcases M.dict with ⟨hd, hk⟩ | ⟨dx, f, w', hd, hk, dbig, dne, hns⟩
  · have hns : ns = [] := by
      cases ns with
      | nil => rfl
      | cons _ _ => cases hk
    exact ⟨s1.heap, H1, I1.tok tk', M.new, M.keep, hna, .inl ⟨hd, hns, rfl⟩⟩
  · obtain ⟨rfl, rfl⟩ : ns = [f] ∧ w' = v' := by
      cases ns with
      | nil => cases hk
      | cons g l =>
        cases l with
        | nil => cases hk; exact ⟨rfl, rfl⟩
        | cons _ _ => simp at hn
    obtain ⟨G', g1, g2⟩ := restrict h' fun b => decide (b ≠ a)
    have gk : ∀ b, b ≠ a → G'.get? b = h'.get? b := fun b hb => g1 b (decide_eq_true hb)
    have ge : G'.get? a = none := g2 a (by simp)
    have old : ∀ b o, s1.heap.get? b = some o → G'.get? b = some o := fun b o q => (gk b (fun z => by rw [z, M.new] at q; cases q)).trans (M.keep b o q)
    have ob : ObjOk X.prog X.w (upd H1 dx (.xd [(f, v)])) G' dx (.xd [(f, v)]) := by
      refine ⟨_, hns.at (fun o q => (gk dx dne).trans q), fun y => ?_⟩
      by_cases hw : y = f
      · subst hw
        rw [if_pos rfl]
        have q : List.lookup y [(y, v)] = some v := by simp [List.lookup]
        rw [q]; exact rv
      · rw [if_neg hw]
        have qw : (y == f) = false := by simpa using hw
        have q2 : List.lookup y [(f, v)] = none := by simp [List.lookup, qw]
        rw [q2]; trivial
    refine ⟨G', _, I1.laid (t' := tk') old dbig ob, ge, fun b o q => ?_, ?_, .inr ⟨dx, f, hd, rfl, I1.hok.fresh dbig, rfl⟩⟩
    · by_cases hb : b = a
      · rw [hb, ge] at q; cases q
      · exact (gk b hb).symm.trans q
    · rw [upd_ne (Ne.symm dne)]; exact hna
/-- x(e) or x(), made: what comes -/
theorem run_err (D : ErrAt X.prog X.w X.K X.mg en c n x) (G : Good en X W k) {H1 : Hp} {s1 : Shared} {us : List Value} {v : V} {v' : Value} {Q : Value → Shared → Prop} (I1 : Inv X pins σ H1 s1) (rv : RelV v v') (hus : us = [v'] ∨ (us = [] ∧ v' = .none)) {C : Addr} {ns : List Str} (hc : en.cl[c]? = some (C, ns))
    (hq : ∀ h' tk a d G H2, Inv X pins σ H2 { s1 with heap := G, toks := tk } → G.get? a = none → (∀ b o, G.get? b = some o → h'.get? b = some o) → H2 a = none → Grown ns v d H1 H2 →
      (∃ oe vs, h'.get? a = some oe ∧ Zc (.ref C) d oe ∧ oe.data = .fields vs ∧ vs[1]? = some .none) → Q (.ref a) { s1 with heap := h', toks := tk }) :
    wpAny (model X.prog X.w) X.A (call (.ref C) us) Q X.xe s1 := by
  obtain ⟨C', ns', hc', hl, hm, hkp, hmk, _, _⟩ := D.ex
  rw [hc] at hc'; cases hc'
  have hnn : ns.length ≤ 1 := hl ▸ D.n1
  obtain ⟨mb, h1, h2⟩ := I1.ok.mod.blt
  refine hmk X.A mb s1 us v' _ _ I1.kIn (I1.ok.mod.glob.keeps I1.bk) (h1.keeps I1.bk) ((h2 _ (by decide)).trans rfl) I1.nolimit (by have := G.room.dp; omega) hus fun h' tk a d M => ?_
  obtain ⟨G', H2, J, g1, g2, g3, g4⟩ := made_inv (tk' := tk) I1 M hnn rv
  exact hq h' tk a d G' H2 J g1 g2 g3 g4 M.obj
end
end Fw
namespace Fw
open PySem PySem.Spec PyProof.Rows L2
/-- the fields that an error gets: n of them, from what is written -/
def errV (n : Nat) (vs : List SV) : Option (List SV) := match vs with
  | [] => some (List.replicate n .non)
  | [v] => some (List.replicate n v)
  | _ => none
def mRaise (c n : Nat) (ma : AM) : SM := fun ss h => match ma ss h with
  | .stuck => .stuck
  | .ex c' xs h1 => .ex c' xs ss h1
  | .ok vs h1 => match errV n vs with
    | some xs => .ex c xs ss h1
    | none => .stuck
def mErr (c n : Nat) (ma : AM) : EM := fun ss h => (ma ss h).bind fun vs h1 => match errV n vs with
  | some xs => .ok (.ref h1.length) (h1 ++ [.exo c xs])
  | none => .stuck
/-- how an error grows out of its arguments -/
def OneV (vs : List V) (v : V) : Prop := vs = [v] ∨ (vs = [] ∧ v = .non)
theorem oneV_us {vs : List V} {us : List Value} {v : V} (r : Vals vs us) (o : OneV vs v) : ∃ v', RelV v v' ∧ (us = [v'] ∨ (us = [] ∧ v' = .none)) := by
  rcases o with rfl | ⟨rfl, rfl⟩
  · cases r with
    | cons rv rn => cases rn; exact ⟨_, rv, .inl rfl⟩
  · cases r; exact ⟨.none, rfl, .inr ⟨rfl, rfl⟩⟩
theorem errV_one {en : En} {ρ : List Addr} {n : Nat} {svs xs : List SV} {vs : List V} (r : RSs en ρ svs vs) (e : errV n svs = some xs) : ∃ sv v, OneV vs v ∧ RS en ρ sv v ∧ xs = List.replicate n sv := by
  unfold errV at e
  split at e
  · cases e; cases r; exact ⟨.non, .non, .inr ⟨rfl, rfl⟩, rfl, rfl⟩
  · cases e
    cases r with
    | cons rv rn => cases rn; exact ⟨_, _, .inl rfl, rv, rfl⟩
  · cases e
theorem Grown.keep {ns : List Str} {v : V} {d : Option Addr} {H H' : Hp} (g : Grown ns v d H H') : ∀ a u, H a = some u → H' a = some u := by
  intro a u e
  rcases g with ⟨_, _, rfl⟩ | ⟨dx, f, _, _, hn, rfl⟩
  · exact e
  · rw [upd_ne (fun z => by rw [z, hn] at e; cases e)]; exact e
theorem Grown.hasF {en : En} {ρ : List Addr} {h : SH} {ns : List Str} {v : V} {d : Option Addr} {H H' : Hp} (g : Grown ns v d H H') (rel : Rel en ρ h H) : HasF ρ H' d (ns.zip (List.replicate ns.length v)) := by
  rcases g with ⟨hd, hn, rfl⟩ | ⟨dx, f, hd, hn, hx, rfl⟩
  · subst hn; exact .inl ⟨hd, rfl⟩
  · subst hn
    exact .inr ⟨dx, hd, upd_same, fun m => by obtain ⟨u, e, _⟩ := rel.mem m; rw [hx] at e; cases e⟩
theorem paired_rep {α β : Type} {R : α → β → Prop} {a : α} {b : β} (r : R a b) : ∀ n, Paired R (List.replicate n a) (List.replicate n b)
  | 0 => .nil
  | n + 1 => .cons r (paired_rep r n)
section
variable {X : Cx} {en : En} {W : WX} {k c n : Nat} {x : Str} {p pos pos2 : Pos} {e : Expr} {ma : AM}
def tMkE (C : Addr) (ns : List Str) (ta : TA) : L2.St → Hp → XK → Prop := fun σ H Q => ta σ H fun vs H1 => ∃ v, OneV vs v ∧ ∀ d H2, Grown ns v d H1 H2 → Q (.ref C) d H2
theorem mk_run (D : ErrAt X.prog X.w X.K X.mg en c n x) (G : Good en X W k) {C : Addr} {ns : List Str} (hc : en.cl[c]? = some (C, ns)) {pins : List (Addr × Obj)} {σ : L2.St} {H1 : Hp} {s1 : Shared} {us : List Value} {vs : List V} {v : V} {Q : XK} (I1 : Inv X pins σ H1 s1) (r : Vals vs us) (o : OneV vs v)
    (q : ∀ d H2, Grown ns v d H1 H2 → Q (.ref C) d H2) : wpAny (model X.prog X.w) X.A (call (.ref C) us) (MkP X pins σ Q) X.xe s1 := by
  obtain ⟨v', rv, hus⟩ := oneV_us r o
  obtain ⟨C', ns', hc', hl, hm, hkp, hmk, hex, hty⟩ := D.ex
  have hcc := hc
  rw [hc] at hc'; cases hc'
  refine run_err D G I1 rv hus hcc fun h' tk a d G' H2 J g1 g2 g3 g4 ⟨oe, fv, hoe, hz, hdat, h1⟩ => ?_
  exact ⟨a, oe, fv, { s1 with heap := G', toks := tk }, H2, .ref C, d, rfl, J, g2, g1, hoe, hz, hdat, h1, g3, rfl, I1.bare, raises_own hex hty, q d H2 g4⟩
theorem pmk_e (D : ErrAt X.prog X.w X.K X.mg en c n x) (G : Good en X W k) {C : Addr} {ns : List Str} {ta : TA} (hc : en.cl[c]? = some (C, ns)) (hg : Gl X x) (ha : PA X [e] ta)
    (hdb : (x == ("__debug__" : Str)) = false := by decide) (he : starEach (e :: []) X.env = (false, eval e X.env) :: starEach [] X.env := by rfl) (hpl : (backTo pos (starEach [] X.env)).any (·.1) = false := by rfl) : PMk X (.Call (.Name x p) [e] [] pos) (tMkE C ns ta) := by
  intro pins s σ H Q I t
  have hcc := hc
  obtain ⟨C', ns', hc', hl, hm, hkp, hmk, hex, hty⟩ := D.ex
  rw [hc] at hc'; cases hc'
  refine wpAny_Call_Name_kw (ld_glob I hg hm ?_ hdb)
  refine PySem.W.callWith_K (h₀ := X.base) I.ok.mod.kin hkp (thn (ha.run pos pins s σ H _ I t) fun us s1 ⟨vs, H1, I1, r, v, o, q⟩ => ⟨I1.kIn, ?_⟩) he hpl
  exact mk_run D G hcc I1 r o q
theorem pmk_e0 (D : ErrAt X.prog X.w X.K X.mg en c n x) (G : Good en X W k) {C : Addr} {ns : List Str} (hc : en.cl[c]? = some (C, ns)) (hg : Gl X x) (hdb : (x == ("__debug__" : Str)) = false := by decide) :
    PMk X (.Call (.Name x p) [] [] pos) (tMkE C ns (fun _ H Q => Q [] H)) := by
  intro pins s σ H Q I t
  have hcc := hc
  obtain ⟨C', ns', hc', hl, hm, hkp, hmk, hex, hty⟩ := D.ex
  rw [hc] at hc'; cases hc'
  refine wpAny_Call_Name_kw (ld_glob I hg hm ?_ hdb)
  obtain ⟨v, o, q⟩ := t
  exact PySem.W.callWith_K0 I.kIn hkp (mk_run (us := []) D G hcc I .nil o q)
theorem raise_read {C : Addr} {ns : List Str} (hc : en.cl[c]? = some (C, ns)) (hl : ns.length = n) {D : Ends} {σ : L2.St} {H : Hp} (t : tS en W (mRaise c n ma) D σ H) : tMkE C ns (tA en W ma) σ H fun cls d H' => W cls d σ H' := by
  obtain ⟨ρ, ss, h, rel, rs, f⟩ := t
  refine ⟨ρ, ss, h, rel, rs, ?_⟩
  unfold mRaise at f
  cases e1 : ma ss h with
  | stuck => simp only [e1] at f; exact f
  | ex c' xs h1 => simp only [e1] at f; exact fun ρ' H' cls d p rel' rx => f ρ' σ H' cls d p rel' (rs.mono p) rx
  | ok svs h1 =>
    simp only [e1] at f
    intro ρ1 H1 vs p1 rel1 rvs
    split at f
    · rename_i xs ex
      obtain ⟨sv, v, o, rv, rfl⟩ := errV_one rvs ex
      refine ⟨v, o, fun d H2 g => f ρ1 σ H2 _ d p1 (rel1.keep g.keep) (rs.mono p1) ⟨C, ns, List.replicate ns.length v, hc, rfl, g.hasF rel1, by simp [hl], ?_⟩⟩
      rw [hl]
      exact paired_rep rv n
    · exact f.elim
theorem PS.raise (D : ErrAt X.prog X.w X.K X.mg en c n x) (G : Good en X W k) (hg : Gl X x) (ha : PA X [e] (tA en W ma))
    (hdb : (x == ("__debug__" : Str)) = false := by decide) (he : starEach (e :: []) X.env = (false, eval e X.env) :: starEach [] X.env := by rfl) (hpl : (backTo pos (starEach [] X.env)).any (·.1) = false := by rfl) :
    PS X (.Raise (some (.Call (.Name x p) [e] [] pos)) none pos2) (tS en W (mRaise c n ma)) := by
  obtain ⟨C, ns, hc, hl, _⟩ := D.ex
  exact PSimp (ps_raise G.calm G.tk (pmk_e D G hc hg ha hdb he hpl)) fun _ σ H t => raise_read hc hl t
theorem PS.raise0 (D : ErrAt X.prog X.w X.K X.mg en c n x) (G : Good en X W k) (hg : Gl X x) (hdb : (x == ("__debug__" : Str)) = false := by decide) :
    PS X (.Raise (some (.Call (.Name x p) [] [] pos)) none pos2) (tS en W (mRaise c n aNil)) := by
  obtain ⟨C, ns, hc, hl, _⟩ := D.ex
  refine PSimp (ps_raise G.calm G.tk (pmk_e0 D G hc hg hdb)) fun _ σ H t => ?_
  obtain ⟨ρ, ss, h, rel, rs, f⟩ := raise_read hc hl t
  exact f ρ H [] (Pre.refl ρ) rel .nil
/-! ### an error as a value -/
theorem exo_ok {P : Program} {w : World} {H : Hp} {h : Heap} {a : Addr} {cls : Value} {d : Option Addr} {oe : Obj} {us : Array Value} (e : h.get? a = some oe) (z : Zc cls d oe) (q : oe.data = .fields us) : ObjOk P w H h a (.ext (exoφ a cls d)) :=
  ⟨⟨oe, us, e, z, q⟩, ⟨oe, e⟩, fun _ _ ⟨o, u, x, r⟩ k => ⟨o, u, k o x, r⟩⟩
theorem val_run (D : ErrAt X.prog X.w X.K X.mg en c n x) (G : Good en X W k) {C : Addr} {ns : List Str} (hc : en.cl[c]? = some (C, ns)) {pins : List (Addr × Obj)} {σ : L2.St} {H1 : Hp} {s1 : Shared} {us : List Value} {vs : List V} {v : V} {Q : VK} (I1 : Inv X pins σ H1 s1) (r : Vals vs us) (o : OneV vs v)
    (q : ∀ d H2 a, Grown ns v d H1 H2 → H2 a = none → Q (.ref a) (upd H2 a (.ext (exoφ a (.ref C) d)))) : wpAny (model X.prog X.w) X.A (call (.ref C) us) (EP X pins σ Q) X.xe s1 := by
  obtain ⟨v', rv, hus⟩ := oneV_us r o
  refine run_err D G I1 rv hus hc fun h' tk a d G' H2 J g1 g2 g3 g4 ⟨oe, fv, hoe, hz, hdat, h1⟩ => ?_
  exact ⟨.ref a, _, J.laidN (t' := tk) (o := .ext (exoφ a (.ref C) d)) (h' := h') g2 g1 g3 (exo_ok hoe hz hdat), rfl, q d H2 a g4 g3⟩
theorem err_read {C : Addr} {ns : List Str} (hc : en.cl[c]? = some (C, ns)) (hl : ns.length = n) {Q : VK} {σ : L2.St} {H : Hp} (t : tE en W (mErr c n ma) σ H Q) : tA en W ma σ H fun vs H1 => ∃ v, OneV vs v ∧ ∀ d H2 a, Grown ns v d H1 H2 → H2 a = none → Q (.ref a) (upd H2 a (.ext (exoφ a (.ref C) d))) := by
  obtain ⟨ρ, ss, h, rel, rs, f⟩ := t
  refine ⟨ρ, ss, h, rel, rs, ?_⟩
  unfold mErr at f
  cases e1 : ma ss h with
  | stuck => simp only [e1, Res.bind] at f; exact f
  | ex c' xs h1 => simp only [e1, Res.bind] at f; exact f
  | ok svs h1 =>
    simp only [e1, Res.bind] at f
    intro ρ1 H1 vs p1 rel1 rvs
    split at f
    · rename_i xs ex
      obtain ⟨sv, v, o, rv, rfl⟩ := errV_one rvs ex
      refine ⟨v, o, fun d H2 a g na => ?_⟩
      have rel2 := rel1.keep g.keep
      have rel3 := rel2.push (p := a) (u := .ext (exoφ a (.ref C) d)) (o := .exo c (List.replicate n sv)) na ?_
      · refine f _ _ (.ref a) (p1.trans (Pre.one ρ1 a)) rel3 ⟨a, ?_, rfl⟩
        rw [← rel1.len, List.getElem?_append_right (Nat.le_refl _)]; simp
      · refine ⟨C, ns, d, List.replicate ns.length v, hc, upd_same, ?_, by simp [hl], ?_⟩
        · rcases g.hasF rel1 with z | ⟨dx, e1, e2, e3⟩
          · exact .inl z
          · have ne : dx ≠ a := fun z => by rw [z, na] at e2; cases e2
            exact .inr ⟨dx, e1, by rw [upd_ne ne]; exact e2, fun m => by
              rcases List.mem_append.mp m with m | m
              · exact e3 m
              · simp at m; exact ne m⟩
        · rw [hl]
          exact paired_mono (fun _ _ z => z.mono (Pre.one ρ1 a)) (paired_rep rv n)
    · exact f.elim
theorem PE.err (D : ErrAt X.prog X.w X.K X.mg en c n x) (G : Good en X W k) (hg : Gl X x) (ha : PA X [e] (tA en W ma))
    (hdb : (x == ("__debug__" : Str)) = false := by decide) (he : starEach (e :: []) X.env = (false, eval e X.env) :: starEach [] X.env := by rfl) (hpl : (backTo pos (starEach [] X.env)).any (·.1) = false := by rfl) :
    PE X (.Call (.Name x p) [e] [] pos) (tE en W (mErr c n ma)) := by
  obtain ⟨C, ns, hc, hl, hm, hkp, hmk, hex, hty⟩ := D.ex
  refine ⟨fun pins s σ H Q I t => ?_⟩
  refine wpAny_Call_Name_kw (ld_glob I hg hm ?_ hdb)
  refine PySem.W.callWith_K (h₀ := X.base) I.ok.mod.kin hkp (thn (ha.run pos pins s σ H _ I (err_read hc hl t)) fun us s1 ⟨vs, H1, I1, r, v, o, q⟩ => ⟨I1.kIn, ?_⟩) he hpl
  exact val_run D G hc I1 r o q
theorem PE.err0 (D : ErrAt X.prog X.w X.K X.mg en c n x) (G : Good en X W k) (hg : Gl X x) (hdb : (x == ("__debug__" : Str)) = false := by decide) : PE X (.Call (.Name x p) [] [] pos) (tE en W (mErr c n aNil)) := by
  obtain ⟨C, ns, hc, hl, hm, hkp, hmk, hex, hty⟩ := D.ex
  refine ⟨fun pins s σ H Q I t => ?_⟩
  refine wpAny_Call_Name_kw (ld_glob I hg hm ?_ hdb)
  obtain ⟨ρ, ss, h, rel, rs, f⟩ := err_read hc hl t
  obtain ⟨v, o, q⟩ := f ρ H [] (Pre.refl ρ) rel .nil
  exact PySem.W.callWith_K0 I.kIn hkp (val_run (us := []) D G hc I .nil o q)
end
end Fw
namespace Fw
open PySem PySem.Spec PyProof.Rows L2
/-- a value's kind -/
inductive Tag where
  | non | bl | int | str | lst | tup | dct | ins (c : Nat) | exo (c : Nat)
def tagOf (h : SH) : SV → Option Tag
  | .non => some .non
  | .bl _ => some .bl
  | .int _ => some .int
  | .str _ => some .str
  | .scr _ => some .lst
  | .ref i => match h[i]? with
    | some (.lst _) => some .lst
    | some (.tup _) => some .tup
    | some (.dK _) => some .dct
    | some (.dT _) => some .dct
    | some (.ins c _) => some (.ins c)
    | some (.exo c _) => some (.exo c)
    | some (.lk _) => none
    | none => none
/-- what the written part says of a class, so that isinstance asks its instances rightly -/
structure InsIs (K : PySem.W.Frag) (C : Addr) : Prop where
  cl : L2.Cls K C
  ha : PySem.W.findIn K (.ref C) "__class__" = some (some (.builtin "object.__class__"))
  hn : PySem.W.specialIn K (.builtin "object.__class__") "__get__" = some (some (.builtin "getset_descriptor.__get__"))
  ht : PySem.W.takesIn K (.builtin "object.__class__") = some true
  hm : PySem.W.mroIn K C (.type "object") = some true
structure ExcIs (K : PySem.W.Frag) (C : Addr) : Prop where
  hcl : (PySem.W.clsIn K C).isSome = true
  ga : PySem.W.findIn K (.ref C) "__getattribute__" = some (some (.builtin "BaseException.__getattribute__"))
  gg : PySem.W.findIn K (.ref C) "__getattr__" = some none
  sub : PySem.W.subIn K (.ref C) (.type "BaseException") = some true
  ha : PySem.W.findIn K (.ref C) "__class__" = some (some (.builtin "object.__class__"))
  hn : PySem.W.specialIn K (.builtin "object.__class__") "__get__" = some (some (.builtin "getset_descriptor.__get__"))
  ht : PySem.W.takesIn K (.builtin "object.__class__") = some true
  hm : PySem.W.mroIn K C (.type "object") = some true
  hd : PySem.W.hasDictIn K C = true
def tagV (en : En) : Tag → Option Value
  | .non => some (.type "NoneType")
  | .bl => some (.type "bool")
  | .int => some (.type "int")
  | .str => some (.type "str")
  | .lst => some (.type "list")
  | .tup => some (.type "tuple")
  | .dct => some (.type "dict")
  | .ins c => (en.cl[c]?).map fun p => .ref p.1
  | .exo c => (en.cl[c]?).map fun p => .ref p.1
def TagOk (en : En) : Tag → Prop
  | .ins c => ∃ C ns, en.cl[c]? = some (C, ns) ∧ InsIs en.K C
  | .exo c => ∃ C ns, en.cl[c]? = some (C, ns) ∧ ExcIs en.K C
  | _ => True
section
variable {X : Cx} {en : En} {W : WX} {k c n : Nat} {x : Str} {p pos pos2 : Pos} {e : Expr} {pins : List (Addr × Obj)} {σ : L2.St} {H : Hp} {s : Shared}
theorem exo_inst {ρ : List Addr} {h : SH} {i : Nat} {xs : List SV} {v : V} (I : Inv X pins σ H s) (rel : Rel en ρ h H) (r : RS en ρ (.ref i) v) (e : h[i]? = some (.exo c xs)) :
    ∃ a C ns ox od vs, v = .ref a ∧ en.cl[c]? = some (C, ns) ∧ PySem.W.InstAt s.heap a ox C od ∧ xs.length = ns.length ∧ RSs en ρ xs vs ∧ (ns ≠ [] → ∃ (m : Str → Option Value) (od' : Obj), od = some od' ∧ (∀ f, PySem.W.lookIn f od' = some (m f)) ∧ ∀ f, RelO ((ns.zip vs).lookup f) (m f)) := by
  obtain ⟨a, ea, rfl⟩ := r
  obtain ⟨C, ns, d, vs, e1, e2, hf, l, q⟩ := rel.at2 ea e
  obtain ⟨⟨oe, us, g1, g2, g3⟩, _, _⟩ := I.hok a _ e2
  have hnc : PySem.W.notCls oe = true := by unfold PySem.W.notCls; rw [g3] <;> rfl
  rcases hf with ⟨hd, hk⟩ | ⟨dx, hd, hx, _⟩
  · refine ⟨a, C, ns, oe, none, vs, rfl, e1, ⟨g1, g2.1, hnc, by rw [g2.2, hd]; trivial⟩, l, q, fun hn => ?_⟩
    exfalso
    cases ns with
    | nil => exact hn rfl
    | cons a ns =>
      cases q with
      | nil => simp at l
      | cons _ _ => cases hk
  · have ho : ObjOk X.prog X.w H s.heap dx (.xd (ns.zip vs)) := I.hok dx _ hx
    obtain ⟨mA, hns, hr⟩ := ho
    obtain ⟨od, hod, hl⟩ := lookIn_ns hns
    exact ⟨a, C, ns, oe, some od, vs, rfl, e1, ⟨g1, g2.1, hnc, by rw [g2.2, hd]; exact hod⟩, l, q, fun _ => ⟨mA, od, rfl, hl, hr⟩⟩
theorem tag_kit {ρ : List Addr} {h : SH} {a : SV} {v : V} {u tv : Value} {t : Tag} (hK : X.K = en.K) (I : Inv X pins σ H s) (rel : Rel en ρ h H) (r : RS en ρ a v) (ru : RelV v u) (et : tagOf h a = some t) (ev : tagV en t = some tv) (ok : TagOk en t) :
    ∃ P, PySem.W.KitX X.K u tv P ∧ P s.heap ∧ u ≠ .builtin "__main__.__loader__#opaque" := by
  cases a with
  | non => cases et; cases ev; cases (show v = V.non from r); exact kit_of I ru (.base .non)
  | bl b => cases et; cases ev; cases (show v = V.bl b from r); exact kit_of I ru (.base (.bl b))
  | int i => cases et; cases ev; cases (show v = V.int i from r); exact kit_of I ru (.base (.int i))
  | str y => cases et; cases ev; cases (show v = V.str y from r); exact kit_of I ru (.base (.str y))
  | scr ns =>
    cases et; cases ev
    obtain ⟨rfl, _⟩ := (show v = .ref en.a0 ∧ ns = en.ns from r)
    rcases rel.scr with (z | ⟨o, z⟩) | ⟨o, its, n, z, hc, _⟩
    · exact kit_of I ru (.base (.lst z))
    · exact kit_of I ru (.base (.frz z))
    · exact kit_of I ru (.kList (by rw [hK]; exact z) hc)
  | ref i =>
    obtain ⟨b, eb, rfl⟩ := r
    unfold tagOf at et
    cases eo : h[i]? with
    | none => simp only [eo] at et; cases et
    | some o =>
      have ro := rel.at2 eb eo
      cases o with
      | lst xs => simp only [eo] at et; cases et; cases ev; obtain ⟨vs, e1, _⟩ := ro; exact kit_of I ru (.base (.lst e1))
      | tup xs => simp only [eo] at et; cases et; cases ev; obtain ⟨vs, e1, _⟩ := ro; exact kit_of I ru (.base (.tup e1))
      | dK xs => simp only [eo] at et; cases et; cases ev; obtain ⟨vs, e1, _⟩ := ro; exact kit_of I ru (.base (.dK e1))
      | dT xs => simp only [eo] at et; cases et; cases ev; obtain ⟨vs, e1, _⟩ := ro; exact kit_of I ru (.base (.dT e1))
      | ins c xs =>
        simp only [eo] at et; cases et
        obtain ⟨C, ns, hc, ok⟩ := ok
        unfold tagV at ev
        simp only [hc, Option.map_some] at ev
        cases ev
        obtain ⟨C', ns', dx, vs, hc', e1, _⟩ := ro
        rw [hc] at hc'; cases hc'
        rw [← hK] at ok
        exact kit_of I ru (.base (.ins e1 ok.cl ok.ha ok.hn ok.ht ok.hm))
      | lk xs => simp only [eo] at et; cases et
      | exo c xs =>
        simp only [eo] at et; cases et
        obtain ⟨C, ns, hc, ok⟩ := ok
        unfold tagV at ev
        simp only [hc, Option.map_some] at ev
        cases ev
        obtain ⟨a, C', ns', ox, od, vs, ea, hc', J, _⟩ := exo_inst I rel ⟨b, eb, rfl⟩ eo
        cases ea
        rw [hc] at hc'; cases hc'
        rw [← hK] at ok
        cases (show u = Value.ref b from ru)
        exact ⟨_, PySem.W.kitx_exc ok.hcl ok.ga ok.gg ok.sub ok.ha ok.hn ok.ht ok.hm, J, fun z => nomatch z⟩
def opIsi (f : Tag → Option Bool) : O1 := fun a h => match tagOf h a with
  | some t => match f t with
    | some b => some (.bl b, h)
    | none => none
  | none => none
/-- f tells isinstance(_, cv) rightly -/
def IsiOk (en : En) (cv : Value) (f : Tag → Option Bool) : Prop := ∀ t b, f t = some b → ∃ tv, tagV en t = some tv ∧ TagOk en t ∧ PySem.W.kitOne en.K tv cv = some b
def rIsG (en : En) (f : Tag → Option Bool) (cv : V) : List V → Hp → VK → Prop := fun xs H Q => ∃ ρ h a v, xs = [v, cv] ∧ Rel en ρ h H ∧ RS en ρ a v ∧ finO en ρ (opIsi f a h) Q
theorem call_isG {cV : V} {cv : Value} {f : Tag → Option Bool} (hK : X.K = en.K) (hc : ClsV cV cv) (ok : IsiOk en cv f) : CallR X (.builtin "isinstance") (rIsG en f cV) := by
  intro pins s σ H xs us Q I r h
  obtain ⟨ρ, h, a, v, rfl, rel, ra, w, h', e, q⟩ := h
  obtain ⟨u1, u2, rfl, r1, r2⟩ := vals2 r
  have e2 := hc.eq r2
  subst e2
  unfold opIsi at e
  cases et : tagOf h a with
  | none => simp only [et] at e; cases e
  | some t =>
    simp only [et] at e
    cases ef : f t with
    | none => simp only [ef] at e; cases e
    | some b =>
      simp only [ef] at e
      cases e
      obtain ⟨tv, ev, tk, ek⟩ := ok t b ef
      obtain ⟨P, Z, hp, hx⟩ := tag_kit hK I rel ra r1 et ev tk
      exact PySem.W.kia_one Z I.kIn hp (by rw [hK]; exact ek) hx fun tk => ⟨.bl b, H, I.tok tk, rfl, q ρ H (.bl b) (Pre.refl ρ) rel rfl⟩
theorem PE.isi {m : EM} {ec : Expr} {cV : V} {cv : Value} {f : Tag → Option Bool} (hK : X.K = en.K) (hc : ClsV cV cv) (ok : IsiOk en cv f) (hg : Gl X "isinstance") (hm : X.mg "isinstance" = none) (he : PE X e (tE en W m)) (hec : PE X ec (tC cV))
    (hs1 : starEach (e :: [ec]) X.env = (false, eval e X.env) :: starEach [ec] X.env := by rfl) (hs2 : starEach (ec :: []) X.env = (false, eval ec X.env) :: starEach [] X.env := by rfl) (hpl : (backTo pos (starEach [ec] X.env)).any (·.1) = false := by rfl) :
    PE X (.Call (.Name "isinstance" p) [e, ec] [] pos) (tE en W (mO1 (opIsi f) m)) :=
  PEimp (pe_callB (call_isG hK hc ok) hg hm rfl (pa_cons he (pa_cons hec pa_nil hs2) hs1) (by decide) (by decide) hs1 hpl) fun σ H Q t => by
    refine tM.bind2 (R1 := RS en) (R2 := RS en) (k := fun a (ss : SS) h => lift (opIsi f a h)) t fun ρ ss h a v H1 rel rs ra fn => ?_
    exact ⟨ρ, h, a, v, rfl, rel, ra, fn.lift⟩
/-- e.f, e an error -/
def ExfOk (en : En) (f : Str) (ix : List (Option Nat)) : Prop := ∀ (c k : Nat), ix[c]? = some (some k) → ∃ C ns, en.cl[c]? = some (C, ns) ∧ ExcIs en.K C ∧ PySem.W.findIn en.K (.ref C) f = some none ∧ ns.Nodup ∧ ns[k]? = some f
def opExf (ix : List (Option Nat)) : O1 := fun a h => match a with
  | .ref i => match h[i]? with
    | some (.exo c vs) => match ix[c]? with
      | some (some k) => match vs[k]? with
        | some v => some (v, h)
        | none => none
      | _ => none
    | _ => none
  | _ => none
theorem PE.exf {f : Str} {m : EM} {ix : List (Option Nat)} (hK : X.K = en.K) (hf : ExfOk en f ix) (he : PE X e (tE en W m)) (hb : attributeBase e f X.env (eval e X.env) = eval e X.env := by rfl) : PE X (.Attribute e f pos) (tE en W (mO1 (opExf ix) m)) := by
  refine ⟨fun pins s σ H Q I t => ?_⟩
  have t2 : tE en W m σ H fun v H1 => ∃ ρ h a, Rel en ρ h H1 ∧ RS en ρ a v ∧ finO en ρ (opExf ix a h) Q := tM.bind2 (R1 := RS en) (R2 := RS en) (k := fun a (ss : SS) h => lift (opExf ix a h)) t fun ρ ss h a v H1 rel rs ra fn => ⟨ρ, h, a, rel, ra, fn.lift⟩
  refine attr_of hb (thn (he.run pins s σ H _ I t2) fun u s1 ⟨v, H1, I1, ru, ρ, h, a, rel, ra, w, h', e1, q⟩ => ?_)
  unfold opExf at e1
  split at e1
  · rename_i i
    split at e1
    · rename_i c vs ei
      split at e1
      · rename_i kk ek
        split at e1
        · rename_i y ev
          cases e1
          obtain ⟨C, ns, hc, ok, hno, nd, en'⟩ := hf _ _ ek
          obtain ⟨b, C', ns', ox, od, ws, rfl, hc', J, hl, rv, hx⟩ := exo_inst I1 rel ra ei
          rw [hc] at hc'; cases hc'
          rw [← hK] at ok hno
          obtain ⟨mm, od', rfl, hl1, hl2⟩ := hx (fun z => by rw [z] at en'; cases en')
          obtain ⟨z, ez, rz⟩ := rv.get ev
          have lz : (ns.zip ws).lookup f = some z := zip_lookup nd en' ez
          obtain ⟨u', hu, ru'⟩ := RelO.some_of (v := z) (o := mm f) (by rw [← lz]; exact hl2 f)
          cases (show u = Value.ref b from ru)
          exact HandSPX.exc_get I1.kIn J ok.ga ok.gg ok.sub (PySem.W.findObj_own ok.hd hno rfl (by rw [hl1, hu])) (handed_of ru') ⟨z, H1, I1.tok _, ru', q ρ H1 z (Pre.refl ρ) rel rz⟩
        · cases e1
      · cases e1
    · cases e1
  · cases e1
end
end Fw
namespace Fw
open PySem PySem.Spec PyProof.Rows L2
section
variable {X : Cx} {pins : List (Addr × Obj)} {σ : L2.St} {H : Hp} {s : Shared}
/-- an error that was caught is held from now on like any object -/
theorem tracked {a : Addr} {oe : Obj} {us : Array Value} {cls : Value} {d : Option Addr} (I : Inv X pins σ H s) (ha : s.heap.get? a = some oe) (hz : Zc cls d oe) (hu : oe.data = .fields us) (na : H a = none) (n0 : X.s_0.heap.get? a = none) (nL : a ≠ X.env.locals)
    (hp : ∀ p ∈ X.pn ++ pins, p.1 ≠ a) : Inv (X.suite a (X.pn ++ pins)) [] σ (upd H a (.ext (exoφ a cls d))) s where
  ok := I.ok.suite _ _
  os := I.os
  bare := I.bare
  base := by
    have B := I.base
    refine ⟨B.keep, B.slot, fun b o e n q => ?_, B.there, fun b xs e => ?_, fun b o u e => ?_, fun b ps e => ?_⟩
    · have hb : b ≠ a := fun z => by subst z; rw [n0] at e; cases e
      rw [upd_ne hb]; exact B.free b o e n q
    · have q := B.tups b xs e
      rw [upd_ne (ne_of_none q na)]; exact q
    · have q := B.frzs b o u e
      rw [upd_ne (ne_of_none q na)]; exact q
    · obtain ⟨m, q⟩ := B.tbls b ps e
      exact ⟨m, by rw [upd_ne (ne_of_none q na)]; exact q⟩
  loc := I.loc
  cell := I.cell
  free := by
    show upd H a _ X.env.locals = none
    rw [upd_ne (Ne.symm nL)]; exact I.free
  freeC := fun y c e => by
    have hc : c ≠ a := fun z => by
      obtain ⟨w', o', e1, e2⟩ := I.cell y c e
      subst z
      rw [ha] at e1; cases e1
      rw [hu] at e2; cases e2
    rw [upd_ne hc]; exact I.freeC y c e
  pin := fun p q => by
    have q' : p ∈ X.pn ++ pins := by rw [List.append_nil] at q; exact q
    obtain ⟨e, n, z⟩ := I.pin p q'
    exact ⟨e, by rw [upd_ne (hp p q')]; exact n, z⟩
  hok := I.hok.laidN (fun _ _ z => z) na (exo_ok ha hz hu)
  len := I.len
theorem untrackedCx {a : Addr} (I : Inv (X.suite a (X.pn ++ pins)) [] σ H s) (ok : X.Ok) : Inv X pins σ H s where
  ok := ok
  os := I.os
  bare := I.bare
  base := I.base
  loc := I.loc
  cell := I.cell
  free := I.free
  freeC := I.freeC
  pin := fun p q => I.pin p (List.mem_append_left _ q)
  hok := I.hok
  len := I.len
/-- the ends of a suite whose name i goes -/
def goneE (i : Nat) (D : Ends) : Ends := { nx := fun σ' H' => D.nx (σ'.set i none) H', rt := D.rt, bk := fun σ' H' => D.bk (σ'.set i none) H', ct := fun σ' H' => D.ct (σ'.set i none) H' }
/-- what 'except x as n' wishes of an exception: the one that it catches is held -/
def wTr (K : PySem.W.Frag) (c : Value) (i : Nat) (ts : TS) (Wout : WX) (D : Ends) : WX := fun cls d σ H =>
  ∃ b, PySem.W.exmOne K cls c = some b ∧ (b = true → ∀ a, H a = none → ts (goneE i D) (σ.set i (some (.ref a))) (upd H a (.ext (exoφ a cls d)))) ∧ (b = false → Wout cls d σ H)
variable {x n : Str} {c : Value} {i : Nat} {body suite : List Stmt} {b₀ : Stmt} {np pos pos' : Pos} {tb : WX → TS} {ts : TS} {Wout : WX}
/-- the clause, once the error stands in the frame's own hand -/
theorem clause_run (hs : X.stack = X.env :: X.outer) (hf : X.env.frame = some X.env.locals) (hx : X.ex = []) (hN : X.N.Nodup) (hi : X.N[i]? = some n) (hln : X.env.kindOf n = some .local) (hc : Names X x c) (tk : Takes X Wout) (hsu : ∀ (a : Addr) (pn : List (Addr × Obj)), PSs (X.suite a pn) (b₀ :: suite) ts)
    {D : Ends} {a : Addr} {B : Heap} {sI s3 : Shared} {cls : Value} {d : Option Addr} (J : Inv X pins σ H sI) (nb : ∀ b o, sI.heap.get? b = some o → b ∉ frs X.stack → B.get? b = some o) (up : sI.heap.UpToSlots s3.heap) (fl : HandSPX.FlyingZ B (X.env :: X.outer) a (Zc cls d) s3.heap)
    (na : H a = none) (os : s3.os = sI.os) (ag : AllBare s3.gens) (w : wTr X.K c i ts Wout D cls d σ H) :
    wpAny (model X.prog X.w) X.A (handleBy (.ref a) X.env [.ExceptHandler (some (.Name x np)) (some n) (b₀ :: suite) pos']) (SP X pins D) X.xe s3 := by
  obtain ⟨b, hb1, hyes, hno⟩ := w
  have ok := J.ok
  have nfr : a ∉ frs X.stack := by
    rw [hs]
    intro hm
    obtain ⟨oe, us, e1, _, e2⟩ := fl.there
    obtain ⟨_, o', e3, e4⟩ := fl.2.2.1.mem hm
    rw [e1] at e3; cases e3
    exact e4 _ e2
  have nL : a ≠ X.env.locals := fun z => nfr (by rw [hs]; exact List.mem_filterMap.mpr ⟨X.env, List.mem_cons_self, by rw [hf, z]⟩)
  have nI : sI.heap.get? a = none := by
    cases e : sI.heap.get? a with
    | none => rfl
    | some o => have z := nb a o e nfr; rw [fl.2.1] at z; cases z
  have n0 : X.s_0.heap.get? a = none := by
    cases e : X.s_0.heap.get? a with
    | none => rfl
    | some o =>
      obtain ⟨o', z⟩ := J.base.there a o e (by rw [hx]; exact fun z => nomatch z)
      rw [nI] at z; cases z
  have np' : ∀ p ∈ X.pn ++ pins, p.1 ≠ a := fun p hp z => by
    have q := (J.pin p hp).1
    rw [z, nI] at q; cases q
  -- held, in any heap where it has landed
  have held : ∀ {h' : Heap} {t' : Nat}, HandSPX.FlyingZ B (X.env :: X.outer) a (Zc cls d) h' → sI.heap.UpToSlots h' → Inv (X.suite a (X.pn ++ pins)) [] σ (upd H a (.ext (exoφ a cls d))) { s3 with heap := h', toks := t' } := fun {h' t'} f u => by
    obtain ⟨oe, us, e1, z, e2⟩ := f.there
    exact tracked ((J.landed (s' := { s3 with heap := h' }) nb f.1 u os ag).tok t') e1 z e2 na n0 nL np'
  have I3 := held (t' := s3.toks) fl up
  refine wpAny_handleBy_cons (codeAny_handlers_test ?_) (by intro q; cases q)
  have look : ∀ {Q : Value → Shared → Prop} {E : Value → Shared → Prop}, Q c s3 → wpAny (model X.prog X.w) (X.A.mark (some (.ref a))) (eval (.Name x np) X.env) Q E s3 := fun {Q E} q => by
    obtain ⟨g1, g2, g3 | ⟨g3, g4, g5⟩⟩ := hc
    · exact ld_glob (X := X.suite a (X.pn ++ pins)) I3 g1 g3 q g2
    · exact ld_blt (X := X.suite a (X.pn ++ pins)) I3 g1 g3 g4 q g5 g2
  refine look ?_
  obtain ⟨oe, us, e1, z1, e2⟩ := id fl.there
  have ty : PySem.W.Looks (model X.prog X.w) s3.heap (typeOf (.ref a)) cls := fun A Q E s k q => wpAny_typeOf_ref (k _ _ e1) (by rw [z1.1]; exact q)
  refine (PySem.W.exm_one (M := model X.prog X.w) I3.kIn ty hb1).here ?_
  cases b with
  | false =>
    refine wpAny_handleBy_nil ?_
    obtain ⟨k1, k2, k3, o4, v4, T, oT, t4, g1, g2, g3, g4, g5⟩ := id fl
    have out : wpAny (model X.prog X.w) X.A (setFlight (.ref a) X.env.frame) (fun _ s4 => wpAny (model X.prog X.w) X.A (throw (.ref a) : Sem Flow) (SP X pins D) X.xe s4) X.xe s3 := by
      rw [hf]
      refine HandSPX.setFlight_upZ fl fun h4 q4 u4 => wpAny_throw (tk _ _ ?_)
      exact ⟨a, B, sI, pins, σ, H, cls, d, rfl, J, nb, up.trans u4, .inr (.inr (by rw [hs]; exact q4)), na, os, ag, hno rfl⟩
    unfold PySem.passOn
    refine wpAny_bind (wpAny_field g1 g3 g4 ?_)
    have ne : ¬ ((Value.ref T == Value.none) = true) := by simp
    rw [if_neg ne]
    first
      | exact wpAny_bind out
      | exact wpAny_bind (wpAny_pure (wpAny_bind out))
  | true =>
    refine codeAny_handlers_suite_as ?_
    refine HandSPX.lands_againZ fl fun h4 f4 u4 => ?_
    have I4 := held (t' := s3.toks) f4 (up.trans u4)
    refine store_ok (X := X.suite a (X.pn ++ pins)) (v := .ref a) I4 hN hi (.inl hln) rfl (fun s5 I5 => ?_) (.inr hln)
    have goes : ∀ {σ6 : L2.St} {H6 : Hp} {s6 : Shared} {Q : Shared → Prop}, Inv (X.suite a (X.pn ++ pins)) [] σ6 H6 s6 → (∀ s7, Inv X pins (σ6.set i none) H6 s7 → Q s7) →
        wpAny (model X.prog X.w) X.A (do bindName X.env n .none; unbindBehindTheSuite X.env n pos') (fun _ s7 => Q s7) X.xe s6 := fun {σ6 H6 s6 Q} I6 hq => gone_ok (untrackedCx I6 ok) hN hi hln hq
    refine wpAny_mono ((hsu a (X.pn ++ pins)).run [] s5 _ _ (goneE i D) I5 (hyes rfl a na)) (fun fw s6 h6 => ?_) (fun _ _ z => False.elim z)
    cases fw with
    | next => obtain ⟨σ6, H6, I6, q6⟩ := h6; exact goes I6 fun s7 I7 => ⟨_, _, I7, q6⟩
    | brk => obtain ⟨σ6, H6, I6, q6⟩ := h6; exact goes I6 fun s7 I7 => ⟨_, _, I7, q6⟩
    | cont => obtain ⟨σ6, H6, I6, q6⟩ := h6; exact goes I6 fun s7 I7 => ⟨_, _, I7, q6⟩
    | ret u => obtain ⟨v6, σ6, H6, I6, r6, q6⟩ := h6; exact goes I6 fun s7 I7 => ⟨_, _, _, I7, r6, q6⟩
theorem ps_tryT (hs : X.stack = X.env :: X.outer) (hf : X.env.frame = some X.env.locals) (hx : X.ex = []) (hN : X.N.Nodup) (hi : X.N[i]? = some n) (hln : X.env.kindOf n = some .local) (hc : Names X x c) (tk : Takes X Wout)
    (hb : ∀ (W : WX) (pn : List (Addr × Obj)) (xe : Value → Shared → Prop), Takes (X.tr pn xe) W → PassesOwn (model X.prog X.w) X.A X.env xe → PSs (X.tr pn xe) body (tb W)) (hsu : ∀ (a : Addr) (pn : List (Addr × Obj)), PSs (X.suite a pn) (b₀ :: suite) ts) :
    PS X (.Try body [.ExceptHandler (some (.Name x np)) (some n) (b₀ :: suite) pos'] [] [] pos) (fun D σ H => tb (wTr X.K c i ts Wout D) D σ H) := by
  refine ⟨fun pins s σ H D I t => wpAny_Try_except ?_⟩
  have ok := I.ok
  have hfr : X.A.frames = some (X.env :: X.outer) := by rw [ok.frames, hs]
  let xe : Value → Shared → Prop := fun e s₁ => wpAny (model X.prog X.w) X.A (noteFrame e X.env) (fun _ s₂ => wpAny (model X.prog X.w) X.A (setFlight e none) (fun _ s₃ =>
    wpAny (model X.prog X.w) X.A (handleBy e X.env [.ExceptHandler (some (.Name x np)) (some n) (b₀ :: suite) pos']) (SP X pins D) X.xe s₃) X.xe s₂) X.xe s₁
  have tkT : Takes (X.tr (X.pn ++ pins) xe) (wTr X.K c i ts Wout D) := by
    rintro u s' ⟨a, B, sI, pins', σ', H', cls, d, rfl, J', nb, up, sky, na, os, ag, w⟩
    have sky2 : Sky B (X.env :: X.outer) a (Zc cls d) X.env.locals s'.heap := by rw [← hs]; exact sky
    show wpAny _ X.A (noteFrame (.ref a) X.env) _ _ s'
    exact Sky.land Zc.steady hfr hf sky2 fun h3 f3 u3 => clause_run (s3 := { s' with heap := h3 }) hs hf hx hN hi hln hc tk hsu (J'.ofTry ok) nb (up.trans u3) f3 na os ag w
  refine wpAny_mono ((hb _ (X.pn ++ pins) xe tkT PassesOwn.looking).run [] s σ H D (I.toTry _) t) (fun fw s1 h1 => ?_) (fun _ _ z => z)
  cases fw with
  | next => obtain ⟨σ1, H1, I1, q1⟩ := h1; exact wpAny_execs_nil ⟨σ1, H1, I1.ofTry ok, q1⟩
  | brk => obtain ⟨σ1, H1, I1, q1⟩ := h1; exact ⟨σ1, H1, I1.ofTry ok, q1⟩
  | cont => obtain ⟨σ1, H1, I1, q1⟩ := h1; exact ⟨σ1, H1, I1.ofTry ok, q1⟩
  | ret u => obtain ⟨v1, σ1, H1, I1, r1, q1⟩ := h1; exact ⟨v1, σ1, H1, I1.ofTry ok, r1, q1⟩
end
end Fw
namespace Fw
open PySem PySem.Spec PyProof.Rows L2
/-- behind a suite whose name i goes -/
def goneR (i : Nat) (r : SR) : SR := match r with
  | .nx ss h => .nx (ss.set i none) h
  | .bk ss h => .bk (ss.set i none) h
  | .ct ss h => .ct (ss.set i none) h
  | .rt v h => .rt v h
  | .ex _ _ _ _ => .stuck
  | .stuck => .stuck
def mTry (i : Nat) (sub : Nat → Option Bool) (mb ms : SM) : SM := fun ss h => match mb ss h with
  | .ex c xs ss1 h1 => match sub c with
    | some true => goneR i (ms (ss1.set i (some (.ref h1.length))) (h1 ++ [.exo c xs]))
    | some false => .ex c xs ss1 h1
    | none => .stuck
  | r => r
/-- sub tells by the class's number whether the clause of cv catches it -/
def SubOk (en : En) (cv : Value) (sub : Nat → Option Bool) : Prop := ∀ c b, sub c = some b → ∃ C ns, en.cl[c]? = some (C, ns) ∧ PySem.W.exmOne en.K (.ref C) cv = some b
abbrev wNo : WX := fun _ _ _ _ => False
theorem finS.gone {en : En} {W : WX} {ρ : List Addr} {i : Nat} {r : SR} {D : Ends} (f : finS en W ρ (goneR i r) D) : finS en wNo ρ r (goneE i D) := by
  cases r with
  | stuck => exact f
  | nx ss h => exact fun ρ' σ H p rel rs => f ρ' _ H p rel (rs.clear i)
  | bk ss h => exact fun ρ' σ H p rel rs => f ρ' _ H p rel (rs.clear i)
  | ct ss h => exact fun ρ' σ H p rel rs => f ρ' _ H p rel (rs.clear i)
  | rt v h => exact f
  | ex c xs ss h => exact f.elim
theorem HasF.more {ρ : List Addr} {H : Hp} {d : Option Addr} {kvs : List (Str × V)} {a : Addr} {u : HO} (h : HasF ρ H d kvs) (na : H a = none) : HasF (ρ ++ [a]) (upd H a u) d kvs := by
  rcases h with z | ⟨dx, e1, e2, e3⟩
  · exact .inl z
  · have ne : dx ≠ a := fun z => by rw [z, na] at e2; cases e2
    exact .inr ⟨dx, e1, by rw [upd_ne ne]; exact e2, fun m => by
      rcases List.mem_append.mp m with m | m
      · exact e3 m
      · simp at m; exact ne m⟩
section
variable {X : Cx} {en : En} {W : WX} {k i : Nat} {x n : Str} {cv : Value} {body suite : List Stmt} {b₀ : Stmt} {np pos pos' : Pos} {mb ms : SM} {sub : Nat → Option Bool}
theorem try_read (hK : X.K = en.K) (ok : SubOk en cv sub) {D : Ends} {σ : L2.St} {H : Hp} (t : tS en W (mTry i sub mb ms) D σ H) : tS en (wTr X.K cv i (tS en wNo ms) W D) mb D σ H := by
  obtain ⟨ρ, ss, h, rel, rs, f⟩ := t
  refine ⟨ρ, ss, h, rel, rs, ?_⟩
  unfold mTry at f
  cases e1 : mb ss h with
  | stuck => rw [e1] at f; exact f
  | nx s2 h2 => rw [e1] at f; exact f
  | bk s2 h2 => rw [e1] at f; exact f
  | ct s2 h2 => rw [e1] at f; exact f
  | rt v h2 => rw [e1] at f; exact f
  | ex c xs ss1 h1 =>
    simp only [e1] at f
    intro ρ1 σ1 H1 cls d p1 rel1 rs1 rx
    have rx0 := rx
    obtain ⟨C, ns, vs, hc, rfl, hf, hl, rv⟩ := rx
    cases eb : sub c with
    | none => simp only [eb] at f; exact f.elim
    | some b =>
      obtain ⟨C', ns', hc', ek⟩ := ok c b eb
      rw [hc] at hc'; cases hc'
      refine ⟨b, by rw [hK]; exact ek, fun hb a na => ?_, fun hb => ?_⟩
      · subst hb
        simp only [eb] at f
        have p2 := Pre.one ρ1 a
        have rel2 : Rel en (ρ1 ++ [a]) (h1 ++ [.exo c xs]) (upd H1 a (.ext (exoφ a (.ref C) d))) := rel1.push na ⟨C, ns, d, vs, hc, upd_same, hf.more na, hl, rv.mono p2⟩
        refine ⟨ρ1 ++ [a], _, _, rel2, (rs1.mono p2).set (x := .ref h1.length) (v := .ref a) ⟨a, ?_, rfl⟩ i, ((f.mono p1).mono p2).gone⟩
        rw [← rel1.len, List.getElem?_append_right (Nat.le_refl _)]; simp
      · subst hb
        simp only [eb] at f
        exact f ρ1 σ1 H1 _ d p1 rel1 rs1 rx0
/-- try: body, except x as n: suite -/
theorem PS.tryAs (G : Good en X W k) (hs : X.stack = X.env :: X.outer) (hf : X.env.frame = some X.env.locals) (hx : X.ex = []) (hN : X.N.Nodup) (hi : X.N[i]? = some n) (hln : X.env.kindOf n = some .local) (hc : Names X x cv) (ok : SubOk en cv sub)
    (hb : ∀ (W' : WX) (pn : List (Addr × Obj)) (xe : Value → Shared → Prop), Good en (X.tr pn xe) W' k → PSs (X.tr pn xe) body (tS en W' mb)) (hsu : ∀ (a : Addr) (pn : List (Addr × Obj)), PSs (X.suite a pn) (b₀ :: suite) (tS en wNo ms)) :
    PS X (.Try body [.ExceptHandler (some (.Name x np)) (some n) (b₀ :: suite) pos'] [] [] pos) (tS en W (mTry i sub mb ms)) :=
  PSimp (ps_tryT (tb := fun W' => tS en W' mb) hs hf hx hN hi hln hc G.tk (fun W' pn xe tk ps => hb W' pn xe ⟨tk, ps, G.room, G.gd, G.sm, G.calm, G.K⟩) hsu) fun D σ H t => try_read G.K ok t
end
end Fw
namespace Fw
open PySem PySem.Spec PyProof.Rows L2
/-! ### dict displays -/
abbrev DM := SS → SH → Res (List (SV × SV))
abbrev RVV (en : En) : List Addr → List (SV × SV) → List (V × V) → Prop := fun ρ => Paired fun p q => RS en ρ p.1 q.1 ∧ RS en ρ p.2 q.2
def dNil : DM := fun _ h => .ok [] h
def dCons (mk mv : EM) (mr : DM) : DM := fun ss h => (mk ss h).bind fun k h1 => (mv ss h1).bind fun v h2 => (mr ss h2).bind fun ps h3 => .ok ((k, v) :: ps) h3
def keysP : List (SV × SV) → Option (List (Key × SV))
  | [] => some []
  | p :: r => match keyOf p.1 with
    | some k => match keysP r with
      | some ks => some ((k, p.2) :: ks)
      | none => none
    | none => none
def mergeS (kvs more : List (Key × SV)) : List (Key × SV) := more.foldl (fun acc kv => putS acc kv.1 kv.2) kvs
def mDict0 : EM := fun _ h => .ok (.ref h.length) (h ++ [.dK []])
def mDict0T : EM := fun _ h => .ok (.ref h.length) (h ++ [.dT []])
def mDict (md : DM) : EM := fun ss h => (md ss (h ++ [.dK []])).bind fun ps h1 => match keysP ps with
  | some kvs => if kvs.length ≤ 15 ∧ h1[h.length]? = some (.dK []) then .ok (.ref h.length) (h1.set h.length (.dK (mergeS [] kvs))) else .stuck
  | none => .stuck
section
variable {X : Cx} {en : En} {W : WX} {pos : Pos}
/-- the pairs of a display and their meaning -/
structure PD (X : Cx) (en : En) (W : WX) (pos : Pos) (keys : List (Option Expr)) (values : List Expr) (md : DM) : Prop where
  ex : ∃ trs, PPs X pos keys values trs ∧ ∀ σ H Q, tM en W (RVV en) md σ H Q → tPairs trs σ H Q
  all : keys.all (·.isSome) = true
  len : keys.length = values.length
theorem PD.nil : PD X en W pos [] [] dNil := ⟨⟨[], pps_nil, fun σ H Q ⟨ρ, ss, h, rel, rs, f⟩ => f ρ H [] (Pre.refl ρ) rel .nil⟩, rfl, rfl⟩
theorem PD.cons {k v : Expr} {ks : List (Option Expr)} {vs : List Expr} {mk mv : EM} {mr : DM} (hk : PE X k (tE en W mk)) (hv : PE X v (tE en W mv)) (hr : PD X en W pos ks vs mr) : PD X en W pos (some k :: ks) (v :: vs) (dCons mk mv mr) := by
  obtain ⟨trs, hp, hq⟩ := hr.ex
  refine ⟨⟨(tE en W mk, tE en W mv) :: trs, pps_cons hk hv hp, fun σ H Q t => ?_⟩, by rw [List.all_cons, hr.all]; rfl, by rw [List.length_cons, List.length_cons, hr.len]⟩
  obtain ⟨ρ, ss, h, rel, rs, f⟩ := t
  show tE en W mk σ H fun x H1 => tE en W mv σ H1 fun y H2 => tPairs trs σ H2 fun ps H3 => Q ((x, y) :: ps) H3
  refine ⟨ρ, ss, h, rel, rs, ?_⟩
  unfold dCons at f
  cases e1 : mk ss h with
  | stuck => simp only [e1, Res.bind, fin] at f
  | ex cc xs h1 => simp only [e1, Res.bind, fin] at f; exact f
  | ok k0 h1 =>
    simp only [e1, Res.bind] at f
    intro ρ1 H1 x p1 rel1 rx
    refine ⟨ρ1, ss, h1, rel1, rs.mono p1, ?_⟩
    cases e2 : mv ss h1 with
    | stuck => simp only [e2, fin] at f
    | ex cc xs h2 => simp only [e2, fin] at f ⊢; exact fun ρ' H cls d p => f ρ' H cls d (p1.trans p)
    | ok v0 h2 =>
      simp only [e2] at f
      intro ρ2 H2 y p2 rel2 ry
      refine hq σ H2 _ ⟨ρ2, ss, h2, rel2, (rs.mono p1).mono p2, ?_⟩
      cases e3 : mr ss h2 with
      | stuck => simp only [e3, fin] at f
      | ex cc xs h3 => simp only [e3, fin] at f ⊢; exact fun ρ' H cls d p => f ρ' H cls d ((p1.trans p2).trans p)
      | ok ps h3 =>
        simp only [e3] at f
        exact fun ρ3 H3 qs p3 rel3 rq => f ρ3 H3 _ ((p1.trans p2).trans p3) rel3 (.cons ⟨(rx.mono p2).mono p3, ry.mono p3⟩ rq)
theorem keysP_rel {ρ : List Addr} : ∀ {ps : List (SV × SV)} {qs : List (V × V)} {kvs : List (Key × SV)}, keysP ps = some kvs → RVV en ρ ps qs → ∃ kws : List (Key × V), qs = kws.map (fun kv => (kV kv.1, kv.2)) ∧ RK en ρ kvs kws
  | [], _, _, e, r => by cases r; cases e; exact ⟨[], rfl, .nil⟩
  | p :: ps, _, _, e, r => by
    cases r with
    | @cons _ q _ qs r t =>
      unfold keysP at e
      split at e
      · rename_i k ek
        split at e
        · rename_i ks eks
          cases e
          obtain ⟨kws, e1, e2⟩ := keysP_rel eks t
          obtain ⟨q1, q2⟩ := q
          refine ⟨(k, q2) :: kws, ?_, .cons ⟨rfl, r.2⟩ e2⟩
          rw [List.map_cons, ← e1]
          have := keyOf_rel ek r.1
          simp only at this
          rw [this]
        · cases e
      · cases e
theorem merge_rel {ρ : List Addr} : ∀ {kvs : List (Key × SV)} {kws : List (Key × V)} {a : List (Key × SV)} {b : List (Key × V)}, RK en ρ a b → RK en ρ kvs kws → RK en ρ (mergeS a kvs) (mergeK b kws)
  | _, _, _, _, r, .nil => r
  | p :: kvs, q :: kws, a, b, r, .cons z t => by
    show RK en ρ (mergeS (putS a p.1 p.2) kvs) (mergeK (putK b q.1 q.2) kws)
    rw [← z.1]
    exact merge_rel (RK.put z.2 r) t
theorem PE.dict0 : PE X (.Dict [] [] pos) (tE en W mDict0) := PEimp pe_dnewK fun σ H Q ⟨ρ, ss, h, rel, rs, f⟩ p hp => by
  refine f (ρ ++ [p]) _ (.ref p) (Pre.one ρ p) (rel.push (o := .dK []) hp ⟨[], upd_same, .nil⟩) ⟨p, ?_, rfl⟩
  rw [← rel.len, List.getElem?_append_right (Nat.le_refl _)]; simp
theorem PE.dict0T : PE X (.Dict [] [] pos) (tE en W mDict0T) := PEimp pe_dnewT fun σ H Q ⟨ρ, ss, h, rel, rs, f⟩ p hp => by
  refine f (ρ ++ [p]) _ (.ref p) (Pre.one ρ p) (rel.push (o := .dT []) hp ⟨[], upd_same, .nil⟩) ⟨p, ?_, rfl⟩
  rw [← rel.len, List.getElem?_append_right (Nat.le_refl _)]; simp
theorem PE.dict {keys : List (Option Expr)} {values : List Expr} {md : DM} (h : PD X en W pos keys values md) (h0 : keys ≠ [] := by intro z; cases z) (h15 : keys.length ≤ 15 := by decide) : PE X (.Dict keys values pos) (tE en W (mDict md)) := by
  obtain ⟨trs, hp, hq⟩ := h.ex
  refine PEimp (pe_disp hp h.all h.len h0 h15) fun σ H Q t => ?_
  intro p hp0
  obtain ⟨ρ, ss, hh, rel, rs, f⟩ := t
  have rel1 := rel.push (o := .dK []) hp0 ⟨[], upd_same, .nil⟩
  have ei : (ρ ++ [p])[hh.length]? = some p := by rw [← rel.len, List.getElem?_append_right (Nat.le_refl _)]; simp
  refine hq σ _ _ ⟨ρ ++ [p], ss, _, rel1, rs.mono (Pre.one ρ p), ?_⟩
  unfold mDict at f
  cases e1 : md ss (hh ++ [.dK []]) with
  | stuck => simp only [e1, Res.bind, fin] at f
  | ex cc xs h1 => simp only [e1, Res.bind, fin] at f ⊢; exact fun ρ' H cls d p2 => f ρ' H cls d ((Pre.one ρ p).trans p2)
  | ok ps h1 =>
    simp only [e1, Res.bind] at f
    intro ρ1 H1 qs p1 rel2 rq
    split at f
    · rename_i kvs ek
      split at f
      · rename_i hc
        obtain ⟨kws, e2, rk⟩ := keysP_rel ek rq
        obtain ⟨vs0, e3, r0⟩ := rel2.at2 (p1.get ei) hc.2
        cases r0
        refine ⟨e3, kws, e2, by rw [← rk.length]; exact hc.1, ?_⟩
        refine f ρ1 _ (.ref p) ((Pre.one ρ p).trans p1) (rel2.put (p1.get ei) (o := .dK (mergeS [] kvs)) ⟨_, upd_same, merge_rel .nil rk⟩) ⟨p, p1.get ei, rfl⟩
      · exact f.elim
    · exact f.elim
end
end Fw
namespace Er
open PySem PySem.W PySem.Calls PyProof.Rows PySem.HandSPX
abbrev veM : List Value := [.type "ValueError", .type "Exception", .type "BaseException", .type "object"]
section
variable {prog : Program} {w : World} {M : Model} {A : Around} {E : Value → Shared → Prop} {R : Result → Shared → Prop} {h : Heap} {g : Array GenState} {d : Drawn} {t : Nat} {os : OsState}
variable {nm q : Str} {C N : Addr} {bs bm : List Value} {sn : List Str} {sub : List Value} {ab : Bool} {col : Option Bool} {dd : Option Addr} {k0 k1 k2 k3 k5 : Option Value} {f : Str} {v : Value}
/-- C(f = v): the checks of ValueError.__new__ -/
theorem kw_check (hT : ∀ X : String, bm.contains (.type X) = veM.contains (.type X)) {Q : Unit → Shared → Prop} (hC : h.get? C = some (excClassObj nm q C N bs bm true sn sub ab col dd k0 k1 k2 k3 k5 "ValueError.__new__")) (z : Q () ⟨h, g, d, t, os⟩) :
    wpAny M A (checkBuiltinCall "ValueError.__new__" ⟨[.ref C], [(f, v)]⟩) Q E ⟨h, g, d, t, os⟩ := by
  have F := PySem.F.excBase_ValueError
  have cB : (Value.ref C :: bm).contains (.type "ValueError") = true := by rw [List.contains_cons, hT, F.hasB, Bool.or_true]
  have st := F.noStar
  simp only [checkBuiltinCall, F.newKind, F.newSplit, F.newRow]
  repeat (first | (refine wpAny_isSubtype_exc hC ?_; rw [cB]) | refine wpAny_loadPart_at hC ?_ | refine wpAny_madeBy_exc hC ?_ | refine wpAny_staticBase_exc hC ?_ | wp_step | simp only [bne_self_eq_false, Bool.false_eq_true, if_false])
  all_goals exact z
/-- .. ValueError.__new__ -/
theorem kw_new (hT : ∀ X : String, bm.contains (.type X) = veM.contains (.type X)) (hC : h.get? C = some (excClassObj nm q C N bs bm true sn sub ab col dd k0 k1 k2 k3 k5 "ValueError.__new__"))
    (z : R (.ok (.ret (.ref (h.objs.size + 1)))) ⟨(h.push (kdv_tup [])).push (excO C h.objs.size), g, d, t, os⟩) : codeAny (model prog w) A (.builtin "ValueError.__new__" ⟨[.ref C], [(f, v)]⟩) R ⟨h, g, d, t, os⟩ := by
  have F := PySem.F.excBase_ValueError
  have fin := F.ends
  have cB : (Value.ref C :: bm).contains (.type "ValueError") = true := by rw [List.contains_cons, hT, F.hasB, Bool.or_true]
  have cA : (Value.ref C :: bm).contains (.type "AttributeError") = false := by rw [List.contains_cons, hT, F.noAttr]; rfl
  have cN : (Value.ref C :: bm).contains (.type "NameError") = false := by rw [List.contains_cons, hT, F.noName]; rfl
  refine codeAny_builtinAt F.entry ?_
  unfold Builtin.«BaseException.__new__»
  refine PySem.wpAt_bind ?_
  show PySem.wpAt _ _ _ (stack >>= _) _ _ _
  refine PySem.wpAt_bind (PySem.wpAt_stack fun p below => PySem.wpAt_of_wpAny ?_)
  wp_walk
  refine PySem.wpAt_of_wpAny ?_
  rw [F.owner]
  repeat (first | with_reducible refine wpAny_loadPart_at hC ?_ | with_reducible refine wpAny_madeHere_exc F.canon hC ?_ | (with_reducible refine wpAny_isSubtype_exc hC ?_; first | rw [cA] | rw [cN] | rw [cB]) | wp_step)
  show R _ _
  rw [Heap.size_push]
  exact z
theorem kw_type (hT : ∀ X : String, bm.contains (.type X) = veM.contains (.type X)) {fI : Addr} {Q : Fin → Shared → Prop} (hC : h.get? C = some (excClassObj nm q C N bs bm true sn sub ab col dd k0 k1 k2 k3 k5 "ValueError.__new__"))
    (hi : Looks (model prog w) h (typeLookup (.ref C) "__init__") (some (.ref fI))) (hb : ∀ self, Looks (model prog w) h (bindSpecial (.ref fI) self) (.ref fI, [self]))
    (z : codeAny (model prog w) A (.call (.ref fI) ⟨[.ref (h.objs.size + 1)], [(f, v)]⟩) (fun r s' => match r with | .ok (.ret u) => u = .none ∧ Q (.done (.ret (.ref (h.objs.size + 1)))) s' | .ok _ => False | .error e => E e s')
      ⟨(h.push (kdv_tup [])).push (excO C h.objs.size), g, d, t, os⟩) : wpAny (model prog w) A (Builtin.«type.__call__» ⟨[.ref C], [(f, v)]⟩) Q E ⟨h, g, d, t, os⟩ := by
  have F := PySem.F.excBase_ValueError
  repeat (first | with_reducible refine wpAny_madeBy_exc hC ?_ | with_reducible refine wpAny_loadPart_at hC ?_ | wp_step)
  refine codeAny_call_builtin_code (Code.quiet_builtin _ F.quiet) (kw_check hT hC (kw_new hT hC ?_))
  show wpAny _ _ _ _ _ _
  have kp : ∀ b o, h.get? b = some o → ((h.push (kdv_tup [])).push (excO C h.objs.size)).get? b = some o := fun b o e => Heap.get?_push_of_some _ (Heap.get?_push_of_some _ e)
  have hC2 := kp _ _ hC
  have at2 : ((h.push (kdv_tup [])).push (excO C h.objs.size)).get? (h.objs.size + 1) = some (excO C h.objs.size) := by heap_get
  have cC : (Value.ref C :: bm).contains (.ref C) = true := by simp
  have i2 := hi.keeps kp
  have b2 := (hb (.ref (h.objs.size + 1))).keeps kp
  unfold isInstance
  repeat (first | with_reducible refine wpAny_loadPart_at at2 ?_ | (with_reducible refine wpAny_isSubtype_exc hC2 ?_; rw [cC]) | wp_step)
  show wpAny _ _ (typeLookup (.ref C) _) _ _ _
  refine i2.at (wpAny_holding (wpAny_bind (b2.at ?_)))
  refine wpAny_bind (wpAny_call (codeAny_mono z fun r s' y => ?_))
  rcases r with e | (u | _ | _ | _) <;> first | exact y | exact y.elim | skip
  obtain ⟨rfl, y⟩ := y
  first
    | exact wpAny_pure (wpAny_pure y)
    | (wp_walk; exact y)
theorem kw_call (hT : ∀ X : String, bm.contains (.type X) = veM.contains (.type X)) {fI : Addr} (hC : h.get? C = some (excClassObj nm q C N bs bm true sn sub ab col dd k0 k1 k2 k3 k5 "ValueError.__new__"))
    (hi : Looks (model prog w) h (typeLookup (.ref C) "__init__") (some (.ref fI))) (hb : ∀ self, Looks (model prog w) h (bindSpecial (.ref fI) self) (.ref fI, [self]))
    (z : codeAny (model prog w) (A.under (.builtin "type.__call__" ⟨[.ref C], [(f, v)]⟩)) (.call (.ref fI) ⟨[.ref (h.objs.size + 1)], [(f, v)]⟩) (InitBack (h.objs.size + 1) R) ⟨(h.push (kdv_tup [])).push (excO C h.objs.size), g, d, t, os⟩) :
    codeAny (model prog w) A (.call (.ref C) ⟨[], [(f, v)]⟩) R ⟨h, g, d, t, os⟩ := by
  have t1 := tc_lookup
  have t2 := tc_bind (.ref C)
  have ty : (⟨h, g, d, t, os⟩ : Shared).TypeIs (.ref C) "type" := ⟨_, hC, rfl⟩
  refine codeAny_of_tree ?_
  show wpAny _ _ (callAny (.ref C) _) _ _ _
  repeat (any_goals (first | assumption | with_reducible refine wpAny_loadPart_at hC ?_ | wp_step))
  refine ⟨rfl, ?_⟩
  refine codeAny_call_builtin_at (Code.quiet_builtin _ (by decide +kernel)) entry_typeCall (wpAny_check_type_call_sub hC (kw_type hT hC hi hb ?_))
  refine codeAny_mono z fun r s' y => ?_
  rcases r with e | (u | _ | _ | _) <;> exact y
end
/-- what a call of an own error class by its field's name does -/
def MakesK (P : Program) (w : World) (K : Frag) (mg : Str → Option Value) (C : Addr) (f : Str) : Prop :=
  ∀ (A : Around) (mb : Str → Option Value) (s : Shared) (v : Value) (R : Value → Shared → Prop) (E : Value → Shared → Prop), K.In s.heap → s.heap.Ns mainGlobals mg → s.heap.Ns builtinsNs mb → mb "super" = some (.type "super") → s.heap.NoLimit → A.depth + 1 < recursionLimit →
    (∀ h' tk e d, MadeE s.heap h' e C d [(f, v)] → R (.ref e) { s with heap := h', toks := tk }) → wpAny (model P w) A (call (.ref C) [] [(f, v)]) R E s
theorem err_madeK {P : Program} {w : World} {K : Frag} {mg : Str → Option Value} {C fI : Addr} {f : Str} (T : ErrTxt P K f C fI) (hs1 : mg "super" = none) : MakesK P w K mg C f := by
  intro A mb s v R E X hG hB hs2 hlim hroom hq
  obtain ⟨nm, q, N, bs, bm, sn, sub, ab, col, dd, k0, k1, k2, k3, k5, hC, hbm, hal⟩ := T.cls
  obtain ⟨hp, g, dr, tk, os⟩ := s
  have kp : ∀ b o, hp.get? b = some o → ((hp.push (kdv_tup [])).push (excO C hp.objs.size)).get? b = some o := fun b o e => Heap.get?_push_of_some _ (Heap.get?_push_of_some _ e)
  have hget : ((hp.push (kdv_tup [])).push (excO C hp.objs.size)).get? (hp.objs.size + 1) = some (excO C hp.objs.size) := by heap_get
  have none1 : hp.get? (hp.objs.size + 1) = none := by
    cases e : hp.get? (hp.objs.size + 1) with
    | none => rfl
    | some o => have z2 : hp.objs.size + 1 < hp.objs.size := Heap.lt_size e; omega
  have hnx : K.lookup (hp.objs.size + 1) = none := by
    cases e : K.lookup (hp.objs.size + 1) with
    | none => rfl
    | some o =>
      have z : hp.get? (hp.objs.size + 1) = some o := X _ _ e
      rw [none1] at z; cases z
  refine wpAny_call (kw_call (fun X => refsVE_contains X bm hbm) (X _ _ hC) (looks_findIn X T.iC) (fun self => bind_fn X self T.tC) ?_)
  refine err_init (s := ⟨(hp.push (kdv_tup [])).push (excO C hp.objs.size), g, dr, tk, os⟩) (mg := mg) (mb := mb) (v := v) T (X.keeps kp) (hG.keeps kp) (hB.keeps kp) hs1 hs2 (hlim.keeps kp) hget hnx ?_ (fun oc od fd osl e => T.bK oc od fd osl e _ _ _ (X.keeps kp)) fun h' tk' dx ie => ?_
  · show A.depth + 1 < recursionLimit
    exact hroom
  · have k2 := ie.keep
    have old : ∀ b o, hp.get? b = some o → h'.get? b = some o := fun b o e => k2 b o (Nat.ne_of_lt (Nat.lt_succ_of_lt (Heap.lt_size e))) (kp b o e)
    have dn := ie.dbig
    have z : hp.objs.size + 1 + 1 ≤ dx := by
      first
        | (simpa only [Heap.size_push] using dn)
        | exact dn
        | (have q := dn; rw [Heap.size_push, Heap.size_push] at q; exact q)
    obtain ⟨t1, ho⟩ := ie.obj
    have z3 : hp.objs.size ≤ dx := by omega
    exact ⟨rfl, hq h' tk' (hp.objs.size + 1) (some dx) ⟨old, none1, ⟨_, _, ho, ⟨rfl, rfl⟩, rfl, rfl⟩, .inr ⟨dx, f, v, rfl, rfl, z3, ie.dne, ie.ns⟩⟩⟩
end Er
namespace Fw
open PySem PySem.Spec PyProof.Rows L2
structure ErrAtK (P : Program) (w : World) (K : PySem.W.Frag) (mg : Str → Option Value) (en : En) (c : Nat) (x f : Str) : Prop where
  ex : ∃ C, en.cl[c]? = some (C, [f]) ∧ mg x = some (.ref C) ∧ PySem.W.keepIn K (.ref C) = true ∧ Er.MakesK P w K mg C f
theorem PE.errK {X : Cx} {en : En} {W : WX} {k c : Nat} {x f : Str} {p pos kpos : Pos} {e : Expr} {me : EM} (D : ErrAtK X.prog X.w X.K X.mg en c x f) (G : Good en X W k) (hg : Gl X x) (he : PE X e (tE en W me))
    (hall : (backToKw pos (keywordEach [⟨some f, e, kpos⟩] X.env)).all (·.1.isSome) = true := by rfl) (hks : (backToKw pos (keywordEach [⟨some f, e, kpos⟩] X.env)).filterMap (·.1) = [f] := by rfl) (hdb : (x == ("__debug__" : Str)) = false := by decide)
    (hpl : ((backTo pos (starEach [] X.env)).any (·.1) || (backToKw pos (keywordEach [⟨some f, e, kpos⟩] X.env)).any (·.1.isNone)) = false := by rfl) :
    PE X (.Call (.Name x p) [] [⟨some f, e, kpos⟩] pos) (tE en W (mErr c 1 (aCons me aNil))) := by
  obtain ⟨C, hc, hm, hkp, hmk⟩ := D.ex
  refine ⟨fun pins s σ H Q I t => ?_⟩
  refine wpAny_Call_Name_kw (ld_glob I hg hm ?_ hdb)
  have t2 : tE en W me σ H fun x H1 => ∀ d H2 a, Grown [f] x d H1 H2 → H2 a = none → Q (.ref a) (upd H2 a (.ext (exoφ a (.ref C) d))) := by
    obtain ⟨ρ, ss, h, rel, rs, fn⟩ := err_read hc rfl t
    refine ⟨ρ, ss, h, rel, rs, ?_⟩
    unfold aCons at fn
    cases e1 : me ss h with
    | stuck => simp only [e1, Res.bind, fin] at fn
    | ex c' xs h1 => simp only [e1, Res.bind, fin] at fn; exact fn
    | ok y h1 =>
      simp only [e1, Res.bind, aNil] at fn
      intro ρ1 H1 b p1 rel1 rb
      obtain ⟨v, o, z⟩ := fn ρ1 H1 [b] p1 rel1 (.cons rb .nil)
      rcases o with o | ⟨o, _⟩
      · cases o; exact z
      · cases o
  refine PySem.W.callWith_KW0 (h₀ := X.base) I.ok.mod.kin hkp hall ?_ hpl
  refine thn ((pk_cons he pk_nil).run pos pins s σ H (fun vs H1 => ∃ v, vs = [v] ∧ ∀ d H2 a, Grown [f] v d H1 H2 → H2 a = none → Q (.ref a) (upd H2 a (.ext (exoφ a (.ref C) d)))) I ?_) fun us s1 ⟨vs, H1, I1, r, v, ev, q⟩ => ⟨I1.kIn, ?_⟩
  · exact t2.imp fun b H1 z => ⟨b, rfl, z⟩
  · subst ev
    rw [hks]
    obtain ⟨v', rfl, rv⟩ : ∃ v', us = [v'] ∧ RelV v v' := by
      cases r with
      | cons rv rn => cases rn; exact ⟨_, rfl, rv⟩
    obtain ⟨mb, h1, h2⟩ := I1.ok.mod.blt
    refine hmk X.A mb s1 v' _ _ I1.kIn (I1.ok.mod.glob.keeps I1.bk) (h1.keeps I1.bk) ((h2 _ (by decide)).trans rfl) I1.nolimit (by have := G.room.dp; omega) fun h' tk a d M => ?_
    obtain ⟨G', H2, J, g1, g2, g3, g4⟩ := made_inv (tk' := tk) (ns := [f]) I1 M (by simp) rv
    obtain ⟨oe, fv, hoe, hz, hdat, _⟩ := M.obj
    exact ⟨.ref a, _, J.laidN (t' := tk) (o := .ext (exoφ a (.ref C) d)) (h' := h') g2 g1 g3 (exo_ok hoe hz hdat), rfl, q d H2 a g4 g3⟩
end Fw
namespace Fw
open PySem PySem.Spec PyProof.Rows L2
section
variable {X : Cx} {en : En} {W : WX} {x : Str} {pos : Pos}
/-- a module's constant -/
theorem PE.gint {i : Int} (hm : ∃ t, X.mg x = some (.int i t)) (hg : Gl X x) (hd : (x == ("__debug__" : Str)) = false := by decide) : PE X (.Name x pos) (tE en W (mC (.int i))) := by
  obtain ⟨t, hm⟩ := hm
  exact PEimp (pe_glob hg hm (v := .int i) ⟨t, rfl⟩ hd) (constOf fun _ => rfl)
theorem PE.gstr {i : Str} (hm : ∃ t, X.mg x = some (.str i t)) (hg : Gl X x) (hd : (x == ("__debug__" : Str)) = false := by decide) : PE X (.Name x pos) (tE en W (mC (.str i))) := by
  obtain ⟨t, hm⟩ := hm
  exact PEimp (pe_glob hg hm (v := .str i) ⟨t, rfl⟩ hd) (constOf fun _ => rfl)
end
section
variable {X : Cx} {en : En} {W : WX} {pos : Pos} {k : Nat}
/-- a list comprehension, the block's state of affairs handed on -/
theorem PE.lcG {elt tg iter : Expr} {ifs : List Expr} {scope : Scope} {own : List (Str × Nat)} {m : IM} {g : GM} {t : BM} {e : EM} (G : Good en X W k) (hN : X.N.Nodup) (hi : PI X tg iter (tI en W m)) (ok : BlkOk X.N X.env.scope scope own)
    (hg : ∀ (s : Shared) (H : Hp) (C : Addr) (cl : List (Str × Addr)) (fp : List Addr), Good en (X.blk s H scope (compEnvC scope cl C X.env) fp) W0 k → PG (X.blk s H scope (compEnvC scope cl C X.env) fp) tg (tG en (own.map (·.2)) g))
    (ht : ∀ (s : Shared) (H : Hp) (C : Addr) (cl : List (Str × Addr)) (fp : List Addr), Good en (X.blk s H scope (compEnvC scope cl C X.env) fp) W0 k → PTs (X.blk s H scope (compEnvC scope cl C X.env) fp) ifs (tT en W0 t))
    (he : ∀ (s : Shared) (H : Hp) (C : Addr) (cl : List (Str × Addr)) (fp : List Addr), Good en (X.blk s H scope (compEnvC scope cl C X.env) fp) W0 k → PE (X.blk s H scope (compEnvC scope cl C X.env) fp) elt (tE en W0 e)) (hs : ∀ x, foldedSetIterable iter X.env x = pure x := by intro _; rfl) :
    PE X (.ListComp elt [⟨tg, iter, ifs, 0⟩] scope pos) (tE en W (mLc m g t e (own.map (·.2)))) :=
  PE.lc G.calm hN hi ok (fun s H C cl fp => hg s H C cl fp (G.blk s H _ _ fp)) (fun s H C cl fp => ht s H C cl fp (G.blk s H _ _ fp)) (fun s H C cl fp => he s H C cl fp (G.blk s H _ _ fp)) hs
theorem PS.setLcG {i : Nat} {y : Str} {py : Pos} {elt tg iter : Expr} {ifs : List Expr} {scope : Scope} {own : List (Str × Nat)} {spos : Pos} {m : IM} {g : GM} {t : BM} {e : EM} (G : Good en X W k) (hN : X.N.Nodup) (hy : X.N[i]? = some y) (hyl : X.env.scope.names.lookup y = some .local)
    (hsw : swapsWith (.ListComp elt [⟨tg, iter, ifs, 0⟩] scope pos) (some (.Name y py)) spos.line X.env = pure true) (hi : PI X tg iter (tI en W m)) (ok : BlkOk X.N X.env.scope scope own)
    (hg : ∀ (s : Shared) (H : Hp) (C : Addr) (cl : List (Str × Addr)) (fp : List Addr), Good en (X.blk s H scope (compEnvC scope cl C X.env) fp) W0 k → PG (X.blk s H scope (compEnvC scope cl C X.env) fp) tg (tG en (own.map (·.2)) g))
    (ht : ∀ (s : Shared) (H : Hp) (C : Addr) (cl : List (Str × Addr)) (fp : List Addr), Good en (X.blk s H scope (compEnvC scope cl C X.env) fp) W0 k → PTs (X.blk s H scope (compEnvC scope cl C X.env) fp) ifs (tT en W0 t))
    (he : ∀ (s : Shared) (H : Hp) (C : Addr) (cl : List (Str × Addr)) (fp : List Addr), Good en (X.blk s H scope (compEnvC scope cl C X.env) fp) W0 k → PE (X.blk s H scope (compEnvC scope cl C X.env) fp) elt (tE en W0 e)) (hs : ∀ x, foldedSetIterable iter X.env x = pure x := by intro _; rfl) :
    PS X (.Assign [.Name y py] (.ListComp elt [⟨tg, iter, ifs, 0⟩] scope pos) spos) (tS en W (mSet i (mLc m g t e (own.map (·.2))))) :=
  PS.setLc G.calm hN hy hyl hsw hi ok (fun s H C cl fp => hg s H C cl fp (G.blk s H _ _ fp)) (fun s H C cl fp => ht s H C cl fp (G.blk s H _ _ fp)) (fun s H C cl fp => he s H C cl fp (G.blk s H _ _ fp)) hs
end
section
variable {P : Program} {w : World} {K : PySem.W.Frag} {mg : Str → Option Value} {base : Heap} {en : En}
theorem DefAt.mk' {k : Nat} {x : Str} {np nn : Nat} {m : SM} {f : Addr} {fd : FuncData} {ps : List Str} {q : Str} {st : Stmt} (hm : mg x = some (.ref f)) (F : L2.Fun K x q st f fd) (G : FnG P w K mg base k f fd ps (spM en np (mFn np nn m))) (hb : Binds K fd ps []) : DefAt P w K mg base en k x np (mFn np nn m) :=
  ⟨⟨f, fd, ps, hm, F.kp, G, hb⟩, fun vs h e => mFn_len e⟩
end
end Fw
namespace Fw
open PySem PySem.Spec PyProof.Rows L2
section
variable {P : Program} {w : World} {K : PySem.W.Frag} {mg mb : Str → Option Value} {k : Nat} {fa a : Addr} {fd : FuncData} {x : Str} {s : Shared} {vs : List Value} {ns : List Int}
/-- the law, called over an abstract heap that tracks the script at most -/
theorem head_at (KX : K.In s.heap) (hns : s.heap.Ns mainGlobals mg) (hb : s.heap.Ns builtinsNs mb) (hbb : ∀ y : Str, y ≠ "__name__" → mb y = bootBuiltins y) (hlim : s.heap.NoLimit) (hmods : ∃ mm, s.heap.Ns sysModules mm) (hg : s.gens = #[])
    (ha : s.heap.get? a = some { cls := .type "list", data := .seq vs.toArray }) (hr : Room k callerA) (hbind : ∀ (t : Shared) (u : Value), BindsTo t fd ⟨[u], []⟩ [(x, u)]) {H : Hp} (only : Only H) (own : ∀ b, H b ≠ none → b = a) (apart : H a ≠ none → K.lookup a = none) (ok : HOk P w H s.heap) {sp : Sp}
    (F : ∀ base : Heap, K.In base → base.Ns mainGlobals mg → (∃ o, base.get? sysModules = some o) → FnG P w K mg base k fa fd [x] sp) (hsp : sp [.ref a] H (fun v _ => v = .bl true) fun _ _ _ => False) :
    codeAny (model P w) callerA (.call (.ref fa) ⟨[.ref a], []⟩) (fun r s' => r = .ok (.ret (.bool true)) ∧ OldK s.heap s'.heap ∧ s'.os = s.os ∧ AllBare s'.gens) s := by
  -- a dict isn't tracked, so every namespace stands in the base too
  have free : ∀ {b : Addr} {o : Obj} {es : Array DictEntry} {ep : Nat}, s.heap.get? b = some o → o.data = .dict es ep → H b = none := fun {b o es ep} e d => by
    by_cases z : H b = none
    · exact z
    · have hb := own b z
      subst hb
      rw [ha] at e; cases e; cases d
  have nsB : ∀ {b : Addr} {m : Str → Option Value}, s.heap.Ns b m → (hidT s.heap H).Ns b m := fun ⟨o, es, ep, e, d, r⟩ => ⟨o, es, ep, hidT_get e (free e d), d, r⟩
  have kB : K.In (hidT s.heap H) := fun b o e => hidT_get (KX b o e) (by
    by_cases z : H b = none
    · exact z
    · have hb := own b z
      subst hb
      rw [apart z] at e; cases e)
  have mod : Mod K mg (hidT s.heap H) := ⟨kB, nsB hns, ⟨mb, nsB hb, hbb⟩, by obtain ⟨mc, h1, h2⟩ := hlim; exact ⟨mc, nsB h1, h2⟩⟩
  have sm : ∃ o, (hidT s.heap H).get? sysModules = some o := by
    obtain ⟨mm, hm⟩ := hmods
    obtain ⟨o, _, _, e, _⟩ := nsB hm
    exact ⟨o, e⟩
  have e0 : Env0 P w K mg (hidT s.heap H) callerA [] s H := ⟨rfl, mod, fun b o e => of_hidT e, Nat.le_of_eq (hidT_size _ _), trivial, (fun b z => absurd (show b ∈ ([] : List Addr) from z) (by simp)), ok, .of_eq hg⟩
  refine codeAny_mono ((F _ kB mod.glob sm).run callerA [] s H ⟨[.ref a], []⟩ [.ref a] [.ref a] _ _ hr rfl e0 (hbind s (.ref a)) (.cons rfl .nil) hsp) fun r s' z => ?_
  match r, z with
  | .error e, ⟨_, _, _, _, _, _, _, _, _, _, _, _, f⟩ => exact f.elim
  | .ok (.ret u), ⟨v, H', os, bare, un, ok', ru, q⟩ =>
    subst q
    have eu : u = Value.bool true := ru
    subst eu
    refine ⟨rfl, OldK.of_keep fun b o e => ?_, os, bare⟩
    rcases only b with q | ⟨ob, xs, q⟩
    · exact un.keep b o e q (fun z => absurd (show b ∈ ([] : List Addr) from z) (by simp)) (by simp)
    · obtain ⟨e1, _⟩ := ok b _ q
      obtain ⟨e2, _⟩ := ok' b _ (un.frzs b ob _ q)
      rw [e] at e1; cases e1
      exact e2
  | .ok .next, z => exact False.elim z
  | .ok .brk, z => exact False.elim z
  | .ok .cont, z => exact False.elim z
/-- .. wherever the script stands -/
theorem head_run (KX : K.In s.heap) (hns : s.heap.Ns mainGlobals mg) (hb : s.heap.Ns builtinsNs mb) (hbb : ∀ y : Str, y ≠ "__name__" → mb y = bootBuiltins y) (hlim : s.heap.NoLimit) (hmods : ∃ mm, s.heap.Ns sysModules mm) (hg : s.gens = #[])
    (ha : s.heap.get? a = some { cls := .type "list", data := .seq vs.toArray }) (hi : IntsAre vs ns) (hl : ns.length ≤ sizeLine) (hr : Room k callerA) (hbind : ∀ (t : Shared) (u : Value), BindsTo t fd ⟨[u], []⟩ [(x, u)])
    {nn : Nat} {en : En} {m : SM} {h2 : SH} (hk : en.K = K) (ea : en.a0 = a) (en' : en.ns = ns) (F : ∀ base : Heap, K.In base → base.Ns mainGlobals mg → (∃ o, base.get? sysModules = some o) → FnG P w K mg base k fa fd [x] (spM en 1 (mFn 1 nn m))) (law : mFn 1 nn m [.scr ns] [] = .ok (.bl true) h2) :
    codeAny (model P w) callerA (.call (.ref fa) ⟨[.ref a], []⟩) (fun r s' => r = .ok (.ret (.bool true)) ∧ OldK s.heap s'.heap ∧ s'.os = s.os ∧ AllBare s'.gens) s := by
  have rv := vals_ints hi
  have done : ∀ H : Hp, ((∃ o, H en.a0 = some (.frz o (.lst (en.ns.map V.int)))) ∨ SqL en.K (fun _ => none) en.a0 (en.ns.map V.int)) → spM en 1 (mFn 1 nn m) [.ref a] H (fun v _ => v = .bl true) fun _ _ _ => False := fun H h => by
    refine ⟨rfl, [], [.scr ns], [], ⟨rfl, .nil, fun i b o e => by simp at e, ?_⟩, .cons ⟨by rw [ea], en'.symm⟩ .nil, ?_⟩
    · rcases h with ⟨o, z⟩ | z
      · exact .inl ⟨o, z, by simp⟩
      · exact .inr z
    · rw [law]
      exact fun ρ' H u p rel r => r
  cases hq : K.lookup a with
  | some o =>
    have e := KX a o hq
    rw [ha] at e; cases e
    refine head_at KX hns hb hbb hlim hmods hg ha hr hbind (H := fun _ => none) (fun b => .inl rfl) (fun b z => absurd rfl z) (fun z => absurd rfl z) (fun b u z => nomatch z) F (done _ (.inr ?_))
    rw [hk, ea, en']
    exact .inr ⟨_, vs.toArray, _, hq, rfl, rfl, rfl, by rw [List.size_toArray, hi.length]; exact hl, by simpa using rv⟩
  | none =>
    have at_ : ∀ {b : Addr} {u : HO}, (if b = a then some (HO.frz { cls := .type "list", data := .seq vs.toArray } (.lst (ns.map V.int))) else none) = some u → b = a ∧ u = .frz { cls := .type "list", data := .seq vs.toArray } (.lst (ns.map V.int)) := fun {b u} z => by
      split at z
      · rename_i hb; cases z; exact ⟨hb, rfl⟩
      · cases z
    refine head_at KX hns hb hbb hlim hmods hg ha hr hbind (H := fun b => if b = a then some (.frz { cls := .type "list", data := .seq vs.toArray } (.lst (ns.map V.int))) else none) (fun b => ?_) (fun b z => ?_) (fun _ => hq) (fun b u z => ?_) F (done _ (.inl ⟨{ cls := .type "list", data := .seq vs.toArray }, ?_⟩))
    · by_cases hb : b = a
      · exact .inr ⟨_, _, if_pos hb⟩
      · exact .inl (if_neg hb)
    · by_cases hb : b = a
      · exact hb
      · exact absurd (if_neg hb) z
    · obtain ⟨rfl, rfl⟩ := at_ z
      exact ⟨ha, by rw [List.length_map]; exact hl, vs, _, rv, ha⟩
    · rw [ea, en']; exact if_pos rfl
end
end Fw
namespace Fw
open PySem PySem.Spec PyProof.Rows L2
/-- THE END: the law's row from its def and its meaning's answer -/
theorem walk_ofG {l : PySem.W.OpenLaw} {n k nn : Nat} {q : Program} {loose : List Str} {XP : (Str → Option Value) → Heap → Prop} {YP : World → Heap → Prop} {d : DefRec} {K : Params → PySem.W.Frag} {x : Str} {m : SM}
    (hn : l.most = some n) (hn2 : n ≤ sizeLine) (hdf : d.params.defaults = []) (hr : Room k callerA) (himp : importsNone q = true) (hY : ∀ (w : World) (h : Heap), YP w h → (K w.params).In h)
    (F : ∀ (w : World) (mg : Str → Option Value) (fa : Addr) (h : Heap), (K w.params).In h → h.Ns mainGlobals mg → mg d.name = some (.ref fa) →
      ∃ (fd : FuncData) (cl : List (Addr × List Str)), (∀ (s : Shared) (u : Value), BindsTo s fd ⟨[u], []⟩ [(x, u)]) ∧
        ∀ (base : Heap) (a0 : Addr) (ns : List Int), (K w.params).In base → base.Ns mainGlobals mg → (∃ o, base.get? sysModules = some o) → FnG l.prog w (K w.params) mg base k fa fd [x] (spM ⟨cl, K w.params, a0, ns, []⟩ 1 (mFn 1 nn m)))
    (law : ∀ ns : List Int, ns.length ≤ n → (∀ z ∈ ns, Builtin.Int.intBits z ≤ 1048576) → ∃ h2, mFn 1 nn m [.scr ns] [] = .ok (.bl true) h2) :
    PySem.W.WalkO q loose XP YP l.row.toRowW d [] (fun f vs => PySem.call f vs) := by
  refine Att.attach_callB hn hdf fun w s₀ s₁ mg mb fa o pm cd doc a vs ns G Y ho hd hcd hmg hobj hints hlen hbits hg => ?_
  have KX := hY w _ Y
  obtain ⟨fd, cl, hb, hF⟩ := F w mg fa _ KX G.T.g hmg
  obtain ⟨mm, hmm, _⟩ := (G.T.seer himp).mods
  obtain ⟨h2, hl⟩ := law ns hlen hbits
  exact head_run (en := ⟨cl, K w.params, a, ns, []⟩) KX G.T.g G.T.b G.T.builtins G.T.nolimit ⟨mm, hmm⟩ hg hobj hints (Nat.le_trans hlen hn2) hr hb rfl rfl rfl (fun base h1 h2 h3 => hF base a ns h1 h2 h3) hl
theorem one_of {us : List Value} {d : Value} (h : (us ++ [d]).length = 2) : ∃ a, us = [a] := by
  match us, h with
  | [], h => simp at h
  | [a], _ => exact ⟨a, rfl⟩
  | _ :: _ :: _, h => simp at h
theorem two_of {us : List Value} (h : (us ++ []).length = 2) : ∃ a b, us = [a, b] := by
  match us, h with
  | [], h => simp at h
  | [_], h => simp at h
  | [a, b], _ => exact ⟨a, b, rfl⟩
  | _ :: _ :: _ :: _, h => simp at h
end Fw
namespace Er
open PySem PySem.W PySem.Calls PyProof.Rows PySem.HandSPX
theorem along_of {K : Frag} {nm q : Str} {C N : Addr} {bs bm : List Value} {hdct : Bool} {sn : List Str} {sub : List Value} {ab : Bool} {col : Option Bool} {dd : Option Addr} {k0 k1 k2 k3 k5 : Option Value} {newId : String} {m : Str} {r : Option (Option Value)}
    (xL : K.lookup C = some (excClassObj nm q C N bs bm hdct sn sub ab col dd k0 k1 k2 k3 k5 newId)) (h : ks_superIn K C C m = r) : alongIn K m bm = r := by
  have hcl : clsIn K C = some { name := nm, bases := bs, mro := .ref C :: bm, ns := N, qualname := q, hasDict := hdct, slotNames := sn, subclasses := sub, abstract := ab, collection := col, hasDel := false } := by unfold clsIn; rw [xL] <;> rfl
  unfold ks_superIn at h
  rw [hcl, Option.bind_some] at h
  rwa [ESX.drop_own] at h
end Er
namespace Fw
open PySem PySem.Spec L2
theorem fin.bind {α β γ δ : Type} {en : En} {W : WX} {R1 : List Addr → α → β → Prop} {R2 : List Addr → γ → δ → Prop} {σ : L2.St} {ρ : List Addr} {r : Res α} {k : α → SH → Res γ} {Q : δ → Hp → Prop} (f : fin en W R2 σ ρ (r.bind k) Q) :
    fin en W R1 σ ρ r fun x H1 => ∃ ρ1 a h1, Pre ρ ρ1 ∧ Rel en ρ1 h1 H1 ∧ R1 ρ1 a x ∧ fin en W R2 σ ρ1 (k a h1) Q := by
  cases r with
  | stuck => exact f
  | ok a h => exact fun ρ' H' b p rel rb => ⟨ρ', a, h, p, rel, rb, fin.mono p f⟩
  | ex c xs h => exact f
theorem fin.imp {α β : Type} {en : En} {W : WX} {R : List Addr → α → β → Prop} {σ : L2.St} {ρ : List Addr} {r : Res α} {Q Q' : β → Hp → Prop} (f : fin en W R σ ρ r Q) (k : ∀ b H, Q b H → Q' b H) : fin en W R σ ρ r Q' := by
  cases r with
  | stuck => exact f
  | ok a h => exact fun ρ' H' b p rel rb => k _ _ (f ρ' H' b p rel rb)
  | ex c xs h => exact f
/-! ### d.get(k, z), d.setdefault(k, z) -/
def isDct (h : SH) (v : SV) : Bool := match v with
  | .ref i => match h[i]? with
    | some (.dK _) => true
    | some (.dT _) => true
    | _ => false
  | _ => false
abbrev O3 := SV → SV → SV → SH → Option (SV × SH)
def mD3 (op : O3) (mo mk md : EM) : EM := fun ss h => (mo ss h).bind fun o h1 => if isDct h1 o = true then (mk ss h1).bind fun k h2 => (md ss h2).bind fun z h3 => lift (op o k z h3) else .stuck
def opGet2 : O3 := fun o k z h => match o with
  | .ref i => match h[i]? with
    | some ob => match dictGet h ob k with
      | some r => some (r.getD z, h)
      | none => none
    | none => none
  | _ => none
def opSetd : O3 := fun o k z h => match o with
  | .ref i => match h[i]? with
    | some (.dK kvs) => match keyOf k with
      | some kk => if kvs.length < big then match getS kvs kk with
        | some x => some (x, h)
        | none => some (z, h.set i (.dK (putS kvs kk z)))
        else none
      | none => none
    | _ => none
  | _ => none
section
variable {X : Cx} {en : En} {W : WX} {o e f : Expr} {mo mk md : EM} {apos cpos : Pos}
theorem isDct_rel {ρ : List Addr} {h : SH} {H : Hp} {a : SV} {v : V} (rel : Rel en ρ h H) (ra : RS en ρ a v) (e : isDct h a = true) : ∃ i p, a = .ref i ∧ v = .ref p ∧ ρ[i]? = some p ∧ IsD H p := by
  unfold isDct at e
  split at e
  · rename_i i
    obtain ⟨p, ep, rfl⟩ := ra
    split at e
    · rename_i kvs ei
      obtain ⟨kws, e1, _⟩ := rel.at2 ep ei
      exact ⟨_, p, rfl, rfl, ep, .inl ⟨kws, .inl e1⟩⟩
    · rename_i kvs ei
      obtain ⟨kws, e1, _⟩ := rel.at2 ep ei
      exact ⟨_, p, rfl, rfl, ep, .inr ⟨kws, .inl e1⟩⟩
    · cases e
  · cases e
theorem tD3 {op : O3} (σ : L2.St) (H : Hp) (Q : VK) (t : tE en W (mD3 op mo mk md) σ H Q) : tE en W mo σ H fun x H1 => ∃ a, x = .ref a ∧ IsD H1 a ∧ tE en W mk σ H1 fun y H2 => tE en W md σ H2 fun z H3 =>
    ∃ ρ h i k d, Rel en ρ h H3 ∧ ρ[i]? = some a ∧ RS en ρ k y ∧ RS en ρ d z ∧ finO en ρ (op (.ref i) k d h) Q := by
  obtain ⟨ρ, ss, h, rel, rs, f⟩ := t
  refine ⟨ρ, ss, h, rel, rs, (fin.bind (R1 := RS en) f).imp fun x H1 ⟨ρ1, a, h1, p1, rel1, ra, f1⟩ => ?_⟩
  split at f1
  · rename_i hd
    obtain ⟨i, p, rfl, rfl, ep, id⟩ := isDct_rel rel1 ra hd
    refine ⟨p, rfl, id, ρ1, ss, h1, rel1, rs.mono p1, (fin.bind (R1 := RS en) f1).imp fun y H2 ⟨ρ2, k, h2, p2, rel2, rk, f2⟩ => ?_⟩
    refine ⟨ρ2, ss, h2, rel2, rs.mono (p1.trans p2), (fin.bind (R1 := RS en) f2).imp fun z H3 ⟨ρ3, d, h3, p3, rel3, rd, f3⟩ => ?_⟩
    exact ⟨ρ3, h3, i, k, d, rel3, (p2.trans p3).get ep, rk.mono p3, rd, f3.lift⟩
  · exact f1.elim
theorem PE.get2 (hu : X.A.units + 1 < cLine) (ho : PE X o (tE en W mo)) (he : PE X e (tE en W mk)) (hf : PE X f (tE en W md)) (m : M2 X o "get" apos e f cpos := by exact ⟨rfl, rfl, rfl, rfl⟩) :
    PE X (.Call (.Attribute o "get" apos) [e, f] [] cpos) (tE en W (mD3 opGet2 mo mk md)) :=
  PEimp (pe_dget2 hu ho he hf m) fun σ H Q t => (tD3 σ H Q t).imp fun x H1 ⟨a, ex, id, t1⟩ => ⟨a, ex, id, t1.imp fun y H2 t2 => t2.imp fun z H3 ⟨ρ, h, i, k, d, rel, ep, rk, rd, fo⟩ => by
    obtain ⟨v, h', e1, q⟩ := fo
    unfold opGet2 at e1
    dsimp only at e1
    split at e1
    · rename_i ob eo
      split at e1
      · rename_i r er
        obtain ⟨g1, g2⟩ := dictGet_rel rel eo ep er rk
        cases r with
        | none => exact ⟨none, g2 rfl, finO.here ⟨_, _, e1, q⟩ rel rd⟩
        | some x => obtain ⟨w, gw, rw'⟩ := g1 x rfl; exact ⟨some w, gw, finO.here ⟨_, _, e1, q⟩ rel rw'⟩
      · cases e1
    · cases e1⟩
theorem PE.setd (ho : PE X o (tE en W mo)) (he : PE X e (tE en W mk)) (hf : PE X f (tE en W md)) (m : M2 X o "setdefault" apos e f cpos := by exact ⟨rfl, rfl, rfl, rfl⟩) :
    PE X (.Call (.Attribute o "setdefault" apos) [e, f] [] cpos) (tE en W (mD3 opSetd mo mk md)) :=
  PEimp (pe_dsetd ho he hf m) fun σ H Q t => (tD3 σ H Q t).imp fun x H1 ⟨a, ex, id, t1⟩ => ⟨a, ex, id, t1.imp fun y H2 t2 => t2.imp fun z H3 ⟨ρ, h, i, k, d, rel, ep, rk, rd, fo⟩ => by
    obtain ⟨v, h', e1, q⟩ := fo
    unfold opSetd at e1
    dsimp only at e1
    split at e1
    · rename_i kvs eo
      obtain ⟨kws, eh, rkv⟩ := rel.at2 ep eo
      split at e1
      · rename_i kk ek
        split at e1
        · rename_i hl
          have hle : kws.length = kvs.length := (Paired.length rkv).symm
          refine ⟨kws, kk, eh, keyOf_rel ek rk, by rw [hle, big_eq]; exact hl, fun w ew => ?_, fun en' => ?_⟩
          · cases g : getS kvs kk with
            | none => rw [(RK.get rkv).2 g] at ew; cases ew
            | some x =>
              obtain ⟨w', ew', rw'⟩ := (RK.get rkv).1 x g
              rw [ew'] at ew; cases ew
              rw [g] at e1
              exact finO.here ⟨_, _, e1, q⟩ rel rw'
          · cases g : getS kvs kk with
            | some x =>
              obtain ⟨w', ew', rw'⟩ := (RK.get rkv).1 x g
              rw [ew'] at en'; cases en'
            | none =>
              rw [g] at e1
              exact finO.put ⟨_, _, e1, q⟩ rel ep ⟨_, upd_same, RK.put rd rkv⟩ rd
        · cases e1
      · cases e1
    · cases e1⟩
/-! ### list(range(a)), list(range(a, b)) -/
def rngS (a b : Int) : List SV := (List.range (b - a).toNat).map fun i : Nat => SV.int (a + (i : Nat))
def opLR2 : O2 := fun x y h => match x, y with
  | .int a, .int b => if (rngB a && rngB b && decide ((b - a).toNat ≤ 16777216)) = true then alloc (.lst (rngS a b)) h else none
  | _, _ => none
def opLR1 : O1 := fun x h => opLR2 (.int 0) x h
theorem rngS_rel {ρ : List Addr} (a b : Int) : RSs en ρ (rngS a b) (rgV a b) := by
  unfold rngS rgV
  generalize List.range (b - a).toNat = l
  induction l with
  | nil => exact .nil
  | cons i l ih => exact .cons rfl ih
theorem rgOk_of {a b : Int} (h : (rngB a && rngB b && decide ((b - a).toNat ≤ 16777216)) = true) : RgOk a b := by
  rw [Bool.and_eq_true, Bool.and_eq_true] at h
  obtain ⟨⟨h1, h2⟩, h3⟩ := h
  have z1 := rngB_of h1
  have z2 := rngB_of h2
  have z3 := of_decide_eq_true h3
  exact ⟨z1.1, z1.2, z2.1, z2.2, by
    have e : (2 : Nat) ^ 24 = 16777216 := by decide
    rw [e]; exact z3⟩
theorem opLR2_q {ρ : List Addr} {h : SH} {H : Hp} {a b : Int} {Q : VK} (rel : Rel en ρ h H) (fo : finO en ρ (opLR2 (.int a) (.int b) h) Q) : RgOk a b ∧ ∀ q, H q = none → Q (.ref q) (upd H q (.lst (rgV a b))) := by
  obtain ⟨v, h', e1, q⟩ := fo
  unfold opLR2 at e1
  dsimp only at e1
  split at e1
  · rename_i hk
    exact ⟨rgOk_of hk, finO.newLst ⟨_, _, e1, q⟩ rel (rngS_rel a b)⟩
  · cases e1
theorem PE.lr2 {x p p2 pos : _} (hc : X.calm = true) (hg : Gl X "list") (hm : X.mg "list" = none) (hg2 : Gl X "range") (hm2 : X.mg "range" = none) (he : PE X e (tE en W mo)) (hf : PE X f (tE en W md))
    (na : starEach [.Call (.Name "range" p2) [e, f] [] pos] X.env = (false, eval (.Call (.Name "range" p2) [e, f] [] pos) X.env) :: starEach [] X.env := by rfl) (n1 : starEach [e, f] X.env = (false, eval e X.env) :: starEach [f] X.env := by rfl)
    (n2 : starEach [f] X.env = (false, eval f X.env) :: starEach [] X.env := by rfl) (hp : (backTo pos (starEach [f] X.env)).any (·.1) = false := by rfl) :
    PE X (.Call (.Name "list" p) [.Call (.Name "range" p2) [e, f] [] pos] [] x) (tE en W (mO2 opLR2 mo md)) :=
  PEimp (pe_listRg hc hg hm (prg_2 hg2 hm2 he hf n1 n2 hp) na) fun σ H Q t => by
    obtain ⟨ρ, ss, h, rel, rs, f0⟩ := t
    refine ⟨ρ, ss, h, rel, rs, (fin.bind (R1 := RS en) f0).imp fun x H1 ⟨ρ1, a, h1, p1, rel1, ra, f1⟩ => ?_⟩
    refine ⟨ρ1, ss, h1, rel1, rs.mono p1, (fin.bind (R1 := RS en) f1).imp fun y H2 ⟨ρ2, b, h2, p2, rel2, rb, f2⟩ => ?_⟩
    have fo := f2.lift
    have ra2 := ra.mono p2
    cases a with
    | int i =>
      cases b with
      | int j => cases ra; cases rb; exact ⟨i, j, rfl, rfl, opLR2_q rel2 fo⟩
      | _ => obtain ⟨_, _, e, _⟩ := fo; cases e
    | _ => obtain ⟨_, _, e, _⟩ := fo; cases e
theorem PE.lr1 {x p p2 pos : _} (hc : X.calm = true) (hg : Gl X "list") (hm : X.mg "list" = none) (hg2 : Gl X "range") (hm2 : X.mg "range" = none) (he : PE X e (tE en W mo))
    (na : starEach [.Call (.Name "range" p2) [e] [] pos] X.env = (false, eval (.Call (.Name "range" p2) [e] [] pos) X.env) :: starEach [] X.env := by rfl) (n1 : starEach [e] X.env = (false, eval e X.env) :: starEach [] X.env := by rfl) :
    PE X (.Call (.Name "list" p) [.Call (.Name "range" p2) [e] [] pos] [] x) (tE en W (mO1 opLR1 mo)) :=
  PEimp (pe_listRg hc hg hm (prg_1 hg2 hm2 he n1) na) fun σ H Q t => by
    obtain ⟨ρ, ss, h, rel, rs, f0⟩ := t
    refine ⟨ρ, ss, h, rel, rs, (fin.bind (R1 := RS en) f0).imp fun x H1 ⟨ρ1, a, h1, p1, rel1, ra, f1⟩ => ?_⟩
    have fo := f1.lift
    cases a with
    | int i => cases ra; exact ⟨i, rfl, opLR2_q rel1 fo⟩
    | _ => obtain ⟨_, _, e, _⟩ := fo; cases e
end
end Fw
namespace Fw
open PySem PySem.Spec L2
/-! ### for k, v in d.items(): the dict is held under a lock while the loop runs -/
def keyS : Key → SV
  | .inl i => .int i
  | .inr x => .str x
theorem keyS_rel {en : En} {ρ : List Addr} (k : Key) : RS en ρ (keyS k) (kV k) := by
  cases k <;> rfl
def wkIt (r : Nat) : Wk := fun h i => match h[r]? with
  | some (.lk kvs) => match kvs[i]? with
    | some (k, x) => some (some (.ref h.length, h ++ [.tup [keyS k, x]]))
    | none => some none
  | _ => none
def mIt (m : EM) : IM := fun ss h => (m ss h).bind fun v h1 => match v with
  | .ref r => match h1[r]? with
    | some (.lk _) => .ok (wkIt r) h1
    | _ => .stuck
  | _ => .stuck
def unS (i : Nat) (r : SR) : SR := match r with
  | .nx ss h => match h[i]? with
    | some (.lk kvs) => .nx ss (h.set i (.dK kvs))
    | _ => .stuck
  | .rt v h => match h[i]? with
    | some (.lk kvs) => .rt v (h.set i (.dK kvs))
    | _ => .stuck
  | .bk ss h => match h[i]? with
    | some (.lk kvs) => .bk ss (h.set i (.dK kvs))
    | _ => .stuck
  | .ct ss h => match h[i]? with
    | some (.lk kvs) => .ct ss (h.set i (.dK kvs))
    | _ => .stuck
  | _ => .stuck
def mItems (m : EM) (g : GM) (mb : SM) : SM := fun ss h => match m ss h with
  | .ok (.ref i) _ => match h[i]? with
    | some (.dK kvs) => unS i (mFor (mIt m) g mb ss (h.set i (.lk kvs)))
    | _ => .stuck
  | _ => .stuck
def En.fzd (en : En) (l : List (Addr × Obj × List (Key × V))) : En := { en with fz := l }
section
variable {X : Cx} {en : En} {W : WX}
theorem RK.at {ρ : List Addr} : ∀ {kvs : List (Key × SV)} {kws : List (Key × V)} {i : Nat} {k : Key} {x : SV}, RK en ρ kvs kws → kvs[i]? = some (k, x) → ∃ v, kws[i]? = some (k, v) ∧ RS en ρ x v
  | p :: kvs, q :: kws, 0, k, x, .cons r t, e => by
    have e' : p = (k, x) := by simpa using e
    subst e'
    exact ⟨q.2, by rw [show k = q.1 from r.1]; rfl, r.2⟩
  | p :: kvs, q :: kws, i + 1, k, x, .cons r t, e => by
    obtain ⟨v, e1, e2⟩ := RK.at (i := i) (k := k) (x := x) t (by simpa using e)
    exact ⟨v, by simpa using e1, e2⟩
theorem itIt {ρ : List Addr} {r : Nat} {p : Addr} {o : Obj} {kws : List (Key × V)} (ep : ρ[r]? = some p) (ef : en.fz.lookup p = some (o, kws)) : ItOk en ρ (Iti p o kws) (wkIt r) := fun ρ2 h2 H2 i pr rel => by
  have ep2 := pr.get ep
  unfold wkIt
  refine ⟨fun e => ?_, fun x h3 e => ?_⟩
  · split at e
    · rename_i ei
      obtain ⟨o', kws', ef', eh, rk⟩ := rel.at2 ep2 ei
      rw [ef] at ef'; cases ef'
      split at e
      · cases e
      · rename_i en'
        exact ⟨eh, by rw [← Paired.length rk]; exact List.getElem?_eq_none_iff.mp en'⟩
    · cases e
  · split at e
    · rename_i ei
      obtain ⟨o', kws', ef', eh, rk⟩ := rel.at2 ep2 ei
      rw [ef] at ef'; cases ef'
      split at e
      · rename_i k y ex
        cases e
        obtain ⟨w, ew, rw'⟩ := RK.at rk ex
        refine ⟨⟨eh, (List.getElem?_eq_some_iff.mp ew).1⟩, fun v H3 ⟨T, k', v', e1, ev, nT, eH⟩ => ?_⟩
        rw [ew] at e1; cases e1; subst ev; subst eH
        exact ⟨ρ2 ++ [T], Pre.one ρ2 T, rel.push nT ⟨_, upd_same, .cons (keyS_rel k) (.cons (rw'.mono (Pre.one ρ2 T)) .nil)⟩, ⟨T, by rw [← rel.len, List.getElem?_append_right (Nat.le_refl _)]; simp, rfl⟩⟩
      · cases e
    · cases e
theorem PI.items {e : Expr} {m : EM} {elts : List Expr} {kk : Nat} {tpos apos cpos : Pos} (he : PE X e (tE en W m)) (hbase : attributeBase e "items" X.env (eval e X.env) = eval e X.env := by rfl) (hline : (apos.endLine == cpos.line) = true := by rfl) :
    PI X (.Tuple elts kk tpos) (.Call (.Attribute e "items" apos) [] [] cpos) (tI en W (mIt m)) :=
  PIimp (pi_items he hbase hline) fun σ H R t => tI.bind (R1 := RS en) t fun ρ h a b H1 rel r q => by
    cases a with
    | ref i =>
      obtain ⟨p, ep, rfl⟩ := r
      cases ei : h[i]? with
      | none => simp only [ei] at q
      | some ob =>
        cases ob with
        | lk kvs =>
          simp only [ei] at q
          obtain ⟨o, kws, ef, eh, rk⟩ := rel.at2 ep ei
          exact ⟨p, o, kws, rfl, eh, q ρ H1 _ (Pre.refl ρ) rel (itIt ep ef)⟩
        | _ => simp only [ei] at q
    | _ => exact q.elim
/-- one more lock, or one less: what is held otherwise stays so -/
theorem ro_fz {ρ : List Addr} {H : Hp} {a : Addr} {l l' : List (Addr × Obj × List (Key × V))} (ne : ∀ (o : Obj) (kws : List (Key × V)), H a = some (.frz o (.dK kws)) → l.lookup a = some (o, kws) → l'.lookup a = some (o, kws)) {u : SO} (r : RO (en.fzd l) ρ H a u) : RO (en.fzd l') ρ H a u := by
  cases u with
  | lk kvs => obtain ⟨o, kws, ef, eh, rk⟩ := r; exact ⟨o, kws, ne o kws eh ef, eh, rk⟩
  | _ => exact r
theorem Rel.fz {ρ : List Addr} {h : SH} {H : Hp} {l l' : List (Addr × Obj × List (Key × V))} (ne : ∀ (a : Addr) (o : Obj) (kws : List (Key × V)), H a = some (.frz o (.dK kws)) → l.lookup a = some (o, kws) → l'.lookup a = some (o, kws)) (r : Rel (en.fzd l) ρ h H) : Rel (en.fzd l') ρ h H :=
  ⟨r.len, r.nd, fun i a o ea eo => ro_fz (ne a) (r.ob i a o ea eo), r.sc⟩
theorem PS.items {tg e : Expr} {body : List Stmt} {m : EM} {g : GM} {mb : SM} {pos : Pos} (hb : ∀ l, PS X (.For tg e body [] pos) (tS (en.fzd l) W (mFor (mIt m) g mb))) : PS X (.For tg e body [] pos) (tS en W (mItems m g mb)) := by
  refine ⟨fun pins s σ H D I t => ?_⟩
  obtain ⟨ρ, ss, h, rel, rs, f⟩ := t
  unfold mItems at f
  cases e1 : m ss h with
  | stuck => simp only [e1] at f; exact f.elim
  | ex c xs h1 => simp only [e1] at f; exact f.elim
  | ok v h1 =>
    cases v with
    | ref i =>
      simp only [e1] at f
      cases ei : h[i]? with
      | none => simp only [ei] at f; exact f.elim
      | some ob =>
        cases ob with
        | dK kvs =>
          simp only [ei] at f
          obtain ⟨p, ep, kws, eh, rk⟩ := rel.at ei
          obtain ⟨od, I1⟩ := I.lock eh trivial
          have nf := I.nofrz eh trivial
          have look : ((p, od, kws) :: en.fz).lookup p = some (od, kws) := by simp [List.lookup]
          have skip : ∀ a, a ≠ p → ((p, od, kws) :: en.fz).lookup a = en.fz.lookup a := fun a n => by
            have hb : (a == p) = false := by simpa using n
            rw [List.lookup_cons, hb]
          have rel1 : Rel (en.fzd ((p, od, kws) :: en.fz)) ρ h H := Rel.fz (l := en.fz) (en := en) (fun a o kw ea el => by
            rw [skip a (fun z => by subst z; rw [eh] at ea; cases ea)]; exact el) rel
          have rel2 : Rel (en.fzd ((p, od, kws) :: en.fz)) ρ (h.set i (.lk kvs)) (upd H p (.frz od (.dK kws))) := rel1.put ep ⟨od, kws, look, upd_same, rk⟩
          have back : ∀ {ρ' : List Addr} {h2 : SH} {H2 : Hp} {kv2 : List (Key × SV)}, Pre ρ ρ' → h2[i]? = some (.lk kv2) → Rel (en.fzd ((p, od, kws) :: en.fz)) ρ' h2 H2 → ∃ o2 kw2, H2 p = some (.frz o2 (.dK kw2)) ∧ Rel en ρ' (h2.set i (.dK kv2)) (upd H2 p (.dK kw2)) := fun {ρ' h2 H2 kv2} pr e2 r2 => by
            obtain ⟨o2, kw2, ef2, eh2, rk2⟩ := r2.at2 (pr.get ep) e2
            refine ⟨o2, kw2, eh2, ?_⟩
            have z : Rel (en.fzd ((p, od, kws) :: en.fz)) ρ' (h2.set i (.dK kv2)) (upd H2 p (.dK kw2)) := r2.put (pr.get ep) ⟨kw2, upd_same, rk2⟩
            exact Rel.fz (en := en) (l' := en.fz) (fun a o kw ea el => by
              rw [skip a (fun y => by subst y; rw [upd_same] at ea; cases ea)] at el; exact el) z
          have run := (hb ((p, od, kws) :: en.fz)).run pins s σ _ ⟨fun σ' H' => ∃ o2 kw2, H' p = some (.frz o2 (.dK kw2)) ∧ D.nx σ' (upd H' p (.dK kw2)), fun v H' => ∃ o2 kw2, H' p = some (.frz o2 (.dK kw2)) ∧ D.rt v (upd H' p (.dK kw2)), fun σ' H' => ∃ o2 kw2, H' p = some (.frz o2 (.dK kw2)) ∧ D.bk σ' (upd H' p (.dK kw2)), fun σ' H' => ∃ o2 kw2, H' p = some (.frz o2 (.dK kw2)) ∧ D.ct σ' (upd H' p (.dK kw2))⟩ I1 ⟨ρ, ss, h.set i (.lk kvs), rel2, ⟨rs.len, rs.at_⟩, by
            cases er : mFor (mIt m) g mb ss (h.set i (.lk kvs)) with
            | stuck => rw [er] at f; exact f
            | ex c xs s2 h2 => rw [er] at f; exact f.elim
            | nx s2 h2 =>
              rw [er] at f
              unfold unS at f
              dsimp only at f
              split at f
              · rename_i kv2 e2
                intro ρ' σ' H' pr r2 rs2
                obtain ⟨o2, kw2, z1, z2⟩ := back pr e2 r2
                exact ⟨o2, kw2, z1, f ρ' σ' _ pr z2 ⟨rs2.len, rs2.at_⟩⟩
              · exact f.elim
            | bk s2 h2 =>
              rw [er] at f
              unfold unS at f
              dsimp only at f
              split at f
              · rename_i kv2 e2
                intro ρ' σ' H' pr r2 rs2
                obtain ⟨o2, kw2, z1, z2⟩ := back pr e2 r2
                exact ⟨o2, kw2, z1, f ρ' σ' _ pr z2 ⟨rs2.len, rs2.at_⟩⟩
              · exact f.elim
            | ct s2 h2 =>
              rw [er] at f
              unfold unS at f
              dsimp only at f
              split at f
              · rename_i kv2 e2
                intro ρ' σ' H' pr r2 rs2
                obtain ⟨o2, kw2, z1, z2⟩ := back pr e2 r2
                exact ⟨o2, kw2, z1, f ρ' σ' _ pr z2 ⟨rs2.len, rs2.at_⟩⟩
              · exact f.elim
            | rt v h2 =>
              rw [er] at f
              unfold unS at f
              dsimp only at f
              split at f
              · rename_i kv2 e2
                intro ρ' H' u pr r2 ru
                obtain ⟨o2, kw2, z1, z2⟩ := back pr e2 r2
                exact ⟨o2, kw2, z1, f ρ' _ u pr z2 ru⟩
              · exact f.elim⟩
          refine thn run fun fl s1 q => ?_
          cases fl with
          | next => obtain ⟨σ', H', I2, o2, kw2, e, q⟩ := q; exact ⟨σ', _, I2.unlock e nf, q⟩
          | brk => obtain ⟨σ', H', I2, o2, kw2, e, q⟩ := q; exact ⟨σ', _, I2.unlock e nf, q⟩
          | cont => obtain ⟨σ', H', I2, o2, kw2, e, q⟩ := q; exact ⟨σ', _, I2.unlock e nf, q⟩
          | ret v => obtain ⟨x, σ', H', I2, r, o2, kw2, e, q⟩ := q; exact ⟨x, σ', _, I2.unlock e nf, r, q⟩
        | _ => simp only [ei] at f; exact f.elim
    | _ => simp only [e1] at f; exact f.elim
end
end Fw
namespace Fw
open PySem PySem.Spec L2
theorem ClsF.fz {en : En} {c : Nat} {C : Addr} {ns : List Str} {l : List (Addr × Obj × List (Key × V))} (h : ClsF en c C ns) : ClsF (en.fzd l) c C ns := ⟨h.at_, h.cls, h.no, h.nd, h.few⟩
theorem FldOk.fz {en : En} {f : Str} {ix : List (Option Nat)} {l : List (Addr × Obj × List (Key × V))} (h : FldOk en f ix) : FldOk (en.fzd l) f ix := fun c k e => let ⟨C, ns, q, z⟩ := h c k e; ⟨C, ns, q.fz, z⟩
theorem Good.fz {en : En} {X : Cx} {W : WX} {k : Nat} {l : List (Addr × Obj × List (Key × V))} (h : Good en X W k) : Good (en.fzd l) X W k := ⟨h.1, h.2, h.3, h.4, h.5, h.6, h.7⟩
end Fw
namespace Fw
open PySem PySem.Spec L2
theorem exm_of {K : PySem.W.Frag} {S C : Addr} {b : Bool} (h1 : PySem.W.subIn K (.ref S) (.type "BaseException") = some true) (h2 : PySem.W.isClsIn K S = true) (h3 : PySem.W.typeIn K (.ref S) = some (.type "type")) (h4 : PySem.W.subIn K (.ref C) (.ref S) = some b) :
    PySem.W.exmOne K (.ref C) (.ref S) = some b := by
  have e1 : (PySem.W.subIn K (.ref S) (.type "BaseException") == some true) = true := by rw [h1] <;> rfl
  have e2 : ((PySem.W.clsIn K S).isSome && PySem.W.typeIn K (.ref S) == some (.type "type")) = true := by
    have h2' : (PySem.W.clsIn K S).isSome = true := h2
    rw [h2', h3] <;> rfl
  show (if (PySem.W.subIn K (.ref S) (.type "BaseException") == some true) = true then (if ((PySem.W.clsIn K S).isSome && PySem.W.typeIn K (.ref S) == some (.type "type")) = true then PySem.W.subIn K (.ref C) (.ref S) else none) else none) = some b
  rw [if_pos e1, if_pos e2]
  exact h4
end Fw
namespace Fw
open PySem PySem.Spec L2
/-! ### gcd, lcm -/
def opGcd : O2 := fun a b h => match a, b with
  | .int i, .int j => some (.int ((Nat.gcd i.natAbs j.natAbs : Nat) : Int), h)
  | _, _ => none
def opLcm : O2 := fun a b h => match a, b with
  | .int i, .int j => if i.natAbs < 2147483648 ∧ j.natAbs < 2147483648 then some (.int ((Nat.lcm i.natAbs j.natAbs : Nat) : Int), h) else none
  | _, _ => none
section
variable {X : Cx} {en : En} {W : WX} {pos : Pos}
theorem call_gcdM : CallR X (.builtin "math.gcd") (rOA en (bin2 opGcd)) := by
  refine CallRimp cr_gcd fun xs H Q q => ?_
  obtain ⟨ρ, h, a, b, x, y, rfl, rel, ra, rb, v, h', e, k⟩ := bin2_of q
  unfold opGcd at e
  split at e
  · cases ra; cases rb; exact ⟨_, _, rfl, finO.here ⟨_, _, e, k⟩ rel rfl⟩
  · cases e
theorem call_lcmM : CallR X (.builtin "math.lcm") (rOA en (bin2 opLcm)) := by
  intro pins s σ H vs us Q I r q
  obtain ⟨ρ, h, a, b, x, y, rfl, rel, ra, rb, v, h', e, k⟩ := bin2_of q
  unfold opLcm at e
  split at e
  · rename_i i j
    cases ra; cases rb
    split at e
    · rename_i hk
      obtain ⟨t, u, rfl⟩ := Vals.int2 r
      have e1 : (Nat.lcm 1 i.natAbs).lcm j.natAbs = Nat.lcm i.natAbs j.natAbs := by rw [Nat.lcm_one_left]
      have hlt : Nat.lcm i.natAbs j.natAbs < 2 ^ 62 := by
        have h1 : Nat.lcm i.natAbs j.natAbs ≤ i.natAbs * j.natAbs := by
          unfold Nat.lcm
          exact Nat.div_le_self _ _
        have h2 : i.natAbs * j.natAbs < 2147483648 * 2147483648 := by
          by_cases hz : j.natAbs = 0
          · rw [hz, Nat.mul_zero]; decide
          · exact Nat.lt_of_lt_of_le ((Nat.mul_lt_mul_right (Nat.pos_of_ne_zero hz)).mpr hk.1) (Nat.mul_le_mul_left _ (Nat.le_of_lt hk.2))
        have h3 : (2147483648 * 2147483648 : Nat) = 2 ^ 62 := by decide
        omega
      refine PySem.W.mg_lcm (by omega) (by omega) ?_ ?_
      · rw [e1]
        have : (((Nat.lcm i.natAbs j.natAbs : Nat) : Int)).natAbs.log2 ≤ 61 := PySem.W.mg_log (by simpa using hlt)
        exact Nat.lt_of_le_of_lt this (by decide)
      · rw [e1]
        exact ⟨.int _, H, I.tok _, ⟨_, rfl⟩, finO.here ⟨_, _, e, k⟩ rel rfl⟩
    · cases e
  · cases e
/-- a built-in function that the module has by a name -/
theorem PE.bfn {x : Str} {id : String} {op : OA} {e : Expr} {es : List Expr} {m : AM} {p : Pos} (hc : CallR X (.builtin id) (rOA en op)) (hg : Gl X x) (hm : X.mg x = some (.builtin id)) (ha : PA X (e :: es) (tA en W m)) (hdb : (x == ("__debug__" : Str)) = false := by decide)
    (he : starEach (e :: es) X.env = (false, eval e X.env) :: starEach es X.env := by rfl) (hpl : (backTo pos (starEach es X.env)).any (·.1) = false := by rfl) : PE X (.Call (.Name x p) (e :: es) [] pos) (tE en W (mOA op m)) :=
  PEimp (pe_callBfun hc hg hm ha hdb he hpl) fun σ H Q t => tOA σ H Q t
end
/-! ### dict comprehensions -/
def dcM (g : GM) (wk : Wk) (t : BM) (ek ev : EM) (is : List Nat) (D : Nat) (ss : SS) : Nat → Nat → SH → Res SV
  | 0, _ => fun _ => .stuck
  | n + 1, i => fun h => match wk h i with
    | none => .stuck
    | some none => .ok (.ref D) h
    | some (some (x, h1)) => match g x (wipeS ss is) h1 with
      | none => .stuck
      | some ss1 => match t ss1 h1 with
        | .ok b h2 => if b = true then (match ek ss1 h2 with
          | .ok y h3 => match ev ss1 h3 with
            | .ok z h4 => match h4[D]? with
              | some (.dK acc) => match keyOf y with
                | some kk => if acc.length < big then dcM g wk t ek ev is D ss n (i + 1) (h4.set D (.dK (putS acc kk z))) else .stuck
                | none => .stuck
              | _ => .stuck
            | _ => .stuck
          | _ => .stuck) else dcM g wk t ek ev is D ss n (i + 1) h2
        | _ => .stuck
def mDc (m : IM) (g : GM) (t : BM) (ek ev : EM) (is : List Nat) : EM := fun ss h => match m ss h with
  | .stuck => .stuck
  | .ex c xs h1 => .ex c xs h1
  | .ok wk h1 => dcM g wk t ek ev is h1.length ss many 0 (h1 ++ [.dK []])
section
variable {X : Cx} {en : En} {W : WX} {pos : Pos}
theorem tDcM {m : IM} {g : GM} {t : BM} {ek ev : EM} {is : List Nat} (σ : L2.St) (H : Hp) (Q : VK) (q : tE en W (mDc m g t ek ev is) σ H Q) : tDc (tI en W m) (tG en is g) (tT en W0 t) (tE en W0 ek) (tE en W0 ev) is σ H Q := by
  obtain ⟨ρ, ss, h, rel, rs, f⟩ := q
  refine ⟨ρ, ss, h, rel, rs, ?_⟩
  unfold mDc at f
  cases e1 : m ss h with
  | stuck => simp only [e1, fin] at f
  | ex c xs h1 => simp only [e1, fin] at f ⊢; exact f
  | ok wk h1 =>
    simp only [e1] at f ⊢
    intro ρ1 H1 J p1 rel1 ok D nD
    have relD : Rel en (ρ1 ++ [D]) (h1 ++ [.dK []]) (upd H1 D (.dK [])) := rel1.push nD ⟨[], upd_same, .nil⟩
    have eD : (ρ1 ++ [D])[h1.length]? = some D := by rw [← rel1.len, List.getElem?_append_right (Nat.le_refl _)]; simp
    refine ⟨fun i n H2 => ∃ ρ2 h2, Pre (ρ1 ++ [D]) ρ2 ∧ Rel en ρ2 h2 H2 ∧ fin en W (RS en) σ ρ2 (dcM g wk t ek ev is h1.length ss n i h2) Q, ⟨many, ρ1 ++ [D], h1 ++ [.dK []], Pre.refl _, relD, f.mono (p1.trans (Pre.one ρ1 D))⟩, ?_⟩
    rintro i n H2 ⟨ρ2, h2, p2, rel2, f2⟩
    have pr : Pre ρ1 ρ2 := (Pre.one ρ1 D).trans p2
    cases n with
    | zero => exact f2.elim
    | succ n =>
      unfold dcM at f2
      obtain ⟨k1, k2⟩ := ok ρ2 h2 H2 i pr rel2
      cases e2 : wk h2 i with
      | none => simp only [e2, fin] at f2
      | some o =>
        cases o with
        | none =>
          simp only [e2] at f2
          exact .inl ⟨k1 e2, f2 ρ2 H2 _ (Pre.refl ρ2) rel2 ⟨D, p2.get eD, rfl⟩⟩
        | some qq =>
          obtain ⟨x, h3⟩ := qq
          simp only [e2] at f2
          obtain ⟨go, yl⟩ := k2 x h3 e2
          refine .inr ⟨go, fun H' => ∃ ρ4 h4, Pre (ρ1 ++ [D]) ρ4 ∧ Rel en ρ4 h4 H' ∧ fin en W (RS en) σ ρ4 (dcM g wk t ek ev is h1.length ss n (i + 1) h4) Q, fun H' z => ⟨n, Nat.lt_succ_self n, z⟩, fun v H3 yv => ?_⟩
          obtain ⟨ρ3, p3, rel3, rv⟩ := yl v H3 yv
          have rsw : RSl en ρ3 (wipeS ss is) (wipe σ is) := wipe_rel (rs.mono (p1.trans (pr.trans p3))) is
          cases e3 : g x (wipeS ss is) h3 with
          | none => simp only [e3, fin] at f2
          | some ss1 =>
            simp only [e3] at f2
            refine ⟨ρ3, _, h3, x, ss1, rel3, rsw, rv, e3, fun σ2 rs2 so => ⟨wipe_same so, ρ3, ss1, h3, rel3, rs2, ?_⟩⟩
            cases e4 : t ss1 h3 with
            | stuck => simp only [e4, fin] at f2
            | ex c xs h4 => simp only [e4, fin] at f2
            | ok b h4 =>
              simp only [e4] at f2
              intro ρ4 H4 b' p4 rel4 rb
              cases rb
              cases b with
              | false =>
                have f3 : fin en W (RS en) σ ρ2 (dcM g wk t ek ev is h1.length ss n (i + 1) h4) Q := f2
                exact ⟨ρ4, h4, (p2.trans p3).trans p4, rel4, f3.mono (p3.trans p4)⟩
              | true =>
                rw [if_pos rfl] at f2
                refine ⟨ρ4, ss1, h4, rel4, rs2.mono p4, ?_⟩
                cases e5 : ek ss1 h4 with
                | stuck => simp only [e5, fin] at f2
                | ex c xs h5 => simp only [e5, fin] at f2
                | ok y h5 =>
                  simp only [e5] at f2
                  intro ρ5 H5 u p5 rel5 ru
                  refine ⟨ρ5, ss1, h5, rel5, rs2.mono (p4.trans p5), ?_⟩
                  cases e8 : ev ss1 h5 with
                  | stuck => simp only [e8, fin] at f2
                  | ex c xs h6 => simp only [e8, fin] at f2
                  | ok z h6 =>
                    simp only [e8] at f2
                    intro ρ6 H6 w p6 rel6 rw6
                    cases e6 : h6[h1.length]? with
                    | none => simp only [e6, fin] at f2
                    | some o6 =>
                      cases o6 with
                      | dK acc =>
                        simp only [e6] at f2
                        cases ekk : keyOf y with
                        | none => simp only [ekk, fin] at f2
                        | some kk =>
                          simp only [ekk] at f2
                          split at f2
                          · rename_i hz
                            have p26 : Pre (ρ1 ++ [D]) ρ6 := (((p2.trans p3).trans p4).trans p5).trans p6
                            obtain ⟨kws, eh, rkv⟩ := rel6.at2 (p26.get eD) e6
                            exact ⟨kws, kk, keyOf_rel ekk ru, eh, by rw [big_eq, ← Paired.length rkv]; exact hz, ρ6, _, p26, rel6.put (o := .dK (putS acc kk z)) (p26.get eD) ⟨_, upd_same, RK.put rw6 rkv⟩, f2.mono (((p3.trans p4).trans p5).trans p6)⟩
                          · exact f2.elim
                      | _ => simp only [e6, fin] at f2
theorem PE.dcG {k : Nat} {kx vx tg iter : Expr} {ifs : List Expr} {scope : Scope} {own : List (Str × Nat)} {m : IM} {g : GM} {t : BM} {ek ev : EM} (G : Good en X W k) (hN : X.N.Nodup) (hi : PI X tg iter (tI en W m)) (ok : BlkOk X.N X.env.scope scope own)
    (hg : ∀ (s : Shared) (H : Hp) (C : Addr) (cl : List (Str × Addr)) (fp : List Addr), Good en (X.blk s H scope (compEnvC scope cl C X.env) fp) W0 k → PG (X.blk s H scope (compEnvC scope cl C X.env) fp) tg (tG en (own.map (·.2)) g))
    (ht : ∀ (s : Shared) (H : Hp) (C : Addr) (cl : List (Str × Addr)) (fp : List Addr), Good en (X.blk s H scope (compEnvC scope cl C X.env) fp) W0 k → PTs (X.blk s H scope (compEnvC scope cl C X.env) fp) ifs (tT en W0 t))
    (hk : ∀ (s : Shared) (H : Hp) (C : Addr) (cl : List (Str × Addr)) (fp : List Addr), Good en (X.blk s H scope (compEnvC scope cl C X.env) fp) W0 k → PE (X.blk s H scope (compEnvC scope cl C X.env) fp) kx (tE en W0 ek))
    (he : ∀ (s : Shared) (H : Hp) (C : Addr) (cl : List (Str × Addr)) (fp : List Addr), Good en (X.blk s H scope (compEnvC scope cl C X.env) fp) W0 k → PE (X.blk s H scope (compEnvC scope cl C X.env) fp) vx (tE en W0 ev)) (hs : ∀ x, foldedSetIterable iter X.env x = pure x := by intro _; rfl) :
    PE X (.DictComp kx vx [⟨tg, iter, ifs, 0⟩] scope pos) (tE en W (mDc m g t ek ev (own.map (·.2)))) :=
  PEimp (pe_dc G.calm hN hi ok (fun s H C cl fp => hg s H C cl fp (G.blk s H _ _ fp)) (fun s H C cl fp => ht s H C cl fp (G.blk s H _ _ fp)) (fun s H C cl fp => hk s H C cl fp (G.blk s H _ _ fp)) (fun s H C cl fp => he s H C cl fp (G.blk s H _ _ fp)) hs) fun σ H Q q => tDcM σ H Q q
end
end Fw
namespace Fw
open PySem PySem.Spec L2
section
variable {X : Cx} {en : En} {W : WX} {pos : Pos} {a : Expr} {ma : EM}
/-- not of any value -/
def mNotT (ma : EM) : EM := fun ss h => (ma ss h).bind fun v h1 => (opTru v h1).bind fun b h2 => .ok (.bl (!b)) h2
theorem PE.notT (hK : X.K = en.K) (ha : PE X a (tE en W ma)) : PE X (.UnaryOp .Not a pos) (tE en W (mNotT ma)) :=
  PEimp (L2.pe_notT ha) fun σ H Q t => tM.bind2 (R1 := RS en) (R2 := RS en) (k := fun v (ss : SS) h1 => (opTru v h1).bind fun b h2 => (Res.ok (SV.bl (!b)) h2 : Res SV)) t fun ρ ss h v x H1 rel rs r f => by
    have go : ∀ k : Bool, opTru v h = .ok k h → TruV X.K x H1 k → ∃ k, TruV X.K x H1 k ∧ Q (.bl (!k)) H1 := fun k e z => by
      rw [e] at f
      exact ⟨k, z, f ρ H1 (.bl (!k)) (Pre.refl ρ) rel rfl⟩
    have nostuck : opTru v h ≠ .stuck := fun e => by rw [e] at f; exact f
    cases v with
    | non => cases r; exact go _ rfl rfl
    | bl b => cases r; exact go _ rfl rfl
    | int i => cases r; exact go _ rfl rfl
    | str y =>
      cases r
      by_cases hl : y.length ≤ big
      · exact go ((y.length : Int) != 0) (by simp only [opTru, if_pos hl]) ⟨by rw [big_eq]; exact hl, rfl⟩
      · exact (nostuck (by simp only [opTru, if_neg hl])).elim
    | scr ns =>
      obtain ⟨rfl, rfl⟩ := r
      refine go (!en.ns.isEmpty) rfl (.inl ⟨_, by rw [hK]; exact rel.scr, by cases en.ns <;> rfl⟩)
    | ref i =>
      cases ei : h[i]? with
      | none => exact (nostuck (by simp only [opTru, ei])).elim
      | some o =>
        cases o with
        | lst xs =>
          obtain ⟨p, vs, rfl, ep, e1, r1⟩ := rel.lst ei r
          exact go (!xs.isEmpty) (by simp only [opTru, ei]) (.inl ⟨vs, SqL.of e1, by rw [Paired.isEmpty r1]⟩)
        | tup xs =>
          obtain ⟨p, vs, rfl, ep, e1, r1⟩ := rel.tup ei r
          exact go (!xs.isEmpty) (by simp only [opTru, ei]) (.inr (.inl ⟨vs, SqT.of e1, by rw [Paired.isEmpty r1]⟩))
        | dK kvs =>
          obtain ⟨p, ep, rfl⟩ := r
          obtain ⟨kws, e1, r1⟩ := rel.at2 ep ei
          exact go (!kvs.isEmpty) (by simp only [opTru, ei]) (.inr (.inr ⟨kws, e1, by rw [Paired.isEmpty r1]⟩))
        | _ => exact (nostuck (by simp only [opTru, ei])).elim
end
end Fw
namespace Fw
open PySem PySem.Spec L2
section
variable {X : Cx} {en : En} {W : WX} {e : Expr} {ma : EM}
/-- xs[::-1] of a list -/
def opRev : O1 := fun a h => match a with
  | .ref i => match h[i]? with
    | some (.lst xs) => alloc (.lst xs.reverse) h
    | _ => none
  | _ => none
theorem RSs.rev {ρ : List Addr} {xs : List SV} {vs : List V} (r : RSs en ρ xs vs) : RSs en ρ xs.reverse vs.reverse := by
  induction r with
  | nil => exact .nil
  | cons a t ih =>
    rw [List.reverse_cons, List.reverse_cons]
    exact ih.app (.cons a .nil)
theorem PE.rev {k : Nat} {p1 p2 p3 pos : Pos} (ha : PE X e (tE en W ma)) : PE X (.Subscript e (.Slice none none (some (.UnaryOp .USub (.Constant (.int 1) k p1) p2)) p3) pos) (tE en W (mO1 opRev ma)) :=
  PEimp (pe_revL ha) fun σ H Q t => tM.bind2 (R1 := RS en) (R2 := RS en) (k := fun v (ss : SS) h1 => lift (opRev v h1)) t fun ρ ss h v x H1 rel rs r f => by
    obtain ⟨a', h', e4, k⟩ := f.lift
    unfold opRev at e4
    split at e4
    · split at e4
      · rename_i ei
        obtain ⟨p, vs, rfl, ep, ee, r1⟩ := rel.lst ei r
        exact ⟨p, vs, rfl, SqL.of ee, finO.newLst ⟨_, _, e4, k⟩ rel r1.rev⟩
      · cases e4
    · cases e4
def mPar3 (i j l : Nat) (m : AM) : SM := fun ss h => thenS (m ss h) ss fun vs h1 => match vs with
  | [u, v, w] => .nx (((ss.set i (some u)).set j (some v)).set l (some w)) h1
  | _ => .stuck
theorem RSs.three {ρ : List Addr} {a b c : SV} {vs : List V} (r : RSs en ρ [a, b, c] vs) : ∃ x y z, vs = [x, y, z] ∧ RS en ρ a x ∧ RS en ρ b y ∧ RS en ρ c z := by
  cases r with
  | cons r1 t => cases t with
    | cons r2 t => cases t with
      | cons r3 t => cases t; exact ⟨_, _, _, rfl, r1, r2, r3⟩
theorem PS.par3 {i j l : Nat} {x y z : Str} {a b c : Expr} {m : AM} {px py pz pt pos : Pos} {kt k2 : Nat} {pt2 : Pos} (hc : X.calm = true) (hN : X.N.Nodup) (hi : X.N[i]? = some x) (hj : X.N[j]? = some y) (hl : X.N[l]? = some z) (hij : i ≠ j) (hil : i ≠ l) (hjl : j ≠ l)
    (hx : X.env.scope.names.lookup x = some .local) (hy : X.env.scope.names.lookup y = some .local) (hz : X.env.scope.names.lookup z = some .local) (ha : PA X [a, b, c] (tA en W m))
    (hw : swappedStores [.Tuple [.Name x px, .Name y py, .Name z pz] kt pt] (.Tuple [a, b, c] k2 pt2) X.env = pure (some [x, y, z]))
    (hs : swapsWithSole [.Tuple [.Name x px, .Name y py, .Name z pz] kt pt] (.Tuple [a, b, c] k2 pt2) pos.line X.env = pure false := by rfl) :
    PS X (.Assign [.Tuple [.Name x px, .Name y py, .Name z pz] kt pt] (.Tuple [a, b, c] k2 pt2) pos) (tS en W (mPar3 i j l m)) :=
  PSimp (ps_par3 hc hN hi hj hl hij hil hjl hx hy hz ha hw hs) fun D σ H t => tS.bind (R1 := RSs en) (k := fun ss vs h1 => match vs with | [u, v, w] => .nx (((ss.set i (some u)).set j (some v)).set l (some w)) h1 | _ => .stuck) t fun ρ ss h as bs H1 rel rs r f => by
    split at f
    · obtain ⟨x, y, z, rfl, rx, ry, rz⟩ := RSs.three r
      exact ⟨x, y, z, rfl, f ρ _ H1 (Pre.refl ρ) rel (((rs.set rx i).set ry j).set rz l)⟩
    · exact f.elim
end
end Fw
namespace Fw
open PySem PySem.Spec L2
/-- max of a list of numbers, of two, of three -/
def maxL : List Int → Int
  | [] => 0
  | i :: is => is.foldl (fun m j => if j > m then j else m) i
theorem fold_max : ∀ (is : List Int) (i : Int), i ≤ is.foldl (fun m j => if j > m then j else m) i ∧ (∀ y ∈ is, y ≤ is.foldl (fun m j => if j > m then j else m) i) ∧ (is.foldl (fun m j => if j > m then j else m) i = i ∨ is.foldl (fun m j => if j > m then j else m) i ∈ is)
  | [], i => ⟨Int.le_refl _, fun _ z => by simp at z, .inl rfl⟩
  | j :: is, i => by
    rw [List.foldl_cons]
    have hm : i ≤ (if j > i then j else i) ∧ j ≤ (if j > i then j else i) ∧ ((if j > i then j else i) = i ∨ (if j > i then j else i) = j) := by
      by_cases h : j > i
      · rw [if_pos h]; exact ⟨by omega, by omega, .inr rfl⟩
      · rw [if_neg h]; exact ⟨by omega, by omega, .inl rfl⟩
    generalize (if j > i then j else i) = m at hm ⊢
    obtain ⟨h1, h2, h3⟩ := hm
    obtain ⟨a, b, c⟩ := fold_max is m
    refine ⟨by omega, fun y hy => ?_, ?_⟩
    · rcases List.mem_cons.mp hy with rfl | hy
      · omega
      · exact b y hy
    · rcases c with c | c
      · rw [c]
        rcases h3 with h3 | h3
        · exact .inl h3
        · rw [h3]; exact .inr List.mem_cons_self
      · exact .inr (List.mem_cons_of_mem _ c)
theorem maxL_le {ns : List Int} : ∀ y ∈ ns, y ≤ maxL ns := by
  cases ns with
  | nil => intro _ z; simp at z
  | cons i is =>
    intro y hy
    rcases List.mem_cons.mp hy with rfl | hy
    · exact (fold_max is y).1
    · exact (fold_max is i).2.1 y hy
theorem maxL_mem {ns : List Int} (h : 0 < ns.length) : maxL ns ∈ ns := by
  cases ns with
  | nil => simp at h
  | cons i is =>
    rcases (fold_max is i).2.2 with c | c
    · show is.foldl _ i ∈ _
      rw [c]; exact List.mem_cons_self
    · exact List.mem_cons_of_mem _ c
theorem maxL_eq {ns : List Int} {m : Int} (h : m ∈ ns) (u : ∀ y ∈ ns, y ≤ m) : m = maxL ns := by
  have a := maxL_le m h
  have b := u _ (maxL_mem (List.length_pos_of_mem h))
  omega
section
variable {X : Cx} {en : En}
def opMaxs : OA := fun as h => match as with
  | [.int i, .int j] => some (.int (if j > i then j else i), h)
  | [.int i, .int j, .int k] => some (.int (if k > (if j > i then j else i) then k else (if j > i then j else i)), h)
  | [.ref l] => match h[l]? with
    | some (.lst xs) => match intsOf xs with
      | some is => if 0 < is.length then some (.int (maxL is), h) else none
      | none => none
    | _ => none
  | _ => none
theorem call_maxsM (hK : X.K = en.K) (hc : X.calm = true) : CallR X (.builtin "max") (rOA en opMaxs) := by
  refine CallRimp (CallRor (call_max2 hc) (CallRor (call_max3Nu hc) (cr_max hc))) fun xs H Q q => ?_
  obtain ⟨ρ, h, as, rel, ra, v, h', e, k⟩ := q
  unfold opMaxs at e
  split at e
  · cases ra with
    | cons r1 t => cases t with
      | cons r2 t => cases t; cases r1; cases r2; exact .inl ⟨_, _, rfl, finO.here ⟨_, _, e, k⟩ rel rfl⟩
  · obtain ⟨x, y, z, rfl, r1, r2, r3⟩ := RSs.three ra
    cases r1; cases r2; cases r3
    rename_i i j l
    refine .inr (.inl ⟨_, _, _, .int (if l > (if j > i then j else i) then l else (if j > i then j else i)), rfl, ?_, finO.here ⟨_, _, e, k⟩ rel rfl⟩)
    have lt : ∀ a b : Int, nuLt (.int a) (.int b) = some (decide (a < b)) := fun _ _ => rfl
    unfold nuMax3 nuMax2
    rw [lt]
    simp only [Option.map_some, Option.bind_some]
    by_cases c : i < j
    · rw [if_pos (decide_eq_true c), lt, if_pos (show j > i from c)]
      simp only [Option.map_some]
      by_cases c2 : j < l
      · rw [if_pos (decide_eq_true c2), if_pos (show l > j from c2)]
      · rw [if_neg (by simpa using c2), if_neg (show ¬ l > j from c2)]
    · rw [if_neg (by simpa using c), lt, if_neg (show ¬ j > i from c)]
      simp only [Option.map_some]
      by_cases c2 : i < l
      · rw [if_pos (decide_eq_true c2), if_pos (show l > i from c2)]
      · rw [if_neg (by simpa using c2), if_neg (show ¬ l > i from c2)]
  · split at e
    · rename_i l xs ei
      split at e
      · rename_i is es
        split at e
        · rename_i hn
          cases ra with
          | cons r1 t =>
            cases t
            obtain ⟨p, vs, rfl, ep, e1, rr⟩ := rel.lst ei r1
            obtain rfl := intsOf_rel es rr
            refine .inr (.inr ⟨p, is, rfl, SqL.of e1, hn, fun m hm hu => ?_⟩)
            rw [maxL_eq hm hu]
            exact finO.here ⟨_, _, e, k⟩ rel rfl
        · cases e
      · cases e
    · cases e
  · cases e
end
end Fw
/-! == and != of own things with an own __eq__, whatever stands on the other side -/
namespace OQ
open PySem PySem.Spec PyProof.Rows PySem.SeqAt
section
variable {M : Model} {prog : Program} {w : World} {A : Around} {E : Value → Shared → Prop} {s : Shared} {K : PySem.W.Frag} {x C L f : Addr} {h₀ : Heap} {m : Str → Option Value} {ox : Obj} {od : Option Obj} {b tb : Value}
theorem objNe_own {Q : Fin → Shared → Prop} (X : K.In s.heap) (I : PySem.W.InstAt s.heap x ox C od) (hs : PySem.W.findIn K (.ref C) "__eq__" = some (some (.ref f))) (hf : PySem.W.isFn K (.ref f) = true) (hu : A.units < cLine)
    (hc : wpAny M A (call (.ref f) [.ref x, b]) (fun v s' => ∃ r, v = .bool r ∧ Q (.done (.ret (.bool (!r)))) s') E s) :
    wpAny M A (Builtin.«object.__ne__» ⟨[.ref x, b], []⟩) Q E s := by
  unfold Builtin.«object.__ne__»
  repeat (first
    | with_reducible refine wpAny_cRoomFor hu ?_
    | (refine wpAny_bind (m := callSpecialIfBound? (.ref x) (Str.ofString "__eq__") [b])
        (PySem.W.ifBound_K X I hs hf (wpAny_mono hc (fun r s' hr => by
          obtain ⟨b, rfl, hq⟩ := hr
          repeat (first | exact hq | exact wpAny_pure hq | exact wpAny_truthy_bool hq | (refine wpAny_bind (m := truthy (.bool _)) (wpAny_truthy_bool ?_)) | wp_step)) fun _ _ e => e)))
    | wp_step)
theorem ifBound_objNe {args : List Value} {Q : Option Value → Shared → Prop} (X : K.In s.heap) (I : PySem.W.InstAt s.heap x ox C od) (hs : PySem.W.findIn K (.ref C) "__ne__" = some (some (.builtin "object.__ne__")))
    (h : wpAny M A (call (.builtin "object.__ne__") (.ref x :: args)) (fun v => Q (some v)) E s) : wpAny M A (callSpecialIfBound? (.ref x) "__ne__" args) Q E s := by
  simp only [callSpecialIfBound?, bindSpecialIfBound?]
  refine wpAny_holding (wpAny_bind (wpAny_bind (wpAny_bind (I.type.here ((PySem.W.looks_findIn X hs).here ?_)))))
  refine wpAny_bind (wpAny_askSetting (wpAny_ite ?_))
  have fin : wpAny M A (call (.builtin "object.__ne__") ([.ref x] ++ args) >>= fun v => pure (some v)) Q E s := wpAny_bind (wpAny_mono h (fun v s' h' => wpAny_pure h') fun _ _ h' => h')
  split
  · exact wpAny_bind (wpAny_of_eq (F.cmp_object.ne.bind _) (wpAny_pure (by exact fin)))
  · exact wpAny_tryCatch (wpAny_bind (wpAny_of_eq (F.cmp_object.ne.bind _) (wpAny_pure (by exact fin))))
theorem call_objNe {Q : Value → Shared → Prop} (X : K.In s.heap) (I : PySem.W.InstAt s.heap x ox C od) (hm : PySem.W.mroIn K C (.type "object") = some true) (hs : PySem.W.findIn K (.ref C) "__eq__" = some (some (.ref f))) (hf : PySem.W.isFn K (.ref f) = true) (hu : A.units + 1 < cLine)
    (hc : wpAny (model prog w) A.in1 (call (.ref f) [.ref x, b]) (fun v s' => ∃ r, v = .bool r ∧ Q (.bool (!r)) s') E s) : wpAny (model prog w) A (call (.builtin "object.__ne__") [.ref x, b]) Q E s :=
  wpAny_call (codeAny_call_builtin F.cmp_object.ne.plain F.cmpEntry_ne (PySem.W.check_slot F.cmpKind_ne F.cmpSplit_ne (I.type.andThen (PySem.W.looks_mroIn X hm)) (F.cmpArgs_ne _ _) (objNe_own (A := A.in1) X I hs hf hu hc)))
/-- the left one answers -/
theorem rc_left {op : CmpOp} {Q : Value → Shared → Prop} (hu : A.units < cLine) (X : K.In s.heap) (I : PySem.W.InstAt s.heap x ox C od) (hb : PySem.W.Looks (model prog w) s.heap (typeOf b) tb) (hn : PySem.W.notFirst K C tb = true)
    (one : wpAny (model prog w) A (tryCompare (.ref x) (cmpInfo op).2.1 b) (fun r s' => ∃ v, r = some v ∧ Q v s') E s) : wpAny (model prog w) A (richCompare op (.ref x) b) Q E s := by
  unfold richCompare
  simp only [oneThing_ref]
  refine wpAny_holding (wpAny_bind (wpAny_cRoomFor hu ?_))
  refine wpAny_bind (I.type.here (wpAny_bind (hb.here ?_)))
  split
  · rename_i q
    have e : PySem.W.subIn K tb (.ref C) = some false := by
      rcases Bool.or_eq_true_iff.mp hn with e | e
      · rw [beq_iff_eq.mp e] at q; simp at q
      · exact beq_iff_eq.mp e
    refine wpAny_bind ((PySem.W.looks_subIn X e).here ?_)
    simp only [Bool.false_eq_true, if_false]
    refine wpAny_bind (wpAny_mono one (fun r s' z => ?_) fun _ _ e => e)
    obtain ⟨v, rfl, hq⟩ := z
    exact wpAny_pure hq
  · refine wpAny_bind (wpAny_pure ?_)
    simp only [Bool.false_eq_true, if_false]
    refine wpAny_bind (wpAny_mono one (fun r s' z => ?_) fun _ _ e => e)
    obtain ⟨v, rfl, hq⟩ := z
    exact wpAny_pure hq
theorem rc_ne {Q : Value → Shared → Prop} (hu : A.units + 1 < cLine) (X : K.In s.heap) (I : PySem.W.InstAt s.heap x ox C od) (hb : PySem.W.Looks (model prog w) s.heap (typeOf b) tb) (hn : PySem.W.notFirst K C tb = true)
    (hm : PySem.W.mroIn K C (.type "object") = some true) (hne : PySem.W.findIn K (.ref C) "__ne__" = some (some (.builtin "object.__ne__"))) (hs : PySem.W.findIn K (.ref C) "__eq__" = some (some (.ref f))) (hf : PySem.W.isFn K (.ref f) = true)
    (hc : wpAny (model prog w) A.in1 (call (.ref f) [.ref x, b]) (fun v s' => ∃ r, v = .bool r ∧ Q (.bool (!r)) s') E s) : wpAny (model prog w) A (richCompare .NotEq (.ref x) b) Q E s := by
  refine rc_left (Nat.lt_of_succ_lt hu) X I hb hn ?_
  show wpAny _ _ (tryCompare (.ref x) "__ne__" b) _ _ _
  unfold tryCompare
  refine wpAny_bind (ifBound_objNe X I hne (call_objNe X I hm hs hf hu (wpAny_mono hc (fun v s' hv => ?_) fun _ _ e => e)))
  obtain ⟨r, rfl, hq⟩ := hv
  exact ⟨r, rfl, wpAny_pure ⟨_, rfl, hq⟩⟩
theorem rc_eq {Q : Value → Shared → Prop} (hu : A.units < cLine) (X : K.In s.heap) (I : PySem.W.InstAt s.heap x ox C od) (hb : PySem.W.Looks (model prog w) s.heap (typeOf b) tb) (hn : PySem.W.notFirst K C tb = true)
    (hs : PySem.W.findIn K (.ref C) "__eq__" = some (some (.ref f))) (hf : PySem.W.isFn K (.ref f) = true)
    (hc : wpAny (model prog w) A (call (.ref f) [.ref x, b]) (fun v s' => ∃ r, v = .bool r ∧ Q (.bool r) s') E s) : wpAny (model prog w) A (richCompare .Eq (.ref x) b) Q E s := by
  refine rc_left hu X I hb hn ?_
  show wpAny _ _ (tryCompare (.ref x) "__eq__" b) _ _ _
  unfold tryCompare
  refine wpAny_bind (PySem.W.ifBound_K X I hs hf (wpAny_mono hc (fun v s' hv => ?_) fun _ _ e => e))
  obtain ⟨r, rfl, hq⟩ := hv
  exact wpAny_pure ⟨_, rfl, hq⟩
/-- the left one, of the language's own kinds, declines: the right one answers -/
theorem rc_refl {a : Value} {T id : String} {Q : Value → Shared → Prop} (hu : A.units < cLine) (X : K.In s.heap) (I : PySem.W.InstAt s.heap x ox C od) (ha : s.TypeIs a T) (hsl : Slot T "__eq__" id) (hn : PySem.W.mroIn K C (.type T) = some false)
    (dec : ∀ Q' : Value → Shared → Prop, Q' .notImplemented s → wpAny (model prog w) A (call (.builtin id) [a, .ref x]) Q' E s)
    (hs : PySem.W.findIn K (.ref C) "__eq__" = some (some (.ref f))) (hf : PySem.W.isFn K (.ref f) = true)
    (hc : wpAny (model prog w) A (call (.ref f) [.ref x, a]) (fun v s' => ∃ r, v = .bool r ∧ Q (.bool r) s') E s) : wpAny (model prog w) A (richCompare .Eq a (.ref x)) Q E s := by
  have two : wpAny (model prog w) A (tryCompare (.ref x) "__eq__" a) (fun r s' => ∃ v, r = some v ∧ Q v s') E s := by
    unfold tryCompare
    refine wpAny_bind (PySem.W.ifBound_K X I hs hf (wpAny_mono hc (fun v s' hv => ?_) fun _ _ e => e))
    obtain ⟨r, rfl, hq⟩ := hv
    exact wpAny_pure ⟨_, rfl, hq⟩
  simp only [richCompare, cmpInfo_Eq, ha.oneThing_none]
  refine wpAny_holding (wpAny_bind (wpAny_cRoomFor hu ?_))
  refine wpAny_bind (wpAny_typeOf ha (wpAny_bind (I.type.here ?_)))
  split
  · refine wpAny_bind ((PySem.W.looks_subIn X (t := .ref C) hn).here ?_)
    simp only [Bool.false_eq_true, if_false, Bool.not_false, if_true]
    refine wpAny_bind (m := tryCompare a _ (.ref x)) (wpAny_tryCompare_declines ha hsl (dec _ ⟨rfl, ?_⟩))
    refine wpAny_bind (m := tryCompare (.ref x) _ a) (wpAny_mono two (fun r s' z => ?_) fun _ _ e => e)
    obtain ⟨v, rfl, hq⟩ := z
    exact wpAny_pure hq
  · rename_i q
    exact absurd (by simp) q
end
end OQ
namespace OQ
open PySem PySem.Spec PyProof.Rows PySem.SeqAt
section
variable {prog : Program} {w : World} {A : Around} {E : Value → Shared → Prop} {s : Shared} {K : PySem.W.Frag} {x C dx : Addr} {Q : Value → Shared → Prop}
theorem dec_non (q : Q .notImplemented s) : wpAny (model prog w) A (call (.builtin "NoneType.__eq__") [.none, .ref x]) Q E s := by
  refine GQ.call_here F.slot_NoneType_eq_refl (show s.TypeIs .none "NoneType" from rfl) F.entry_NoneType_eq (F.args_NoneType_eq_2 _ _) ?_
  obtain ⟨hp, g, d, tk, os⟩ := s
  unfold Builtin.«NoneType.__eq__»
  wp_walk
  exact q
theorem dec_int {i : Int} {t : Tok} (hx : s.heap.get? x = some (PySem.W.instObj C dx)) (q : Q .notImplemented s) : wpAny (model prog w) A (call (.builtin "int.__eq__") [.int i t, .ref x]) Q E s := by
  refine GQ.call_here F.slot_int_eq_refl (typeIs_int s i t) F.entry_int_eq (F.args_int_eq_2 _ _) ?_
  obtain ⟨hp, g, d, tk, os⟩ := s
  wp_walk using AutoSeq1.wpAny_loadPart' hx, wpAny_load hx
  exact q
theorem dec_bl {i : Bool} (hx : s.heap.get? x = some (PySem.W.instObj C dx)) (q : Q .notImplemented s) : wpAny (model prog w) A (call (.builtin "int.__eq__") [.bool i, .ref x]) Q E s := by
  refine GQ.call_here F.slot_bool_eq_refl (show s.TypeIs (.bool i) "bool" from rfl) F.entry_int_eq (F.args_int_eq_2 _ _) ?_
  obtain ⟨hp, g, d, tk, os⟩ := s
  wp_walk using AutoSeq1.wpAny_loadPart' hx, wpAny_load hx
  exact q
theorem dec_str {i : Str} {t : Tok} (hx : s.heap.get? x = some (PySem.W.instObj C dx)) (q : Q .notImplemented s) : wpAny (model prog w) A (call (.builtin "str.__eq__") [.str i t, .ref x]) Q E s := by
  refine GQ.call_here F.slot_str_eq_refl (show s.TypeIs (.str i t) "str" from rfl) F.entry_str_eq (F.args_str_eq_2 _ _) ?_
  obtain ⟨hp, g, d, tk, os⟩ := s
  wp_walk using AutoSeq1.wpAny_loadPart' hx, wpAny_load hx
  exact q
theorem dec_lst {l : Addr} (hT : s.TypeIs (.ref l) "list") (X : K.In s.heap) (hx : s.heap.get? x = some (PySem.W.instObj C dx)) (hn : PySem.W.mroIn K C (.type "list") = some false) (q : Q .notImplemented s) : wpAny (model prog w) A (call (.builtin "list.__eq__") [.ref l, .ref x]) Q E s := by
  refine GQ.call_here F.slot_list_eq_refl hT F.entry_list_eq (F.args_list_eq_2 _ _) ?_
  have hs := PySem.W.looks_mroIn (M := model prog w) X hn
  obtain ⟨o, ho, hc⟩ := hT
  obtain ⟨hp, g, d, tk, os⟩ := s
  wp_walk using AutoSeq1.wpAny_loadPart' hx, AutoSeq1.wpAny_loadPart' ho, hs.here
  exact q
theorem dec_tup {l : Addr} (hT : s.TypeIs (.ref l) "tuple") (X : K.In s.heap) (hx : s.heap.get? x = some (PySem.W.instObj C dx)) (hn : PySem.W.mroIn K C (.type "tuple") = some false) (q : Q .notImplemented s) : wpAny (model prog w) A (call (.builtin "tuple.__eq__") [.ref l, .ref x]) Q E s := by
  refine GQ.call_here F.slot_tuple_eq_refl hT F.entry_tuple_eq (F.args_tuple_eq_2 _ _) ?_
  have hs := PySem.W.looks_mroIn (M := model prog w) X hn
  obtain ⟨o, ho, hc⟩ := hT
  obtain ⟨hp, g, d, tk, os⟩ := s
  wp_walk using AutoSeq1.wpAny_loadPart' hx, AutoSeq1.wpAny_loadPart' ho, hs.here
  exact q
theorem dec_dct {l : Addr} (hT : s.TypeIs (.ref l) "dict") (X : K.In s.heap) (hx : s.heap.get? x = some (PySem.W.instObj C dx)) (hn : PySem.W.mroIn K C (.type "dict") = some false) (q : Q .notImplemented s) : wpAny (model prog w) A (call (.builtin "dict.__eq__") [.ref l, .ref x]) Q E s := by
  refine GQ.call_here F.slot_dict_eq_refl hT F.entry_dict_eq (F.args_dict_eq_2 _ _) ?_
  have hs := PySem.W.looks_mroIn (M := model prog w) X hn
  obtain ⟨o, ho, hc⟩ := hT
  obtain ⟨hp, g, d, tk, os⟩ := s
  wp_walk using AutoSeq1.wpAny_loadPart' hx, AutoSeq1.wpAny_loadPart' ho, hs.here
  exact q
end
end OQ
namespace Fw
open PySem PySem.Spec PyProof.Rows L2
/-- one of the language's own kinds -/
def plainT : Tag → Bool
  | .ins _ => false
  | .exo _ => false
  | _ => true
def okT (os : List (Nat × FM)) : Tag → Bool
  | .ins c => (os.lookup c).isSome
  | .exo _ => false
  | _ => true
def notScr : SV → Bool
  | .scr _ => false
  | _ => true
def callB (f : FM) (a b : SV) (h : SH) (neg : Bool) : Option (SV × SH) := match f [a, b] h with
  | .ok (.bl r) h' => some (.bl (if neg = true then !r else r), h')
  | _ => none
/-- == and !=: an own thing of the classes in os answers by its own __eq__ -/
def eqOwns (os : List (Nat × FM)) (neg : Bool) : O2 := fun a b h => match insOf h a with
  | some c => match os.lookup c, tagOf h b with
    | some f, some t => if okT os t = true then callB f a b h neg else none
    | _, _ => none
  | none => match insOf h b with
    | some c => match os.lookup c, tagOf h a with
      | some f, some t => if neg = false ∧ plainT t = true ∧ notScr a = true then callB f b a h false else none
      | _, _ => none
    | none => eqD neg a b h
structure OwnFact (K : PySem.W.Frag) (C : Addr) : Prop where
  ne : PySem.W.findIn K (.ref C) "__ne__" = some (some (.builtin "object.__ne__"))
  ob : PySem.W.mroIn K C (.type "object") = some true
  non : PySem.W.mroIn K C (.type "NoneType") = some false
  bl : PySem.W.mroIn K C (.type "bool") = some false
  int : PySem.W.mroIn K C (.type "int") = some false
  str : PySem.W.mroIn K C (.type "str") = some false
  lst : PySem.W.mroIn K C (.type "list") = some false
  tup : PySem.W.mroIn K C (.type "tuple") = some false
  dct : PySem.W.mroIn K C (.type "dict") = some false
structure OwnEqs (P : Program) (w : World) (K : PySem.W.Frag) (mg : Str → Option Value) (base : Heap) (en : En) (j : Nat) (os : List (Nat × FM)) : Prop where
  meth : ∀ c f, os.lookup c = some f → MethAt P w K mg base en j c "__eq__" 2 f
  fact : ∀ c f C ns, os.lookup c = some f → en.cl[c]? = some (C, ns) → OwnFact K C
  tag : ∀ c f, os.lookup c = some f → TagOk en (.ins c)
  pair : ∀ c f C ns d g D ms, os.lookup c = some f → en.cl[c]? = some (C, ns) → os.lookup d = some g → en.cl[d]? = some (D, ms) → D = C ∨ PySem.W.mroIn K D (.ref C) = some false
theorem sub_ty {K : PySem.W.Frag} {C : Addr} : PySem.W.subIn K (.type "NoneType") (.ref C) = some false ∧ PySem.W.subIn K (.type "bool") (.ref C) = some false ∧ PySem.W.subIn K (.type "int") (.ref C) = some false ∧ PySem.W.subIn K (.type "str") (.ref C) = some false ∧ PySem.W.subIn K (.type "list") (.ref C) = some false ∧ PySem.W.subIn K (.type "tuple") (.ref C) = some false ∧ PySem.W.subIn K (.type "dict") (.ref C) = some false := by
  have e1 : fastBuiltinMro "NoneType" = some [.type "NoneType", .type "object"] := by decide +kernel
  have e2 : fastBuiltinMro "bool" = some [.type "bool", .type "int", .type "object"] := by decide +kernel
  have e3 : fastBuiltinMro "int" = some [.type "int", .type "object"] := by decide +kernel
  have e4 : fastBuiltinMro "str" = some [.type "str", .type "object"] := by decide +kernel
  have e5 : fastBuiltinMro "list" = some [.type "list", .type "object"] := by decide +kernel
  have e6 : fastBuiltinMro "tuple" = some [.type "tuple", .type "object"] := by decide +kernel
  have e7 : fastBuiltinMro "dict" = some [.type "dict", .type "object"] := by decide +kernel
  have go : ∀ (T : String) (l : List Value), fastBuiltinMro T = some l → l.contains (.ref C) = false → PySem.W.subIn K (.type T) (.ref C) = some false := fun T l e c => by
    show (fastBuiltinMro T).map (·.contains (.ref C)) = some false
    rw [e]
    show some (l.contains (.ref C)) = some false
    rw [c]
  exact ⟨go _ _ e1 (by simp), go _ _ e2 (by simp), go _ _ e3 (by simp), go _ _ e4 (by simp), go _ _ e5 (by simp), go _ _ e6 (by simp), go _ _ e7 (by simp)⟩
section
variable {X : Cx} {en : En} {W : WX} {k j : Nat} {os : List (Nat × FM)} {pins : List (Addr × Obj)} {σ : L2.St} {H : Hp} {s : Shared}
/-- a def is called at a place below the body's own -/
theorem run_at {A : Around} {f : Addr} {fd : FuncData} {ps : List Str} {sp : Sp} {Q : VK} {us : List Value} {vs : List V} (hA : A.frames = X.A.frames) (F : FnG X.prog X.w X.K X.mg X.base k f fd ps sp) (hr : Room k A) (hg : A.guards = some []) (hb : Binds X.K fd ps []) (tk : Takes X W)
    (I : Inv X pins σ H s) (r : Vals vs us) (h : sp vs H Q (fun cls d H => W cls d σ H)) : wpAny (model X.prog X.w) A (call (.ref f) us) (EP X pins σ Q) X.xe s := by
  have hl : us.length = ps.length := by rw [← r.length]; exact F.len _ _ _ _ h
  have b := hb s us I.kIn (by rw [List.append_nil]; exact hl)
  rw [List.append_nil] at b
  have e0 : Env0 X.prog X.w X.K X.mg X.base A X.stack s H := by
    have e := I.env0
    exact ⟨by rw [hA]; exact e.frames, e.mod, e.bs, e.bsz, e.funs, e.frf, e.hok, e.bare⟩
  refine wpAny_call (codeAny_mono (F.run A X.stack s H ⟨us, []⟩ us vs Q _ hr hg e0 b r h) fun rr s' hq => ?_)
  match rr, hq with
  | .error e, hq => exact tk e s' (XE.of_call I (fun _ _ _ z => z) hq)
  | .ok (.ret u), hq => exact I.after hq
  | .ok .next, hq => exact False.elim hq
  | .ok .brk, hq => exact False.elim hq
  | .ok .cont, hq => exact False.elim hq
theorem callB_sp {f : FM} {ρ : List Addr} {h h' : SH} {a b w : SV} {neg : Bool} {x y : V} {Q : VK} {E : XK} (rel : Rel en ρ h H) (ra : RS en ρ a x) (rb : RS en ρ b y) (e : callB f a b h neg = some (w, h')) (q : ∀ ρ' H' u, Pre ρ ρ' → Rel en ρ' h' H' → RS en ρ' w u → Q u H') :
    spM en 2 f [x, y] H (fun v H' => ∃ r, v = .bl r ∧ Q (.bl (if neg = true then !r else r)) H') E := by
  refine ⟨rfl, ρ, [a, b], h, rel, .cons ra (.cons rb .nil), ?_⟩
  unfold callB at e
  cases ef : f [a, b] h with
  | stuck => rw [ef] at e; cases e
  | ex c xs h1 => rw [ef] at e; cases e
  | ok v h1 =>
    rw [ef] at e
    cases v with
    | bl r =>
      simp only [Option.some.injEq, Prod.mk.injEq] at e
      obtain ⟨rfl, rfl⟩ := e
      intro ρ' H' u p rel' ru
      cases ru
      exact ⟨r, rfl, q ρ' H' _ p rel' rfl⟩
    | _ => cases e
end
end Fw
namespace Fw
open PySem PySem.Spec PyProof.Rows L2
section
variable {X : Cx} {en : En} {W : WX} {k j : Nat} {os : List (Nat × FM)} {pins : List (Addr × Obj)} {σ : L2.St} {H : Hp} {s : Shared}
theorem notF {K : PySem.W.Frag} {C : Addr} {tb : Value} (h : PySem.W.subIn K tb (.ref C) = some false) : PySem.W.notFirst K C tb = true := by
  unfold PySem.W.notFirst
  rw [h]; simp
theorem own_tag (O : OwnEqs X.prog X.w X.K X.mg X.base en j os) {c : Nat} {f : FM} {C : Addr} {ns : List Str} {t : Tag} (el : os.lookup c = some f) (ec : en.cl[c]? = some (C, ns)) (ok : okT os t = true) : ∃ tv, tagV en t = some tv ∧ TagOk en t ∧ PySem.W.notFirst X.K C tv = true := by
  obtain ⟨s1, s2, s3, s4, s5, s6, s7⟩ := sub_ty (K := X.K) (C := C)
  cases t with
  | non => exact ⟨_, rfl, trivial, notF s1⟩
  | bl => exact ⟨_, rfl, trivial, notF s2⟩
  | int => exact ⟨_, rfl, trivial, notF s3⟩
  | str => exact ⟨_, rfl, trivial, notF s4⟩
  | lst => exact ⟨_, rfl, trivial, notF s5⟩
  | tup => exact ⟨_, rfl, trivial, notF s6⟩
  | dct => exact ⟨_, rfl, trivial, notF s7⟩
  | ins d =>
    obtain ⟨g, eg⟩ := Option.isSome_iff_exists.mp (show (os.lookup d).isSome = true from ok)
    have tk := O.tag d g eg
    obtain ⟨D, ms, ed, ii⟩ := id tk
    refine ⟨.ref D, by unfold tagV; simp only [ed]; rfl, tk, ?_⟩
    rcases O.pair c f C ns d g D ms el ec eg ed with rfl | e
    · unfold PySem.W.notFirst; simp
    · exact notF e
  | exo d => cases ok
theorem own_l (O : OwnEqs X.prog X.w X.K X.mg X.base en j os) (G : Good en X W k) (hj : j + 1 ≤ k) {neg : Bool} {ρ : List Addr} {h h' : SH} {a b w : SV} {x y : V} {u v : Value} {Q : VK} {c : Nat} {f : FM} {t : Tag} (I : Inv X pins σ H s) (rx : RelV x v) (ry : RelV y u) (rel : Rel en ρ h H) (ra : RS en ρ a x) (rb : RS en ρ b y)
    (ea : insOf h a = some c) (el : os.lookup c = some f) (et : tagOf h b = some t) (ok : okT os t = true) (e : callB f a b h neg = some (w, h')) (q : ∀ ρ' H' u, Pre ρ ρ' → Rel en ρ' h' H' → RS en ρ' w u → Q u H') :
    wpAny (model X.prog X.w) X.A (richCompare (if neg = true then .NotEq else .Eq) v u) (EP X pins σ Q) X.xe s := by
  obtain ⟨p, C, ns, dx, vs, rfl, ec, eH⟩ := insOf_rel rel ra ea
  obtain ⟨fa, fd, ps, C', ns', cf, hnn, hm, FF, hb⟩ := (O.meth c f el).ex
  have e1 := cf.at_
  rw [ec] at e1
  cases e1
  cases (show v = Value.ref p from rx)
  obtain ⟨mA, OM, _⟩ := ins_get I.hok eH
  obtain ⟨od, J, _⟩ := OM.look
  have fact := O.fact c f C ns el ec
  obtain ⟨tv, ev, tok, nf⟩ := own_tag O el ec ok
  obtain ⟨P, kit, hP, _⟩ := tag_kit G.K I rel rb ry et ev tok
  have lk := kit.ty (model X.prog X.w) s.heap I.kIn hP
  have r2 : Vals [V.ref p, y] [Value.ref p, u] := .cons rfl (.cons ry .nil)
  have sp := callB_sp (E := fun cls d H => W cls d σ H) rel ra rb e q
  have u0 := G.u1
  cases neg with
  | false =>
    refine OQ.rc_eq (Nat.lt_of_succ_lt u0) I.kIn J lk nf hm.at_ hm.fn (wpAny_mono (run_at rfl FF (G.room.mono (by omega)) G.gd hb G.tk I r2 sp) (fun r s' z => ?_) fun _ _ x => x)
    obtain ⟨v', H', I', rv, r', rfl, q'⟩ := z
    cases (show r = Value.bool r' from rv)
    exact ⟨r', rfl, V.bl r', H', I', rfl, q'⟩
  | true =>
    refine OQ.rc_ne u0 I.kIn J lk nf fact.ob fact.ne hm.at_ hm.fn (wpAny_mono (run_at (A := X.A.in1) rfl FF ((G.room.mono hj).in1) G.gd hb G.tk I r2 sp) (fun r s' z => ?_) fun _ _ x => x)
    obtain ⟨v', H', I', rv, r', rfl, q'⟩ := z
    cases (show r = Value.bool r' from rv)
    exact ⟨r', rfl, V.bl (!r'), H', I', rfl, q'⟩
/-- the right one answers -/
theorem own_r (O : OwnEqs X.prog X.w X.K X.mg X.base en j os) (G : Good en X W k) (hj : j + 1 ≤ k) {ρ : List Addr} {h h' : SH} {a b w : SV} {x y : V} {u v : Value} {Q : VK} {c : Nat} {f : FM} {t : Tag} (I : Inv X pins σ H s) (rx : RelV x v) (ry : RelV y u) (rel : Rel en ρ h H) (ra : RS en ρ a x) (rb : RS en ρ b y)
    (eb : insOf h b = some c) (el : os.lookup c = some f) (et : tagOf h a = some t) (ok : plainT t = true) (nsc : notScr a = true) (e : callB f b a h false = some (w, h')) (q : ∀ ρ' H' u, Pre ρ ρ' → Rel en ρ' h' H' → RS en ρ' w u → Q u H') :
    wpAny (model X.prog X.w) X.A (richCompare .Eq v u) (EP X pins σ Q) X.xe s := by
  obtain ⟨p, C, ns, dx, vs, rfl, ec, eH⟩ := insOf_rel rel rb eb
  obtain ⟨fa, fd, ps, C', ns', cf, hnn, hm, FF, hb⟩ := (O.meth c f el).ex
  have e1 := cf.at_
  rw [ec] at e1
  cases e1
  cases (show u = Value.ref p from ry)
  obtain ⟨mA, OM, _⟩ := ins_get I.hok eH
  obtain ⟨od, J, _⟩ := OM.look
  have fact := O.fact c f C ns el ec
  have r2 : Vals [V.ref p, x] [Value.ref p, v] := .cons rfl (.cons rx .nil)
  have sp := callB_sp (E := fun cls d H => W cls d σ H) rel rb ra e q
  have u0 := G.u1
  have fin : wpAny (model X.prog X.w) X.A (call (.ref fa) [.ref p, v]) (fun r s' => ∃ b, r = .bool b ∧ EP X pins σ Q (.bool b) s') X.xe s := wpAny_mono (run_at rfl FF (G.room.mono (by omega)) G.gd hb G.tk I r2 sp) (fun r s' z => by
    obtain ⟨v', H', I', rv, r', rfl, q'⟩ := z
    cases (show r = Value.bool r' from rv)
    exact ⟨r', rfl, V.bl r', H', I', rfl, q'⟩) fun _ _ x => x
  have hlt := Nat.lt_of_succ_lt u0
  cases a with
  | non =>
    cases (show x = V.non from ra)
    cases (show v = Value.none from rx)
    exact OQ.rc_refl hlt I.kIn J (show s.TypeIs .none "NoneType" from rfl) F.slot_NoneType_eq_refl fact.non (fun Q' q' => OQ.dec_non q') hm.at_ hm.fn fin
  | bl b =>
    cases (show x = V.bl b from ra)
    cases (show v = Value.bool b from rx)
    exact OQ.rc_refl hlt I.kIn J (show s.TypeIs (.bool b) "bool" from rfl) F.slot_bool_eq_refl fact.bl (fun Q' q' => OQ.dec_bl OM.obj q') hm.at_ hm.fn fin
  | int i =>
    cases (show x = V.int i from ra)
    obtain ⟨tk, rfl⟩ := (show ∃ t, v = Value.int i t from rx)
    exact OQ.rc_refl hlt I.kIn J (typeIs_int s i tk) F.slot_int_eq_refl fact.int (fun Q' q' => OQ.dec_int OM.obj q') hm.at_ hm.fn fin
  | str z =>
    cases (show x = V.str z from ra)
    obtain ⟨tk, rfl⟩ := (show ∃ t, v = Value.str z t from rx)
    exact OQ.rc_refl hlt I.kIn J (show s.TypeIs (.str z tk) "str" from rfl) F.slot_str_eq_refl fact.str (fun Q' q' => OQ.dec_str OM.obj q') hm.at_ hm.fn fin
  | scr z => cases nsc
  | ref i =>
    obtain ⟨l, elr, rfl⟩ := ra
    cases (show v = Value.ref l from rx)
    unfold tagOf at et
    cases eo : h[i]? with
    | none => simp only [eo] at et; cases et
    | some o =>
      have ro := rel.at2 elr eo
      cases o with
      | lst xs =>
        obtain ⟨ws, ea, _⟩ := ro
        obtain ⟨_, _, n, _, h1⟩ := (show ObjOk X.prog X.w H s.heap l (.lst ws) from I.hok l _ ea)
        have hT : s.TypeIs (.ref l) "list" := ⟨_, h1, rfl⟩
        exact OQ.rc_refl hlt I.kIn J hT F.slot_list_eq_refl fact.lst (fun Q' q' => OQ.dec_lst hT I.kIn OM.obj fact.lst q') hm.at_ hm.fn fin
      | tup xs =>
        obtain ⟨ws, ea, _⟩ := ro
        obtain ⟨_, _, _, o, h1, h2, _⟩ := (show ObjOk X.prog X.w H s.heap l (.tup ws) from I.hok l _ ea)
        have hT : s.TypeIs (.ref l) "tuple" := ⟨o, h1, h2⟩
        exact OQ.rc_refl hlt I.kIn J hT F.slot_tuple_eq_refl fact.tup (fun Q' q' => OQ.dec_tup hT I.kIn OM.obj fact.tup q') hm.at_ hm.fn fin
      | dK kvs =>
        obtain ⟨ws, ea, _⟩ := ro
        obtain ⟨_, _, vs, _, o, es, ep, h1, h2, _⟩ := (show ObjOk X.prog X.w H s.heap l (.dK ws) from I.hok l _ ea)
        have hT : s.TypeIs (.ref l) "dict" := ⟨o, h1, h2.1⟩
        exact OQ.rc_refl hlt I.kIn J hT F.slot_dict_eq_refl fact.dct (fun Q' q' => OQ.dec_dct hT I.kIn OM.obj fact.dct q') hm.at_ hm.fn fin
      | dT kvs =>
        obtain ⟨ws, ea, _⟩ := ro
        obtain ⟨_, _, vs, _, o, es, ep, h1, h2, _⟩ := (show ObjOk X.prog X.w H s.heap l (.dT ws) from I.hok l _ ea)
        have hT : s.TypeIs (.ref l) "dict" := ⟨o, h1, h2.1⟩
        exact OQ.rc_refl hlt I.kIn J hT F.slot_dict_eq_refl fact.dct (fun Q' q' => OQ.dec_dct hT I.kIn OM.obj fact.dct q') hm.at_ hm.fn fin
      | ins c' xs => simp only [eo] at et; cases et; cases ok
      | lk xs => simp only [eo] at et; cases et
      | exo c' xs => simp only [eo] at et; cases et; cases ok
theorem op_eqO (O : OwnEqs X.prog X.w X.K X.mg X.base en j os) (G : Good en X W k) (hj : j + 1 ≤ k) : OpR X (compareOp .Eq) (rO2 en (eqOwns os false)) := by
  intro pins s σ H x y v u Q I rx ry z
  obtain ⟨ρ, h, a, b, rel, ra, rb, w, h', e, q⟩ := id z
  unfold eqOwns at e
  cases ea : insOf h a with
  | some c =>
    simp only [ea] at e
    split at e
    · rename_i f t el et
      split at e
      · rename_i ok
        exact own_l (neg := false) O G hj I rx ry rel ra rb ea el et ok e q
      · cases e
    · cases e
  | none =>
    simp only [ea] at e
    cases eb : insOf h b with
    | some c =>
      simp only [eb] at e
      split at e
      · rename_i f t el et
        split at e
        · rename_i ok
          exact own_r O G hj I rx ry rel ra rb eb el et ok.2.1 ok.2.2 e q
        · cases e
      · cases e
    | none =>
      simp only [eb] at e
      exact op_eqM G.sm G.u64 pins s σ H x y v u Q I rx ry ⟨ρ, h, a, b, rel, ra, rb, w, h', e, q⟩
theorem op_neO (O : OwnEqs X.prog X.w X.K X.mg X.base en j os) (G : Good en X W k) (hj : j + 1 ≤ k) : OpR X (compareOp .NotEq) (rO2 en (eqOwns os true)) := by
  intro pins s σ H x y v u Q I rx ry z
  obtain ⟨ρ, h, a, b, rel, ra, rb, w, h', e, q⟩ := id z
  unfold eqOwns at e
  cases ea : insOf h a with
  | some c =>
    simp only [ea] at e
    split at e
    · rename_i f t el et
      split at e
      · rename_i ok
        exact own_l (neg := true) O G hj I rx ry rel ra rb ea el et ok e q
      · cases e
    · cases e
  | none =>
    simp only [ea] at e
    cases eb : insOf h b with
    | some c =>
      simp only [eb] at e
      split at e
      · rename_i f t el et
        rw [if_neg (by simp)] at e
        cases e
      · cases e
    | none =>
      simp only [eb] at e
      exact op_neM G.sm G.u64 pins s σ H x y v u Q I rx ry ⟨ρ, h, a, b, rel, ra, rb, w, h', e, q⟩
end
end Fw
namespace Fw
open PySem PySem.Spec PyProof.Rows L2
/-- what the written part says of the classes with an own __eq__ -/
structure OwnB (K : PySem.W.Frag) (en : En) (cs : List Nat) : Prop where
  fact : ∀ c C ns, c ∈ cs → en.cl[c]? = some (C, ns) → OwnFact K C
  tag : ∀ c, c ∈ cs → TagOk en (.ins c)
  pair : ∀ c C ns d D ms, c ∈ cs → en.cl[c]? = some (C, ns) → d ∈ cs → en.cl[d]? = some (D, ms) → D = C ∨ PySem.W.mroIn K D (.ref C) = some false
theorem MethAt.up {P : Program} {w : World} {K : PySem.W.Frag} {mg : Str → Option Value} {base : Heap} {en : En} {j k : Nat} {c : Nat} {mn : Str} {n : Nat} {m : FM} (D : MethAt P w K mg base en j c mn n m) (h : j ≤ k) : MethAt P w K mg base en k c mn n m := by
  obtain ⟨⟨f, fd, ps, C, ns, a, b, d, F, e⟩, l⟩ := D
  exact ⟨⟨f, fd, ps, C, ns, a, b, d, F.mono h, e⟩, l⟩
theorem look_mem {os : List (Nat × FM)} {c : Nat} {f : FM} (e : os.lookup c = some f) : (c, f) ∈ os := by
  induction os with
  | nil => cases e
  | cons p os ih =>
    obtain ⟨d, g⟩ := p
    rw [List.lookup_cons] at e
    split at e
    · rename_i h
      rw [eq_of_beq h]
      cases e
      exact List.mem_cons_self
    · exact List.mem_cons_of_mem _ (ih e)
theorem OwnEqs.of {P : Program} {w : World} {K : PySem.W.Frag} {mg : Str → Option Value} {base : Heap} {en : En} {j : Nat} {os : List (Nat × FM)} (B : OwnB K en (os.map (·.1))) (D : ∀ p ∈ os, MethAt P w K mg base en j p.1 "__eq__" 2 p.2) : OwnEqs P w K mg base en j os := by
  have mem : ∀ {c f}, os.lookup c = some f → c ∈ os.map (·.1) := fun e => List.mem_map.mpr ⟨_, look_mem e, rfl⟩
  exact ⟨fun c f e => D _ (look_mem e), fun c f C ns e ec => B.fact c C ns (mem e) ec, fun c f e => B.tag c (mem e), fun c f C ns d g D ms e ec ed edc => B.pair c C ns d D ms (mem e) ec (mem ed) edc⟩
end Fw
namespace Fw
open PySem PySem.Spec PyProof.Rows L2
theorem OwnB.sub {K : PySem.W.Frag} {en : En} {cs cs' : List Nat} (B : OwnB K en cs) (h : ∀ c ∈ cs', c ∈ cs) : OwnB K en cs' :=
  ⟨fun c C ns m e => B.fact c C ns (h c m) e, fun c m => B.tag c (h c m), fun c C ns d D ms m e m2 e2 => B.pair c C ns d D ms (h c m) e (h d m2) e2⟩
end Fw
namespace Fw
open PySem PySem.Spec PyProof.Rows L2
/-! ### texts: join, split, str(i), int(text), one sign in a text, a number with its sign -/
def mS1 (op : Str → O1) (mo ma : EM) : EM := fun ss h => (mo ss h).bind fun o h1 => match o with
  | .str z => (ma ss h1).bind fun v h2 => lift (op z v h2)
  | _ => .stuck
def rS1 (en : En) (op : Str → O1) : V → List V → Hp → VK → Prop := fun x xs H Q => ∃ z y ρ h a, x = .str z ∧ xs = [y] ∧ Rel en ρ h H ∧ RS en ρ a y ∧ finO en ρ (op z a h) Q
def strsOf : List SV → Option (List Str)
  | [] => some []
  | .str z :: xs => (strsOf xs).map (z :: ·)
  | _ :: _ => none
theorem strs_rel {en : En} {ρ : List Addr} : ∀ {xs : List SV} {vs : List V} {ys : List Str}, RSs en ρ xs vs → strsOf xs = some ys → vs = ys.map V.str
  | [], _, _, .nil, e => by cases e; rfl
  | .str z :: xs, _, _, .cons r t, e => by
    cases r
    unfold strsOf at e
    cases e2 : strsOf xs with
    | none => rw [e2] at e; cases e
    | some l =>
      rw [e2] at e; cases e
      rw [strs_rel t e2]; rfl
  | .non :: _, _, _, _, e => by cases e
  | .bl _ :: _, _, _, _, e => by cases e
  | .int _ :: _, _, _, _, e => by cases e
  | .scr _ :: _, _, _, _, e => by cases e
  | .ref _ :: _, _, _, _, e => by cases e
theorem strsOf_map : ∀ ys : List Str, strsOf (ys.map SV.str) = some ys
  | [] => rfl
  | y :: ys => by
    rw [List.map_cons]
    unfold strsOf
    rw [strsOf_map ys]; rfl
theorem rels_strs {en : En} {ρ : List Addr} : ∀ ys : List Str, RSs en ρ (ys.map SV.str) (ys.map V.str)
  | [] => .nil
  | y :: ys => .cons rfl (rels_strs ys)
def opJoin (z : Str) : O1 := fun a h => match a with
  | .ref i => match h[i]? with
    | some (.lst xs) => match strsOf xs with
      | some ys => if (ys.map (·.length)).sum + ys.length * z.length ≤ 16777216 then some (.str (Txt.join z ys), h) else none
      | none => none
    | _ => none
  | _ => none
def opSplit (z : Str) : O1 := fun a h => match a with
  | .str y => if (y.length == 0) = false ∧ z.length + 2 ≤ big then alloc (.lst ((Txt.split z y).map SV.str)) h else none
  | _ => none
def opStr : O1 := fun a h => match a with
  | .int i => if i.natAbs.log2 < 1920 then some (.str (toString i), h) else none
  | .str z => some (.str z, h)
  | _ => none
def opIntX : O1 := fun a h => match a with
  | .int i => some (.int i, h)
  | .bl b => some (.int (if b then 1 else 0), h)
  | .str z => match PySem.intText? z with
    | some n => if z.length ≤ 640 then some (.int n, h) else none
    | none => none
  | _ => none
def opInX (neg : Bool) : O2 := fun a b h => match a, b with
  | .str y, .str z => match y.cps.toList with
    | [c] => some (.bl (if neg then !decide (c ∈ z.cps.toList) else decide (c ∈ z.cps.toList)), h)
    | _ => none
  | _, _ => opIn neg a b h
def mThru (mb : SM) : SM := fun ss h => match mb ss h with
  | .ex _ _ _ _ => .stuck
  | r => r
section
variable {X : Cx} {en : En} {W : WX} {k : Nat} {o e : Expr} {mo ma : EM} {mb : SM} {apos pos : Pos}
theorem tS1 {op : Str → O1} (σ : L2.St) (H : Hp) (Q : VK) (t : tE en W (mS1 op mo ma) σ H Q) : tM1 (rS1 en op) (tE en W mo) (tE en W ma) σ H Q := by
  obtain ⟨ρ, ss, h, rel, rs, f⟩ := t
  refine ⟨ρ, ss, h, rel, rs, (fin.bind (R1 := RS en) f).imp fun x H1 ⟨ρ1, a, h1, p1, rel1, ra, f1⟩ => ?_⟩
  split at f1
  · cases ra
    refine ⟨⟨_, rfl⟩, ρ1, ss, h1, rel1, rs.mono p1, (fin.bind (R1 := RS en) f1).imp fun y H2 ⟨ρ2, k, h2, p2, rel2, rk, f2⟩ => ?_⟩
    exact ⟨_, y, ρ2, h2, k, rfl, rfl, rel2, rk, f2.lift⟩
  · exact f1.elim
theorem mt_joinM : MtR X "str.join" (rS1 en opJoin) := by
  refine MtRimp mt_join fun x xs H Q ⟨z, y, ρ, h, a, ex, exs, rel, ra, v, h', e, k⟩ => ?_
  unfold opJoin at e
  split at e
  · split at e
    · rename_i ei
      split at e
      · rename_i ys es
        split at e
        · rename_i hz
          obtain ⟨p, vs, rfl, ep, e1, r1⟩ := rel.lst ei ra
          have ev := strs_rel r1 es
          subst ev
          exact ⟨z, p, ys, ex, exs, .inl (SqL.of e1), hz, finO.here ⟨_, _, e, k⟩ rel rfl⟩
        · cases e
      · cases e
    · cases e
  · cases e
theorem mt_splitM : MtR X "str.split" (rS1 en opSplit) := by
  refine MtRimp mt_split fun x xs H Q ⟨z, y, ρ, h, a, ex, exs, rel, ra, v, h', e, k⟩ => ?_
  unfold opSplit at e
  split at e
  · split at e
    · rename_i hz
      cases ra
      exact ⟨z, _, ex, exs, hz.1, by rw [big_eq]; exact hz.2, finO.newLst ⟨_, _, e, k⟩ rel (rels_strs _)⟩
    · cases e
  · cases e
theorem call_strM : CallR X (.type "str") (rOA en (un1 opStr)) := by
  refine CallRimp (CallRor call_str_int SkE.call_str_str) fun xs H Q q => ?_
  obtain ⟨ρ, h, a, x, rfl, rel, ra, v, h', e, k⟩ := un1_of q
  unfold opStr at e
  split at e
  · split at e
    · cases ra; exact .inl ⟨_, rfl, by assumption, finO.here ⟨_, _, e, k⟩ rel rfl⟩
    · cases e
  · cases ra; exact .inr ⟨_, rfl, finO.here ⟨_, _, e, k⟩ rel rfl⟩
  · cases e
theorem call_intXM : CallR X (.type "int") (rOA en (un1 opIntX)) := by
  refine CallRimp (CallRor call_int1 call_int_str) fun xs H Q q => ?_
  obtain ⟨ρ, h, a, x, rfl, rel, ra, v, h', e, k⟩ := un1_of q
  unfold opIntX at e
  split at e
  · cases ra; exact .inl (.inl ⟨_, rfl, finO.here ⟨_, _, e, k⟩ rel rfl⟩)
  · cases ra; exact .inl (.inr ⟨_, rfl, finO.here ⟨_, _, e, k⟩ rel rfl⟩)
  · split at e
    · rename_i en'
      split at e
      · cases ra; exact .inr ⟨_, _, rfl, en', by assumption, finO.here ⟨_, _, e, k⟩ rel rfl⟩
      · cases e
    · cases e
  · cases e
theorem one_sign {y : Str} {c : Nat} (h : y.cps.toList = [c]) : y = ⟨#[c]⟩ := TL.ext_tl h
theorem op_inX (hu : X.A.units + 1 < cLine) : OpR X (compareOp .In) (rO2 en (opInX false)) := by
  refine OpRimp (op_in_sign.or (op_inM (en := en) hu)) fun x y H Q ⟨ρ, h, a, b, rel, ra, rb, v, h', e, k⟩ => ?_
  unfold opInX at e
  split at e
  · split at e
    · rename_i hc
      cases ra; cases rb
      rw [one_sign hc]
      exact .inl ⟨_, _, rfl, rfl, finO.here ⟨_, _, e, k⟩ rel rfl⟩
    · cases e
  · exact .inr ⟨ρ, h, a, b, rel, ra, rb, v, h', e, k⟩
theorem op_notInX (hu : X.A.units + 1 < cLine) : OpR X (compareOp .NotIn) (rO2 en (opInX true)) := by
  refine OpRimp (op_notIn_sign.or (op_notInM (en := en) hu)) fun x y H Q ⟨ρ, h, a, b, rel, ra, rb, v, h', e, k⟩ => ?_
  unfold opInX at e
  split at e
  · split at e
    · rename_i hc
      cases ra; cases rb
      rw [one_sign hc]
      exact .inl ⟨_, _, rfl, rfl, finO.here ⟨_, _, e, k⟩ rel rfl⟩
    · cases e
  · exact .inr ⟨ρ, h, a, b, rel, ra, rb, v, h', e, k⟩
theorem PE.join (ho : PE X o (tE en W mo)) (he : PE X e (tE en W ma)) (hs : starEach [e] X.env = [(false, eval e X.env)] := by rfl) (hbase : attributeBase o "join" X.env (eval o X.env) = eval o X.env := by rfl) (hline : (apos.endLine == pos.line) = true := by rfl) :
    PE X (.Call (.Attribute o "join" apos) [e] [] pos) (tE en W (mS1 opJoin mo ma)) :=
  PEimp (pe_m1 PySem.F.slot_str_join PySem.F.type_str_join mt_joinM ho he hs hbase hline) fun σ H Q t => tS1 σ H Q t
theorem PE.split (ho : PE X o (tE en W mo)) (he : PE X e (tE en W ma)) (hs : starEach [e] X.env = [(false, eval e X.env)] := by rfl) (hbase : attributeBase o "split" X.env (eval o X.env) = eval o X.env := by rfl) (hline : (apos.endLine == pos.line) = true := by rfl) :
    PE X (.Call (.Attribute o "split" apos) [e] [] pos) (tE en W (mS1 opSplit mo ma)) :=
  PEimp (pe_m1 PySem.F.slot_str_split PySem.F.type_str_split mt_splitM ho he hs hbase hline) fun σ H Q t => tS1 σ H Q t
/-- a suite that lets no error out: its clauses are never looked at -/
theorem PS.thru (G : Good en X W k) {body : List Stmt} {h₀ : ExceptHandler} {hs : List ExceptHandler} (hb : Good en X.nox wNo k → PSs X.nox body (tS en wNo mb)) : PS X (.Try body (h₀ :: hs) [] [] pos) (tS en W (mThru mb)) :=
  PSimp (ps_try_thru0 (hb ⟨fun u s' ⟨a, B, sI, pins, σ, H, cls, d, e, I, nb, up, sky, na, os, ag, w⟩ => w, PassesOwn.never, G.room, G.gd, G.sm, G.calm, G.K⟩)) fun D σ H ⟨ρ, ss, h, rel, rs, f⟩ => ⟨ρ, ss, h, rel, rs, by
    unfold mThru at f
    cases e : mb ss h with
    | ex c xs ss1 h1 => rw [e] at f; exact f.elim
    | stuck => rw [e] at f; exact f
    | nx s2 h2 => rw [e] at f; exact f
    | bk s2 h2 => rw [e] at f; exact f
    | ct s2 h2 => rw [e] at f; exact f
    | rt v h2 => rw [e] at f; exact f⟩
end
section
open PySem.Builtin PySem.Builtin.Float
/-- {i:+d} of a small number -/
def plusText (a : Int) : Str := ⟨((if a < 0 then [45] else [43]) ++ [48 + a.natAbs]).toArray⟩
def specPlus : Str := "+d"
section
variable {prog : Program} {w : World} {A : Around} {E : Value → Shared → Prop} {s : Shared}
theorem format_plus {a : Int} {t : Tok} {Q : Value → Shared → Prop} (h1 : -4 ≤ a) (h2 : a ≤ 4)
    (h : Q (.str (plusText a) (s.toks + 1)) { s with toks := s.toks + 1 + 1 }) :
    wpAny (model prog w) A (formatField (.int a t) specPlus) Q E s := by
  show wpAny _ _ (holding [.int a t] (pyFormat (.int a t) specPlus)) Q E s
  refine wpAny_holding ?_
  unfold pyFormat
  refine wpAny_bind (wpAny_mkStr ?_ (by decide +kernel))
  refine wpAny_bind (m := callSpecial? (.int a t) (Str.ofString "__format__") [.str specPlus s.toks]) (wpAny_callSpecial?_slot (name := Str.ofString "__format__") (typeIs_int _ a t) slot_int_format ?_)
  refine wpAny_call (codeAny_call_builtin slot_int_format.plain entry_int_format (slot_int_format.check _ _ _ _ _ _ _ _ (typeIs_int _ a t) (args_int_format _ _) ?_))
  have hne : (specPlus.length == 0) = false := by decide +kernel
  have hasc : ((specPlus.cps.toList.drop 1).any (· ≥ 128) || (specPlus.cps.getD 0 0 ≥ 128 && !([60, 62, 61, 94] : List Nat).contains (specPlus.cps.getD 1 0))) = false := by decide +kernel
  obtain ⟨f, hp, ef⟩ : ∃ f : FormatSpec, parseFormatSpec specPlus.cps.toList "int" 62 = .ok f ∧ f = ⟨32, 62, some 43, false, false, none, none, none, some 100⟩ := ⟨⟨32, 62, some 43, false, false, none, none, none, some 100⟩, by kernel_rfl, rfl⟩
  have hty : f.type.getD (if specPlus.cps.back? == some 0 then 0 else 100) = 100 := by subst ef; decide +kernel
  have hpr : f.precision = none := by subst ef; rfl
  have hz : f.noNeg0 = false := by subst ef; rfl
  have hw : f.width.getD 0 ≤ 100000 := by subst ef; decide
  unfold Builtin.«int.__format__»
  simp only [selfAndOne, noKeywords, Builtin.Int.intOfSelf, asInt?, asStr?, List.isEmpty_nil, if_true, pure_bind, bind_pure, bind_assoc, hne, hasc, Bool.false_eq_true, if_false,
    show (Value.str specPlus s.toks == Value.none) = false from rfl]
  refine wpAny_bind (wpAny_typeNameOf (T := "str") (typeIs_str _ _ _) (by decide) fun _ => ?_)
  first | refine wpAny_bind (wpAny_typeNameOfCut_int ?_) | refine wpAny_bind (wpAny_typeNameOf_int ?_)
  simp only [hp, hty]
  rw [if_pos (by decide)]
  show wpAny _ _ (if _ then _ else _) _ _ _
  rw [if_neg (by simp [hpr])]
  show wpAny _ _ (if _ then _ else _) _ _ _
  rw [if_neg (by simp [hz])]
  show wpAny _ _ (if _ then _ else _) _ _ _
  rw [if_neg (by decide)]
  show wpAny _ _ (do let r ← Builtin.overDigitLimit? a; _) _ _ _
  have small : a.natAbs.log2 < 1920 := by
    have : a = -4 ∨ a = -3 ∨ a = -2 ∨ a = -1 ∨ a = 0 ∨ a = 1 ∨ a = 2 ∨ a = 3 ∨ a = 4 := by omega
    rcases this with rfl | rfl | rfl | rfl | rfl | rfl | rfl | rfl | rfl <;> decide
  rw [PySem.overDigitLimit_small small]
  rw [pure_bind]
  show wpAny _ _ (if _ then _ else _) _ _ _
  have hw' : ¬ (f.width.getD 0 > 100000) := by omega
  rw [if_neg (by simpa using hw')]
  show wpAny _ _ (retStr _) _ _ _
  unfold retStr
  subst ef
  have nine : a = -4 ∨ a = -3 ∨ a = -2 ∨ a = -1 ∨ a = 0 ∨ a = 1 ∨ a = 2 ∨ a = 3 ∨ a = 4 := by omega
  rcases nine with rfl | rfl | rfl | rfl | rfl | rfl | rfl | rfl | rfl <;>
    exact wpAny_bind (wpAny_mkStr (wpAny_pure (by
      dsimp only
      exact wpAny_bind (wpAny_isInstance (typeIs_str _ _ _) isSubtype_str_str (wpAny_pure h)))) (by decide +kernel))
end
end
def opPlus : O1 := fun a h => match a with
  | .int i => if -4 ≤ i ∧ i ≤ 4 then some (.str (plusText i), h) else none
  | _ => none
section
variable {X : Cx} {en : En} {W : WX} {e : Expr} {ma : EM} {p1 p2 p3 p4 : Pos}
theorem pe_plus {te : TE} (he : PE X e te) : PE X (.JoinedStr [.FormattedValue e (-1) (some (.JoinedStr [.Constant (.str "+d") 0 p1] p2)) p3] p4) (fun σ H Q => te σ H fun x H1 => ∃ i, x = .int i ∧ -4 ≤ i ∧ i ≤ 4 ∧ Q (.str (plusText i)) H1) := by
  refine ⟨fun pins s σ H Q I h => wpAny_JoinedStr_one ?_⟩
  rw [arm_eval_FormattedValue]
  refine wpAny_bind (wpAny_mono (he.run pins s σ H _ I h) (fun v s1 hv => ?_) fun _ _ x => x)
  obtain ⟨x, H1, I1, r1, i, rfl, h1, h2, q⟩ := hv
  obtain ⟨t, rfl⟩ := r1
  refine wpAny_bind (wpAny_standAt ?_)
  show wpAny _ _ (do let v' ← holding [.int i t] (pure (.int i t)); formatted p3 v' (evalOpt (some (.JoinedStr [.Constant (.str "+d") 0 p1] p2)) X.env)) _ _ _
  refine wpAny_bind (wpAny_holding (wpAny_pure ?_))
  unfold formatted
  refine wpAny_bind (wpAny_holding (wpAny_JoinedStr_one (Calls.Constant_str ?_)))
  refine wpAny_bind (wpAny_standAt ?_)
  exact format_plus h1 h2 ⟨.str (plusText i), H1, (I1.tok _).tok _, ⟨_, rfl⟩, q⟩
theorem PE.plus (he : PE X e (tE en W ma)) : PE X (.JoinedStr [.FormattedValue e (-1) (some (.JoinedStr [.Constant (.str "+d") 0 p1] p2)) p3] p4) (tE en W (mO1 opPlus ma)) :=
  PEimp (pe_plus he) fun σ H Q t => by
    obtain ⟨ρ, ss, h, rel, rs, f⟩ := t
    refine ⟨ρ, ss, h, rel, rs, (fin.bind (R1 := RS en) f).imp fun x H1 ⟨ρ1, a, h1, p1, rel1, ra, f1⟩ => ?_⟩
    obtain ⟨v, h', e, k⟩ := f1.lift
    unfold opPlus at e
    split at e
    · split at e
      · rename_i hi
        cases ra
        exact ⟨_, rfl, hi.1, hi.2, finO.here ⟨_, _, e, k⟩ rel1 rfl⟩
      · cases e
    · cases e
end
end Fw
namespace Fw
open PySem PySem.Spec L2
/-! ## Runs of meanings, without a machine: what a run must bring, from the end to the front -/
/-- what stood stays -/
def Le (h h' : SH) : Prop := ∀ (j : Nat) (o : SO), h[j]? = some o → h'[j]? = some o
theorem Le.refl (h : SH) : Le h h := fun _ _ e => e
theorem Le.trans {a b c : SH} (x : Le a b) (y : Le b c) : Le a c := fun j o e => y j o (x j o e)
theorem Le.push (h : SH) (o : SO) : Le h (h ++ [o]) := fun j u e => by
  rw [List.getElem?_append_left (List.getElem?_eq_some_iff.mp e).1]; exact e
theorem Le.len {h h' : SH} (x : Le h h') : h.length ≤ h'.length := by
  cases e : h.length with
  | zero => exact Nat.zero_le _
  | succ n =>
    have q : h[n]? = some h[n] := List.getElem?_eq_getElem (by omega)
    have := (List.getElem?_eq_some_iff.mp (x n _ q)).1
    omega
theorem new_at (h : SH) (o : SO) : (h ++ [o])[h.length]? = some o := by rw [List.getElem?_append_right (Nat.le_refl _)]; simp
theorem set_at {h : SH} {i : Nat} {o u : SO} (e : h[i]? = some u) : (h.set i o)[i]? = some o := List.getElem?_set_self (List.getElem?_eq_some_iff.mp e).1
theorem set_ne {h : SH} {i j : Nat} {o : SO} (n : i ≠ j) : (h.set i o)[j]? = h[j]? := List.getElem?_set_ne n
/-- a run that answers, and what of its answer -/
def Is {α : Type} (r : Res α) (P : α → SH → Prop) : Prop := match r with
  | .ok a h => P a h
  | _ => False
theorem Is.mono {α : Type} {r : Res α} {P Q : α → SH → Prop} (x : Is r P) (k : ∀ a h, P a h → Q a h) : Is r Q := by
  cases r with
  | ok a h => exact k a h x
  | stuck => exact x
  | ex c xs h => exact x
theorem Is.bind {α β : Type} {r : Res α} {k : α → SH → Res β} {P : β → SH → Prop} (x : Is r fun a h => Is (k a h) P) : Is (r.bind k) P := by
  cases r with
  | ok a h => exact x
  | stuck => exact x
  | ex c xs h => exact x
theorem Is.out {α : Type} {r : Res α} {P : α → SH → Prop} (x : Is r P) : ∃ a h, r = .ok a h ∧ P a h := by
  cases r with
  | ok a h => exact ⟨a, h, rfl, x⟩
  | stuck => exact x.elim
  | ex c xs h => exact x.elim
/-- .. of a statement: behind it, returned, broken off, gone on -/
def Ist (r : SR) (N : SS → SH → Prop) (R : SV → SH → Prop) (B C : SS → SH → Prop) : Prop := match r with
  | .nx ss h => N ss h
  | .rt v h => R v h
  | .bk ss h => B ss h
  | .ct ss h => C ss h
  | _ => False
section
variable {N B C N' B' C' : SS → SH → Prop} {R R' : SV → SH → Prop} {ss : SS} {h : SH} {P : SV → SH → Prop}
theorem Ist.mono {r : SR} (x : Ist r N R B C) (kn : ∀ s h, N s h → N' s h) (kr : ∀ v h, R v h → R' v h) (kb : ∀ s h, B s h → B' s h) (kc : ∀ s h, C s h → C' s h) : Ist r N' R' B' C' := by
  cases r with
  | nx s h => exact kn _ _ x
  | rt v h => exact kr _ _ x
  | bk s h => exact kb _ _ x
  | ct s h => exact kc _ _ x
  | stuck => exact x
  | ex c xs s h => exact x
theorem Ist.then {α : Type} {r : Res α} {k : α → SH → SR} (x : Is r fun a h => Ist (k a h) N R B C) : Ist (thenS r ss k) N R B C := by
  cases r with
  | ok a h => exact x
  | stuck => exact x
  | ex c xs h => exact x
theorem Ist.seq {m1 m2 : SM} (x : Ist (m1 ss h) (fun s h => Ist (m2 s h) N R B C) R B C) : Ist (mSeq m1 m2 ss h) N R B C := by
  unfold mSeq
  cases e : m1 ss h with
  | nx s h => rw [e] at x; exact x
  | rt v h => rw [e] at x; exact x
  | bk s h => rw [e] at x; exact x
  | ct s h => rw [e] at x; exact x
  | stuck => rw [e] at x; exact x
  | ex c xs s h => rw [e] at x; exact x
theorem Ist.nil (x : N ss h) : Ist (mNil ss h) N R B C := x
theorem Ist.set {i : Nat} {m : EM} (x : Is (m ss h) fun v h1 => N (ss.set i (some v)) h1) : Ist (mSet i m ss h) N R B C := Ist.then x
theorem Ist.ret {m : EM} (x : Is (m ss h) R) : Ist (mRet m ss h) N R B C := Ist.then x
theorem Ist.drop {m : EM} (x : Is (m ss h) fun _ h1 => N ss h1) : Ist (mDrop m ss h) N R B C := Ist.then x
theorem Ist.ite {t : BM} {m1 m2 : SM} (x : Is (t ss h) fun b h1 => if b = true then Ist (m1 ss h1) N R B C else Ist (m2 ss h1) N R B C) : Ist (mIfS t m1 m2 ss h) N R B C := Ist.then (x.mono fun b h1 y => by
  cases b with
  | true => exact y
  | false => exact y)
theorem Ist.st {me mo mi : EM} (x : Is (me ss h) fun v h1 => Is (mo ss h1) fun o h2 => Is (mi ss h2) fun i h3 => ∃ h4, opSt o i v h3 = some h4 ∧ N ss h4) : Ist (mSt me mo mi ss h) N R B C := by
  refine Ist.then (x.mono fun v h1 y => Ist.then (y.mono fun o h2 z => Ist.then (z.mono fun i h3 w => ?_)))
  obtain ⟨h4, e, n⟩ := w
  rw [e]; exact n
theorem Is.var {i : Nat} {v : SV} (e : ss[i]? = some (some v)) (p : P v h) : Is (mVar i ss h) P := by
  unfold mVar; rw [e]; exact p
theorem Is.c {v : SV} (p : P v h) : Is (mC v ss h) P := p
theorem Is.lift {α : Type} {o : Option (α × SH)} {P : α → SH → Prop} (x : ∃ a h, o = some (a, h) ∧ P a h) : Is (lift o) P := by
  obtain ⟨a, h, rfl, p⟩ := x; exact p
theorem Is.o1 {op : O1} {ma : EM} (x : Is (ma ss h) fun a h1 => ∃ v h2, op a h1 = some (v, h2) ∧ P v h2) : Is (mO1 op ma ss h) P := Is.bind (x.mono fun a h1 y => Is.lift y)
theorem Is.o2 {op : O2} {ma mb : EM} (x : Is (ma ss h) fun a h1 => Is (mb ss h1) fun b h2 => ∃ v h3, op a b h2 = some (v, h3) ∧ P v h3) : Is (mO2 op ma mb ss h) P := Is.bind (x.mono fun a h1 y => Is.bind (y.mono fun b h2 z => Is.lift z))
theorem Is.oa {op : OA} {ma : AM} (x : Is (ma ss h) fun a h1 => ∃ v h2, op a h1 = some (v, h2) ∧ P v h2) : Is (mOA op ma ss h) P := Is.bind (x.mono fun a h1 y => Is.lift y)
theorem Is.anil {P : List SV → SH → Prop} (p : P [] h) : Is (aNil ss h) P := p
theorem Is.acons {P : List SV → SH → Prop} {ma : EM} {mr : AM} (x : Is (ma ss h) fun v h1 => Is (mr ss h1) fun vs h2 => P (v :: vs) h2) : Is (aCons ma mr ss h) P := Is.bind (x.mono fun a h1 y => Is.bind (y.mono fun b h2 z => z))
theorem Is.call {f : FM} {ma : AM} (x : Is (ma ss h) fun vs h1 => Is (f vs h1) P) : Is (mCall f ma ss h) P := Is.bind x
theorem Is.fn {np n : Nat} {m : SM} {vs : List SV} (hl : vs.length = np) (x : Ist (m (vs.map some ++ List.replicate (n - vs.length) none) h) (fun _ h => P .non h) P (fun _ _ => False) (fun _ _ => False)) : Is (mFn np n m vs h) P := by
  unfold mFn
  rw [if_pos hl]
  cases e : m (vs.map some ++ List.replicate (n - vs.length) none) h with
  | nx s h => rw [e] at x; exact x
  | rt v h => rw [e] at x; exact x
  | bk s h => rw [e] at x; exact x.elim
  | ct s h => rw [e] at x; exact x.elim
  | stuck => rw [e] at x; exact x
  | ex c xs s h => rw [e] at x; exact x
/-- tests -/
theorem Is.bm {P : Bool → SH → Prop} {m : EM} (x : Is (m ss h) fun v h1 => ∃ b, v = .bl b ∧ P b h1) : Is (mB m ss h) P := Is.bind (x.mono fun v h1 y => by
  obtain ⟨b, rfl, p⟩ := y; exact p)
theorem Is.tru {P : Bool → SH → Prop} {m : EM} (x : Is (m ss h) fun v h1 => Is (opTru v h1) P) : Is (mTru m ss h) P := Is.bind x
theorem Is.bnot {P : Bool → SH → Prop} {t : BM} (x : Is (t ss h) fun b h1 => P (!b) h1) : Is (bNot t ss h) P := Is.bind x
theorem Is.band {P : Bool → SH → Prop} {s t : BM} (x : Is (s ss h) fun b h1 => if b = true then Is (t ss h1) P else P false h1) : Is (bAnd s t ss h) P := Is.bind (x.mono fun b h1 y => by
  cases b with
  | true => exact y
  | false => exact y)
theorem Is.bor {P : Bool → SH → Prop} {s t : BM} (x : Is (s ss h) fun b h1 => if b = true then P true h1 else Is (t ss h1) P) : Is (bOr s t ss h) P := Is.bind (x.mono fun b h1 y => by
  cases b with
  | true => exact y
  | false => exact y)
/-- loops -/
theorem Ist.forM {g : GM} {wk : Wk} {body : SM} {I : Nat → SS → SH → Prop} {len : Nat}
    (hn : ∀ k s h, k < len → I k s h → ∃ x h1 s1, wk h k = some (some (x, h1)) ∧ g x s h1 = some s1 ∧ Ist (body s1 h1) (I (k + 1)) R N (I (k + 1))) (he : ∀ s h, I len s h → wk h len = some none ∧ N s h) :
    ∀ (n i : Nat) (s : SS) (h : SH), i ≤ len → len - i < n → I i s h → Ist (forM g wk body n i s h) N R B C
  | 0, _, _, _, _, hl, _ => absurd hl (by omega)
  | n + 1, i, s, h, hi, hl, inv => by
    unfold Fw.forM
    by_cases e : i = len
    · subst e
      obtain ⟨e1, e2⟩ := he s h inv
      rw [e1]; exact e2
    · obtain ⟨x, h1, s1, e1, e2, e3⟩ := hn i s h (by omega) inv
      rw [e1]
      simp only [e2]
      cases e4 : body s1 h1 with
      | nx s2 h2 => rw [e4] at e3; exact Ist.forM hn he n (i + 1) s2 h2 (by omega) (by omega) e3
      | ct s2 h2 => rw [e4] at e3; exact Ist.forM hn he n (i + 1) s2 h2 (by omega) (by omega) e3
      | bk s2 h2 => rw [e4] at e3; exact e3
      | rt v h2 => rw [e4] at e3; exact e3
      | stuck => rw [e4] at e3; exact e3
      | ex c xs s2 h2 => rw [e4] at e3; exact e3
theorem Ist.for {m : IM} {g : GM} {body : SM} (x : Is (m ss h) fun wk h1 => ∃ (len : Nat) (I : Nat → SS → SH → Prop), len < many ∧ I 0 ss h1 ∧
      (∀ k s h, k < len → I k s h → ∃ x h1 s1, wk h k = some (some (x, h1)) ∧ g x s h1 = some s1 ∧ Ist (body s1 h1) (I (k + 1)) R N (I (k + 1))) ∧ (∀ s h, I len s h → wk h len = some none ∧ N s h)) : Ist (mFor m g body ss h) N R B C := by
  unfold mFor
  cases e : m ss h with
  | ok wk h1 =>
    rw [e] at x
    obtain ⟨len, I, hl, i0, hn, he⟩ := x
    exact Ist.forM hn he many 0 ss h1 (Nat.zero_le _) (by omega) i0
  | stuck => rw [e] at x; exact x
  | ex c xs h1 => rw [e] at x; exact x
theorem Is.rng1 {P : Wk → SH → Prop} {m : AM} (x : Is (m ss h) fun vs h1 => ∃ j, vs = [.int j] ∧ rngB j = true ∧ P (wkRng 0 j.toNat) h1) : Is (mRng1 m ss h) P := Is.bind (x.mono fun vs h1 y => by
  obtain ⟨j, rfl, hj, p⟩ := y
  show Is (if rngB j = true then _ else _) P
  rw [if_pos hj]; exact p)
theorem Is.rng2 {P : Wk → SH → Prop} {m : AM} (x : Is (m ss h) fun vs h1 => ∃ i j, vs = [.int i, .int j] ∧ rngB i = true ∧ rngB j = true ∧ P (wkRng i (j - i).toNat) h1) : Is (mRng2 m ss h) P := Is.bind (x.mono fun vs h1 y => by
  obtain ⟨i, j, rfl, hi, hj, p⟩ := y
  show Is (if (rngB i && rngB j) = true then _ else _) P
  rw [if_pos (by rw [hi, hj]; rfl)]; exact p)
theorem Is.walkL {P : Wk → SH → Prop} {m : EM} (x : Is (m ss h) fun v h1 => ∃ r xs, v = .ref r ∧ h1[r]? = some (.lst xs) ∧ P (wkL r) h1) : Is (mWalk m ss h) P := Is.bind (x.mono fun v h1 y => by
  obtain ⟨r, xs, rfl, e, p⟩ := y
  show Is (match h1[r]? with | some (.lst _) => Res.ok (wkL r) h1 | some (.tup _) => .ok (wkT r) h1 | _ => .stuck) P
  rw [e]; exact p)
theorem wkL_at {h : SH} {r k : Nat} {xs : List SV} {x : SV} (e : h[r]? = some (.lst xs)) (ex : xs[k]? = some x) : wkL r h k = some (some (x, h)) := by
  unfold wkL; rw [e]; simp only [ex]
theorem wkL_end {h : SH} {r : Nat} {xs : List SV} (e : h[r]? = some (.lst xs)) : wkL r h xs.length = some none := by
  unfold wkL; rw [e]; simp
theorem wkRng_at {h : SH} {lo : Int} {n k : Nat} (hk : k < n) : wkRng lo n h k = some (some (.int (lo + k), h)) := by
  unfold wkRng; rw [if_pos hk]
theorem wkRng_end {h : SH} {lo : Int} {n : Nat} : wkRng lo n h n = some none := by
  unfold wkRng; rw [if_neg (Nat.lt_irrefl _)]
/-- a list comprehension -/
theorem Is.lcM {g : GM} {wk : Wk} {t : BM} {e : EM} {is : List Nat} {D : Nat} {I : Nat → List SV → SH → Prop} {len : Nat}
    (hn : ∀ k acc h, k < len → h[D]? = some (.lst acc) → I k acc h → ∃ x h1 s1, wk h k = some (some (x, h1)) ∧ g x (wipeS ss is) h1 = some s1 ∧ Is (t s1 h1) fun b h2 =>
      if b = true then Is (e s1 h2) (fun y h3 => h3[D]? = some (.lst acc) ∧ acc.length < big ∧ I (k + 1) (acc ++ [y]) (h3.set D (.lst (acc ++ [y])))) else h2[D]? = some (.lst acc) ∧ I (k + 1) acc h2)
    (he : ∀ acc h, h[D]? = some (.lst acc) → I len acc h → wk h len = some none ∧ P (.ref D) h) :
    ∀ (n i : Nat) (acc : List SV) (h : SH), i ≤ len → len - i < n → h[D]? = some (.lst acc) → I i acc h → Is (lcM g wk t e is D ss n i h) P
  | 0, _, _, _, _, hl, _, _ => absurd hl (by omega)
  | n + 1, i, acc, h, hi, hl, hd, inv => by
    unfold Fw.lcM
    by_cases q : i = len
    · subst q
      obtain ⟨e1, e2⟩ := he acc h hd inv
      rw [e1]; exact e2
    · obtain ⟨x, h1, s1, e1, e2, e3⟩ := hn i acc h (by omega) hd inv
      rw [e1]
      simp only [e2]
      obtain ⟨b, h2, e4, e5⟩ := e3.out
      rw [e4]
      cases b with
      | false =>
        simp only [Bool.false_eq_true, if_false] at e5 ⊢
        exact Is.lcM hn he n (i + 1) acc h2 (by omega) (by omega) e5.1 e5.2
      | true =>
        simp only [if_true] at e5 ⊢
        obtain ⟨y, h3, e6, e7, e8, e9⟩ := e5.out
        rw [e6]
        simp only [e7, if_pos e8]
        exact Is.lcM hn he n (i + 1) (acc ++ [y]) (h3.set D (.lst (acc ++ [y]))) (by omega) (by omega) (set_at e7) e9
theorem Is.lc {m : IM} {g : GM} {t : BM} {e : EM} {is : List Nat} (x : Is (m ss h) fun wk h0 => ∃ (len : Nat) (I : Nat → List SV → SH → Prop), len < many ∧ I 0 [] (h0 ++ [.lst []]) ∧
      (∀ k acc h, k < len → h[h0.length]? = some (.lst acc) → I k acc h → ∃ x h1 s1, wk h k = some (some (x, h1)) ∧ g x (wipeS ss is) h1 = some s1 ∧ Is (t s1 h1) fun b h2 =>
        if b = true then Is (e s1 h2) (fun y h3 => h3[h0.length]? = some (.lst acc) ∧ acc.length < big ∧ I (k + 1) (acc ++ [y]) (h3.set h0.length (.lst (acc ++ [y])))) else h2[h0.length]? = some (.lst acc) ∧ I (k + 1) acc h2) ∧
      (∀ acc h, h[h0.length]? = some (.lst acc) → I len acc h → wk h len = some none ∧ P (.ref h0.length) h)) : Is (mLc m g t e is ss h) P := by
  unfold mLc
  cases q : m ss h with
  | ok wk h0 =>
    rw [q] at x
    obtain ⟨len, I, hl, i0, hn, he⟩ := x
    exact Is.lcM hn he many 0 [] (h0 ++ [.lst []]) (Nat.zero_le _) (by omega) (new_at _ _) i0
  | stuck => rw [q] at x; exact x
  | ex c xs h1 => rw [q] at x; exact x
end
end Fw
namespace Fw
open PySem PySem.Spec L2
/-! the drawing of numbers that every law begins with: the defs' meanings, and what they answer -/
theorem mul_is {i j : Int} {h : SH} {P : SV → SH → Prop} (k : okMul i j = true) (p : P (.int (i * j)) h) : ∃ v h3, opMul (.int i) (.int j) h = some (v, h3) ∧ P v h3 := ⟨_, _, by show (if okMul i j = true then _ else _) = _; rw [if_pos k], p⟩
theorem mod_is {i j : Int} {h : SH} {P : SV → SH → Prop} (k : 0 < j) (p : P (.int (i % j)) h) : ∃ v h3, opMod (.int i) (.int j) h = some (v, h3) ∧ P v h3 := ⟨_, _, by show (if 0 < j then _ else _) = _; rw [if_pos k], p⟩
theorem fdiv_is {i j : Int} {h : SH} {P : SV → SH → Prop} (k : 0 < j ∧ j.natAbs.log2 < 9000) (p : P (.int (i / j)) h) : ∃ v h3, opFdiv (.int i) (.int j) h = some (v, h3) ∧ P v h3 := ⟨_, _, by show (if 0 < j ∧ j.natAbs.log2 < 9000 then _ else _) = _; rw [if_pos k], p⟩
theorem okMul_r {i j : Int} (h1 : -18446744073709551616 < j) (h2 : j < 18446744073709551616) : okMul i j = true := decide_eq_true (.inr ⟨h1, h2⟩)
theorem okMul_l {i j : Int} (h1 : -18446744073709551616 < i) (h2 : i < 18446744073709551616) : okMul i j = true := decide_eq_true (.inl ⟨h1, h2⟩)
def hashM : SM := mSeq (mSet 2 (mO2 opMod (mOA (un1 opInt) (aCons (mO2 opAdd (mO2 opAdd (mO2 opAdd (mO2 opMul (mVar 0) (mC (.int 1103515245))) (mO2 opMul (mO2 opMul (mC (.int 7919)) (mVar 1)) (mVar 1))) (mVar 1)) (mC (.int 1))) aNil)) (mC (.int 2147483647))))
  (mSeq (mSet 2 (mO2 opMod (mOA (un1 opInt) (aCons (mO2 opAdd (mO2 opMul (mVar 2) (mVar 2)) (mC (.int 69621))) aNil)) (mC (.int 2147483629)))) (mRet (mO2 opMod (mOA (un1 opInt) (aCons (mO2 opMul (mVar 2) (mC (.int 48271))) aNil)) (mC (.int 2147483587)))))
theorem hash_is {a c : Int} {h : SH} {P : SV → SH → Prop} (c1 : -18446744073709551616 < c) (c2 : c < 18446744073709551616) (p : ∀ r : Int, 0 ≤ r → r < 2147483587 → P (.int r) h) : Is (mFn 2 3 hashM [.int a, .int c] h) P := by
  refine Is.fn rfl ?_
  unfold hashM
  repeat (first | with_reducible refine Is.o2 ?_ | with_reducible refine Is.o1 ?_ | with_reducible refine Is.oa ?_ | with_reducible refine Is.acons ?_ | with_reducible refine Is.anil ?_ | with_reducible refine Is.c ?_ | with_reducible refine Is.var (by with_unfolding_all rfl) ?_ | with_reducible refine Is.call ?_ | with_reducible refine Is.bm ?_ | with_reducible refine Ist.seq ?_ | with_reducible refine Ist.set ?_ | with_reducible refine Ist.ret ?_ | with_reducible refine Ist.ite ?_ | with_reducible refine Ist.st ?_ | with_reducible refine Ist.nil ?_)
  refine mul_is (okMul_r (by decide) (by decide)) ?_
  repeat (first | with_reducible refine Is.o2 ?_ | with_reducible refine Is.o1 ?_ | with_reducible refine Is.oa ?_ | with_reducible refine Is.acons ?_ | with_reducible refine Is.anil ?_ | with_reducible refine Is.c ?_ | with_reducible refine Is.var (by with_unfolding_all rfl) ?_ | with_reducible refine Is.call ?_ | with_reducible refine Is.bm ?_ | with_reducible refine Ist.seq ?_ | with_reducible refine Ist.set ?_ | with_reducible refine Ist.ret ?_ | with_reducible refine Ist.ite ?_ | with_reducible refine Ist.st ?_ | with_reducible refine Ist.nil ?_)
  refine mul_is (okMul_l (by decide) (by decide)) ?_
  repeat (first | with_reducible refine Is.o2 ?_ | with_reducible refine Is.o1 ?_ | with_reducible refine Is.oa ?_ | with_reducible refine Is.acons ?_ | with_reducible refine Is.anil ?_ | with_reducible refine Is.c ?_ | with_reducible refine Is.var (by with_unfolding_all rfl) ?_ | with_reducible refine Is.call ?_ | with_reducible refine Is.bm ?_ | with_reducible refine Ist.seq ?_ | with_reducible refine Ist.set ?_ | with_reducible refine Ist.ret ?_ | with_reducible refine Ist.ite ?_ | with_reducible refine Ist.st ?_ | with_reducible refine Ist.nil ?_)
  refine mul_is (okMul_r c1 c2) ?_
  refine ⟨_, _, rfl, ?_⟩
  repeat (first | with_reducible refine Is.o2 ?_ | with_reducible refine Is.o1 ?_ | with_reducible refine Is.oa ?_ | with_reducible refine Is.acons ?_ | with_reducible refine Is.anil ?_ | with_reducible refine Is.c ?_ | with_reducible refine Is.var (by with_unfolding_all rfl) ?_ | with_reducible refine Is.call ?_ | with_reducible refine Is.bm ?_ | with_reducible refine Ist.seq ?_ | with_reducible refine Ist.set ?_ | with_reducible refine Ist.ret ?_ | with_reducible refine Ist.ite ?_ | with_reducible refine Ist.st ?_ | with_reducible refine Ist.nil ?_)
  refine ⟨_, _, rfl, ?_⟩
  repeat (first | with_reducible refine Is.o2 ?_ | with_reducible refine Is.o1 ?_ | with_reducible refine Is.oa ?_ | with_reducible refine Is.acons ?_ | with_reducible refine Is.anil ?_ | with_reducible refine Is.c ?_ | with_reducible refine Is.var (by with_unfolding_all rfl) ?_ | with_reducible refine Is.call ?_ | with_reducible refine Is.bm ?_ | with_reducible refine Ist.seq ?_ | with_reducible refine Ist.set ?_ | with_reducible refine Ist.ret ?_ | with_reducible refine Ist.ite ?_ | with_reducible refine Ist.st ?_ | with_reducible refine Ist.nil ?_)
  refine ⟨_, _, rfl, ?_⟩
  repeat (first | with_reducible refine Is.o2 ?_ | with_reducible refine Is.o1 ?_ | with_reducible refine Is.oa ?_ | with_reducible refine Is.acons ?_ | with_reducible refine Is.anil ?_ | with_reducible refine Is.c ?_ | with_reducible refine Is.var (by with_unfolding_all rfl) ?_ | with_reducible refine Is.call ?_ | with_reducible refine Is.bm ?_ | with_reducible refine Ist.seq ?_ | with_reducible refine Ist.set ?_ | with_reducible refine Ist.ret ?_ | with_reducible refine Ist.ite ?_ | with_reducible refine Ist.st ?_ | with_reducible refine Ist.nil ?_)
  refine ⟨_, _, rfl, ?_⟩
  repeat (first | with_reducible refine Is.o2 ?_ | with_reducible refine Is.o1 ?_ | with_reducible refine Is.oa ?_ | with_reducible refine Is.acons ?_ | with_reducible refine Is.anil ?_ | with_reducible refine Is.c ?_ | with_reducible refine Is.var (by with_unfolding_all rfl) ?_ | with_reducible refine Is.call ?_ | with_reducible refine Is.bm ?_ | with_reducible refine Ist.seq ?_ | with_reducible refine Ist.set ?_ | with_reducible refine Ist.ret ?_ | with_reducible refine Ist.ite ?_ | with_reducible refine Ist.st ?_ | with_reducible refine Ist.nil ?_)
  refine mod_is (by decide) ?_
  repeat (first | with_reducible refine Is.o2 ?_ | with_reducible refine Is.o1 ?_ | with_reducible refine Is.oa ?_ | with_reducible refine Is.acons ?_ | with_reducible refine Is.anil ?_ | with_reducible refine Is.c ?_ | with_reducible refine Is.var (by with_unfolding_all rfl) ?_ | with_reducible refine Is.call ?_ | with_reducible refine Is.bm ?_ | with_reducible refine Ist.seq ?_ | with_reducible refine Ist.set ?_ | with_reducible refine Ist.ret ?_ | with_reducible refine Ist.ite ?_ | with_reducible refine Ist.st ?_ | with_reducible refine Ist.nil ?_)
  refine mul_is (okMul_r ?_ ?_) ?_
  · omega
  · omega
  repeat (first | with_reducible refine Is.o2 ?_ | with_reducible refine Is.o1 ?_ | with_reducible refine Is.oa ?_ | with_reducible refine Is.acons ?_ | with_reducible refine Is.anil ?_ | with_reducible refine Is.c ?_ | with_reducible refine Is.var (by with_unfolding_all rfl) ?_ | with_reducible refine Is.call ?_ | with_reducible refine Is.bm ?_ | with_reducible refine Ist.seq ?_ | with_reducible refine Ist.set ?_ | with_reducible refine Ist.ret ?_ | with_reducible refine Ist.ite ?_ | with_reducible refine Ist.st ?_ | with_reducible refine Ist.nil ?_)
  refine ⟨_, _, rfl, ?_⟩
  repeat (first | with_reducible refine Is.o2 ?_ | with_reducible refine Is.o1 ?_ | with_reducible refine Is.oa ?_ | with_reducible refine Is.acons ?_ | with_reducible refine Is.anil ?_ | with_reducible refine Is.c ?_ | with_reducible refine Is.var (by with_unfolding_all rfl) ?_ | with_reducible refine Is.call ?_ | with_reducible refine Is.bm ?_ | with_reducible refine Ist.seq ?_ | with_reducible refine Ist.set ?_ | with_reducible refine Ist.ret ?_ | with_reducible refine Ist.ite ?_ | with_reducible refine Ist.st ?_ | with_reducible refine Ist.nil ?_)
  refine ⟨_, _, rfl, ?_⟩
  repeat (first | with_reducible refine Is.o2 ?_ | with_reducible refine Is.o1 ?_ | with_reducible refine Is.oa ?_ | with_reducible refine Is.acons ?_ | with_reducible refine Is.anil ?_ | with_reducible refine Is.c ?_ | with_reducible refine Is.var (by with_unfolding_all rfl) ?_ | with_reducible refine Is.call ?_ | with_reducible refine Is.bm ?_ | with_reducible refine Ist.seq ?_ | with_reducible refine Ist.set ?_ | with_reducible refine Ist.ret ?_ | with_reducible refine Ist.ite ?_ | with_reducible refine Ist.st ?_ | with_reducible refine Ist.nil ?_)
  refine mod_is (by decide) ?_
  repeat (first | with_reducible refine Is.o2 ?_ | with_reducible refine Is.o1 ?_ | with_reducible refine Is.oa ?_ | with_reducible refine Is.acons ?_ | with_reducible refine Is.anil ?_ | with_reducible refine Is.c ?_ | with_reducible refine Is.var (by with_unfolding_all rfl) ?_ | with_reducible refine Is.call ?_ | with_reducible refine Is.bm ?_ | with_reducible refine Ist.seq ?_ | with_reducible refine Ist.set ?_ | with_reducible refine Ist.ret ?_ | with_reducible refine Ist.ite ?_ | with_reducible refine Ist.st ?_ | with_reducible refine Ist.nil ?_)
  refine mul_is (okMul_r (by decide) (by decide)) ?_
  repeat (first | with_reducible refine Is.o2 ?_ | with_reducible refine Is.o1 ?_ | with_reducible refine Is.oa ?_ | with_reducible refine Is.acons ?_ | with_reducible refine Is.anil ?_ | with_reducible refine Is.c ?_ | with_reducible refine Is.var (by with_unfolding_all rfl) ?_ | with_reducible refine Is.call ?_ | with_reducible refine Is.bm ?_ | with_reducible refine Ist.seq ?_ | with_reducible refine Ist.set ?_ | with_reducible refine Ist.ret ?_ | with_reducible refine Ist.ite ?_ | with_reducible refine Ist.st ?_ | with_reducible refine Ist.nil ?_)
  refine ⟨_, _, rfl, ?_⟩
  repeat (first | with_reducible refine Is.o2 ?_ | with_reducible refine Is.o1 ?_ | with_reducible refine Is.oa ?_ | with_reducible refine Is.acons ?_ | with_reducible refine Is.anil ?_ | with_reducible refine Is.c ?_ | with_reducible refine Is.var (by with_unfolding_all rfl) ?_ | with_reducible refine Is.call ?_ | with_reducible refine Is.bm ?_ | with_reducible refine Ist.seq ?_ | with_reducible refine Ist.set ?_ | with_reducible refine Ist.ret ?_ | with_reducible refine Ist.ite ?_ | with_reducible refine Ist.st ?_ | with_reducible refine Ist.nil ?_)
  refine mod_is (by decide) ?_
  exact p _ (by omega) (by omega)
def cellM : SM := mSeq (mIfS (mB (mO2 opLt (mVar 1) (mOA (un1 opLen) (aCons (mVar 0) aNil)))) (mRet (mO2 opIx (mVar 0) (mVar 1))) mNil) (mRet (mC (.int 0)))
theorem cell_is {ns : List Int} {i : Nat} {h : SH} {P : SV → SH → Prop} (p : P (.int (ns.getD i 0)) h) : Is (mFn 2 2 cellM [.scr ns, .int i] h) P := by
  refine Is.fn rfl ?_
  unfold cellM
  repeat (first | with_reducible refine Is.o2 ?_ | with_reducible refine Is.o1 ?_ | with_reducible refine Is.oa ?_ | with_reducible refine Is.acons ?_ | with_reducible refine Is.anil ?_ | with_reducible refine Is.c ?_ | with_reducible refine Is.var (by with_unfolding_all rfl) ?_ | with_reducible refine Is.call ?_ | with_reducible refine Is.bm ?_ | with_reducible refine Ist.seq ?_ | with_reducible refine Ist.set ?_ | with_reducible refine Ist.ret ?_ | with_reducible refine Ist.ite ?_ | with_reducible refine Ist.st ?_ | with_reducible refine Ist.nil ?_)
  refine ⟨_, _, rfl, ?_⟩
  refine ⟨_, _, rfl, ?_⟩
  refine ⟨_, rfl, ?_⟩
  by_cases hl : i < ns.length
  · rw [if_pos (by simpa using (by omega : (i : Int) < (ns.length : Int)))]
    repeat (first | with_reducible refine Is.o2 ?_ | with_reducible refine Is.o1 ?_ | with_reducible refine Is.oa ?_ | with_reducible refine Is.acons ?_ | with_reducible refine Is.anil ?_ | with_reducible refine Is.c ?_ | with_reducible refine Is.var (by with_unfolding_all rfl) ?_ | with_reducible refine Is.call ?_ | with_reducible refine Is.bm ?_ | with_reducible refine Ist.seq ?_ | with_reducible refine Ist.set ?_ | with_reducible refine Ist.ret ?_ | with_reducible refine Ist.ite ?_ | with_reducible refine Ist.st ?_ | with_reducible refine Ist.nil ?_)
    refine ⟨.int ns[i], h, ?_, ?_⟩
    · show (match L2.atI ns (i : Int) with | some n => some (SV.int n, h) | none => none) = _
      have e : L2.atI ns (i : Int) = some ns[i] := by
        unfold L2.atI L2.ixN
        first
          | (rw [if_pos (by omega), if_pos (by omega)]; simp [hl])
          | (simp [hl])
      rw [e]
    · rw [List.getD_eq_getElem?_getD, List.getElem?_eq_getElem hl] at p
      exact p
  · rw [if_neg (by simpa using (by omega : (ns.length : Int) ≤ (i : Int)))]
    repeat (first | with_reducible refine Is.o2 ?_ | with_reducible refine Is.o1 ?_ | with_reducible refine Is.oa ?_ | with_reducible refine Is.acons ?_ | with_reducible refine Is.anil ?_ | with_reducible refine Is.c ?_ | with_reducible refine Is.var (by with_unfolding_all rfl) ?_ | with_reducible refine Is.call ?_ | with_reducible refine Is.bm ?_ | with_reducible refine Ist.seq ?_ | with_reducible refine Ist.set ?_ | with_reducible refine Ist.ret ?_ | with_reducible refine Ist.ite ?_ | with_reducible refine Ist.st ?_ | with_reducible refine Ist.nil ?_)
    rw [List.getD_eq_getElem?_getD, List.getElem?_eq_none (by omega)] at p
    exact p
end Fw
namespace Fw
open PySem PySem.Spec L2
theorem ix_is {g : Nat} {xs : List SV} {k : Int} {x : SV} {h : SH} {P : SV → SH → Prop} (e : h[g]? = some (.lst xs)) (ex : L2.atI xs k = some x) (p : P x h) : ∃ v h3, opIx (.ref g) (.int k) h = some (v, h3) ∧ P v h3 := by
  refine ⟨x, h, ?_, p⟩
  unfold opIx
  simp only [e, ex]
theorem st_is {g : Nat} {xs : List SV} {k : Int} {j : Nat} {v : SV} {h : SH} {Q : SH → Prop} (e : h[g]? = some (.lst xs)) (ej : L2.ixN xs.length k = some j) (p : Q (h.set g (.lst (xs.set j v)))) : ∃ h4, opSt (.ref g) (.int k) v h = some h4 ∧ Q h4 := by
  refine ⟨_, ?_, p⟩
  unfold opSt
  simp only [e, ej]
theorem pow_is {i j : Int} {h : SH} {P : SV → SH → Prop} (k : 0 ≤ j ∧ (Builtin.Int.intBits i : Int) * j ≤ 134217728) (p : P (.int (i ^ j.toNat)) h) : ∃ v h3, opPow (.int i) (.int j) h = some (v, h3) ∧ P v h3 := ⟨_, _, by show (if 0 ≤ j ∧ (Builtin.Int.intBits i : Int) * j ≤ 134217728 then _ else _) = _; rw [if_pos k], p⟩
theorem lst_is {xs : List SV} {h : SH} {P : SV → SH → Prop} (k : xs.length ≤ big) (p : P (.ref h.length) (h ++ [.lst xs])) : ∃ v h3, opLst xs h = some (v, h3) ∧ P v h3 := ⟨_, _, by unfold opLst; rw [if_pos k]; rfl, p⟩
def genM : SM := mSeq (mSet 2 (mCall (mFn 2 2 cellM) (aCons (mVar 0) (aCons (mVar 1) aNil)))) (mRet (mOA opLst (aCons (mO2 opMod (mOA (un1 opInt) (aCons (mOA (bin2 opMax) (aCons (mO2 opSub (mVar 2) (mO2 opPow (mC (.int 10)) (mC (.int 18)))) (aCons (mC (.int 0)) aNil))) aNil)) (mO2 opPow (mO2 opPow (mC (.int 10)) (mC (.int 60))) (mC (.int 10))))
  (aCons (mO2 opMod (mOA (un1 opInt) (aCons (mVar 2) aNil)) (mC (.int 2147483647))) (aCons (mO2 opMul (mC (.int 1000)) (mVar 1)) aNil)))))
theorem gen_is {ns : List Int} {i : Nat} {h : SH} {P : SV → SH → Prop} (p : ∀ a b : Int, 0 ≤ a → 0 ≤ b → b < 2147483647 → P (.ref h.length) (h ++ [.lst [.int a, .int b, .int (1000 * (i : Int))]])) : Is (mFn 2 3 genM [.scr ns, .int i] h) P := by
  refine Is.fn rfl ?_
  unfold genM
  repeat (first | with_reducible refine Is.o2 ?_ | with_reducible refine Is.o1 ?_ | with_reducible refine Is.oa ?_ | with_reducible refine Is.acons ?_ | with_reducible refine Is.anil ?_ | with_reducible refine Is.c ?_ | with_reducible refine Is.var (by with_unfolding_all rfl) ?_ | with_reducible refine Is.call ?_ | with_reducible refine Is.bm ?_ | with_reducible refine Ist.seq ?_ | with_reducible refine Ist.set ?_ | with_reducible refine Ist.ret ?_ | with_reducible refine Ist.ite ?_ | with_reducible refine Ist.st ?_ | with_reducible refine Ist.nil ?_)
  refine cell_is ?_
  repeat (first | with_reducible refine Is.o2 ?_ | with_reducible refine Is.o1 ?_ | with_reducible refine Is.oa ?_ | with_reducible refine Is.acons ?_ | with_reducible refine Is.anil ?_ | with_reducible refine Is.c ?_ | with_reducible refine Is.var (by with_unfolding_all rfl) ?_ | with_reducible refine Is.call ?_ | with_reducible refine Is.bm ?_ | with_reducible refine Ist.seq ?_ | with_reducible refine Ist.set ?_ | with_reducible refine Ist.ret ?_ | with_reducible refine Ist.ite ?_ | with_reducible refine Ist.st ?_ | with_reducible refine Ist.nil ?_)
  refine pow_is (by decide +kernel) ?_
  refine ⟨_, _, rfl, ?_⟩
  repeat (first | with_reducible refine Is.o2 ?_ | with_reducible refine Is.o1 ?_ | with_reducible refine Is.oa ?_ | with_reducible refine Is.acons ?_ | with_reducible refine Is.anil ?_ | with_reducible refine Is.c ?_ | with_reducible refine Is.var (by with_unfolding_all rfl) ?_ | with_reducible refine Is.call ?_ | with_reducible refine Is.bm ?_ | with_reducible refine Ist.seq ?_ | with_reducible refine Ist.set ?_ | with_reducible refine Ist.ret ?_ | with_reducible refine Ist.ite ?_ | with_reducible refine Ist.st ?_ | with_reducible refine Ist.nil ?_)
  refine ⟨_, _, rfl, ?_⟩
  repeat (first | with_reducible refine Is.o2 ?_ | with_reducible refine Is.o1 ?_ | with_reducible refine Is.oa ?_ | with_reducible refine Is.acons ?_ | with_reducible refine Is.anil ?_ | with_reducible refine Is.c ?_ | with_reducible refine Is.var (by with_unfolding_all rfl) ?_ | with_reducible refine Is.call ?_ | with_reducible refine Is.bm ?_ | with_reducible refine Ist.seq ?_ | with_reducible refine Ist.set ?_ | with_reducible refine Ist.ret ?_ | with_reducible refine Ist.ite ?_ | with_reducible refine Ist.st ?_ | with_reducible refine Ist.nil ?_)
  refine ⟨_, _, rfl, ?_⟩
  repeat (first | with_reducible refine Is.o2 ?_ | with_reducible refine Is.o1 ?_ | with_reducible refine Is.oa ?_ | with_reducible refine Is.acons ?_ | with_reducible refine Is.anil ?_ | with_reducible refine Is.c ?_ | with_reducible refine Is.var (by with_unfolding_all rfl) ?_ | with_reducible refine Is.call ?_ | with_reducible refine Is.bm ?_ | with_reducible refine Ist.seq ?_ | with_reducible refine Ist.set ?_ | with_reducible refine Ist.ret ?_ | with_reducible refine Ist.ite ?_ | with_reducible refine Ist.st ?_ | with_reducible refine Ist.nil ?_)
  refine pow_is (by decide +kernel) ?_
  repeat (first | with_reducible refine Is.o2 ?_ | with_reducible refine Is.o1 ?_ | with_reducible refine Is.oa ?_ | with_reducible refine Is.acons ?_ | with_reducible refine Is.anil ?_ | with_reducible refine Is.c ?_ | with_reducible refine Is.var (by with_unfolding_all rfl) ?_ | with_reducible refine Is.call ?_ | with_reducible refine Is.bm ?_ | with_reducible refine Ist.seq ?_ | with_reducible refine Ist.set ?_ | with_reducible refine Ist.ret ?_ | with_reducible refine Ist.ite ?_ | with_reducible refine Ist.st ?_ | with_reducible refine Ist.nil ?_)
  refine pow_is (by decide +kernel) ?_
  refine mod_is (by decide +kernel) ?_
  repeat (first | with_reducible refine Is.o2 ?_ | with_reducible refine Is.o1 ?_ | with_reducible refine Is.oa ?_ | with_reducible refine Is.acons ?_ | with_reducible refine Is.anil ?_ | with_reducible refine Is.c ?_ | with_reducible refine Is.var (by with_unfolding_all rfl) ?_ | with_reducible refine Is.call ?_ | with_reducible refine Is.bm ?_ | with_reducible refine Ist.seq ?_ | with_reducible refine Ist.set ?_ | with_reducible refine Ist.ret ?_ | with_reducible refine Ist.ite ?_ | with_reducible refine Ist.st ?_ | with_reducible refine Ist.nil ?_)
  refine ⟨_, _, rfl, ?_⟩
  repeat (first | with_reducible refine Is.o2 ?_ | with_reducible refine Is.o1 ?_ | with_reducible refine Is.oa ?_ | with_reducible refine Is.acons ?_ | with_reducible refine Is.anil ?_ | with_reducible refine Is.c ?_ | with_reducible refine Is.var (by with_unfolding_all rfl) ?_ | with_reducible refine Is.call ?_ | with_reducible refine Is.bm ?_ | with_reducible refine Ist.seq ?_ | with_reducible refine Ist.set ?_ | with_reducible refine Ist.ret ?_ | with_reducible refine Ist.ite ?_ | with_reducible refine Ist.st ?_ | with_reducible refine Ist.nil ?_)
  refine mod_is (by decide) ?_
  repeat (first | with_reducible refine Is.o2 ?_ | with_reducible refine Is.o1 ?_ | with_reducible refine Is.oa ?_ | with_reducible refine Is.acons ?_ | with_reducible refine Is.anil ?_ | with_reducible refine Is.c ?_ | with_reducible refine Is.var (by with_unfolding_all rfl) ?_ | with_reducible refine Is.call ?_ | with_reducible refine Is.bm ?_ | with_reducible refine Ist.seq ?_ | with_reducible refine Ist.set ?_ | with_reducible refine Ist.ret ?_ | with_reducible refine Ist.ite ?_ | with_reducible refine Ist.st ?_ | with_reducible refine Ist.nil ?_)
  refine mul_is (okMul_l (by decide) (by decide)) ?_
  repeat (first | with_reducible refine Is.o2 ?_ | with_reducible refine Is.o1 ?_ | with_reducible refine Is.oa ?_ | with_reducible refine Is.acons ?_ | with_reducible refine Is.anil ?_ | with_reducible refine Is.c ?_ | with_reducible refine Is.var (by with_unfolding_all rfl) ?_ | with_reducible refine Is.call ?_ | with_reducible refine Is.bm ?_ | with_reducible refine Ist.seq ?_ | with_reducible refine Ist.set ?_ | with_reducible refine Ist.ret ?_ | with_reducible refine Ist.ite ?_ | with_reducible refine Ist.st ?_ | with_reducible refine Ist.nil ?_)
  refine lst_is (by show 3 ≤ 16777216; decide) ?_
  refine p _ _ ?_ (by omega) (by omega)
  exact Int.emod_nonneg _ (by decide +kernel)
def randM : SM := mSeq (mIfS (mB (mO2 opGt (mO2 opIx (mVar 0) (mC (.int 0))) (mC (.int 0)))) (mSeq (mSet 2 (mO2 opMod (mOA (un1 opInt) (aCons (mO2 opIx (mVar 0) (mC (.int 0))) aNil)) (mVar 1))) (mSeq (mSt (mO2 opFdiv (mO2 opIx (mVar 0) (mC (.int 0))) (mVar 1)) (mVar 0) (mC (.int 0))) (mRet (mVar 2)))) mNil)
  (mSeq (mSet 2 (mC (.int 0))) (mSeq (mFor (mRng1 (aCons (mO2 opAdd (mC (.int 1)) (mO2 opFdiv (mO1 opBits (mVar 1)) (mC (.int 30)))) aNil)) (gVar 3) (mSeq (mSt (mO2 opAdd (mO2 opIx (mVar 0) (mC (.int 2))) (mC (.int 1))) (mVar 0) (mC (.int 2)))
    (mSet 2 (mO2 opAdd (mO2 opMul (mVar 2) (mC (.int 2147483587))) (mCall (mFn 2 3 hashM) (aCons (mO2 opIx (mVar 0) (mC (.int 1))) (aCons (mO2 opIx (mVar 0) (mC (.int 2))) aNil))))))) (mRet (mO2 opMod (mOA (un1 opInt) (aCons (mVar 2) aNil)) (mVar 1)))))
/-- a number drawn: 0 ≤ r < n; the generator's list stays where it is, its counter grows by a few -/
theorem rand_is {g : Nat} {a b c n : Int} {h : SH} {P : SV → SH → Prop} (hg : h[g]? = some (.lst [.int a, .int b, .int c])) (hn : 0 < n) (hl : n.natAbs.log2 < 9000) (hbits : Builtin.Int.intBits n < 100000) (ha : 0 ≤ a) (hc0 : 0 ≤ c) (hc : c < 1152921504606846976)
    (p : ∀ r a' c' : Int, 0 ≤ r → r < n → 0 ≤ a' → c ≤ c' → c' ≤ c + 4000 → P (.int r) (h.set g (.lst [.int a', .int b, .int c']))) : Is (mFn 2 4 randM [.ref g, .int n] h) P := by
  refine Is.fn rfl ?_
  unfold randM
  repeat (first | with_reducible refine Is.o2 ?_ | with_reducible refine Is.o1 ?_ | with_reducible refine Is.oa ?_ | with_reducible refine Is.acons ?_ | with_reducible refine Is.anil ?_ | with_reducible refine Is.c ?_ | with_reducible refine Is.var (by with_unfolding_all rfl) ?_ | with_reducible refine Is.call ?_ | with_reducible refine Is.bm ?_ | with_reducible refine Ist.seq ?_ | with_reducible refine Ist.set ?_ | with_reducible refine Ist.ret ?_ | with_reducible refine Ist.ite ?_ | with_reducible refine Ist.st ?_ | with_reducible refine Ist.nil ?_)
  refine ix_is hg rfl ?_
  repeat (first | with_reducible refine Is.o2 ?_ | with_reducible refine Is.o1 ?_ | with_reducible refine Is.oa ?_ | with_reducible refine Is.acons ?_ | with_reducible refine Is.anil ?_ | with_reducible refine Is.c ?_ | with_reducible refine Is.var (by with_unfolding_all rfl) ?_ | with_reducible refine Is.call ?_ | with_reducible refine Is.bm ?_ | with_reducible refine Ist.seq ?_ | with_reducible refine Ist.set ?_ | with_reducible refine Ist.ret ?_ | with_reducible refine Ist.ite ?_ | with_reducible refine Ist.st ?_ | with_reducible refine Ist.nil ?_)
  refine ⟨_, _, rfl, ?_⟩
  refine ⟨_, rfl, ?_⟩
  by_cases h0 : 0 < a
  · rw [if_pos (decide_eq_true h0)]
    repeat (first | with_reducible refine Is.o2 ?_ | with_reducible refine Is.o1 ?_ | with_reducible refine Is.oa ?_ | with_reducible refine Is.acons ?_ | with_reducible refine Is.anil ?_ | with_reducible refine Is.c ?_ | with_reducible refine Is.var (by with_unfolding_all rfl) ?_ | with_reducible refine Is.call ?_ | with_reducible refine Is.bm ?_ | with_reducible refine Ist.seq ?_ | with_reducible refine Ist.set ?_ | with_reducible refine Ist.ret ?_ | with_reducible refine Ist.ite ?_ | with_reducible refine Ist.st ?_ | with_reducible refine Ist.nil ?_)
    refine ix_is hg rfl ?_
    repeat (first | with_reducible refine Is.o2 ?_ | with_reducible refine Is.o1 ?_ | with_reducible refine Is.oa ?_ | with_reducible refine Is.acons ?_ | with_reducible refine Is.anil ?_ | with_reducible refine Is.c ?_ | with_reducible refine Is.var (by with_unfolding_all rfl) ?_ | with_reducible refine Is.call ?_ | with_reducible refine Is.bm ?_ | with_reducible refine Ist.seq ?_ | with_reducible refine Ist.set ?_ | with_reducible refine Ist.ret ?_ | with_reducible refine Ist.ite ?_ | with_reducible refine Ist.st ?_ | with_reducible refine Ist.nil ?_)
    refine ⟨_, _, rfl, ?_⟩
    repeat (first | with_reducible refine Is.o2 ?_ | with_reducible refine Is.o1 ?_ | with_reducible refine Is.oa ?_ | with_reducible refine Is.acons ?_ | with_reducible refine Is.anil ?_ | with_reducible refine Is.c ?_ | with_reducible refine Is.var (by with_unfolding_all rfl) ?_ | with_reducible refine Is.call ?_ | with_reducible refine Is.bm ?_ | with_reducible refine Ist.seq ?_ | with_reducible refine Ist.set ?_ | with_reducible refine Ist.ret ?_ | with_reducible refine Ist.ite ?_ | with_reducible refine Ist.st ?_ | with_reducible refine Ist.nil ?_)
    refine mod_is hn ?_
    repeat (first | with_reducible refine Is.o2 ?_ | with_reducible refine Is.o1 ?_ | with_reducible refine Is.oa ?_ | with_reducible refine Is.acons ?_ | with_reducible refine Is.anil ?_ | with_reducible refine Is.c ?_ | with_reducible refine Is.var (by with_unfolding_all rfl) ?_ | with_reducible refine Is.call ?_ | with_reducible refine Is.bm ?_ | with_reducible refine Ist.seq ?_ | with_reducible refine Ist.set ?_ | with_reducible refine Ist.ret ?_ | with_reducible refine Ist.ite ?_ | with_reducible refine Ist.st ?_ | with_reducible refine Ist.nil ?_)
    refine ix_is hg rfl ?_
    repeat (first | with_reducible refine Is.o2 ?_ | with_reducible refine Is.o1 ?_ | with_reducible refine Is.oa ?_ | with_reducible refine Is.acons ?_ | with_reducible refine Is.anil ?_ | with_reducible refine Is.c ?_ | with_reducible refine Is.var (by with_unfolding_all rfl) ?_ | with_reducible refine Is.call ?_ | with_reducible refine Is.bm ?_ | with_reducible refine Ist.seq ?_ | with_reducible refine Ist.set ?_ | with_reducible refine Ist.ret ?_ | with_reducible refine Ist.ite ?_ | with_reducible refine Ist.st ?_ | with_reducible refine Ist.nil ?_)
    refine fdiv_is ⟨hn, hl⟩ ?_
    repeat (first | with_reducible refine Is.o2 ?_ | with_reducible refine Is.o1 ?_ | with_reducible refine Is.oa ?_ | with_reducible refine Is.acons ?_ | with_reducible refine Is.anil ?_ | with_reducible refine Is.c ?_ | with_reducible refine Is.var (by with_unfolding_all rfl) ?_ | with_reducible refine Is.call ?_ | with_reducible refine Is.bm ?_ | with_reducible refine Ist.seq ?_ | with_reducible refine Ist.set ?_ | with_reducible refine Ist.ret ?_ | with_reducible refine Ist.ite ?_ | with_reducible refine Ist.st ?_ | with_reducible refine Ist.nil ?_)
    refine st_is hg (j := 0) rfl ?_
    repeat (first | with_reducible refine Is.o2 ?_ | with_reducible refine Is.o1 ?_ | with_reducible refine Is.oa ?_ | with_reducible refine Is.acons ?_ | with_reducible refine Is.anil ?_ | with_reducible refine Is.c ?_ | with_reducible refine Is.var (by with_unfolding_all rfl) ?_ | with_reducible refine Is.call ?_ | with_reducible refine Is.bm ?_ | with_reducible refine Ist.seq ?_ | with_reducible refine Ist.set ?_ | with_reducible refine Ist.ret ?_ | with_reducible refine Ist.ite ?_ | with_reducible refine Ist.st ?_ | with_reducible refine Ist.nil ?_)
    exact p _ _ _ (Int.emod_nonneg _ (by omega)) (Int.emod_lt_of_pos _ hn) (Int.ediv_nonneg ha (by omega)) (Int.le_refl _) (by omega)
  · rw [if_neg (by simpa using h0)]
    repeat (first | with_reducible refine Is.o2 ?_ | with_reducible refine Is.o1 ?_ | with_reducible refine Is.oa ?_ | with_reducible refine Is.acons ?_ | with_reducible refine Is.anil ?_ | with_reducible refine Is.c ?_ | with_reducible refine Is.var (by with_unfolding_all rfl) ?_ | with_reducible refine Is.call ?_ | with_reducible refine Is.bm ?_ | with_reducible refine Ist.seq ?_ | with_reducible refine Ist.set ?_ | with_reducible refine Ist.ret ?_ | with_reducible refine Ist.ite ?_ | with_reducible refine Ist.st ?_ | with_reducible refine Ist.nil ?_)
    with_reducible refine Ist.for ?_
    with_reducible refine Is.rng1 ?_
    refine Is.acons (Is.o2 (Is.c (Is.o2 (Is.o1 (Is.var rfl ?_)))))
    refine ⟨.int (Builtin.Int.intBits n : Nat), _, rfl, ?_⟩
    refine Is.c ?_
    refine fdiv_is (by decide) ?_
    refine ⟨.int (1 + (Builtin.Int.intBits n : Int) / 30), _, rfl, ?_⟩
    refine Is.anil ?_
    have hb : (1 + (Builtin.Int.intBits n : Int) / 30) < 4000 := by omega
    have hb0 : 0 ≤ (1 + (Builtin.Int.intBits n : Int) / 30) := by omega
    refine ⟨_, rfl, decide_eq_true (by omega), (1 + (Builtin.Int.intBits n : Int) / 30).toNat, fun k ss hh => ∃ (d : Int) (v : Option SV), ss = [some (.ref g), some (.int n), some (.int d), v] ∧ hh = h.set g (.lst [.int a, .int b, .int (c + (k : Int))]), by unfold many; omega, ⟨0, none, rfl, ?_⟩, ?_, ?_⟩
    · rw [show c + ((0 : Nat) : Int) = c from by omega]
      apply List.ext_getElem?
      intro j
      by_cases hj : g = j
      · subst hj; rw [set_at hg, hg]
      · rw [set_ne hj]
    · rintro k _ _ hk ⟨d, v, rfl, rfl⟩
      refine ⟨_, _, _, wkRng_at hk, rfl, ?_⟩
      have e1 := set_at (o := .lst [.int a, .int b, .int (c + (k : Int))]) hg
      refine Ist.seq (Ist.st ?_)
      repeat (first | with_reducible refine Is.o2 ?_ | with_reducible refine Is.o1 ?_ | with_reducible refine Is.oa ?_ | with_reducible refine Is.acons ?_ | with_reducible refine Is.anil ?_ | with_reducible refine Is.c ?_ | with_reducible refine Is.var (by with_unfolding_all rfl) ?_ | with_reducible refine Is.call ?_ | with_reducible refine Is.bm ?_ | with_reducible refine Ist.seq ?_ | with_reducible refine Ist.set ?_ | with_reducible refine Ist.ret ?_ | with_reducible refine Ist.ite ?_ | with_reducible refine Ist.st ?_ | with_reducible refine Ist.nil ?_)
      refine ix_is e1 rfl ?_
      repeat (first | with_reducible refine Is.o2 ?_ | with_reducible refine Is.o1 ?_ | with_reducible refine Is.oa ?_ | with_reducible refine Is.acons ?_ | with_reducible refine Is.anil ?_ | with_reducible refine Is.c ?_ | with_reducible refine Is.var (by with_unfolding_all rfl) ?_ | with_reducible refine Is.call ?_ | with_reducible refine Is.bm ?_ | with_reducible refine Ist.seq ?_ | with_reducible refine Ist.set ?_ | with_reducible refine Ist.ret ?_ | with_reducible refine Ist.ite ?_ | with_reducible refine Ist.st ?_ | with_reducible refine Ist.nil ?_)
      refine ⟨_, _, rfl, ?_⟩
      repeat (first | with_reducible refine Is.o2 ?_ | with_reducible refine Is.o1 ?_ | with_reducible refine Is.oa ?_ | with_reducible refine Is.acons ?_ | with_reducible refine Is.anil ?_ | with_reducible refine Is.c ?_ | with_reducible refine Is.var (by with_unfolding_all rfl) ?_ | with_reducible refine Is.call ?_ | with_reducible refine Is.bm ?_ | with_reducible refine Ist.seq ?_ | with_reducible refine Ist.set ?_ | with_reducible refine Ist.ret ?_ | with_reducible refine Ist.ite ?_ | with_reducible refine Ist.st ?_ | with_reducible refine Ist.nil ?_)
      refine st_is e1 (j := 2) rfl ?_
      have e2 := set_at (o := .lst (([.int a, .int b, .int (c + (k : Int))] : List SV).set 2 (.int (c + (k : Int) + 1)))) e1
      refine Ist.set ?_
      repeat (first | with_reducible refine Is.o2 ?_ | with_reducible refine Is.o1 ?_ | with_reducible refine Is.oa ?_ | with_reducible refine Is.acons ?_ | with_reducible refine Is.anil ?_ | with_reducible refine Is.c ?_ | with_reducible refine Is.var (by with_unfolding_all rfl) ?_ | with_reducible refine Is.call ?_ | with_reducible refine Is.bm ?_ | with_reducible refine Ist.seq ?_ | with_reducible refine Ist.set ?_ | with_reducible refine Ist.ret ?_ | with_reducible refine Ist.ite ?_ | with_reducible refine Ist.st ?_ | with_reducible refine Ist.nil ?_)
      refine mul_is (okMul_r (by decide) (by decide)) ?_
      repeat (first | with_reducible refine Is.o2 ?_ | with_reducible refine Is.o1 ?_ | with_reducible refine Is.oa ?_ | with_reducible refine Is.acons ?_ | with_reducible refine Is.anil ?_ | with_reducible refine Is.c ?_ | with_reducible refine Is.var (by with_unfolding_all rfl) ?_ | with_reducible refine Is.call ?_ | with_reducible refine Is.bm ?_ | with_reducible refine Ist.seq ?_ | with_reducible refine Ist.set ?_ | with_reducible refine Ist.ret ?_ | with_reducible refine Ist.ite ?_ | with_reducible refine Ist.st ?_ | with_reducible refine Ist.nil ?_)
      refine ix_is e2 rfl ?_
      repeat (first | with_reducible refine Is.o2 ?_ | with_reducible refine Is.o1 ?_ | with_reducible refine Is.oa ?_ | with_reducible refine Is.acons ?_ | with_reducible refine Is.anil ?_ | with_reducible refine Is.c ?_ | with_reducible refine Is.var (by with_unfolding_all rfl) ?_ | with_reducible refine Is.call ?_ | with_reducible refine Is.bm ?_ | with_reducible refine Ist.seq ?_ | with_reducible refine Ist.set ?_ | with_reducible refine Ist.ret ?_ | with_reducible refine Ist.ite ?_ | with_reducible refine Ist.st ?_ | with_reducible refine Ist.nil ?_)
      refine ix_is e2 rfl ?_
      repeat (first | with_reducible refine Is.o2 ?_ | with_reducible refine Is.o1 ?_ | with_reducible refine Is.oa ?_ | with_reducible refine Is.acons ?_ | with_reducible refine Is.anil ?_ | with_reducible refine Is.c ?_ | with_reducible refine Is.var (by with_unfolding_all rfl) ?_ | with_reducible refine Is.call ?_ | with_reducible refine Is.bm ?_ | with_reducible refine Ist.seq ?_ | with_reducible refine Ist.set ?_ | with_reducible refine Ist.ret ?_ | with_reducible refine Ist.ite ?_ | with_reducible refine Ist.st ?_ | with_reducible refine Ist.nil ?_)
      refine hash_is (by omega) (by omega) fun r r0 r1 => ?_
      refine ⟨_, _, rfl, ?_⟩
      refine ⟨_, _, rfl, ?_⟩
      rw [List.set_set]
      show h.set g (.lst [.int a, .int b, .int (c + (k : Int) + 1)]) = _
      rw [show c + (k : Int) + 1 = c + ((k + 1 : Nat) : Int) from by omega]
    · rintro _ _ ⟨d, v, rfl, rfl⟩
      refine ⟨wkRng_end, ?_⟩
      repeat (first | with_reducible refine Is.o2 ?_ | with_reducible refine Is.o1 ?_ | with_reducible refine Is.oa ?_ | with_reducible refine Is.acons ?_ | with_reducible refine Is.anil ?_ | with_reducible refine Is.c ?_ | with_reducible refine Is.var (by with_unfolding_all rfl) ?_ | with_reducible refine Is.call ?_ | with_reducible refine Is.bm ?_ | with_reducible refine Ist.seq ?_ | with_reducible refine Ist.set ?_ | with_reducible refine Ist.ret ?_ | with_reducible refine Ist.ite ?_ | with_reducible refine Ist.st ?_ | with_reducible refine Ist.nil ?_)
      refine ⟨_, _, rfl, ?_⟩
      repeat (first | with_reducible refine Is.o2 ?_ | with_reducible refine Is.o1 ?_ | with_reducible refine Is.oa ?_ | with_reducible refine Is.acons ?_ | with_reducible refine Is.anil ?_ | with_reducible refine Is.c ?_ | with_reducible refine Is.var (by with_unfolding_all rfl) ?_ | with_reducible refine Is.call ?_ | with_reducible refine Is.bm ?_ | with_reducible refine Ist.seq ?_ | with_reducible refine Ist.set ?_ | with_reducible refine Ist.ret ?_ | with_reducible refine Ist.ite ?_ | with_reducible refine Ist.st ?_ | with_reducible refine Ist.nil ?_)
      refine mod_is hn ?_
      exact p _ _ _ (Int.emod_nonneg _ (by omega)) (Int.emod_lt_of_pos _ hn) ha (by omega) (by omega)
end Fw
namespace Gn
open PySem PySem.Spec PyProof.Rows L2 Fw
def top (i : Nat) : Stmt := PySem.Challenge.pw_floorwalks_k70_programs_written_and_read.main.body.getD i (.Pass ⟨0, 0, 0, 0⟩)
def is_Program : Tag → Option Bool
  | .non => some false
  | .bl => some false
  | .int => some false
  | .str => some false
  | .lst => some false
  | .tup => some false
  | .dct => some false
  | .ins 6 => some false
  | .ins 7 => some true
  | _ => none
def is_bool : Tag → Option Bool
  | .non => some false
  | .bl => some true
  | .int => some false
  | .str => some false
  | .lst => some false
  | .tup => some false
  | .dct => some false
  | _ => none
def is_int : Tag → Option Bool
  | .non => some false
  | .bl => some true
  | .int => some true
  | .str => some false
  | .lst => some false
  | .tup => some false
  | .dct => some false
  | _ => none
def is_list : Tag → Option Bool
  | .non => some false
  | .bl => some false
  | .int => some false
  | .str => some false
  | .lst => some true
  | .tup => some false
  | .dct => some false
  | _ => none
def is_str : Tag → Option Bool
  | .non => some false
  | .bl => some false
  | .int => some false
  | .str => some true
  | .lst => some false
  | .tup => some false
  | .dct => some false
  | _ => none
def is_tuple : Tag → Option Bool
  | .non => some false
  | .bl => some false
  | .int => some false
  | .str => some false
  | .lst => some false
  | .tup => some true
  | .dct => some false
  | _ => none
def x__at : List (Option Nat) := [none, none, none, none, none, none, some 0, none]
def x__common : List (Option Nat) := [none, none, none, none, none, none, some 3, none]
def x__moves : List (Option Nat) := [none, none, none, none, none, none, none, some 1]
def x__places : List (Option Nat) := [none, none, none, none, none, none, none, some 0]
def x__tables : List (Option Nat) := [none, none, none, none, none, none, some 2, none]
def x__walks : List (Option Nat) := [none, none, none, none, none, none, none, some 2]
def x__ways : List (Option Nat) := [none, none, none, none, none, none, some 1, none]
def x_value : List (Option Nat) := [none, some 0, some 0, some 0, some 0, none, none, none]
def sub_InvalidProgram : Nat → Option Bool
  | 0 => some false
  | 1 => some false
  | 2 => some false
  | 3 => some true
  | 4 => some false
  | _ => none
def c_AMOUNTS : EM := mC (.str "01234")
def c_LEASTS : EM := mC (.str "012345678")
def c_LONGEST_NAME : EM := mC (.int 8)
def c_MOST_CHANGE : EM := mC (.int 4)
def c_MOST_LEAST : EM := mC (.int 8)
def c_MOST_MOVES : EM := mC (.int 10)
def c_MOST_PLACES : EM := mC (.int 4)
def c_MOVE : EM := mC (.str "move")
def c_PLACES : EM := mC (.str "places")
def c_SIGNS : EM := mC (.str "+-")
abbrev cn_WalkError : Nat := 0
abbrev cn_InvalidList : Nat := 1
abbrev cn_InvalidItem : Nat := 2
abbrev cn_InvalidProgram : Nat := 3
abbrev cn_InvalidText : Nat := 4
abbrev cn_Table : Nat := 5
abbrev cn_Walks : Nat := 6
abbrev cn_Program : Nat := 7
structure Tx (P : Program) (w : World) (K : PySem.W.Frag) (mg : Str → Option Value) (base : Heap) (en : En) (CC : Nat → Addr) : Prop where
  hK : K = en.K
  sm : ∃ o, base.get? sysModules = some o
  b_all : mg "all" = none
  b_bool : mg "bool" = none
  b_enumerate : mg "enumerate" = none
  b_int : mg "int" = none
  b_isinstance : mg "isinstance" = none
  b_len : mg "len" = none
  b_list : mg "list" = none
  b_max : mg "max" = none
  b_min : mg "min" = none
  b_range : mg "range" = none
  b_repr : mg "repr" = none
  b_str : mg "str" = none
  b_tuple : mg "tuple" = none
  c_AMOUNTS : ∃ t, mg "AMOUNTS" = some (.str "01234" t)
  c_LEASTS : ∃ t, mg "LEASTS" = some (.str "012345678" t)
  c_LONGEST_NAME : ∃ t, mg "LONGEST_NAME" = some (.int 8 t)
  c_MOST_CHANGE : ∃ t, mg "MOST_CHANGE" = some (.int 4 t)
  c_MOST_LEAST : ∃ t, mg "MOST_LEAST" = some (.int 8 t)
  c_MOST_MOVES : ∃ t, mg "MOST_MOVES" = some (.int 10 t)
  c_MOST_PLACES : ∃ t, mg "MOST_PLACES" = some (.int 4 t)
  c_MOVE : ∃ t, mg "MOVE" = some (.str "move" t)
  c_PLACES : ∃ t, mg "PLACES" = some (.str "places" t)
  c_SIGNS : ∃ t, mg "SIGNS" = some (.str "+-" t)
  m_gcd : mg "gcd" = some (.builtin "math.gcd")
  m_lcm : mg "lcm" = some (.builtin "math.lcm")
  g_InvalidProgram : mg "InvalidProgram" = some (.ref (CC 3))
  g_Program : mg "Program" = some (.ref (CC 7))
  g_Walks : mg "Walks" = some (.ref (CC 6))
  e1 : ErrAt P w K mg en 1 1 "InvalidList"
  e2 : ErrAt P w K mg en 2 1 "InvalidItem"
  e3 : ErrAt P w K mg en 3 1 "InvalidProgram"
  e4 : ErrAt P w K mg en 4 1 "InvalidText"
  is_Program : IsiOk en (.ref (CC 7)) is_Program
  is_bool : IsiOk en (.type "bool") is_bool
  is_int : IsiOk en (.type "int") is_int
  is_list : IsiOk en (.type "list") is_list
  is_str : IsiOk en (.type "str") is_str
  is_tuple : IsiOk en (.type "tuple") is_tuple
  x__at : FldOk en "_at" x__at
  x__common : FldOk en "_common" x__common
  x__moves : FldOk en "_moves" x__moves
  x__places : FldOk en "_places" x__places
  x__tables : FldOk en "_tables" x__tables
  x__walks : FldOk en "_walks" x__walks
  x__ways : FldOk en "_ways" x__ways
  x_value : ExfOk en "value" x_value
  sub_InvalidProgram : SubOk en (.ref (CC 3)) sub_InvalidProgram
  own : OwnB K en [7]
section
variable {P : Program} {w : World} {K : PySem.W.Frag} {mg : Str → Option Value} {base : Heap} {en : En} {CC : Nat → Addr}
/-! _law_cell -/
abbrev s55 : Stmt := top 55
def m55 : SM := (mSeq (mIfS (mB (mO2 opLt (mVar 1) (mOA (un1 opLen) (aCons (mVar 0) aNil)))) (mRet (mO2 opIx (mVar 0) (mVar 1))) mNil) (mRet (mC (.int 0))))
def f55 : FM := mFn 2 2 m55
abbrev mn__law_cell : SM := m55
abbrev fn__law_cell : FM := f55
theorem sc55 : FnScope ["_law_script", "_law_index"] ["_law_script", "_law_index"] (defScope s55) := ⟨rfl, rfl, rfl, by decide +kernel, rfl, by decide +kernel, by decide +kernel⟩
theorem ok55 (T : Tx P w K mg base en CC) {f : Addr} {fd : FuncData} (F : L2.Fun K "_law_cell" "_law_cell" s55 f fd)  : FnG P w K mg base 1 f fd ["_law_script", "_law_index"] (spM en 2 f55) := by
  obtain ⟨oc, od, kV, doc, pm, an, cdv, ct, osl, rfl, lk, hcd⟩ := F.ex
  exact fnG_of lk hcd sc55 T.hK T.sm fun A outer s H E G => (PSs.cons (PS.if (PT.cmp op_ltM (PE.var 1) (PE.callB (call_lenM G.K) rfl T.b_len rfl (PA.cons (PE.var 0) PA.nil)) (nomark _)) (PSs.one (PS.ret (PE.ix G.K G.u1 (PE.var 0) (PE.var 1) (fun _ _ => rfl)))) PSs.nil) (PSs.one (PS.ret PE.int)))
theorem at55 (T : Tx P w K mg base en CC) {f : Addr} {fd : FuncData} (F : L2.Fun K "_law_cell" "_law_cell" s55 f fd) (hm : mg "_law_cell" = some (.ref f))  : DefAt P w K mg base en 1 "_law_cell" 2 f55 :=
  DefAt.mk' hm F (ok55 T F ) (F.binds fun _ _ _ _ _ _ us hl => match us, hl with | [_, _], _ => rfl)
/-! _law_generator -/
abbrev s58 : Stmt := top 58
def m58 : SM := (mSeq (mSet 2 (mCall f55 (aCons (mVar 0) (aCons (mVar 1) aNil)))) (mRet (mOA opLst (aCons (mO2 opMod (mOA (un1 opInt) (aCons (mOA (bin2 opMax) (aCons (mO2 opSub (mVar 2) (mO2 opPow (mC (.int 10)) (mC (.int 18)))) (aCons (mC (.int 0)) aNil))) aNil)) (mO2 opPow (mO2 opPow (mC (.int 10)) (mC (.int 60))) (mC (.int 10)))) (aCons (mO2 opMod (mOA (un1 opInt) (aCons (mVar 2) aNil)) (mC (.int 2147483647))) (aCons (mO2 opMul (mC (.int 1000)) (mVar 1)) aNil))))))
def f58 : FM := mFn 2 3 m58
abbrev mn__law_generator : SM := m58
abbrev fn__law_generator : FM := f58
theorem sc58 : FnScope ["_law_script", "_law_index", "_law_seed"] ["_law_script", "_law_index"] (defScope s58) := ⟨rfl, rfl, rfl, by decide +kernel, rfl, by decide +kernel, by decide +kernel⟩
theorem ok58 (T : Tx P w K mg base en CC) {f : Addr} {fd : FuncData} (F : L2.Fun K "_law_generator" "_law_generator" s58 f fd) (D55 : DefAt P w K mg base en 1 "_law_cell" 2 f55) : FnG P w K mg base 2 f fd ["_law_script", "_law_index"] (spM en 2 f58) := by
  obtain ⟨oc, od, kV, doc, pm, an, cdv, ct, osl, rfl, lk, hcd⟩ := F.ex
  exact fnG_of lk hcd sc58 T.hK T.sm fun A outer s H E G => (PSs.cons (PS.set (i := 2) sc58.nd rfl (by first | exact .inl rfl | exact .inr rfl) (PE.call D55 G (by decide) rfl (PA.cons (PE.var 0) (PA.cons (PE.var 1) PA.nil)))) (PSs.one (PS.ret (PE.lst (PA.cons (PE.o2 op_modM (PE.callTy call_intM rfl T.b_int rfl (PA.cons (PE.callB (call_maxM G.calm) rfl T.b_max rfl (PA.cons (PE.o2 op_subM (PE.var 2) (PE.o2 op_powM PE.int PE.int)) (PA.cons PE.int PA.nil))) PA.nil)) (PE.o2 op_powM (PE.o2 op_powM PE.int PE.int) PE.int)) (PA.cons (PE.o2 op_modM (PE.callTy call_intM rfl T.b_int rfl (PA.cons (PE.var 2) PA.nil)) PE.int) (PA.cons (PE.o2 op_mulM PE.int (PE.var 1)) PA.nil)))))))
theorem at58 (T : Tx P w K mg base en CC) {f : Addr} {fd : FuncData} (F : L2.Fun K "_law_generator" "_law_generator" s58 f fd) (hm : mg "_law_generator" = some (.ref f)) (D55 : DefAt P w K mg base en 1 "_law_cell" 2 f55) : DefAt P w K mg base en 2 "_law_generator" 2 f58 :=
  DefAt.mk' hm F (ok58 T F D55) (F.binds fun _ _ _ _ _ _ us hl => match us, hl with | [_, _], _ => rfl)
/-! _law_hash -/
abbrev s54 : Stmt := top 54
def m54 : SM := (mSeq (mSet 2 (mO2 opMod (mOA (un1 opInt) (aCons (mO2 opAdd (mO2 opAdd (mO2 opAdd (mO2 opMul (mVar 0) (mC (.int 1103515245))) (mO2 opMul (mO2 opMul (mC (.int 7919)) (mVar 1)) (mVar 1))) (mVar 1)) (mC (.int 1))) aNil)) (mC (.int 2147483647)))) (mSeq (mSet 2 (mO2 opMod (mOA (un1 opInt) (aCons (mO2 opAdd (mO2 opMul (mVar 2) (mVar 2)) (mC (.int 69621))) aNil)) (mC (.int 2147483629)))) (mRet (mO2 opMod (mOA (un1 opInt) (aCons (mO2 opMul (mVar 2) (mC (.int 48271))) aNil)) (mC (.int 2147483587))))))
def f54 : FM := mFn 2 3 m54
abbrev mn__law_hash : SM := m54
abbrev fn__law_hash : FM := f54
theorem sc54 : FnScope ["_law_seed", "_law_index", "_law_mixed"] ["_law_seed", "_law_index"] (defScope s54) := ⟨rfl, rfl, rfl, by decide +kernel, rfl, by decide +kernel, by decide +kernel⟩
theorem ok54 (T : Tx P w K mg base en CC) {f : Addr} {fd : FuncData} (F : L2.Fun K "_law_hash" "_law_hash" s54 f fd)  : FnG P w K mg base 1 f fd ["_law_seed", "_law_index"] (spM en 2 f54) := by
  obtain ⟨oc, od, kV, doc, pm, an, cdv, ct, osl, rfl, lk, hcd⟩ := F.ex
  exact fnG_of lk hcd sc54 T.hK T.sm fun A outer s H E G => (PSs.cons (PS.set (i := 2) sc54.nd rfl (by first | exact .inl rfl | exact .inr rfl) (PE.o2 op_modM (PE.callTy call_intM rfl T.b_int rfl (PA.cons (PE.o2 op_addM (PE.o2 op_addM (PE.o2 op_addM (PE.o2 op_mulM (PE.var 0) PE.int) (PE.o2 op_mulM (PE.o2 op_mulM PE.int (PE.var 1)) (PE.var 1))) (PE.var 1)) PE.int) PA.nil)) PE.int)) (PSs.cons (PS.set (i := 2) sc54.nd rfl (by first | exact .inl rfl | exact .inr rfl) (PE.o2 op_modM (PE.callTy call_intM rfl T.b_int rfl (PA.cons (PE.o2 op_addM (PE.o2 op_mulM (PE.var 2) (PE.var 2)) PE.int) PA.nil)) PE.int)) (PSs.one (PS.ret (PE.o2 op_modM (PE.callTy call_intM rfl T.b_int rfl (PA.cons (PE.o2 op_mulM (PE.var 2) PE.int) PA.nil)) PE.int)))))
theorem at54 (T : Tx P w K mg base en CC) {f : Addr} {fd : FuncData} (F : L2.Fun K "_law_hash" "_law_hash" s54 f fd) (hm : mg "_law_hash" = some (.ref f))  : DefAt P w K mg base en 1 "_law_hash" 2 f54 :=
  DefAt.mk' hm F (ok54 T F ) (F.binds fun _ _ _ _ _ _ us hl => match us, hl with | [_, _], _ => rfl)
/-! _law_random -/
abbrev s57 : Stmt := top 57
def m57 : SM := (mSeq (mIfS (mB (mO2 opGt (mO2 opIx (mVar 0) (mC (.int 0))) (mC (.int 0)))) (mSeq (mSet 2 (mO2 opMod (mOA (un1 opInt) (aCons (mO2 opIx (mVar 0) (mC (.int 0))) aNil)) (mVar 1))) (mSeq (mSt (mO2 opFdiv (mO2 opIx (mVar 0) (mC (.int 0))) (mVar 1)) (mVar 0) (mC (.int 0))) (mRet (mVar 2)))) mNil) (mSeq (mSet 2 (mC (.int 0))) (mSeq (mFor (mRng1 (aCons (mO2 opAdd (mC (.int 1)) (mO2 opFdiv (mO1 opBits (mVar 1)) (mC (.int 30)))) aNil)) (gVar 3) (mSeq (mSt (mO2 opAdd (mO2 opIx (mVar 0) (mC (.int 2))) (mC (.int 1))) (mVar 0) (mC (.int 2))) (mSet 2 (mO2 opAdd (mO2 opMul (mVar 2) (mC (.int 2147483587))) (mCall f54 (aCons (mO2 opIx (mVar 0) (mC (.int 1))) (aCons (mO2 opIx (mVar 0) (mC (.int 2))) aNil))))))) (mRet (mO2 opMod (mOA (un1 opInt) (aCons (mVar 2) aNil)) (mVar 1))))))
def f57 : FM := mFn 2 4 m57
abbrev mn__law_random : SM := m57
abbrev fn__law_random : FM := f57
theorem sc57 : FnScope ["_law_generator_here", "_law_bound", "_law_drawn_here", "_law_turn"] ["_law_generator_here", "_law_bound"] (defScope s57) := ⟨rfl, rfl, rfl, by decide +kernel, rfl, by decide +kernel, by decide +kernel⟩
theorem ok57 (T : Tx P w K mg base en CC) {f : Addr} {fd : FuncData} (F : L2.Fun K "_law_random" "_law_random" s57 f fd) (D54 : DefAt P w K mg base en 1 "_law_hash" 2 f54) : FnG P w K mg base 2 f fd ["_law_generator_here", "_law_bound"] (spM en 2 f57) := by
  obtain ⟨oc, od, kV, doc, pm, an, cdv, ct, osl, rfl, lk, hcd⟩ := F.ex
  exact fnG_of lk hcd sc57 T.hK T.sm fun A outer s H E G => (PSs.cons (PS.if (PT.cmp op_gtM (PE.ix G.K G.u1 (PE.var 0) PE.int (fun _ _ => rfl)) PE.int (nomark _)) (PSs.cons (PS.set (i := 2) sc57.nd rfl (by first | exact .inl rfl | exact .inr rfl) (PE.o2 op_modM (PE.callTy call_intM rfl T.b_int rfl (PA.cons (PE.ix G.K G.u1 (PE.var 0) PE.int (fun _ _ => rfl)) PA.nil)) (PE.var 1))) (PSs.cons (PS.st G.u1 (PE.o2 op_fdivM (PE.ix G.K G.u1 (PE.var 0) PE.int (fun _ _ => rfl)) (PE.var 1)) (PE.var 0) PE.int) (PSs.one (PS.ret (PE.var 2))))) PSs.nil) (PSs.cons (PS.set (i := 2) sc57.nd rfl (by first | exact .inl rfl | exact .inr rfl) PE.int) (PSs.cons (PS.for G.pass G.calm (PI.rng1 rfl T.b_range (PA.cons (PE.o2 op_addM PE.int (PE.o2 op_fdivM (PE.bits (PE.var 1)) PE.int)) PA.nil)) (PG.var (i := 3) sc57.nd rfl (by first | exact .inl rfl | exact .inr rfl)) (PSs.cons (PS.st G.u1 (PE.o2 op_addM (PE.ix G.K G.u1 (PE.var 0) PE.int (fun _ _ => rfl)) PE.int) (PE.var 0) PE.int) (PSs.one (PS.set (i := 2) sc57.nd rfl (by first | exact .inl rfl | exact .inr rfl) (PE.o2 op_addM (PE.o2 op_mulM (PE.var 2) PE.int) (PE.call D54 G (by decide) rfl (PA.cons (PE.ix G.K G.u1 (PE.var 0) PE.int (fun _ _ => rfl)) (PA.cons (PE.ix G.K G.u1 (PE.var 0) PE.int (fun _ _ => rfl)) PA.nil)))))))) (PSs.one (PS.ret (PE.o2 op_modM (PE.callTy call_intM rfl T.b_int rfl (PA.cons (PE.var 2) PA.nil)) (PE.var 1)))))))
theorem at57 (T : Tx P w K mg base en CC) {f : Addr} {fd : FuncData} (F : L2.Fun K "_law_random" "_law_random" s57 f fd) (hm : mg "_law_random" = some (.ref f)) (D54 : DefAt P w K mg base en 1 "_law_hash" 2 f54) : DefAt P w K mg base en 2 "_law_random" 2 f57 :=
  DefAt.mk' hm F (ok57 T F D54) (F.binds fun _ _ _ _ _ _ us hl => match us, hl with | [_, _], _ => rfl)
/-! _law_moves_drawn -/
abbrev s56 : Stmt := top 56
def m56 : SM := (mSeq (mSet 3 (mOA opLst aNil)) (mSeq (mFor (mRng1 (aCons (mCall f57 (aCons (mVar 0) (aCons (mO2 opAdd (mVar 2) (mC (.int 1))) aNil))) aNil)) (gVar 4) (mSeq (mSet 5 (mO2 opSub (mCall f57 (aCons (mVar 0) (aCons (mC (.int 9)) aNil))) (mC (.int 4)))) (mSeq (mSet 6 (mO2 opIx (mOA opLst (aCons (mC (.int 0)) (aCons (mC (.int 0)) (aCons (mC (.int 1)) (aCons (mC (.int 2)) (aCons (mC (.int 4)) aNil)))))) (mCall f57 (aCons (mVar 0) (aCons (mC (.int 5)) aNil))))) (mSeq (mSet 7 (mOA (bin2 opMin) (aCons (mO2 opAdd (mOA (bin2 opMax) (aCons (mC (.int 0)) (aCons (mO2 opSub (mC (.int 0)) (mVar 5)) aNil))) (mVar 6)) (aCons (mO2 opSub (mC (.int 8)) (mOA (bin2 opMax) (aCons (mC (.int 0)) (aCons (mVar 5) aNil)))) aNil)))) (mSeq (mPar 8 9 (aCons (mO2 opIx (mVar 1) (mCall f57 (aCons (mVar 0) (aCons (mOA (un1 opLen) (aCons (mVar 1) aNil)) aNil)))) (aCons (mO2 opIx (mVar 1) (mCall f57 (aCons (mVar 0) (aCons (mOA (un1 opLen) (aCons (mVar 1) aNil)) aNil)))) aNil))) (mDrop (mBm opAppend (mVar 3) (aCons (mOA opTup (aCons (mVar 8) (aCons (mVar 7) (aCons (mVar 5) (aCons (mVar 9) aNil))))) aNil)))))))) (mRet (mVar 3))))
def f56 : FM := mFn 3 10 m56
abbrev mn__law_moves_drawn : SM := m56
abbrev fn__law_moves_drawn : FM := f56
theorem sc56 : FnScope ["_law_generator_here", "_law_places", "_law_most", "_law_found", "_law_turn", "_law_change", "_law_more", "_law_least", "_law_place", "_law_other"] ["_law_generator_here", "_law_places", "_law_most"] (defScope s56) := ⟨rfl, rfl, rfl, by decide +kernel, rfl, by decide +kernel, by decide +kernel⟩
theorem ok56 (T : Tx P w K mg base en CC) {f : Addr} {fd : FuncData} (F : L2.Fun K "_law_moves_drawn" "_law_moves_drawn" s56 f fd) (D57 : DefAt P w K mg base en 2 "_law_random" 2 f57) : FnG P w K mg base 3 f fd ["_law_generator_here", "_law_places", "_law_most"] (spM en 3 f56) := by
  obtain ⟨oc, od, kV, doc, pm, an, cdv, ct, osl, rfl, lk, hcd⟩ := F.ex
  exact fnG_of lk hcd sc56 T.hK T.sm fun A outer s H E G => (PSs.cons (PS.set (i := 3) sc56.nd rfl (by first | exact .inl rfl | exact .inr rfl) (PE.lst PA.nil)) (PSs.cons (PS.for G.pass G.calm (PI.rng1 rfl T.b_range (PA.cons (PE.call D57 G (by decide) rfl (PA.cons (PE.var 0) (PA.cons (PE.o2 op_addM (PE.var 2) PE.int) PA.nil))) PA.nil)) (PG.var (i := 4) sc56.nd rfl (by first | exact .inl rfl | exact .inr rfl)) (PSs.cons (PS.set (i := 5) sc56.nd rfl (by first | exact .inl rfl | exact .inr rfl) (PE.o2 op_subM (PE.call D57 G (by decide) rfl (PA.cons (PE.var 0) (PA.cons PE.int PA.nil))) PE.int)) (PSs.cons (PS.set (i := 6) sc56.nd rfl (by first | exact .inl rfl | exact .inr rfl) (PE.ix G.K G.u1 (PE.lst (PA.cons PE.int (PA.cons PE.int (PA.cons PE.int (PA.cons PE.int (PA.cons PE.int PA.nil)))))) (PE.call D57 G (by decide) rfl (PA.cons (PE.var 0) (PA.cons PE.int PA.nil))) (fun _ _ => rfl))) (PSs.cons (PS.set (i := 7) sc56.nd rfl (by first | exact .inl rfl | exact .inr rfl) (PE.callB (call_minM G.calm) rfl T.b_min rfl (PA.cons (PE.o2 op_addM (PE.callB (call_maxM G.calm) rfl T.b_max rfl (PA.cons PE.int (PA.cons (PE.o2 op_subM PE.int (PE.var 5)) PA.nil))) (PE.var 6)) (PA.cons (PE.o2 op_subM PE.int (PE.callB (call_maxM G.calm) rfl T.b_max rfl (PA.cons PE.int (PA.cons (PE.var 5) PA.nil)))) PA.nil)))) (PSs.cons (PS.par (i := 8) (j := 9) G.calm sc56.nd rfl rfl (by decide) rfl rfl (PA.cons (PE.ix G.K G.u1 (PE.var 1) (PE.call D57 G (by decide) rfl (PA.cons (PE.var 0) (PA.cons (PE.callB (call_lenM G.K) rfl T.b_len rfl (PA.cons (PE.var 1) PA.nil)) PA.nil))) (fun _ _ => rfl)) (PA.cons (PE.ix G.K G.u1 (PE.var 1) (PE.call D57 G (by decide) rfl (PA.cons (PE.var 0) (PA.cons (PE.callB (call_lenM G.K) rfl T.b_len rfl (PA.cons (PE.var 1) PA.nil)) PA.nil))) (fun _ _ => rfl)) PA.nil)) (by rfl)) (PSs.one (PS.expr (PE.append (PE.var 3) (PA.cons (PE.tup (PA.cons (PE.var 8) (PA.cons (PE.var 7) (PA.cons (PE.var 5) (PA.cons (PE.var 9) PA.nil))))) PA.nil))))))))) (PSs.one (PS.ret (PE.var 3)))))
theorem at56 (T : Tx P w K mg base en CC) {f : Addr} {fd : FuncData} (F : L2.Fun K "_law_moves_drawn" "_law_moves_drawn" s56 f fd) (hm : mg "_law_moves_drawn" = some (.ref f)) (D57 : DefAt P w K mg base en 2 "_law_random" 2 f57) : DefAt P w K mg base en 3 "_law_moves_drawn" 3 f56 :=
  DefAt.mk' hm F (ok56 T F D57) (F.binds fun _ _ _ _ _ _ us hl => match us, hl with | [_, _, _], _ => rfl)
/-! _law_drawn -/
abbrev s59 : Stmt := top 59
def m59 : SM := (mSeq (mSet 3 (mCut (mOA opLst (aCons (mC (.str "up")) (aCons (mC (.str "down")) (aCons (mC (.str "mid")) (aCons (mC (.str "move")) aNil))))) pNone (pSome (mO2 opAdd (mC (.int 1)) (mCall f57 (aCons (mVar 0) (aCons (mVar 1) aNil))))))) (mRet (mOA opLst (aCons (mVar 3) (aCons (mCall f56 (aCons (mVar 0) (aCons (mVar 3) (aCons (mVar 2) aNil)))) aNil)))))
def f59 : FM := mFn 3 4 m59
abbrev mn__law_drawn : SM := m59
abbrev fn__law_drawn : FM := f59
theorem sc59 : FnScope ["_law_generator_here", "_law_many", "_law_most", "_law_places"] ["_law_generator_here", "_law_many", "_law_most"] (defScope s59) := ⟨rfl, rfl, rfl, by decide +kernel, rfl, by decide +kernel, by decide +kernel⟩
theorem ok59 (T : Tx P w K mg base en CC) {f : Addr} {fd : FuncData} (F : L2.Fun K "_law_drawn" "_law_drawn" s59 f fd) (D57 : DefAt P w K mg base en 2 "_law_random" 2 f57) (D56 : DefAt P w K mg base en 3 "_law_moves_drawn" 3 f56) : FnG P w K mg base 4 f fd ["_law_generator_here", "_law_many", "_law_most"] (spM en 3 f59) := by
  obtain ⟨oc, od, kV, doc, pm, an, cdv, ct, osl, rfl, lk, hcd⟩ := F.ex
  exact fnG_of lk hcd sc59 T.hK T.sm fun A outer s H E G => (PSs.cons (PS.set (i := 3) sc59.nd rfl (by first | exact .inl rfl | exact .inr rfl) (PE.cut (PE.lst (PA.cons PE.str (PA.cons PE.str (PA.cons PE.str (PA.cons PE.str PA.nil))))) PO.non (PO.som (PE.o2 op_addM PE.int (PE.call D57 G (by decide) rfl (PA.cons (PE.var 0) (PA.cons (PE.var 1) PA.nil))))))) (PSs.one (PS.ret (PE.lst (PA.cons (PE.var 3) (PA.cons (PE.call D56 G (by decide) rfl (PA.cons (PE.var 0) (PA.cons (PE.var 3) (PA.cons (PE.var 2) PA.nil)))) PA.nil))))))
theorem at59 (T : Tx P w K mg base en CC) {f : Addr} {fd : FuncData} (F : L2.Fun K "_law_drawn" "_law_drawn" s59 f fd) (hm : mg "_law_drawn" = some (.ref f)) (D57 : DefAt P w K mg base en 2 "_law_random" 2 f57) (D56 : DefAt P w K mg base en 3 "_law_moves_drawn" 3 f56) : DefAt P w K mg base en 4 "_law_drawn" 3 f59 :=
  DefAt.mk' hm F (ok59 T F D57 D56) (F.binds fun _ _ _ _ _ _ us hl => match us, hl with | [_, _, _], _ => rfl)
/-! _law_lines -/
abbrev s61 : Stmt := top 61
def m61 : SM := (mSeq (mSet 1 (mOA opLst (aCons (mO2 opAdd (mOA opLst (aCons (mC (.str "places")) aNil)) (mO2 opIx (mVar 0) (mC (.int 0)))) aNil))) (mSeq (mFor (mWalk (mO2 opIx (mVar 0) (mC (.int 1)))) (gTupM 4 (gsCons (gVar 2) (gsCons (gVar 3) (gsCons (gVar 4) (gsCons (gVar 5) gsNil))))) (mDrop (mBm opAppend (mVar 1) (aCons (mOA opLst (aCons (mC (.str "move")) (aCons (mVar 2) (aCons (mOA (un1 opStr) (aCons (mVar 3) aNil)) (aCons (mO2 opAdd (mIf (mB (mO2 opGe (mVar 4) (mC (.int 0)))) (mC (.str "+")) (mC (.str ""))) (mOA (un1 opStr) (aCons (mVar 4) aNil))) (aCons (mVar 5) aNil)))))) aNil)))) (mRet (mVar 1))))
def f61 : FM := mFn 1 6 m61
abbrev mn__law_lines : SM := m61
abbrev fn__law_lines : FM := f61
theorem sc61 : FnScope ["_law_parts", "_law_found", "_law_place", "_law_least", "_law_change", "_law_other"] ["_law_parts"] (defScope s61) := ⟨rfl, rfl, rfl, by decide +kernel, rfl, by decide +kernel, by decide +kernel⟩
theorem ok61 (T : Tx P w K mg base en CC) {f : Addr} {fd : FuncData} (F : L2.Fun K "_law_lines" "_law_lines" s61 f fd)  : FnG P w K mg base 1 f fd ["_law_parts"] (spM en 1 f61) := by
  obtain ⟨oc, od, kV, doc, pm, an, cdv, ct, osl, rfl, lk, hcd⟩ := F.ex
  exact fnG_of lk hcd sc61 T.hK T.sm fun A outer s H E G => (PSs.cons (PS.set (i := 1) sc61.nd rfl (by first | exact .inl rfl | exact .inr rfl) (PE.lst (PA.cons (PE.o2 op_addM (PE.lst (PA.cons PE.str PA.nil)) (PE.ix G.K G.u1 (PE.var 0) PE.int (fun _ _ => rfl))) PA.nil))) (PSs.cons (PS.for G.pass G.calm (PI.walk G.K (PE.ix G.K G.u1 (PE.var 0) PE.int (fun _ _ => rfl))) (PG.tup G.calm (PGs.cons (PG.var (i := 2) sc61.nd rfl (by first | exact .inl rfl | exact .inr rfl)) (PGs.cons (PG.var (i := 3) sc61.nd rfl (by first | exact .inl rfl | exact .inr rfl)) (PGs.cons (PG.var (i := 4) sc61.nd rfl (by first | exact .inl rfl | exact .inr rfl)) (PGs.cons (PG.var (i := 5) sc61.nd rfl (by first | exact .inl rfl | exact .inr rfl)) PGs.nil))))) (PSs.one (PS.expr (PE.append (PE.var 1) (PA.cons (PE.lst (PA.cons PE.str (PA.cons (PE.var 2) (PA.cons (PE.callTy call_strM rfl T.b_str rfl (PA.cons (PE.var 3) PA.nil)) (PA.cons (PE.o2 op_addM (PE.ifx (PT.cmp op_geM (PE.var 4) PE.int (nomark _)) PE.str PE.str) (PE.callTy call_strM rfl T.b_str rfl (PA.cons (PE.var 4) PA.nil))) (PA.cons (PE.var 5) PA.nil)))))) PA.nil))))) (PSs.one (PS.ret (PE.var 1)))))
theorem at61 (T : Tx P w K mg base en CC) {f : Addr} {fd : FuncData} (F : L2.Fun K "_law_lines" "_law_lines" s61 f fd) (hm : mg "_law_lines" = some (.ref f))  : DefAt P w K mg base en 1 "_law_lines" 1 f61 :=
  DefAt.mk' hm F (ok61 T F ) (F.binds fun _ _ _ _ _ _ us hl => match us, hl with | [_], _ => rfl)
/-! is_name -/
abbrev s12 : Stmt := top 12
def m12 : SM := (mSeq (mIfS (bOr (bNot (mB (mO1 (opIsi is_str) (mVar 0)))) (bNot (mB (mChain opLe opLe (mC (.int 1)) (mOA (un1 opLen) (aCons (mVar 0) aNil)) (mC (.int 8)))))) (mRet (mC (.bl false))) mNil) (mRet (mOA (un1 opAll) (aCons (mLc (mWalk (mVar 0)) (gVar 1) bYes (mChain opLe opLe (mC (.str "a")) (mVar 1) (mC (.str "z"))) [1]) aNil))))
def f12 : FM := mFn 1 2 m12
abbrev mn_is_name : SM := m12
abbrev fn_is_name : FM := f12
theorem sc12 : FnScope ["value", "sign"] ["value"] (defScope s12) := ⟨rfl, rfl, rfl, by decide +kernel, rfl, by decide +kernel, by decide +kernel⟩
theorem ok12 (T : Tx P w K mg base en CC) {f : Addr} {fd : FuncData} (F : L2.Fun K "is_name" "is_name" s12 f fd)  : FnG P w K mg base 1 f fd ["value"] (spM en 1 f12) := by
  obtain ⟨oc, od, kV, doc, pm, an, cdv, ct, osl, rfl, lk, hcd⟩ := F.ex
  exact fnG_of lk hcd sc12 T.hK T.sm fun A outer s H E G => (PSs.cons (PS.if (PW.pt (PW.or (PT.not (PT.val (PE.isi G.K (.ty _) T.is_str rfl T.b_isinstance (PE.var 0) (pe_bltn rfl T.b_str rfl rfl)))) (PW.or1 (PT.not (PT.chain op_leM op_leM PE.int (PE.callB (call_lenM G.K) rfl T.b_len rfl (PA.cons (PE.var 0) PA.nil)) (PE.gint T.c_LONGEST_NAME rfl)))))) (PSs.one (PS.ret PE.bl)) PSs.nil) (PSs.one (PS.ret (PE.callB (call_allM G.calm) rfl T.b_all rfl (PA.cons (PE.lcG G sc12.nd (PI.walk G.K (PE.var 0)) (own := [("sign", 1)]) ⟨rfl, by decide +kernel, of_decide_eq_true (by kernel_rfl), of_decide_eq_true (by kernel_rfl), of_decide_eq_true (by kernel_rfl)⟩ (fun s3 H3 C3 cl3 fp3 G => (PG.var (i := 1) sc12.nd rfl (by first | exact .inl rfl | exact .inr rfl))) (fun s3 H3 C3 cl3 fp3 G => PTs.nil) (fun s3 H3 C3 cl3 fp3 G => (PE.chain op_leM op_leM PE.str (PE.var 1) PE.str))) PA.nil)))))
theorem at12 (T : Tx P w K mg base en CC) {f : Addr} {fd : FuncData} (F : L2.Fun K "is_name" "is_name" s12 f fd) (hm : mg "is_name" = some (.ref f))  : DefAt P w K mg base en 1 "is_name" 1 f12 :=
  DefAt.mk' hm F (ok12 T F ) (F.binds fun _ _ _ _ _ _ us hl => match us, hl with | [_], _ => rfl)
/-! _check_places -/
abbrev s35 : Stmt := top 35
def m35 : SM := (mSeq (mIfS (bOr (bNot (mB (mO1 (opIsi is_list) (mVar 0)))) (bNot (mB (mChain opLe opLe (mC (.int 1)) (mOA (un1 opLen) (aCons (mVar 0) aNil)) (mC (.int 4)))))) (mRaise 1 1 (aCons (mVar 0) aNil)) mNil) (mFor (mEnum (aCons (mVar 0) aNil)) (gTupM 2 (gsCons (gVar 1) (gsCons (gVar 2) gsNil))) (mIfS (bOr (bNot (mTru (mCall f12 (aCons (mVar 2) aNil)))) (mB (mO2 (opIn false) (mVar 2) (mCut (mVar 0) pNone (pSome (mVar 1)))))) (mRaise 2 1 (aCons (mVar 2) aNil)) mNil)))
def f35 : FM := mFn 1 3 m35
abbrev mn__check_places : SM := m35
abbrev fn__check_places : FM := f35
theorem sc35 : FnScope ["places", "at", "place"] ["places"] (defScope s35) := ⟨rfl, rfl, rfl, by decide +kernel, rfl, by decide +kernel, by decide +kernel⟩
theorem ok35 (T : Tx P w K mg base en CC) {f : Addr} {fd : FuncData} (F : L2.Fun K "_check_places" "_check_places" s35 f fd) (D12 : DefAt P w K mg base en 1 "is_name" 1 f12) : FnG P w K mg base 2 f fd ["places"] (spM en 1 f35) := by
  obtain ⟨oc, od, kV, doc, pm, an, cdv, ct, osl, rfl, lk, hcd⟩ := F.ex
  exact fnG_of lk hcd sc35 T.hK T.sm fun A outer s H E G => (PSs.cons (PS.if (PW.pt (PW.or (PT.not (PT.val (PE.isi G.K (.ty _) T.is_list rfl T.b_isinstance (PE.var 0) (pe_bltn rfl T.b_list rfl rfl)))) (PW.or1 (PT.not (PT.chain op_leM op_leM PE.int (PE.callB (call_lenM G.K) rfl T.b_len rfl (PA.cons (PE.var 0) PA.nil)) (PE.gint T.c_MOST_PLACES rfl)))))) (PSs.one (PS.raise T.e1 G rfl (PA.cons (PE.var 0) PA.nil))) PSs.nil) (PSs.one (PS.for G.pass G.calm (PI.enm rfl T.b_enumerate (PA.cons (PE.var 0) PA.nil)) (PG.tup G.calm (PGs.cons (PG.var (i := 1) sc35.nd rfl (by first | exact .inl rfl | exact .inr rfl)) (PGs.cons (PG.var (i := 2) sc35.nd rfl (by first | exact .inl rfl | exact .inr rfl)) PGs.nil))) (PSs.one (PS.if (PW.pt (PW.or (PT.not (PT.tru G.K (PE.call D12 G (by decide) rfl (PA.cons (PE.var 2) PA.nil)))) (PW.or1 (PT.cmp (op_inM G.u1) (PE.var 2) (PE.cut (PE.var 0) PO.non (PO.som (PE.var 1))) (by with_unfolding_all rfl))))) (PSs.one (PS.raise T.e2 G rfl (PA.cons (PE.var 2) PA.nil))) PSs.nil)))))
theorem at35 (T : Tx P w K mg base en CC) {f : Addr} {fd : FuncData} (F : L2.Fun K "_check_places" "_check_places" s35 f fd) (hm : mg "_check_places" = some (.ref f)) (D12 : DefAt P w K mg base en 1 "is_name" 1 f12) : DefAt P w K mg base en 2 "_check_places" 1 f35 :=
  DefAt.mk' hm F (ok35 T F D12) (F.binds fun _ _ _ _ _ _ us hl => match us, hl with | [_], _ => rfl)
/-! is_among -/
abbrev s34 : Stmt := top 34
def m34 : SM := (mRet (mAnd (mO1 (opIsi is_str) (mVar 0)) (mO2 (opIn false) (mVar 0) (mVar 1))))
def f34 : FM := mFn 2 2 m34
abbrev mn_is_among : SM := m34
abbrev fn_is_among : FM := f34
theorem sc34 : FnScope ["value", "places"] ["value", "places"] (defScope s34) := ⟨rfl, rfl, rfl, by decide +kernel, rfl, by decide +kernel, by decide +kernel⟩
theorem ok34 (T : Tx P w K mg base en CC) {f : Addr} {fd : FuncData} (F : L2.Fun K "is_among" "is_among" s34 f fd)  : FnG P w K mg base 1 f fd ["value", "places"] (spM en 2 f34) := by
  obtain ⟨oc, od, kV, doc, pm, an, cdv, ct, osl, rfl, lk, hcd⟩ := F.ex
  exact fnG_of lk hcd sc34 T.hK T.sm fun A outer s H E G => (PSs.one (PS.ret (PE.and (PE.isi G.K (.ty _) T.is_str rfl T.b_isinstance (PE.var 0) (pe_bltn rfl T.b_str rfl rfl)) (PE.and1 (PE.cmp (op_inM G.u1) (PE.var 0) (PE.var 1) (by with_unfolding_all rfl))))))
theorem at34 (T : Tx P w K mg base en CC) {f : Addr} {fd : FuncData} (F : L2.Fun K "is_among" "is_among" s34 f fd) (hm : mg "is_among" = some (.ref f))  : DefAt P w K mg base en 1 "is_among" 2 f34 :=
  DefAt.mk' hm F (ok34 T F ) (F.binds fun _ _ _ _ _ _ us hl => match us, hl with | [_, _], _ => rfl)
/-! is_whole -/
abbrev s10 : Stmt := top 10
def m10 : SM := (mRet (mAnd (mO1 (opIsi is_int) (mVar 0)) (mNot (mO1 (opIsi is_bool) (mVar 0)))))
def f10 : FM := mFn 1 1 m10
abbrev mn_is_whole : SM := m10
abbrev fn_is_whole : FM := f10
theorem sc10 : FnScope ["value"] ["value"] (defScope s10) := ⟨rfl, rfl, rfl, by decide +kernel, rfl, by decide +kernel, by decide +kernel⟩
theorem ok10 (T : Tx P w K mg base en CC) {f : Addr} {fd : FuncData} (F : L2.Fun K "is_whole" "is_whole" s10 f fd)  : FnG P w K mg base 1 f fd ["value"] (spM en 1 f10) := by
  obtain ⟨oc, od, kV, doc, pm, an, cdv, ct, osl, rfl, lk, hcd⟩ := F.ex
  exact fnG_of lk hcd sc10 T.hK T.sm fun A outer s H E G => (PSs.one (PS.ret (PE.and (PE.isi G.K (.ty _) T.is_int rfl T.b_isinstance (PE.var 0) (pe_bltn rfl T.b_int rfl rfl)) (PE.and1 (PE.not (PE.isi G.K (.ty _) T.is_bool rfl T.b_isinstance (PE.var 0) (pe_bltn rfl T.b_bool rfl rfl)))))))
theorem at10 (T : Tx P w K mg base en CC) {f : Addr} {fd : FuncData} (F : L2.Fun K "is_whole" "is_whole" s10 f fd) (hm : mg "is_whole" = some (.ref f))  : DefAt P w K mg base en 1 "is_whole" 1 f10 :=
  DefAt.mk' hm F (ok10 T F ) (F.binds fun _ _ _ _ _ _ us hl => match us, hl with | [_], _ => rfl)
/-! is_between -/
abbrev s11 : Stmt := top 11
def m11 : SM := (mRet (mAnd (mCall f10 (aCons (mVar 0) aNil)) (mChain opLe opLe (mVar 1) (mVar 0) (mVar 2))))
def f11 : FM := mFn 3 3 m11
abbrev mn_is_between : SM := m11
abbrev fn_is_between : FM := f11
theorem sc11 : FnScope ["value", "low", "high"] ["value", "low", "high"] (defScope s11) := ⟨rfl, rfl, rfl, by decide +kernel, rfl, by decide +kernel, by decide +kernel⟩
theorem ok11 (T : Tx P w K mg base en CC) {f : Addr} {fd : FuncData} (F : L2.Fun K "is_between" "is_between" s11 f fd) (D10 : DefAt P w K mg base en 1 "is_whole" 1 f10) : FnG P w K mg base 2 f fd ["value", "low", "high"] (spM en 3 f11) := by
  obtain ⟨oc, od, kV, doc, pm, an, cdv, ct, osl, rfl, lk, hcd⟩ := F.ex
  exact fnG_of lk hcd sc11 T.hK T.sm fun A outer s H E G => (PSs.one (PS.ret (PE.and (PE.call D10 G (by decide) rfl (PA.cons (PE.var 0) PA.nil)) (PE.and1 (PE.chain op_leM op_leM (PE.var 1) (PE.var 0) (PE.var 2))))))
theorem at11 (T : Tx P w K mg base en CC) {f : Addr} {fd : FuncData} (F : L2.Fun K "is_between" "is_between" s11 f fd) (hm : mg "is_between" = some (.ref f)) (D10 : DefAt P w K mg base en 1 "is_whole" 1 f10) : DefAt P w K mg base en 2 "is_between" 3 f11 :=
  DefAt.mk' hm F (ok11 T F D10) (F.binds fun _ _ _ _ _ _ us hl => match us, hl with | [_, _, _], _ => rfl)
/-! is_move -/
abbrev s33 : Stmt := top 33
def m33 : SM := (mSeq (mIfS (bOr (bNot (mB (mO1 (opIsi is_tuple) (mVar 0)))) (mB (mO2 (eqD true) (mOA (un1 opLen) (aCons (mVar 0) aNil)) (mC (.int 4))))) (mRet (mC (.bl false))) mNil) (mSeq (mAsg (gTupM 4 (gsCons (gVar 2) (gsCons (gVar 3) (gsCons (gVar 4) (gsCons (gVar 5) gsNil))))) (mVar 0)) (mSeq (mIfS (bOr (bNot (mTru (mCall f34 (aCons (mVar 2) (aCons (mVar 1) aNil))))) (bNot (mTru (mCall f34 (aCons (mVar 5) (aCons (mVar 1) aNil)))))) (mRet (mC (.bl false))) mNil) (mSeq (mIfS (bOr (bNot (mTru (mCall f11 (aCons (mVar 3) (aCons (mC (.int 0)) (aCons (mC (.int 8)) aNil)))))) (bNot (mTru (mCall f11 (aCons (mVar 4) (aCons (mO1 opNeg (mC (.int 4))) (aCons (mC (.int 4)) aNil))))))) (mRet (mC (.bl false))) mNil) (mRet (mChain opLe opLe (mC (.int 0)) (mO2 opAdd (mVar 3) (mVar 4)) (mC (.int 8))))))))
def f33 : FM := mFn 2 6 m33
abbrev mn_is_move : SM := m33
abbrev fn_is_move : FM := f33
theorem sc33 : FnScope ["value", "places", "place", "least", "change", "other"] ["value", "places"] (defScope s33) := ⟨rfl, rfl, rfl, by decide +kernel, rfl, by decide +kernel, by decide +kernel⟩
theorem ok33 (T : Tx P w K mg base en CC) {f : Addr} {fd : FuncData} (F : L2.Fun K "is_move" "is_move" s33 f fd) (D34 : DefAt P w K mg base en 1 "is_among" 2 f34) (D11 : DefAt P w K mg base en 2 "is_between" 3 f11) : FnG P w K mg base 3 f fd ["value", "places"] (spM en 2 f33) := by
  obtain ⟨oc, od, kV, doc, pm, an, cdv, ct, osl, rfl, lk, hcd⟩ := F.ex
  exact fnG_of lk hcd sc33 T.hK T.sm fun A outer s H E G => (PSs.cons (PS.if (PW.pt (PW.or (PT.not (PT.val (PE.isi G.K (.ty _) T.is_tuple rfl T.b_isinstance (PE.var 0) (pe_bltn rfl T.b_tuple rfl rfl)))) (PW.or1 (PT.cmp (op_neM G.sm G.u64) (PE.callB (call_lenM G.K) rfl T.b_len rfl (PA.cons (PE.var 0) PA.nil)) PE.int (nomark _))))) (PSs.one (PS.ret PE.bl)) PSs.nil) (PSs.cons (PS.asg (PE.var 0) (PG.tup G.calm (PGs.cons (PG.var (i := 2) sc33.nd rfl (by first | exact .inl rfl | exact .inr rfl)) (PGs.cons (PG.var (i := 3) sc33.nd rfl (by first | exact .inl rfl | exact .inr rfl)) (PGs.cons (PG.var (i := 4) sc33.nd rfl (by first | exact .inl rfl | exact .inr rfl)) (PGs.cons (PG.var (i := 5) sc33.nd rfl (by first | exact .inl rfl | exact .inr rfl)) PGs.nil)))))) (PSs.cons (PS.if (PW.pt (PW.or (PT.not (PT.tru G.K (PE.call D34 G (by decide) rfl (PA.cons (PE.var 2) (PA.cons (PE.var 1) PA.nil))))) (PW.or1 (PT.not (PT.tru G.K (PE.call D34 G (by decide) rfl (PA.cons (PE.var 5) (PA.cons (PE.var 1) PA.nil)))))))) (PSs.one (PS.ret PE.bl)) PSs.nil) (PSs.cons (PS.if (PW.pt (PW.or (PT.not (PT.tru G.K (PE.call D11 G (by decide) rfl (PA.cons (PE.var 3) (PA.cons PE.int (PA.cons (PE.gint T.c_MOST_LEAST rfl) PA.nil)))))) (PW.or1 (PT.not (PT.tru G.K (PE.call D11 G (by decide) rfl (PA.cons (PE.var 4) (PA.cons (PE.un op_negM (PE.gint T.c_MOST_CHANGE rfl)) (PA.cons (PE.gint T.c_MOST_CHANGE rfl) PA.nil))))))))) (PSs.one (PS.ret PE.bl)) PSs.nil) (PSs.one (PS.ret (PE.chain op_leM op_leM PE.int (PE.o2 op_addM (PE.var 3) (PE.var 4)) (PE.gint T.c_MOST_LEAST rfl))))))))
theorem at33 (T : Tx P w K mg base en CC) {f : Addr} {fd : FuncData} (F : L2.Fun K "is_move" "is_move" s33 f fd) (hm : mg "is_move" = some (.ref f)) (D34 : DefAt P w K mg base en 1 "is_among" 2 f34) (D11 : DefAt P w K mg base en 2 "is_between" 3 f11) : DefAt P w K mg base en 3 "is_move" 2 f33 :=
  DefAt.mk' hm F (ok33 T F D34 D11) (F.binds fun _ _ _ _ _ _ us hl => match us, hl with | [_, _], _ => rfl)
/-! _check_moves -/
abbrev s36 : Stmt := top 36
def m36 : SM := (mSeq (mIfS (bOr (bNot (mB (mO1 (opIsi is_list) (mVar 0)))) (mB (mO2 opGt (mOA (un1 opLen) (aCons (mVar 0) aNil)) (mC (.int 10))))) (mRaise 1 1 (aCons (mVar 0) aNil)) mNil) (mFor (mWalk (mVar 0)) (gVar 2) (mIfS (bNot (mTru (mCall f33 (aCons (mVar 2) (aCons (mVar 1) aNil))))) (mRaise 2 1 (aCons (mVar 2) aNil)) mNil)))
def f36 : FM := mFn 2 3 m36
abbrev mn__check_moves : SM := m36
abbrev fn__check_moves : FM := f36
theorem sc36 : FnScope ["moves", "places", "move"] ["moves", "places"] (defScope s36) := ⟨rfl, rfl, rfl, by decide +kernel, rfl, by decide +kernel, by decide +kernel⟩
theorem ok36 (T : Tx P w K mg base en CC) {f : Addr} {fd : FuncData} (F : L2.Fun K "_check_moves" "_check_moves" s36 f fd) (D33 : DefAt P w K mg base en 3 "is_move" 2 f33) : FnG P w K mg base 4 f fd ["moves", "places"] (spM en 2 f36) := by
  obtain ⟨oc, od, kV, doc, pm, an, cdv, ct, osl, rfl, lk, hcd⟩ := F.ex
  exact fnG_of lk hcd sc36 T.hK T.sm fun A outer s H E G => (PSs.cons (PS.if (PW.pt (PW.or (PT.not (PT.val (PE.isi G.K (.ty _) T.is_list rfl T.b_isinstance (PE.var 0) (pe_bltn rfl T.b_list rfl rfl)))) (PW.or1 (PT.cmp op_gtM (PE.callB (call_lenM G.K) rfl T.b_len rfl (PA.cons (PE.var 0) PA.nil)) (PE.gint T.c_MOST_MOVES rfl) (nomark _))))) (PSs.one (PS.raise T.e1 G rfl (PA.cons (PE.var 0) PA.nil))) PSs.nil) (PSs.one (PS.for G.pass G.calm (PI.walk G.K (PE.var 0)) (PG.var (i := 2) sc36.nd rfl (by first | exact .inl rfl | exact .inr rfl)) (PSs.one (PS.if (PT.not (PT.tru G.K (PE.call D33 G (by decide) rfl (PA.cons (PE.var 2) (PA.cons (PE.var 1) PA.nil))))) (PSs.one (PS.raise T.e2 G rfl (PA.cons (PE.var 2) PA.nil))) PSs.nil)))))
theorem at36 (T : Tx P w K mg base en CC) {f : Addr} {fd : FuncData} (F : L2.Fun K "_check_moves" "_check_moves" s36 f fd) (hm : mg "_check_moves" = some (.ref f)) (D33 : DefAt P w K mg base en 3 "is_move" 2 f33) : DefAt P w K mg base en 4 "_check_moves" 2 f36 :=
  DefAt.mk' hm F (ok36 T F D33) (F.binds fun _ _ _ _ _ _ us hl => match us, hl with | [_, _], _ => rfl)
/-! _changes_from -/
abbrev s16 : Stmt := top 16
def m16 : SM := (mSeq (mSet 2 (mDict (dCons (mVar 1) (mC (.int 0)) dNil))) (mSeq (mSet 3 (mOA opLst (aCons (mVar 1) aNil))) (mSeq (mWhile (mTru (mVar 3)) (mSeq (mSet 4 (mBm opPop (mVar 3) aNil)) (mFor (mWalk (mVar 0)) (gTupM 4 (gsCons (gVar 5) (gsCons (gVar 6) (gsCons (gVar 7) (gsCons (gVar 8) gsNil))))) (mIfS (bAnd (mB (mO2 (eqD false) (mVar 5) (mVar 4))) (mB (mO2 (opIn true) (mVar 8) (mVar 2)))) (mSeq (mSt (mO2 opAdd (mO2 opIx (mVar 2) (mVar 4)) (mVar 7)) (mVar 2) (mVar 8)) (mDrop (mBm opAppend (mVar 3) (aCons (mVar 8) aNil)))) mNil)))) (mRet (mVar 2)))))
def f16 : FM := mFn 2 9 m16
abbrev mn__changes_from : SM := m16
abbrev fn__changes_from : FM := f16
theorem sc16 : FnScope ["moves", "start", "changes", "waiting", "at", "place", "_", "change", "other"] ["moves", "start"] (defScope s16) := ⟨rfl, rfl, rfl, by decide +kernel, rfl, by decide +kernel, by decide +kernel⟩
theorem ok16 (T : Tx P w K mg base en CC) {f : Addr} {fd : FuncData} (F : L2.Fun K "_changes_from" "_changes_from" s16 f fd)  : FnG P w K mg base 1 f fd ["moves", "start"] (spM en 2 f16) := by
  obtain ⟨oc, od, kV, doc, pm, an, cdv, ct, osl, rfl, lk, hcd⟩ := F.ex
  exact fnG_of lk hcd sc16 T.hK T.sm fun A outer s H E G => (PSs.cons (PS.set (i := 2) sc16.nd rfl (by first | exact .inl rfl | exact .inr rfl) (PE.dict (PD.cons (PE.var 1) PE.int PD.nil))) (PSs.cons (PS.set (i := 3) sc16.nd rfl (by first | exact .inl rfl | exact .inr rfl) (PE.lst (PA.cons (PE.var 1) PA.nil))) (PSs.cons (PS.while G.pass (PT.tru G.K (PE.var 3)) (PSs.cons (PS.set (i := 4) sc16.nd rfl (by first | exact .inl rfl | exact .inr rfl) (PE.pop0 (PE.var 3))) (PSs.one (PS.for G.pass G.calm (PI.walk G.K (PE.var 0)) (PG.tup G.calm (PGs.cons (PG.var (i := 5) sc16.nd rfl (by first | exact .inl rfl | exact .inr rfl)) (PGs.cons (PG.var (i := 6) sc16.nd rfl (by first | exact .inl rfl | exact .inr rfl)) (PGs.cons (PG.var (i := 7) sc16.nd rfl (by first | exact .inl rfl | exact .inr rfl)) (PGs.cons (PG.var (i := 8) sc16.nd rfl (by first | exact .inl rfl | exact .inr rfl)) PGs.nil))))) (PSs.one (PS.if (PW.pt (PW.and (PT.cmp (op_eqM G.sm G.u64) (PE.var 5) (PE.var 4) (nomark _)) (PW.and1 (PT.cmp (op_notInM G.u1) (PE.var 8) (PE.var 2) (by with_unfolding_all rfl))))) (PSs.cons (PS.st G.u1 (PE.o2 op_addM (PE.ix G.K G.u1 (PE.var 2) (PE.var 4) (fun _ _ => rfl)) (PE.var 7)) (PE.var 2) (PE.var 8)) (PSs.one (PS.expr (PE.append (PE.var 3) (PA.cons (PE.var 8) PA.nil))))) PSs.nil)))))) (PSs.one (PS.ret (PE.var 2))))))
theorem at16 (T : Tx P w K mg base en CC) {f : Addr} {fd : FuncData} (F : L2.Fun K "_changes_from" "_changes_from" s16 f fd) (hm : mg "_changes_from" = some (.ref f))  : DefAt P w K mg base en 1 "_changes_from" 2 f16 :=
  DefAt.mk' hm F (ok16 T F ) (F.binds fun _ _ _ _ _ _ us hl => match us, hl with | [_, _], _ => rfl)
/-! _step_at -/
abbrev s15 : Stmt := top 15
def m15 : SM := (mSeq (mSet 2 (mCall f16 (aCons (mVar 0) (aCons (mVar 1) aNil)))) (mSeq (mSet 3 (mC (.int 0))) (mSeq (mFor (mWalk (mVar 0)) (gTupM 4 (gsCons (gVar 4) (gsCons (gVar 5) (gsCons (gVar 6) (gsCons (gVar 7) gsNil))))) (mIfS (bAnd (mB (mO2 (opIn false) (mVar 4) (mVar 2))) (mB (mO2 (opIn false) (mVar 1) (mCall f16 (aCons (mVar 0) (aCons (mVar 7) aNil)))))) (mSet 3 (mOA (bin2 opGcd) (aCons (mVar 3) (aCons (mO2 opSub (mO2 opAdd (mO2 opIx (mVar 2) (mVar 4)) (mVar 6)) (mO2 opIx (mVar 2) (mVar 7))) aNil)))) mNil)) (mRet (mVar 3)))))
def f15 : FM := mFn 2 8 m15
abbrev mn__step_at : SM := m15
abbrev fn__step_at : FM := f15
theorem sc15 : FnScope ["moves", "start", "changes", "step", "place", "_", "change", "other"] ["moves", "start"] (defScope s15) := ⟨rfl, rfl, rfl, by decide +kernel, rfl, by decide +kernel, by decide +kernel⟩
theorem ok15 (T : Tx P w K mg base en CC) {f : Addr} {fd : FuncData} (F : L2.Fun K "_step_at" "_step_at" s15 f fd) (D16 : DefAt P w K mg base en 1 "_changes_from" 2 f16) : FnG P w K mg base 2 f fd ["moves", "start"] (spM en 2 f15) := by
  obtain ⟨oc, od, kV, doc, pm, an, cdv, ct, osl, rfl, lk, hcd⟩ := F.ex
  exact fnG_of lk hcd sc15 T.hK T.sm fun A outer s H E G => (PSs.cons (PS.set (i := 2) sc15.nd rfl (by first | exact .inl rfl | exact .inr rfl) (PE.call D16 G (by decide) rfl (PA.cons (PE.var 0) (PA.cons (PE.var 1) PA.nil)))) (PSs.cons (PS.set (i := 3) sc15.nd rfl (by first | exact .inl rfl | exact .inr rfl) PE.int) (PSs.cons (PS.for G.pass G.calm (PI.walk G.K (PE.var 0)) (PG.tup G.calm (PGs.cons (PG.var (i := 4) sc15.nd rfl (by first | exact .inl rfl | exact .inr rfl)) (PGs.cons (PG.var (i := 5) sc15.nd rfl (by first | exact .inl rfl | exact .inr rfl)) (PGs.cons (PG.var (i := 6) sc15.nd rfl (by first | exact .inl rfl | exact .inr rfl)) (PGs.cons (PG.var (i := 7) sc15.nd rfl (by first | exact .inl rfl | exact .inr rfl)) PGs.nil))))) (PSs.one (PS.if (PW.pt (PW.and (PT.cmp (op_inM G.u1) (PE.var 4) (PE.var 2) (by with_unfolding_all rfl)) (PW.and1 (PT.cmp (op_inM G.u1) (PE.var 1) (PE.call D16 G (by decide) rfl (PA.cons (PE.var 0) (PA.cons (PE.var 7) PA.nil))) (by with_unfolding_all rfl))))) (PSs.one (PS.set (i := 3) sc15.nd rfl (by first | exact .inl rfl | exact .inr rfl) (PE.bfn call_gcdM rfl T.m_gcd (PA.cons (PE.var 3) (PA.cons (PE.o2 op_subM (PE.o2 op_addM (PE.ix G.K G.u1 (PE.var 2) (PE.var 4) (fun _ _ => rfl)) (PE.var 6)) (PE.ix G.K G.u1 (PE.var 2) (PE.var 7) (fun _ _ => rfl))) PA.nil))))) PSs.nil))) (PSs.one (PS.ret (PE.var 3))))))
theorem at15 (T : Tx P w K mg base en CC) {f : Addr} {fd : FuncData} (F : L2.Fun K "_step_at" "_step_at" s15 f fd) (hm : mg "_step_at" = some (.ref f)) (D16 : DefAt P w K mg base en 1 "_changes_from" 2 f16) : DefAt P w K mg base en 2 "_step_at" 2 f15 :=
  DefAt.mk' hm F (ok15 T F D16) (F.binds fun _ _ _ _ _ _ us hl => match us, hl with | [_, _], _ => rfl)
/-! common_step -/
abbrev s14 : Stmt := top 14
def m14 : SM := (mSeq (mSet 2 (mC (.int 1))) (mSeq (mFor (mRng1 (aCons (mVar 1) aNil)) (gVar 3) (mSeq (mSet 4 (mCall f15 (aCons (mVar 0) (aCons (mVar 3) aNil)))) (mIfS (mB (mO2 opGt (mVar 4) (mC (.int 0)))) (mSet 2 (mOA (bin2 opLcm) (aCons (mVar 2) (aCons (mVar 4) aNil)))) mNil))) (mRet (mVar 2))))
def f14 : FM := mFn 2 5 m14
abbrev mn_common_step : SM := m14
abbrev fn_common_step : FM := f14
theorem sc14 : FnScope ["moves", "many", "common", "start", "step"] ["moves", "many"] (defScope s14) := ⟨rfl, rfl, rfl, by decide +kernel, rfl, by decide +kernel, by decide +kernel⟩
theorem ok14 (T : Tx P w K mg base en CC) {f : Addr} {fd : FuncData} (F : L2.Fun K "common_step" "common_step" s14 f fd) (D15 : DefAt P w K mg base en 2 "_step_at" 2 f15) : FnG P w K mg base 3 f fd ["moves", "many"] (spM en 2 f14) := by
  obtain ⟨oc, od, kV, doc, pm, an, cdv, ct, osl, rfl, lk, hcd⟩ := F.ex
  exact fnG_of lk hcd sc14 T.hK T.sm fun A outer s H E G => (PSs.cons (PS.set (i := 2) sc14.nd rfl (by first | exact .inl rfl | exact .inr rfl) PE.int) (PSs.cons (PS.for G.pass G.calm (PI.rng1 rfl T.b_range (PA.cons (PE.var 1) PA.nil)) (PG.var (i := 3) sc14.nd rfl (by first | exact .inl rfl | exact .inr rfl)) (PSs.cons (PS.set (i := 4) sc14.nd rfl (by first | exact .inl rfl | exact .inr rfl) (PE.call D15 G (by decide) rfl (PA.cons (PE.var 0) (PA.cons (PE.var 3) PA.nil)))) (PSs.one (PS.if (PT.cmp op_gtM (PE.var 4) PE.int (nomark _)) (PSs.one (PS.set (i := 2) sc14.nd rfl (by first | exact .inl rfl | exact .inr rfl) (PE.bfn call_lcmM rfl T.m_lcm (PA.cons (PE.var 2) (PA.cons (PE.var 4) PA.nil))))) PSs.nil)))) (PSs.one (PS.ret (PE.var 2)))))
theorem at14 (T : Tx P w K mg base en CC) {f : Addr} {fd : FuncData} (F : L2.Fun K "common_step" "common_step" s14 f fd) (hm : mg "common_step" = some (.ref f)) (D15 : DefAt P w K mg base en 2 "_step_at" 2 f15) : DefAt P w K mg base en 3 "common_step" 2 f14 :=
  DefAt.mk' hm F (ok14 T F D15) (F.binds fun _ _ _ _ _ _ us hl => match us, hl with | [_, _], _ => rfl)
/-! ('Walks', '__init__') -/
abbrev s_Walks___init__ : Stmt := inClass (top 26) 0
def m_Walks___init__ : SM := (mSeq (mFst x__at (mDc (mEnum (aCons (mVar 1) aNil)) (gTupM 2 (gsCons (gVar 5) (gsCons (gVar 6) gsNil))) bYes (mVar 6) (mVar 5) [5, 6]) (mVar 0)) (mSeq (mSet 3 (mLc (mWalk (mVar 2)) (gTupM 4 (gsCons (gVar 6) (gsCons (gVar 7) (gsCons (gVar 8) (gsCons (gVar 9) gsNil))))) bYes (mOA opTup (aCons (mO2 opIx (mO1 (opFld x__at) (mVar 0)) (mVar 6)) (aCons (mVar 7) (aCons (mVar 8) (aCons (mO2 opIx (mO1 (opFld x__at) (mVar 0)) (mVar 9)) aNil))))) [6, 7, 8, 9])) (mSeq (mSet 4 (mLc (mWalk (mVar 3)) (gTupM 4 (gsCons (gVar 6) (gsCons (gVar 7) (gsCons (gVar 8) (gsCons (gVar 9) gsNil))))) bYes (mOA opTup (aCons (mVar 9) (aCons (mO2 opAdd (mVar 7) (mVar 8)) (aCons (mO1 opNeg (mVar 8)) (aCons (mVar 6) aNil))))) [6, 7, 8, 9])) (mSeq (mFst x__ways (mOA opTup (aCons (mVar 3) (aCons (mVar 4) aNil))) (mVar 0)) (mSeq (mFst x__tables mDict0 (mVar 0)) (mFst x__common (mCall f14 (aCons (mVar 3) (aCons (mOA (un1 opLen) (aCons (mVar 1) aNil)) aNil))) (mVar 0)))))))
def f_Walks___init__ : FM := mFn 3 10 m_Walks___init__
theorem sc_Walks___init__ : FnScope ["self", "places", "moves", "onward", "turned", "at", "place", "least", "change", "other"] ["self", "places", "moves"] (defScope s_Walks___init__) := ⟨rfl, rfl, rfl, by decide +kernel, rfl, by decide +kernel, by decide +kernel⟩
theorem ok_Walks___init__ (T : Tx P w K mg base en CC) {f : Addr} {fd : FuncData} (F : L2.Fun K "__init__" "Walks.__init__" s_Walks___init__ f fd) (D14 : DefAt P w K mg base en 3 "common_step" 2 f14) : FnG P w K mg base 4 f fd ["self", "places", "moves"] (spM en 3 f_Walks___init__) := by
  obtain ⟨oc, od, kV, doc, pm, an, cdv, ct, osl, rfl, lk, hcd⟩ := F.ex
  exact fnG_of lk hcd sc_Walks___init__ T.hK T.sm fun A outer s H E G => (PSs.cons (PS.fst G.K T.x__at (PE.var 0) (PE.dcG G sc_Walks___init__.nd (PI.enm rfl T.b_enumerate (PA.cons (PE.var 1) PA.nil)) (own := [("at", 5), ("place", 6)]) ⟨rfl, by decide +kernel, of_decide_eq_true (by kernel_rfl), of_decide_eq_true (by kernel_rfl), of_decide_eq_true (by kernel_rfl)⟩ (fun s3 H3 C3 cl3 fp3 G => (PG.tup G.calm (PGs.cons (PG.var (i := 5) sc_Walks___init__.nd rfl (by first | exact .inl rfl | exact .inr rfl)) (PGs.cons (PG.var (i := 6) sc_Walks___init__.nd rfl (by first | exact .inl rfl | exact .inr rfl)) PGs.nil)))) (fun s3 H3 C3 cl3 fp3 G => PTs.nil) (fun s3 H3 C3 cl3 fp3 G => (PE.var 6)) (fun s3 H3 C3 cl3 fp3 G => (PE.var 5)))) (PSs.cons (PS.setLcG (i := 3) G sc_Walks___init__.nd rfl rfl (by first | rfl | decide) (PI.walk G.K (PE.var 2)) (own := [("place", 6), ("least", 7), ("change", 8), ("other", 9)]) ⟨rfl, by decide +kernel, of_decide_eq_true (by kernel_rfl), of_decide_eq_true (by kernel_rfl), of_decide_eq_true (by kernel_rfl)⟩ (fun s3 H3 C3 cl3 fp3 G => (PG.tup G.calm (PGs.cons (PG.var (i := 6) sc_Walks___init__.nd rfl (by first | exact .inl rfl | exact .inr rfl)) (PGs.cons (PG.var (i := 7) sc_Walks___init__.nd rfl (by first | exact .inl rfl | exact .inr rfl)) (PGs.cons (PG.var (i := 8) sc_Walks___init__.nd rfl (by first | exact .inl rfl | exact .inr rfl)) (PGs.cons (PG.var (i := 9) sc_Walks___init__.nd rfl (by first | exact .inl rfl | exact .inr rfl)) PGs.nil)))))) (fun s3 H3 C3 cl3 fp3 G => PTs.nil) (fun s3 H3 C3 cl3 fp3 G => (PE.tup (PA.cons (PE.ix G.K G.u1 (PE.fld G.K T.x__at (PE.var 0)) (PE.var 6) (fun _ _ => rfl)) (PA.cons (PE.var 7) (PA.cons (PE.var 8) (PA.cons (PE.ix G.K G.u1 (PE.fld G.K T.x__at (PE.var 0)) (PE.var 9) (fun _ _ => rfl)) PA.nil))))))) (PSs.cons (PS.setLcG (i := 4) G sc_Walks___init__.nd rfl rfl (by first | rfl | decide) (PI.walk G.K (PE.var 3)) (own := [("place", 6), ("least", 7), ("change", 8), ("other", 9)]) ⟨rfl, by decide +kernel, of_decide_eq_true (by kernel_rfl), of_decide_eq_true (by kernel_rfl), of_decide_eq_true (by kernel_rfl)⟩ (fun s3 H3 C3 cl3 fp3 G => (PG.tup G.calm (PGs.cons (PG.var (i := 6) sc_Walks___init__.nd rfl (by first | exact .inl rfl | exact .inr rfl)) (PGs.cons (PG.var (i := 7) sc_Walks___init__.nd rfl (by first | exact .inl rfl | exact .inr rfl)) (PGs.cons (PG.var (i := 8) sc_Walks___init__.nd rfl (by first | exact .inl rfl | exact .inr rfl)) (PGs.cons (PG.var (i := 9) sc_Walks___init__.nd rfl (by first | exact .inl rfl | exact .inr rfl)) PGs.nil)))))) (fun s3 H3 C3 cl3 fp3 G => PTs.nil) (fun s3 H3 C3 cl3 fp3 G => (PE.tup (PA.cons (PE.var 9) (PA.cons (PE.o2 op_addM (PE.var 7) (PE.var 8)) (PA.cons (PE.un op_negM (PE.var 8)) (PA.cons (PE.var 6) PA.nil))))))) (PSs.cons (PS.fst G.K T.x__ways (PE.var 0) (PE.tup (PA.cons (PE.var 3) (PA.cons (PE.var 4) PA.nil)))) (PSs.cons (PS.fst G.K T.x__tables (PE.var 0) PE.dict0) (PSs.one (PS.fst G.K T.x__common (PE.var 0) (PE.call D14 G (by decide) rfl (PA.cons (PE.var 3) (PA.cons (PE.callB (call_lenM G.K) rfl T.b_len rfl (PA.cons (PE.var 1) PA.nil)) PA.nil))))))))))
theorem at_Walks___init__ (T : Tx P w K mg base en CC) {f C : Addr} {fd : FuncData} (F : L2.Fun K "__init__" "Walks.__init__" s_Walks___init__ f fd) (cf : ClsF en 6 C ["_at", "_ways", "_tables", "_common"]) (hm : mg "Walks" = some (.ref C)) (mk : Mk K C f) (D14 : DefAt P w K mg base en 3 "common_step" 2 f14) : MakeAt P w K mg base en 4 "Walks" 6 3 f_Walks___init__ :=
  ⟨⟨f, fd, _, C, _, cf, hm, mk, ok_Walks___init__ T F D14, (F.binds fun _ _ _ _ _ _ us hl => match us, hl with | [_, _, _], _ => rfl)⟩, fun vs h e => mFn_len e⟩
/-! ('Program', '__init__') -/
abbrev s_Program___init__ : Stmt := inClass (top 32) 0
def m_Program___init__ : SM := (mSeq (mDrop (mCall f35 (aCons (mVar 1) aNil))) (mSeq (mDrop (mCall f36 (aCons (mVar 2) (aCons (mVar 1) aNil)))) (mSeq (mFst x__places (mOA (un1 opList) (aCons (mVar 1) aNil)) (mVar 0)) (mSeq (mFst x__moves (mOA (un1 opList) (aCons (mVar 2) aNil)) (mVar 0)) (mFst x__walks (mMake 6 f_Walks___init__ (aCons (mO1 (opFld x__places) (mVar 0)) (aCons (mO1 (opFld x__moves) (mVar 0)) aNil))) (mVar 0))))))
def f_Program___init__ : FM := mFn 3 3 m_Program___init__
theorem sc_Program___init__ : FnScope ["self", "places", "moves"] ["self", "places", "moves"] (defScope s_Program___init__) := ⟨rfl, rfl, rfl, by decide +kernel, rfl, by decide +kernel, by decide +kernel⟩
theorem ok_Program___init__ (T : Tx P w K mg base en CC) {f : Addr} {fd : FuncData} (F : L2.Fun K "__init__" "Program.__init__" s_Program___init__ f fd) (D35 : DefAt P w K mg base en 2 "_check_places" 1 f35) (D36 : DefAt P w K mg base en 4 "_check_moves" 2 f36) (D_Walks : MakeAt P w K mg base en 4 "Walks" 6 3 f_Walks___init__) : FnG P w K mg base 6 f fd ["self", "places", "moves"] (spM en 3 f_Program___init__) := by
  obtain ⟨oc, od, kV, doc, pm, an, cdv, ct, osl, rfl, lk, hcd⟩ := F.ex
  exact fnG_of lk hcd sc_Program___init__ T.hK T.sm fun A outer s H E G => (PSs.cons (PS.expr (PE.call D35 G (by decide) rfl (PA.cons (PE.var 1) PA.nil))) (PSs.cons (PS.expr (PE.call D36 G (by decide) rfl (PA.cons (PE.var 2) (PA.cons (PE.var 1) PA.nil)))) (PSs.cons (PS.fst G.K T.x__places (PE.var 0) (PE.callTy call_listM rfl T.b_list rfl (PA.cons (PE.var 1) PA.nil))) (PSs.cons (PS.fst G.K T.x__moves (PE.var 0) (PE.callTy call_listM rfl T.b_list rfl (PA.cons (PE.var 2) PA.nil))) (PSs.one (PS.fst G.K T.x__walks (PE.var 0) (PE.make D_Walks G (by decide) rfl (PA.cons (PE.fld G.K T.x__places (PE.var 0)) (PA.cons (PE.fld G.K T.x__moves (PE.var 0)) PA.nil)))))))))
theorem at_Program___init__ (T : Tx P w K mg base en CC) {f C : Addr} {fd : FuncData} (F : L2.Fun K "__init__" "Program.__init__" s_Program___init__ f fd) (cf : ClsF en 7 C ["_places", "_moves", "_walks"]) (hm : mg "Program" = some (.ref C)) (mk : Mk K C f) (D35 : DefAt P w K mg base en 2 "_check_places" 1 f35) (D36 : DefAt P w K mg base en 4 "_check_moves" 2 f36) (D_Walks : MakeAt P w K mg base en 4 "Walks" 6 3 f_Walks___init__) : MakeAt P w K mg base en 6 "Program" 7 3 f_Program___init__ :=
  ⟨⟨f, fd, _, C, _, cf, hm, mk, ok_Program___init__ T F D35 D36 D_Walks, (F.binds fun _ _ _ _ _ _ us hl => match us, hl with | [_, _, _], _ => rfl)⟩, fun vs h e => mFn_len e⟩
/-! _law_program -/
abbrev s60 : Stmt := top 60
def m60 : SM := (mRet (mMake 7 f_Program___init__ (aCons (mOA (un1 opList) (aCons (mO2 opIx (mVar 0) (mC (.int 0))) aNil)) (aCons (mOA (un1 opList) (aCons (mO2 opIx (mVar 0) (mC (.int 1))) aNil)) aNil))))
def f60 : FM := mFn 1 1 m60
abbrev mn__law_program : SM := m60
abbrev fn__law_program : FM := f60
theorem sc60 : FnScope ["_law_parts"] ["_law_parts"] (defScope s60) := ⟨rfl, rfl, rfl, by decide +kernel, rfl, by decide +kernel, by decide +kernel⟩
theorem ok60 (T : Tx P w K mg base en CC) {f : Addr} {fd : FuncData} (F : L2.Fun K "_law_program" "_law_program" s60 f fd) (D_Program : MakeAt P w K mg base en 6 "Program" 7 3 f_Program___init__) : FnG P w K mg base 8 f fd ["_law_parts"] (spM en 1 f60) := by
  obtain ⟨oc, od, kV, doc, pm, an, cdv, ct, osl, rfl, lk, hcd⟩ := F.ex
  exact fnG_of lk hcd sc60 T.hK T.sm fun A outer s H E G => (PSs.one (PS.ret (PE.make D_Program G (by decide) rfl (PA.cons (PE.callTy call_listM rfl T.b_list rfl (PA.cons (PE.ix G.K G.u1 (PE.var 0) PE.int (fun _ _ => rfl)) PA.nil)) (PA.cons (PE.callTy call_listM rfl T.b_list rfl (PA.cons (PE.ix G.K G.u1 (PE.var 0) PE.int (fun _ _ => rfl)) PA.nil)) PA.nil)))))
theorem at60 (T : Tx P w K mg base en CC) {f : Addr} {fd : FuncData} (F : L2.Fun K "_law_program" "_law_program" s60 f fd) (hm : mg "_law_program" = some (.ref f)) (D_Program : MakeAt P w K mg base en 6 "Program" 7 3 f_Program___init__) : DefAt P w K mg base en 8 "_law_program" 1 f60 :=
  DefAt.mk' hm F (ok60 T F D_Program) (F.binds fun _ _ _ _ _ _ us hl => match us, hl with | [_], _ => rfl)
/-! check_program -/
abbrev s38 : Stmt := top 38
def m38 : SM := (mIfS (bNot (mB (mO1 (opIsi is_Program) (mVar 0)))) (mRaise 3 1 (aCons (mVar 0) aNil)) mNil)
def f38 : FM := mFn 1 1 m38
abbrev mn_check_program : SM := m38
abbrev fn_check_program : FM := f38
theorem sc38 : FnScope ["program"] ["program"] (defScope s38) := ⟨rfl, rfl, rfl, by decide +kernel, rfl, by decide +kernel, by decide +kernel⟩
theorem ok38 (T : Tx P w K mg base en CC) {f : Addr} {fd : FuncData} (F : L2.Fun K "check_program" "check_program" s38 f fd)  : FnG P w K mg base 1 f fd ["program"] (spM en 1 f38) := by
  obtain ⟨oc, od, kV, doc, pm, an, cdv, ct, osl, rfl, lk, hcd⟩ := F.ex
  exact fnG_of lk hcd sc38 T.hK T.sm fun A outer s H E G => (PSs.one (PS.if (PT.not (PT.val (PE.isi G.K (.own _) T.is_Program rfl T.b_isinstance (PE.var 0) (pe_glob rfl T.g_Program rfl)))) (PSs.one (PS.raise T.e3 G rfl (PA.cons (PE.var 0) PA.nil))) PSs.nil))
theorem at38 (T : Tx P w K mg base en CC) {f : Addr} {fd : FuncData} (F : L2.Fun K "check_program" "check_program" s38 f fd) (hm : mg "check_program" = some (.ref f))  : DefAt P w K mg base en 1 "check_program" 1 f38 :=
  DefAt.mk' hm F (ok38 T F ) (F.binds fun _ _ _ _ _ _ us hl => match us, hl with | [_], _ => rfl)
/-! ('Program', 'places') -/
abbrev s_Program_places : Stmt := inClass (top 32) 1
def m_Program_places : SM := (mRet (mOA (un1 opList) (aCons (mO1 (opFld x__places) (mVar 0)) aNil)))
def f_Program_places : FM := mFn 1 1 m_Program_places
theorem sc_Program_places : FnScope ["self"] ["self"] (defScope s_Program_places) := ⟨rfl, rfl, rfl, by decide +kernel, rfl, by decide +kernel, by decide +kernel⟩
theorem ok_Program_places (T : Tx P w K mg base en CC) {f : Addr} {fd : FuncData} (F : L2.Fun K "places" "Program.places" s_Program_places f fd)  : FnG P w K mg base 1 f fd ["self"] (spM en 1 f_Program_places) := by
  obtain ⟨oc, od, kV, doc, pm, an, cdv, ct, osl, rfl, lk, hcd⟩ := F.ex
  exact fnG_of lk hcd sc_Program_places T.hK T.sm fun A outer s H E G => (PSs.one (PS.ret (PE.callTy call_listM rfl T.b_list rfl (PA.cons (PE.fld G.K T.x__places (PE.var 0)) PA.nil))))
theorem at_Program_places (T : Tx P w K mg base en CC) {f C : Addr} {fd : FuncData} (F : L2.Fun K "places" "Program.places" s_Program_places f fd) (cf : ClsF en 7 C ["_places", "_moves", "_walks"]) (hm : Meth K C "places" f)  : MethAt P w K mg base en 1 7 "places" 1 f_Program_places :=
  ⟨⟨f, fd, _, C, _, cf, by decide +kernel, hm, ok_Program_places T F , (F.binds fun _ _ _ _ _ _ us hl => match us, hl with | [_], _ => rfl)⟩, fun vs h e => mFn_len e⟩
/-! ('Program', 'moves') -/
abbrev s_Program_moves : Stmt := inClass (top 32) 2
def m_Program_moves : SM := (mRet (mOA (un1 opList) (aCons (mO1 (opFld x__moves) (mVar 0)) aNil)))
def f_Program_moves : FM := mFn 1 1 m_Program_moves
theorem sc_Program_moves : FnScope ["self"] ["self"] (defScope s_Program_moves) := ⟨rfl, rfl, rfl, by decide +kernel, rfl, by decide +kernel, by decide +kernel⟩
theorem ok_Program_moves (T : Tx P w K mg base en CC) {f : Addr} {fd : FuncData} (F : L2.Fun K "moves" "Program.moves" s_Program_moves f fd)  : FnG P w K mg base 1 f fd ["self"] (spM en 1 f_Program_moves) := by
  obtain ⟨oc, od, kV, doc, pm, an, cdv, ct, osl, rfl, lk, hcd⟩ := F.ex
  exact fnG_of lk hcd sc_Program_moves T.hK T.sm fun A outer s H E G => (PSs.one (PS.ret (PE.callTy call_listM rfl T.b_list rfl (PA.cons (PE.fld G.K T.x__moves (PE.var 0)) PA.nil))))
theorem at_Program_moves (T : Tx P w K mg base en CC) {f C : Addr} {fd : FuncData} (F : L2.Fun K "moves" "Program.moves" s_Program_moves f fd) (cf : ClsF en 7 C ["_places", "_moves", "_walks"]) (hm : Meth K C "moves" f)  : MethAt P w K mg base en 1 7 "moves" 1 f_Program_moves :=
  ⟨⟨f, fd, _, C, _, cf, by decide +kernel, hm, ok_Program_moves T F , (F.binds fun _ _ _ _ _ _ us hl => match us, hl with | [_], _ => rfl)⟩, fun vs h e => mFn_len e⟩
/-! text_of -/
abbrev s45 : Stmt := top 45
def m45 : SM := (mSeq (mDrop (mCall f38 (aCons (mVar 0) aNil))) (mSeq (mSet 1 (mOA opLst (aCons (mO2 opAdd (mOA opLst (aCons (mC (.str "places")) aNil)) (mMeth 7 f_Program_places (mVar 0) aNil)) aNil))) (mSeq (mFor (mWalk (mMeth 7 f_Program_moves (mVar 0) aNil)) (gTupM 4 (gsCons (gVar 2) (gsCons (gVar 3) (gsCons (gVar 4) (gsCons (gVar 5) gsNil))))) (mDrop (mBm opAppend (mVar 1) (aCons (mOA opLst (aCons (mC (.str "move")) (aCons (mVar 2) (aCons (mOA (un1 opStr) (aCons (mVar 3) aNil)) (aCons (mO1 opPlus (mVar 4)) (aCons (mVar 5) aNil)))))) aNil)))) (mRet (mS1 opJoin (mC (.str "\n")) (mLc (mWalk (mVar 1)) (gVar 6) bYes (mS1 opJoin (mC (.str " ")) (mVar 6)) [6]))))))
def f45 : FM := mFn 1 7 m45
abbrev mn_text_of : SM := m45
abbrev fn_text_of : FM := f45
theorem sc45 : FnScope ["program", "lines", "place", "least", "change", "other", "parts"] ["program"] (defScope s45) := ⟨rfl, rfl, rfl, by decide +kernel, rfl, by decide +kernel, by decide +kernel⟩
theorem ok45 (T : Tx P w K mg base en CC) {f : Addr} {fd : FuncData} (F : L2.Fun K "text_of" "text_of" s45 f fd) (D38 : DefAt P w K mg base en 1 "check_program" 1 f38) (D_Program_places : MethAt P w K mg base en 1 7 "places" 1 f_Program_places) (D_Program_moves : MethAt P w K mg base en 1 7 "moves" 1 f_Program_moves) : FnG P w K mg base 2 f fd ["program"] (spM en 1 f45) := by
  obtain ⟨oc, od, kV, doc, pm, an, cdv, ct, osl, rfl, lk, hcd⟩ := F.ex
  exact fnG_of lk hcd sc45 T.hK T.sm fun A outer s H E G => (PSs.cons (PS.expr (PE.call D38 G (by decide) rfl (PA.cons (PE.var 0) PA.nil))) (PSs.cons (PS.set (i := 1) sc45.nd rfl (by first | exact .inl rfl | exact .inr rfl) (PE.lst (PA.cons (PE.o2 op_addM (PE.lst (PA.cons (PE.gstr T.c_PLACES rfl) PA.nil)) (PE.meth0 D_Program_places G (by decide) (PE.var 0))) PA.nil))) (PSs.cons (PS.for G.pass G.calm (PI.walk G.K (PE.meth0 D_Program_moves G (by decide) (PE.var 0))) (PG.tup G.calm (PGs.cons (PG.var (i := 2) sc45.nd rfl (by first | exact .inl rfl | exact .inr rfl)) (PGs.cons (PG.var (i := 3) sc45.nd rfl (by first | exact .inl rfl | exact .inr rfl)) (PGs.cons (PG.var (i := 4) sc45.nd rfl (by first | exact .inl rfl | exact .inr rfl)) (PGs.cons (PG.var (i := 5) sc45.nd rfl (by first | exact .inl rfl | exact .inr rfl)) PGs.nil))))) (PSs.one (PS.expr (PE.append (PE.var 1) (PA.cons (PE.lst (PA.cons (PE.gstr T.c_MOVE rfl) (PA.cons (PE.var 2) (PA.cons (PE.callTy call_strM rfl T.b_str rfl (PA.cons (PE.var 3) PA.nil)) (PA.cons (PE.plus (PE.var 4)) (PA.cons (PE.var 5) PA.nil)))))) PA.nil))))) (PSs.one (PS.ret (PE.join PE.str (PE.lcG G sc45.nd (PI.walk G.K (PE.var 1)) (own := [("parts", 6)]) ⟨rfl, by decide +kernel, of_decide_eq_true (by kernel_rfl), of_decide_eq_true (by kernel_rfl), of_decide_eq_true (by kernel_rfl)⟩ (fun s3 H3 C3 cl3 fp3 G => (PG.var (i := 6) sc45.nd rfl (by first | exact .inl rfl | exact .inr rfl))) (fun s3 H3 C3 cl3 fp3 G => PTs.nil) (fun s3 H3 C3 cl3 fp3 G => (PE.join PE.str (PE.var 6))))))))))
theorem at45 (T : Tx P w K mg base en CC) {f : Addr} {fd : FuncData} (F : L2.Fun K "text_of" "text_of" s45 f fd) (hm : mg "text_of" = some (.ref f)) (D38 : DefAt P w K mg base en 1 "check_program" 1 f38) (D_Program_places : MethAt P w K mg base en 1 7 "places" 1 f_Program_places) (D_Program_moves : MethAt P w K mg base en 1 7 "moves" 1 f_Program_moves) : DefAt P w K mg base en 2 "text_of" 1 f45 :=
  DefAt.mk' hm F (ok45 T F D38 D_Program_places D_Program_moves) (F.binds fun _ _ _ _ _ _ us hl => match us, hl with | [_], _ => rfl)
/-! ('Program', '__eq__') -/
abbrev s_Program___eq__ : Stmt := inClass (top 32) 4
def m_Program___eq__ : SM := (mRet (mAnd (mO1 (opIsi is_Program) (mVar 1)) (mAnd (mO2 (eqD false) (mO1 (opFld x__places) (mVar 0)) (mO1 (opFld x__places) (mVar 1))) (mO2 (eqD false) (mO1 (opFld x__moves) (mVar 0)) (mO1 (opFld x__moves) (mVar 1))))))
def f_Program___eq__ : FM := mFn 2 2 m_Program___eq__
def own_eqs : List (Nat × FM) := [(7, f_Program___eq__)]
theorem sc_Program___eq__ : FnScope ["self", "other"] ["self", "other"] (defScope s_Program___eq__) := ⟨rfl, rfl, rfl, by decide +kernel, rfl, by decide +kernel, by decide +kernel⟩
theorem ok_Program___eq__ (T : Tx P w K mg base en CC) {f : Addr} {fd : FuncData} (F : L2.Fun K "__eq__" "Program.__eq__" s_Program___eq__ f fd)  : FnG P w K mg base 1 f fd ["self", "other"] (spM en 2 f_Program___eq__) := by
  obtain ⟨oc, od, kV, doc, pm, an, cdv, ct, osl, rfl, lk, hcd⟩ := F.ex
  exact fnG_of lk hcd sc_Program___eq__ T.hK T.sm fun A outer s H E G => (PSs.one (PS.ret (PE.and (PE.isi G.K (.own _) T.is_Program rfl T.b_isinstance (PE.var 1) (pe_glob rfl T.g_Program rfl)) (PE.and (PE.cmp (op_eqM G.sm G.u64) (PE.fld G.K T.x__places (PE.var 0)) (PE.fld G.K T.x__places (PE.var 1)) (nomark _)) (PE.and1 (PE.cmp (op_eqM G.sm G.u64) (PE.fld G.K T.x__moves (PE.var 0)) (PE.fld G.K T.x__moves (PE.var 1)) (nomark _)))))))
theorem at_Program___eq__ (T : Tx P w K mg base en CC) {f C : Addr} {fd : FuncData} (F : L2.Fun K "__eq__" "Program.__eq__" s_Program___eq__ f fd) (cf : ClsF en 7 C ["_places", "_moves", "_walks"]) (hm : Meth K C "__eq__" f)  : MethAt P w K mg base en 1 7 "__eq__" 2 f_Program___eq__ :=
  ⟨⟨f, fd, _, C, _, cf, by decide +kernel, hm, ok_Program___eq__ T F , (F.binds fun _ _ _ _ _ _ us hl => match us, hl with | [_, _], _ => rfl)⟩, fun vs h e => mFn_len e⟩
/-! _law_spaced -/
abbrev s62 : Stmt := top 62
def m62 : SM := (mSeq (mPar 3 4 (aCons (mOA opLst (aCons (mC (.str "")) (aCons (mC (.str " ")) (aCons (mC (.str "  ")) (aCons (mC (.str "    ")) aNil))))) (aCons (mOA opLst aNil) aNil))) (mSeq (mFor (mWalk (mVar 1)) (gVar 2) (mSeq (mSet 5 (mO2 opAdd (mO2 opIx (mVar 3) (mCall f57 (aCons (mVar 0) (aCons (mC (.int 4)) aNil)))) (mO2 opIx (mVar 2) (mC (.int 0))))) (mSeq (mFor (mWalk (mCut (mVar 2) (pSome (mC (.int 1))) pNone)) (gVar 6) (mSet 5 (mO2 opAdd (mO2 opAdd (mVar 5) (mO2 opIx (mVar 3) (mO2 opAdd (mC (.int 1)) (mCall f57 (aCons (mVar 0) (aCons (mC (.int 3)) aNil)))))) (mVar 6)))) (mSeq (mDrop (mBm opAppend (mVar 4) (aCons (mO2 opAdd (mVar 5) (mO2 opIx (mVar 3) (mCall f57 (aCons (mVar 0) (aCons (mC (.int 4)) aNil))))) aNil))) (mIfS (mB (mO2 (eqD false) (mCall f57 (aCons (mVar 0) (aCons (mC (.int 3)) aNil))) (mC (.int 0)))) (mDrop (mBm opAppend (mVar 4) (aCons (mO2 opIx (mVar 3) (mCall f57 (aCons (mVar 0) (aCons (mC (.int 3)) aNil)))) aNil))) mNil))))) (mRet (mS1 opJoin (mC (.str "\n")) (mO2 opAdd (mO2 opAdd (mO2 opMul (mOA opLst (aCons (mC (.str "")) aNil)) (mCall f57 (aCons (mVar 0) (aCons (mC (.int 2)) aNil)))) (mVar 4)) (mO2 opMul (mOA opLst (aCons (mC (.str " ")) aNil)) (mCall f57 (aCons (mVar 0) (aCons (mC (.int 2)) aNil)))))))))
def f62 : FM := mFn 2 7 m62
abbrev mn__law_spaced : SM := m62
abbrev fn__law_spaced : FM := f62
theorem sc62 : FnScope ["_law_generator_here", "_law_lines_here", "_law_tokens", "_law_blanks", "_law_rows", "_law_line", "_law_token"] ["_law_generator_here", "_law_lines_here"] (defScope s62) := ⟨rfl, rfl, rfl, by decide +kernel, rfl, by decide +kernel, by decide +kernel⟩
theorem ok62 (T : Tx P w K mg base en CC) {f : Addr} {fd : FuncData} (F : L2.Fun K "_law_spaced" "_law_spaced" s62 f fd) (D57 : DefAt P w K mg base en 2 "_law_random" 2 f57) : FnG P w K mg base 3 f fd ["_law_generator_here", "_law_lines_here"] (spM en 2 f62) := by
  obtain ⟨oc, od, kV, doc, pm, an, cdv, ct, osl, rfl, lk, hcd⟩ := F.ex
  exact fnG_of lk hcd sc62 T.hK T.sm fun A outer s H E G => (PSs.cons (PS.par (i := 3) (j := 4) G.calm sc62.nd rfl rfl (by decide) rfl rfl (PA.cons (PE.lst (PA.cons PE.str (PA.cons PE.str (PA.cons PE.str (PA.cons PE.str PA.nil))))) (PA.cons (PE.lst PA.nil) PA.nil)) (by rfl)) (PSs.cons (PS.for G.pass G.calm (PI.walk G.K (PE.var 1)) (PG.var (i := 2) sc62.nd rfl (by first | exact .inl rfl | exact .inr rfl)) (PSs.cons (PS.set (i := 5) sc62.nd rfl (by first | exact .inl rfl | exact .inr rfl) (PE.o2 op_addM (PE.ix G.K G.u1 (PE.var 3) (PE.call D57 G (by decide) rfl (PA.cons (PE.var 0) (PA.cons PE.int PA.nil))) (fun _ _ => rfl)) (PE.ix G.K G.u1 (PE.var 2) PE.int (fun _ _ => rfl)))) (PSs.cons (PS.for G.pass G.calm (PI.walk G.K (PE.cut (PE.var 2) (PO.som PE.int) PO.non)) (PG.var (i := 6) sc62.nd rfl (by first | exact .inl rfl | exact .inr rfl)) (PSs.one (PS.set (i := 5) sc62.nd rfl (by first | exact .inl rfl | exact .inr rfl) (PE.o2 op_addM (PE.o2 op_addM (PE.var 5) (PE.ix G.K G.u1 (PE.var 3) (PE.o2 op_addM PE.int (PE.call D57 G (by decide) rfl (PA.cons (PE.var 0) (PA.cons PE.int PA.nil)))) (fun _ _ => rfl))) (PE.var 6))))) (PSs.cons (PS.expr (PE.append (PE.var 4) (PA.cons (PE.o2 op_addM (PE.var 5) (PE.ix G.K G.u1 (PE.var 3) (PE.call D57 G (by decide) rfl (PA.cons (PE.var 0) (PA.cons PE.int PA.nil))) (fun _ _ => rfl))) PA.nil))) (PSs.one (PS.if (PT.cmp (op_eqM G.sm G.u64) (PE.call D57 G (by decide) rfl (PA.cons (PE.var 0) (PA.cons PE.int PA.nil))) PE.int (nomark _)) (PSs.one (PS.expr (PE.append (PE.var 4) (PA.cons (PE.ix G.K G.u1 (PE.var 3) (PE.call D57 G (by decide) rfl (PA.cons (PE.var 0) (PA.cons PE.int PA.nil))) (fun _ _ => rfl)) PA.nil)))) PSs.nil)))))) (PSs.one (PS.ret (PE.join PE.str (PE.o2 op_addM (PE.o2 op_addM (PE.o2 op_mulM (PE.lst (PA.cons PE.str PA.nil)) (PE.call D57 G (by decide) rfl (PA.cons (PE.var 0) (PA.cons PE.int PA.nil)))) (PE.var 4)) (PE.o2 op_mulM (PE.lst (PA.cons PE.str PA.nil)) (PE.call D57 G (by decide) rfl (PA.cons (PE.var 0) (PA.cons PE.int PA.nil))))))))))
theorem at62 (T : Tx P w K mg base en CC) {f : Addr} {fd : FuncData} (F : L2.Fun K "_law_spaced" "_law_spaced" s62 f fd) (hm : mg "_law_spaced" = some (.ref f)) (D57 : DefAt P w K mg base en 2 "_law_random" 2 f57) : DefAt P w K mg base en 3 "_law_spaced" 2 f62 :=
  DefAt.mk' hm F (ok62 T F D57) (F.binds fun _ _ _ _ _ _ us hl => match us, hl with | [_, _], _ => rfl)
/-! _lines_of -/
abbrev s47 : Stmt := top 47
def m47 : SM := (mSeq (mSet 1 (mLc (mWalk (mS1 opSplit (mVar 0) (mC (.str "\n")))) (gVar 2) bYes (mLc (mWalk (mS1 opSplit (mVar 2) (mC (.str " ")))) (gVar 4) (mTru (mVar 4)) (mVar 4) [4]) [2])) (mRet (mLc (mWalk (mVar 1)) (gVar 3) (mTru (mVar 3)) (mVar 3) [3])))
def f47 : FM := mFn 1 5 m47
abbrev mn__lines_of : SM := m47
abbrev fn__lines_of : FM := f47
theorem sc47 : FnScope ["text", "lines", "line", "parts", "part"] ["text"] (defScope s47) := ⟨rfl, rfl, rfl, by decide +kernel, rfl, by decide +kernel, by decide +kernel⟩
theorem ok47 (T : Tx P w K mg base en CC) {f : Addr} {fd : FuncData} (F : L2.Fun K "_lines_of" "_lines_of" s47 f fd)  : FnG P w K mg base 1 f fd ["text"] (spM en 1 f47) := by
  obtain ⟨oc, od, kV, doc, pm, an, cdv, ct, osl, rfl, lk, hcd⟩ := F.ex
  exact fnG_of lk hcd sc47 T.hK T.sm fun A outer s H E G => (PSs.cons (PS.setLcG (i := 1) G sc47.nd rfl rfl (by first | rfl | decide) (PI.walk G.K (PE.split (PE.var 0) PE.str)) (own := [("line", 2)]) ⟨rfl, by decide +kernel, of_decide_eq_true (by kernel_rfl), of_decide_eq_true (by kernel_rfl), of_decide_eq_true (by kernel_rfl)⟩ (fun s3 H3 C3 cl3 fp3 G => (PG.var (i := 2) sc47.nd rfl (by first | exact .inl rfl | exact .inr rfl))) (fun s3 H3 C3 cl3 fp3 G => PTs.nil) (fun s3 H3 C3 cl3 fp3 G => (PE.lcG G sc47.nd (PI.walk G.K (PE.split (PE.var 2) PE.str)) (own := [("part", 4)]) ⟨rfl, by decide +kernel, of_decide_eq_true (by kernel_rfl), of_decide_eq_true (by kernel_rfl), of_decide_eq_true (by kernel_rfl)⟩ (fun s3 H3 C3 cl3 fp3 G => (PG.var (i := 4) sc47.nd rfl (by first | exact .inl rfl | exact .inr rfl))) (fun s3 H3 C3 cl3 fp3 G => (PTs.one (PT.tru G.K (PE.var 4)))) (fun s3 H3 C3 cl3 fp3 G => (PE.var 4))))) (PSs.one (PS.ret (PE.lcG G sc47.nd (PI.walk G.K (PE.var 1)) (own := [("parts", 3)]) ⟨rfl, by decide +kernel, of_decide_eq_true (by kernel_rfl), of_decide_eq_true (by kernel_rfl), of_decide_eq_true (by kernel_rfl)⟩ (fun s3 H3 C3 cl3 fp3 G => (PG.var (i := 3) sc47.nd rfl (by first | exact .inl rfl | exact .inr rfl))) (fun s3 H3 C3 cl3 fp3 G => (PTs.one (PT.tru G.K (PE.var 3)))) (fun s3 H3 C3 cl3 fp3 G => (PE.var 3))))))
theorem at47 (T : Tx P w K mg base en CC) {f : Addr} {fd : FuncData} (F : L2.Fun K "_lines_of" "_lines_of" s47 f fd) (hm : mg "_lines_of" = some (.ref f))  : DefAt P w K mg base en 1 "_lines_of" 1 f47 :=
  DefAt.mk' hm F (ok47 T F ) (F.binds fun _ _ _ _ _ _ us hl => match us, hl with | [_], _ => rfl)
/-! _is_least -/
abbrev s50 : Stmt := top 50
def m50 : SM := (mRet (mAnd (mO2 (eqD false) (mOA (un1 opLen) (aCons (mVar 0) aNil)) (mC (.int 1))) (mO2 (opInX false) (mVar 0) (mC (.str "012345678")))))
def f50 : FM := mFn 1 1 m50
abbrev mn__is_least : SM := m50
abbrev fn__is_least : FM := f50
theorem sc50 : FnScope ["part"] ["part"] (defScope s50) := ⟨rfl, rfl, rfl, by decide +kernel, rfl, by decide +kernel, by decide +kernel⟩
theorem ok50 (T : Tx P w K mg base en CC) {f : Addr} {fd : FuncData} (F : L2.Fun K "_is_least" "_is_least" s50 f fd)  : FnG P w K mg base 1 f fd ["part"] (spM en 1 f50) := by
  obtain ⟨oc, od, kV, doc, pm, an, cdv, ct, osl, rfl, lk, hcd⟩ := F.ex
  exact fnG_of lk hcd sc50 T.hK T.sm fun A outer s H E G => (PSs.one (PS.ret (PE.and (PE.cmp (op_eqM G.sm G.u64) (PE.callB (call_lenM G.K) rfl T.b_len rfl (PA.cons (PE.var 0) PA.nil)) PE.int (nomark _)) (PE.and1 (PE.cmp (op_inX G.u1) (PE.var 0) (PE.gstr T.c_LEASTS rfl) (by with_unfolding_all rfl))))))
theorem at50 (T : Tx P w K mg base en CC) {f : Addr} {fd : FuncData} (F : L2.Fun K "_is_least" "_is_least" s50 f fd) (hm : mg "_is_least" = some (.ref f))  : DefAt P w K mg base en 1 "_is_least" 1 f50 :=
  DefAt.mk' hm F (ok50 T F ) (F.binds fun _ _ _ _ _ _ us hl => match us, hl with | [_], _ => rfl)
/-! _is_change -/
abbrev s51 : Stmt := top 51
def m51 : SM := (mRet (mAnd (mO2 (eqD false) (mOA (un1 opLen) (aCons (mVar 0) aNil)) (mC (.int 2))) (mAnd (mO2 (opInX false) (mO2 opIx (mVar 0) (mC (.int 0))) (mC (.str "+-"))) (mAnd (mO2 (opInX false) (mO2 opIx (mVar 0) (mC (.int 1))) (mC (.str "01234"))) (mO2 (eqD true) (mVar 0) (mC (.str "-0")))))))
def f51 : FM := mFn 1 1 m51
abbrev mn__is_change : SM := m51
abbrev fn__is_change : FM := f51
theorem sc51 : FnScope ["part"] ["part"] (defScope s51) := ⟨rfl, rfl, rfl, by decide +kernel, rfl, by decide +kernel, by decide +kernel⟩
theorem ok51 (T : Tx P w K mg base en CC) {f : Addr} {fd : FuncData} (F : L2.Fun K "_is_change" "_is_change" s51 f fd)  : FnG P w K mg base 1 f fd ["part"] (spM en 1 f51) := by
  obtain ⟨oc, od, kV, doc, pm, an, cdv, ct, osl, rfl, lk, hcd⟩ := F.ex
  exact fnG_of lk hcd sc51 T.hK T.sm fun A outer s H E G => (PSs.one (PS.ret (PE.and (PE.cmp (op_eqM G.sm G.u64) (PE.callB (call_lenM G.K) rfl T.b_len rfl (PA.cons (PE.var 0) PA.nil)) PE.int (nomark _)) (PE.and (PE.cmp (op_inX G.u1) (PE.ix G.K G.u1 (PE.var 0) PE.int (fun _ _ => rfl)) (PE.gstr T.c_SIGNS rfl) (by with_unfolding_all rfl)) (PE.and (PE.cmp (op_inX G.u1) (PE.ix G.K G.u1 (PE.var 0) PE.int (fun _ _ => rfl)) (PE.gstr T.c_AMOUNTS rfl) (by with_unfolding_all rfl)) (PE.and1 (PE.cmp (op_neM G.sm G.u64) (PE.var 0) PE.str (nomark _))))))))
theorem at51 (T : Tx P w K mg base en CC) {f : Addr} {fd : FuncData} (F : L2.Fun K "_is_change" "_is_change" s51 f fd) (hm : mg "_is_change" = some (.ref f))  : DefAt P w K mg base en 1 "_is_change" 1 f51 :=
  DefAt.mk' hm F (ok51 T F ) (F.binds fun _ _ _ _ _ _ us hl => match us, hl with | [_], _ => rfl)
/-! _is_line_of_a_move -/
abbrev s49 : Stmt := top 49
def m49 : SM := (mRet (mAnd (mO2 (eqD false) (mOA (un1 opLen) (aCons (mVar 0) aNil)) (mC (.int 5))) (mAnd (mO2 (eqD false) (mO2 opIx (mVar 0) (mC (.int 0))) (mC (.str "move"))) (mAnd (mCall f50 (aCons (mO2 opIx (mVar 0) (mC (.int 2))) aNil)) (mCall f51 (aCons (mO2 opIx (mVar 0) (mC (.int 3))) aNil))))))
def f49 : FM := mFn 1 1 m49
abbrev mn__is_line_of_a_move : SM := m49
abbrev fn__is_line_of_a_move : FM := f49
theorem sc49 : FnScope ["parts"] ["parts"] (defScope s49) := ⟨rfl, rfl, rfl, by decide +kernel, rfl, by decide +kernel, by decide +kernel⟩
theorem ok49 (T : Tx P w K mg base en CC) {f : Addr} {fd : FuncData} (F : L2.Fun K "_is_line_of_a_move" "_is_line_of_a_move" s49 f fd) (D50 : DefAt P w K mg base en 1 "_is_least" 1 f50) (D51 : DefAt P w K mg base en 1 "_is_change" 1 f51) : FnG P w K mg base 2 f fd ["parts"] (spM en 1 f49) := by
  obtain ⟨oc, od, kV, doc, pm, an, cdv, ct, osl, rfl, lk, hcd⟩ := F.ex
  exact fnG_of lk hcd sc49 T.hK T.sm fun A outer s H E G => (PSs.one (PS.ret (PE.and (PE.cmp (op_eqM G.sm G.u64) (PE.callB (call_lenM G.K) rfl T.b_len rfl (PA.cons (PE.var 0) PA.nil)) PE.int (nomark _)) (PE.and (PE.cmp (op_eqM G.sm G.u64) (PE.ix G.K G.u1 (PE.var 0) PE.int (fun _ _ => rfl)) (PE.gstr T.c_MOVE rfl) (nomark _)) (PE.and (PE.call D50 G (by decide) rfl (PA.cons (PE.ix G.K G.u1 (PE.var 0) PE.int (fun _ _ => rfl)) PA.nil)) (PE.and1 (PE.call D51 G (by decide) rfl (PA.cons (PE.ix G.K G.u1 (PE.var 0) PE.int (fun _ _ => rfl)) PA.nil))))))))
theorem at49 (T : Tx P w K mg base en CC) {f : Addr} {fd : FuncData} (F : L2.Fun K "_is_line_of_a_move" "_is_line_of_a_move" s49 f fd) (hm : mg "_is_line_of_a_move" = some (.ref f)) (D50 : DefAt P w K mg base en 1 "_is_least" 1 f50) (D51 : DefAt P w K mg base en 1 "_is_change" 1 f51) : DefAt P w K mg base en 2 "_is_line_of_a_move" 1 f49 :=
  DefAt.mk' hm F (ok49 T F D50 D51) (F.binds fun _ _ _ _ _ _ us hl => match us, hl with | [_], _ => rfl)
/-! _are_lines_of_a_program -/
abbrev s48 : Stmt := top 48
def m48 : SM := (mSeq (mIfS (bOr (bNot (mTru (mVar 0))) (mB (mO2 (eqD true) (mO2 opIx (mO2 opIx (mVar 0) (mC (.int 0))) (mC (.int 0))) (mC (.str "places"))))) (mRet (mC (.bl false))) mNil) (mRet (mOA (un1 opAll) (aCons (mLc (mWalk (mCut (mVar 0) (pSome (mC (.int 1))) pNone)) (gVar 1) bYes (mCall f49 (aCons (mVar 1) aNil)) [1]) aNil))))
def f48 : FM := mFn 1 2 m48
abbrev mn__are_lines_of_a_program : SM := m48
abbrev fn__are_lines_of_a_program : FM := f48
theorem sc48 : FnScope ["lines", "parts"] ["lines"] (defScope s48) := ⟨rfl, rfl, rfl, by decide +kernel, rfl, by decide +kernel, by decide +kernel⟩
theorem ok48 (T : Tx P w K mg base en CC) {f : Addr} {fd : FuncData} (F : L2.Fun K "_are_lines_of_a_program" "_are_lines_of_a_program" s48 f fd) (D49 : DefAt P w K mg base en 2 "_is_line_of_a_move" 1 f49) : FnG P w K mg base 3 f fd ["lines"] (spM en 1 f48) := by
  obtain ⟨oc, od, kV, doc, pm, an, cdv, ct, osl, rfl, lk, hcd⟩ := F.ex
  exact fnG_of lk hcd sc48 T.hK T.sm fun A outer s H E G => (PSs.cons (PS.if (PW.pt (PW.or (PT.not (PT.tru G.K (PE.var 0))) (PW.or1 (PT.cmp (op_neM G.sm G.u64) (PE.ix G.K G.u1 (PE.ix G.K G.u1 (PE.var 0) PE.int (fun _ _ => rfl)) PE.int (fun _ _ => rfl)) (PE.gstr T.c_PLACES rfl) (nomark _))))) (PSs.one (PS.ret PE.bl)) PSs.nil) (PSs.one (PS.ret (PE.callB (call_allM G.calm) rfl T.b_all rfl (PA.cons (PE.lcG G sc48.nd (PI.walk G.K (PE.cut (PE.var 0) (PO.som PE.int) PO.non)) (own := [("parts", 1)]) ⟨rfl, by decide +kernel, of_decide_eq_true (by kernel_rfl), of_decide_eq_true (by kernel_rfl), of_decide_eq_true (by kernel_rfl)⟩ (fun s3 H3 C3 cl3 fp3 G => (PG.var (i := 1) sc48.nd rfl (by first | exact .inl rfl | exact .inr rfl))) (fun s3 H3 C3 cl3 fp3 G => PTs.nil) (fun s3 H3 C3 cl3 fp3 G => (PE.call D49 G (by decide) rfl (PA.cons (PE.var 1) PA.nil)))) PA.nil)))))
theorem at48 (T : Tx P w K mg base en CC) {f : Addr} {fd : FuncData} (F : L2.Fun K "_are_lines_of_a_program" "_are_lines_of_a_program" s48 f fd) (hm : mg "_are_lines_of_a_program" = some (.ref f)) (D49 : DefAt P w K mg base en 2 "_is_line_of_a_move" 1 f49) : DefAt P w K mg base en 3 "_are_lines_of_a_program" 1 f48 :=
  DefAt.mk' hm F (ok48 T F D49) (F.binds fun _ _ _ _ _ _ us hl => match us, hl with | [_], _ => rfl)
/-! _program_of -/
abbrev s52 : Stmt := top 52
def m52 : SM := (mSeq (mSet 1 (mLc (mWalk (mCut (mVar 0) (pSome (mC (.int 1))) pNone)) (gTupM 5 (gsCons (gVar 2) (gsCons (gVar 3) (gsCons (gVar 4) (gsCons (gVar 5) (gsCons (gVar 6) gsNil)))))) bYes (mOA opTup (aCons (mVar 3) (aCons (mOA (un1 opIntX) (aCons (mVar 4) aNil)) (aCons (mOA (un1 opIntX) (aCons (mVar 5) aNil)) (aCons (mVar 6) aNil))))) [2, 3, 4, 5, 6])) (mRet (mMake 7 f_Program___init__ (aCons (mCut (mO2 opIx (mVar 0) (mC (.int 0))) (pSome (mC (.int 1))) pNone) (aCons (mVar 1) aNil)))))
def f52 : FM := mFn 1 7 m52
abbrev mn__program_of : SM := m52
abbrev fn__program_of : FM := f52
theorem sc52 : FnScope ["lines", "moves", "_", "place", "least", "change", "other"] ["lines"] (defScope s52) := ⟨rfl, rfl, rfl, by decide +kernel, rfl, by decide +kernel, by decide +kernel⟩
theorem ok52 (T : Tx P w K mg base en CC) {f : Addr} {fd : FuncData} (F : L2.Fun K "_program_of" "_program_of" s52 f fd) (D_Program : MakeAt P w K mg base en 6 "Program" 7 3 f_Program___init__) : FnG P w K mg base 8 f fd ["lines"] (spM en 1 f52) := by
  obtain ⟨oc, od, kV, doc, pm, an, cdv, ct, osl, rfl, lk, hcd⟩ := F.ex
  exact fnG_of lk hcd sc52 T.hK T.sm fun A outer s H E G => (PSs.cons (PS.setLcG (i := 1) G sc52.nd rfl rfl (by first | rfl | decide) (PI.walk G.K (PE.cut (PE.var 0) (PO.som PE.int) PO.non)) (own := [("_", 2), ("place", 3), ("least", 4), ("change", 5), ("other", 6)]) ⟨rfl, by decide +kernel, of_decide_eq_true (by kernel_rfl), of_decide_eq_true (by kernel_rfl), of_decide_eq_true (by kernel_rfl)⟩ (fun s3 H3 C3 cl3 fp3 G => (PG.tup G.calm (PGs.cons (PG.var (i := 2) sc52.nd rfl (by first | exact .inl rfl | exact .inr rfl)) (PGs.cons (PG.var (i := 3) sc52.nd rfl (by first | exact .inl rfl | exact .inr rfl)) (PGs.cons (PG.var (i := 4) sc52.nd rfl (by first | exact .inl rfl | exact .inr rfl)) (PGs.cons (PG.var (i := 5) sc52.nd rfl (by first | exact .inl rfl | exact .inr rfl)) (PGs.cons (PG.var (i := 6) sc52.nd rfl (by first | exact .inl rfl | exact .inr rfl)) PGs.nil))))))) (fun s3 H3 C3 cl3 fp3 G => PTs.nil) (fun s3 H3 C3 cl3 fp3 G => (PE.tup (PA.cons (PE.var 3) (PA.cons (PE.callTy call_intXM rfl T.b_int rfl (PA.cons (PE.var 4) PA.nil)) (PA.cons (PE.callTy call_intXM rfl T.b_int rfl (PA.cons (PE.var 5) PA.nil)) (PA.cons (PE.var 6) PA.nil))))))) (PSs.one (PS.ret (PE.make D_Program G (by decide) rfl (PA.cons (PE.cut (PE.ix G.K G.u1 (PE.var 0) PE.int (fun _ _ => rfl)) (PO.som PE.int) PO.non) (PA.cons (PE.var 1) PA.nil))))))
theorem at52 (T : Tx P w K mg base en CC) {f : Addr} {fd : FuncData} (F : L2.Fun K "_program_of" "_program_of" s52 f fd) (hm : mg "_program_of" = some (.ref f)) (D_Program : MakeAt P w K mg base en 6 "Program" 7 3 f_Program___init__) : DefAt P w K mg base en 8 "_program_of" 1 f52 :=
  DefAt.mk' hm F (ok52 T F D_Program) (F.binds fun _ _ _ _ _ _ us hl => match us, hl with | [_], _ => rfl)
/-! read_program -/
abbrev s46 : Stmt := top 46
def m46 : SM := (mSeq (mIfS (bNot (mB (mO1 (opIsi is_str) (mVar 0)))) (mRaise 4 1 (aCons (mVar 0) aNil)) mNil) (mSeq (mSet 1 (mCall f47 (aCons (mVar 0) aNil))) (mSeq (mIfS (bNot (mTru (mCall f48 (aCons (mVar 1) aNil)))) (mRaise 4 1 (aCons (mVar 0) aNil)) mNil) (mThru (mRet (mCall f52 (aCons (mVar 1) aNil)))))))
def f46 : FM := mFn 1 2 m46
abbrev mn_read_program : SM := m46
abbrev fn_read_program : FM := f46
theorem sc46 : FnScope ["text", "lines"] ["text"] (defScope s46) := ⟨rfl, rfl, rfl, by decide +kernel, rfl, by decide +kernel, by decide +kernel⟩
theorem ok46 (T : Tx P w K mg base en CC) {f : Addr} {fd : FuncData} (F : L2.Fun K "read_program" "read_program" s46 f fd) (D47 : DefAt P w K mg base en 1 "_lines_of" 1 f47) (D48 : DefAt P w K mg base en 3 "_are_lines_of_a_program" 1 f48) (D52 : DefAt P w K mg base en 8 "_program_of" 1 f52) : FnG P w K mg base 9 f fd ["text"] (spM en 1 f46) := by
  obtain ⟨oc, od, kV, doc, pm, an, cdv, ct, osl, rfl, lk, hcd⟩ := F.ex
  exact fnG_of lk hcd sc46 T.hK T.sm fun A outer s H E G => (PSs.cons (PS.if (PT.not (PT.val (PE.isi G.K (.ty _) T.is_str rfl T.b_isinstance (PE.var 0) (pe_bltn rfl T.b_str rfl rfl)))) (PSs.one (PS.raise T.e4 G rfl (PA.cons (PE.var 0) PA.nil))) PSs.nil) (PSs.cons (PS.set (i := 1) sc46.nd rfl (by first | exact .inl rfl | exact .inr rfl) (PE.call D47 G (by decide) rfl (PA.cons (PE.var 0) PA.nil))) (PSs.cons (PS.if (PT.not (PT.tru G.K (PE.call D48 G (by decide) rfl (PA.cons (PE.var 1) PA.nil)))) (PSs.one (PS.raise T.e4 G rfl (PA.cons (PE.var 0) PA.nil))) PSs.nil) (PSs.one (PS.thru G (fun G => (PSs.one (PS.ret (PE.call D52 G (by decide) rfl (PA.cons (PE.var 1) PA.nil))))))))))
theorem at46 (T : Tx P w K mg base en CC) {f : Addr} {fd : FuncData} (F : L2.Fun K "read_program" "read_program" s46 f fd) (hm : mg "read_program" = some (.ref f)) (D47 : DefAt P w K mg base en 1 "_lines_of" 1 f47) (D48 : DefAt P w K mg base en 3 "_are_lines_of_a_program" 1 f48) (D52 : DefAt P w K mg base en 8 "_program_of" 1 f52) : DefAt P w K mg base en 9 "read_program" 1 f46 :=
  DefAt.mk' hm F (ok46 T F D47 D48 D52) (F.binds fun _ _ _ _ _ _ us hl => match us, hl with | [_], _ => rfl)
/-! law -/
abbrev s63 : Stmt := top 63
def m63 : SM := (mSeq (mFor (mRng1 (aCons (mC (.int 5)) aNil)) (gVar 1) (mSeq (mSet 4 (mCall f58 (aCons (mVar 0) (aCons (mVar 1) aNil)))) (mSeq (mSet 5 (mCall f59 (aCons (mVar 4) (aCons (mC (.int 4)) (aCons (mC (.int 10)) aNil))))) (mSeq (mPar 8 9 (aCons (mCall f60 (aCons (mVar 5) aNil)) (aCons (mCall f61 (aCons (mVar 5) aNil)) aNil))) (mSeq (mSet 3 (mS1 opJoin (mC (.str "\n")) (mLc (mWalk (mVar 9)) (gVar 13) bYes (mS1 opJoin (mC (.str " ")) (mVar 13)) [13]))) (mSeq (mIfS (bOr (mB (mO2 (eqOwns own_eqs true) (mCall f45 (aCons (mVar 8) aNil)) (mVar 3))) (mB (mO2 (eqOwns own_eqs true) (mCall f45 (aCons (mCall f60 (aCons (mVar 5) aNil)) aNil)) (mVar 3)))) (mRet (mC (.bl false))) mNil) (mSeq (mFor (mWalk (mOA opLst (aCons (mVar 3) (aCons (mCall f62 (aCons (mVar 4) (aCons (mVar 9) aNil))) (aCons (mCall f62 (aCons (mVar 4) (aCons (mVar 9) aNil))) (aCons (mO2 opAdd (mVar 3) (mC (.str "\n\n"))) aNil)))))) (gVar 6) (mSeq (mSet 10 (mCall f46 (aCons (mVar 6) aNil))) (mSeq (mIfS (bOr (bNot (mB (mO1 (opIsi is_Program) (mVar 10)))) (bOr (mB (mO2 (eqOwns own_eqs true) (mVar 10) (mVar 8))) (mB (mO2 (eqOwns own_eqs true) (mCall f45 (aCons (mVar 10) aNil)) (mVar 3))))) (mRet (mC (.bl false))) mNil) (mIfS (mB (mO2 (eqOwns own_eqs true) (mOA (un1 opRepr) (aCons (mOA opLst (aCons (mMeth 7 f_Program_places (mVar 10) aNil) (aCons (mMeth 7 f_Program_moves (mVar 10) aNil) aNil))) aNil)) (mOA (un1 opRepr) (aCons (mVar 5) aNil)))) (mRet (mC (.bl false))) mNil)))) (mFor (mWalk (mOA opLst (aCons (mC .non) (aCons (mC (.int 3)) (aCons (mOA opLst aNil) (aCons (mOA opTup aNil) (aCons mDict0 (aCons (mC (.str "places a")) (aCons (mC (.bl true)) aNil))))))))) (gVar 7) (mSeq (mSet 11 (mC .non)) (mSeq (mTry 12 sub_InvalidProgram (mDrop (mCall f45 (aCons (mVar 7) aNil))) (mSet 11 (mVar 12))) (mIfS (bOr (mB (mO2 opIsN (mVar 11) (mC .non))) (mB (mO2 (eqOwns own_eqs true) (mOA (un1 opRepr) (aCons (mO1 (opExf x_value) (mVar 11)) aNil)) (mOA (un1 opRepr) (aCons (mVar 7) aNil))))) (mRet (mC (.bl false))) mNil))))))))))) (mSeq (mSet 2 (mMake 7 f_Program___init__ (aCons (mOA opLst (aCons (mC (.str "move")) (aCons (mC (.str "places")) aNil))) (aCons (mOA opLst (aCons (mOA opTup (aCons (mC (.str "move")) (aCons (mC (.int 8)) (aCons (mO1 opNeg (mC (.int 4))) (aCons (mC (.str "places")) aNil))))) (aCons (mOA opTup (aCons (mC (.str "places")) (aCons (mC (.int 0)) (aCons (mC (.int 0)) (aCons (mC (.str "move")) aNil))))) aNil))) aNil)))) (mSeq (mSet 3 (mC (.str "places move places\nmove move 8 -4 places\nmove places 0 +0 move"))) (mRet (mAnd (mO2 (eqOwns own_eqs false) (mCall f45 (aCons (mVar 2) aNil)) (mVar 3)) (mO2 (eqOwns own_eqs false) (mCall f46 (aCons (mVar 3) aNil)) (mVar 2)))))))
def f63 : FM := mFn 1 14 m63
abbrev mn_law : SM := m63
abbrev fn_law : FM := f63
theorem sc63 : FnScope ["_law_script", "_law_index", "_law_some", "_law_due", "_law_generator_here", "_law_parts", "_law_text", "_law_odd", "_law_program_here", "_law_lines_here", "_law_told", "_law_caught", "error", "_law_tokens"] ["_law_script"] (defScope s63) := ⟨rfl, rfl, rfl, by decide +kernel, rfl, by decide +kernel, by decide +kernel⟩
theorem ok63 (T : Tx P w K mg base en CC) {f : Addr} {fd : FuncData} (F : L2.Fun K "law" "law" s63 f fd) (D58 : DefAt P w K mg base en 2 "_law_generator" 2 f58) (D59 : DefAt P w K mg base en 4 "_law_drawn" 3 f59) (D61 : DefAt P w K mg base en 1 "_law_lines" 1 f61) (D60 : DefAt P w K mg base en 8 "_law_program" 1 f60) (D45 : DefAt P w K mg base en 2 "text_of" 1 f45) (D_Program___eq__ : MethAt P w K mg base en 1 7 "__eq__" 2 f_Program___eq__) (D62 : DefAt P w K mg base en 3 "_law_spaced" 2 f62) (D46 : DefAt P w K mg base en 9 "read_program" 1 f46) (D_Program_moves : MethAt P w K mg base en 1 7 "moves" 1 f_Program_moves) (D_Program_places : MethAt P w K mg base en 1 7 "places" 1 f_Program_places) (D_Program : MakeAt P w K mg base en 6 "Program" 7 3 f_Program___init__) : FnG P w K mg base 10 f fd ["_law_script"] (spM en 1 f63) := by
  obtain ⟨oc, od, kV, doc, pm, an, cdv, ct, osl, rfl, lk, hcd⟩ := F.ex
  have OO : OwnEqs P w K mg base en 1 own_eqs := OwnEqs.of (T.own) (List.forall_mem_cons.2 ⟨MethAt.up D_Program___eq__ (by decide), fun _ h => nomatch h⟩)
  exact fnG_of lk hcd sc63 T.hK T.sm fun A outer s H E G => (PSs.cons (PS.for G.pass G.calm (PI.rng1 rfl T.b_range (PA.cons PE.int PA.nil)) (PG.var (i := 1) sc63.nd rfl (by first | exact .inl rfl | exact .inr rfl)) (PSs.cons (PS.set (i := 4) sc63.nd rfl (by first | exact .inl rfl | exact .inr rfl) (PE.call D58 G (by decide) rfl (PA.cons (PE.var 0) (PA.cons (PE.var 1) PA.nil)))) (PSs.cons (PS.set (i := 5) sc63.nd rfl (by first | exact .inl rfl | exact .inr rfl) (PE.call D59 G (by decide) rfl (PA.cons (PE.var 4) (PA.cons PE.int (PA.cons PE.int PA.nil))))) (PSs.cons (PS.par (i := 8) (j := 9) G.calm sc63.nd rfl rfl (by decide) rfl rfl (PA.cons (PE.call D60 G (by decide) rfl (PA.cons (PE.var 5) PA.nil)) (PA.cons (PE.call D61 G (by decide) rfl (PA.cons (PE.var 5) PA.nil)) PA.nil)) (by rfl)) (PSs.cons (PS.set (i := 3) sc63.nd rfl (by first | exact .inl rfl | exact .inr rfl) (PE.join PE.str (PE.lcG G sc63.nd (PI.walk G.K (PE.var 9)) (own := [("_law_tokens", 13)]) ⟨rfl, by decide +kernel, of_decide_eq_true (by kernel_rfl), of_decide_eq_true (by kernel_rfl), of_decide_eq_true (by kernel_rfl)⟩ (fun s3 H3 C3 cl3 fp3 G => (PG.var (i := 13) sc63.nd rfl (by first | exact .inl rfl | exact .inr rfl))) (fun s3 H3 C3 cl3 fp3 G => PTs.nil) (fun s3 H3 C3 cl3 fp3 G => (PE.join PE.str (PE.var 13)))))) (PSs.cons (PS.if (PW.pt (PW.or (PT.cmp (op_neO OO G (by decide)) (PE.call D45 G (by decide) rfl (PA.cons (PE.var 8) PA.nil)) (PE.var 3) (nomark _)) (PW.or1 (PT.cmp (op_neO OO G (by decide)) (PE.call D45 G (by decide) rfl (PA.cons (PE.call D60 G (by decide) rfl (PA.cons (PE.var 5) PA.nil)) PA.nil)) (PE.var 3) (nomark _))))) (PSs.one (PS.ret PE.bl)) PSs.nil) (PSs.cons (PS.for G.pass G.calm (PI.walk G.K (PE.lst (PA.cons (PE.var 3) (PA.cons (PE.call D62 G (by decide) rfl (PA.cons (PE.var 4) (PA.cons (PE.var 9) PA.nil))) (PA.cons (PE.call D62 G (by decide) rfl (PA.cons (PE.var 4) (PA.cons (PE.var 9) PA.nil))) (PA.cons (PE.o2 op_addM (PE.var 3) PE.str) PA.nil)))))) (PG.var (i := 6) sc63.nd rfl (by first | exact .inl rfl | exact .inr rfl)) (PSs.cons (PS.set (i := 10) sc63.nd rfl (by first | exact .inl rfl | exact .inr rfl) (PE.call D46 G (by decide) rfl (PA.cons (PE.var 6) PA.nil))) (PSs.cons (PS.if (PW.pt (PW.or (PT.not (PT.val (PE.isi G.K (.own _) T.is_Program rfl T.b_isinstance (PE.var 10) (pe_glob rfl T.g_Program rfl)))) (PW.or (PT.cmp (op_neO OO G (by decide)) (PE.var 10) (PE.var 8) (nomark _)) (PW.or1 (PT.cmp (op_neO OO G (by decide)) (PE.call D45 G (by decide) rfl (PA.cons (PE.var 10) PA.nil)) (PE.var 3) (nomark _)))))) (PSs.one (PS.ret PE.bl)) PSs.nil) (PSs.one (PS.if (PT.cmp (op_neO OO G (by decide)) (PE.callB (call_reprM G.sm G.gd G.u66) rfl T.b_repr rfl (PA.cons (PE.lst (PA.cons (PE.meth0 D_Program_places G (by decide) (PE.var 10)) (PA.cons (PE.meth0 D_Program_moves G (by decide) (PE.var 10)) PA.nil))) PA.nil)) (PE.callB (call_reprM G.sm G.gd G.u66) rfl T.b_repr rfl (PA.cons (PE.var 5) PA.nil)) (nomark _)) (PSs.one (PS.ret PE.bl)) PSs.nil))))) (PSs.one (PS.for G.pass G.calm (PI.walk G.K (PE.lst (PA.cons PE.non (PA.cons PE.int (PA.cons (PE.lst PA.nil) (PA.cons (PE.tup PA.nil) (PA.cons PE.dict0 (PA.cons PE.str (PA.cons PE.bl PA.nil))))))))) (PG.var (i := 7) sc63.nd rfl (by first | exact .inl rfl | exact .inr rfl)) (PSs.cons (PS.set (i := 11) sc63.nd rfl (by first | exact .inl rfl | exact .inr rfl) PE.non) (PSs.cons (PS.tryAs (i := 12) G rfl rfl rfl sc63.nd rfl rfl ⟨rfl, by decide, .inl T.g_InvalidProgram⟩ T.sub_InvalidProgram (fun W2 pn2 xe2 G => (PSs.one (PS.expr (PE.call D45 G (by decide) rfl (PA.cons (PE.var 7) PA.nil))))) (fun a2 pn2 => (PSs.one (PS.set (i := 11) sc63.nd rfl (by first | exact .inl rfl | exact .inr rfl) (PE.var 12))))) (PSs.one (PS.if (PW.pt (PW.or (PT.cmp op_isNM (PE.var 11) PE.non (nomark _)) (PW.or1 (PT.cmp (op_neO OO G (by decide)) (PE.callB (call_reprM G.sm G.gd G.u66) rfl T.b_repr rfl (PA.cons (PE.exf G.K T.x_value (PE.var 11)) PA.nil)) (PE.callB (call_reprM G.sm G.gd G.u66) rfl T.b_repr rfl (PA.cons (PE.var 7) PA.nil)) (nomark _))))) (PSs.one (PS.ret PE.bl)) PSs.nil))))))))))))) (PSs.cons (PS.set (i := 2) sc63.nd rfl (by first | exact .inl rfl | exact .inr rfl) (PE.make D_Program G (by decide) rfl (PA.cons (PE.lst (PA.cons PE.str (PA.cons PE.str PA.nil))) (PA.cons (PE.lst (PA.cons (PE.tup (PA.cons PE.str (PA.cons PE.int (PA.cons (PE.un op_negM PE.int) (PA.cons PE.str PA.nil))))) (PA.cons (PE.tup (PA.cons PE.str (PA.cons PE.int (PA.cons PE.int (PA.cons PE.str PA.nil))))) PA.nil))) PA.nil)))) (PSs.cons (PS.set (i := 3) sc63.nd rfl (by first | exact .inl rfl | exact .inr rfl) PE.str) (PSs.one (PS.ret (PE.and (PE.cmp (op_eqO OO G (by decide)) (PE.call D45 G (by decide) rfl (PA.cons (PE.var 2) PA.nil)) (PE.var 3) (nomark _)) (PE.and1 (PE.cmp (op_eqO OO G (by decide)) (PE.call D46 G (by decide) rfl (PA.cons (PE.var 3) PA.nil)) (PE.var 2) (nomark _)))))))))
end
abbrev sI1 : Stmt := inClass (top 4) 0
abbrev sI2 : Stmt := inClass (top 5) 0
abbrev sI3 : Stmt := inClass (top 6) 0
abbrev sI4 : Stmt := inClass (top 7) 0
theorem all_mk {P : Program} {w : World} {K : PySem.W.Frag} {h : Heap} {mg : Str → Option Value} {fa : Addr} (X : K.In h) (G : h.Ns mainGlobals mg) (hfa : mg "law" = some (.ref fa))
    {C0 : Addr}
    {C1 : Addr}
    {nm1 q1 : Str} {N1 fI1 cda1 cc1 T1 : Addr} {bs1 bm1 sub1 : List Value} {sn1 : List Str} {ab1 : Bool} {col1 : Option Bool} {dd1 od1 an1 cdd1 cld1 td1 : Option Addr} {u01 u11 u21 u31 u51 : Option Value} {oc1 kV1 doc1 pm1 ct1 ccl1 cl1 tc1 : Value} {osl1 ccs1 csl1 tsl1 : Array (Option Value)} {vs1 : Array Value} {file1 : Str} {tf1 : Tok} {n1 : Nat}
    {C2 : Addr}
    {nm2 q2 : Str} {N2 fI2 cda2 cc2 T2 : Addr} {bs2 bm2 sub2 : List Value} {sn2 : List Str} {ab2 : Bool} {col2 : Option Bool} {dd2 od2 an2 cdd2 cld2 td2 : Option Addr} {u02 u12 u22 u32 u52 : Option Value} {oc2 kV2 doc2 pm2 ct2 ccl2 cl2 tc2 : Value} {osl2 ccs2 csl2 tsl2 : Array (Option Value)} {vs2 : Array Value} {file2 : Str} {tf2 : Tok} {n2 : Nat}
    {C3 : Addr}
    {nm3 q3 : Str} {N3 fI3 cda3 cc3 T3 : Addr} {bs3 bm3 sub3 : List Value} {sn3 : List Str} {ab3 : Bool} {col3 : Option Bool} {dd3 od3 an3 cdd3 cld3 td3 : Option Addr} {u03 u13 u23 u33 u53 : Option Value} {oc3 kV3 doc3 pm3 ct3 ccl3 cl3 tc3 : Value} {osl3 ccs3 csl3 tsl3 : Array (Option Value)} {vs3 : Array Value} {file3 : Str} {tf3 : Tok} {n3 : Nat}
    {C4 : Addr}
    {nm4 q4 : Str} {N4 fI4 cda4 cc4 T4 : Addr} {bs4 bm4 sub4 : List Value} {sn4 : List Str} {ab4 : Bool} {col4 : Option Bool} {dd4 od4 an4 cdd4 cld4 td4 : Option Addr} {u04 u14 u24 u34 u54 : Option Value} {oc4 kV4 doc4 pm4 ct4 ccl4 cl4 tc4 : Value} {osl4 ccs4 csl4 tsl4 : Array (Option Value)} {vs4 : Array Value} {file4 : Str} {tf4 : Tok} {n4 : Nat}
    {C6 : Addr}
    {C7 : Addr}
    {t_AMOUNTS : Tok}
    {t_LEASTS : Tok}
    {t_LONGEST_NAME : Tok}
    {t_MOST_CHANGE : Tok}
    {t_MOST_LEAST : Tok}
    {t_MOST_MOVES : Tok}
    {t_MOST_PLACES : Tok}
    {t_MOVE : Tok}
    {t_PLACES : Tok}
    {t_SIGNS : Tok}
    {fa55 : Addr} {od55d an55d : Option Addr} {sl55d : Array (Option Value)} {oc55d kV55d dc55d pm55d cd55d ct55d : Value}
    {fa58 : Addr} {od58d an58d : Option Addr} {sl58d : Array (Option Value)} {oc58d kV58d dc58d pm58d cd58d ct58d : Value}
    {fa54 : Addr} {od54d an54d : Option Addr} {sl54d : Array (Option Value)} {oc54d kV54d dc54d pm54d cd54d ct54d : Value}
    {fa57 : Addr} {od57d an57d : Option Addr} {sl57d : Array (Option Value)} {oc57d kV57d dc57d pm57d cd57d ct57d : Value}
    {fa56 : Addr} {od56d an56d : Option Addr} {sl56d : Array (Option Value)} {oc56d kV56d dc56d pm56d cd56d ct56d : Value}
    {fa59 : Addr} {od59d an59d : Option Addr} {sl59d : Array (Option Value)} {oc59d kV59d dc59d pm59d cd59d ct59d : Value}
    {fa61 : Addr} {od61d an61d : Option Addr} {sl61d : Array (Option Value)} {oc61d kV61d dc61d pm61d cd61d ct61d : Value}
    {fa12 : Addr} {od12d an12d : Option Addr} {sl12d : Array (Option Value)} {oc12d kV12d dc12d pm12d cd12d ct12d : Value}
    {fa35 : Addr} {od35d an35d : Option Addr} {sl35d : Array (Option Value)} {oc35d kV35d dc35d pm35d cd35d ct35d : Value}
    {fa34 : Addr} {od34d an34d : Option Addr} {sl34d : Array (Option Value)} {oc34d kV34d dc34d pm34d cd34d ct34d : Value}
    {fa10 : Addr} {od10d an10d : Option Addr} {sl10d : Array (Option Value)} {oc10d kV10d dc10d pm10d cd10d ct10d : Value}
    {fa11 : Addr} {od11d an11d : Option Addr} {sl11d : Array (Option Value)} {oc11d kV11d dc11d pm11d cd11d ct11d : Value}
    {fa33 : Addr} {od33d an33d : Option Addr} {sl33d : Array (Option Value)} {oc33d kV33d dc33d pm33d cd33d ct33d : Value}
    {fa36 : Addr} {od36d an36d : Option Addr} {sl36d : Array (Option Value)} {oc36d kV36d dc36d pm36d cd36d ct36d : Value}
    {fa16 : Addr} {od16d an16d : Option Addr} {sl16d : Array (Option Value)} {oc16d kV16d dc16d pm16d cd16d ct16d : Value}
    {fa15 : Addr} {od15d an15d : Option Addr} {sl15d : Array (Option Value)} {oc15d kV15d dc15d pm15d cd15d ct15d : Value}
    {fa14 : Addr} {od14d an14d : Option Addr} {sl14d : Array (Option Value)} {oc14d kV14d dc14d pm14d cd14d ct14d : Value}
    {fa_Walks___init__ : Addr} {od_Walks___init__d an_Walks___init__d : Option Addr} {sl_Walks___init__d : Array (Option Value)} {oc_Walks___init__d kV_Walks___init__d dc_Walks___init__d pm_Walks___init__d cd_Walks___init__d ct_Walks___init__d : Value}
    {fa_Program___init__ : Addr} {od_Program___init__d an_Program___init__d : Option Addr} {sl_Program___init__d : Array (Option Value)} {oc_Program___init__d kV_Program___init__d dc_Program___init__d pm_Program___init__d cd_Program___init__d ct_Program___init__d : Value}
    {fa60 : Addr} {od60d an60d : Option Addr} {sl60d : Array (Option Value)} {oc60d kV60d dc60d pm60d cd60d ct60d : Value}
    {fa38 : Addr} {od38d an38d : Option Addr} {sl38d : Array (Option Value)} {oc38d kV38d dc38d pm38d cd38d ct38d : Value}
    {fa_Program_places : Addr} {od_Program_placesd an_Program_placesd : Option Addr} {sl_Program_placesd : Array (Option Value)} {oc_Program_placesd kV_Program_placesd dc_Program_placesd pm_Program_placesd cd_Program_placesd ct_Program_placesd : Value}
    {fa_Program_moves : Addr} {od_Program_movesd an_Program_movesd : Option Addr} {sl_Program_movesd : Array (Option Value)} {oc_Program_movesd kV_Program_movesd dc_Program_movesd pm_Program_movesd cd_Program_movesd ct_Program_movesd : Value}
    {fa45 : Addr} {od45d an45d : Option Addr} {sl45d : Array (Option Value)} {oc45d kV45d dc45d pm45d cd45d ct45d : Value}
    {fa_Program___eq__ : Addr} {od_Program___eq__d an_Program___eq__d : Option Addr} {sl_Program___eq__d : Array (Option Value)} {oc_Program___eq__d kV_Program___eq__d dc_Program___eq__d pm_Program___eq__d cd_Program___eq__d ct_Program___eq__d : Value}
    {fa62 : Addr} {od62d an62d : Option Addr} {sl62d : Array (Option Value)} {oc62d kV62d dc62d pm62d cd62d ct62d : Value}
    {fa47 : Addr} {od47d an47d : Option Addr} {sl47d : Array (Option Value)} {oc47d kV47d dc47d pm47d cd47d ct47d : Value}
    {fa50 : Addr} {od50d an50d : Option Addr} {sl50d : Array (Option Value)} {oc50d kV50d dc50d pm50d cd50d ct50d : Value}
    {fa51 : Addr} {od51d an51d : Option Addr} {sl51d : Array (Option Value)} {oc51d kV51d dc51d pm51d cd51d ct51d : Value}
    {fa49 : Addr} {od49d an49d : Option Addr} {sl49d : Array (Option Value)} {oc49d kV49d dc49d pm49d cd49d ct49d : Value}
    {fa48 : Addr} {od48d an48d : Option Addr} {sl48d : Array (Option Value)} {oc48d kV48d dc48d pm48d cd48d ct48d : Value}
    {fa52 : Addr} {od52d an52d : Option Addr} {sl52d : Array (Option Value)} {oc52d kV52d dc52d pm52d cd52d ct52d : Value}
    {fa46 : Addr} {od46d an46d : Option Addr} {sl46d : Array (Option Value)} {oc46d kV46d dc46d pm46d cd46d ct46d : Value}
    {fa63 : Addr} {od63d an63d : Option Addr} {sl63d : Array (Option Value)} {oc63d kV63d dc63d pm63d cd63d ct63d : Value}
    (aC0 : PySem.W.nsIn K mainGlobals "WalkError" = some (some (.ref C0)))
    (ga0 : PySem.W.findIn K (.ref C0) "__getattribute__" = some (some (.builtin "BaseException.__getattribute__")))
    (gg0 : PySem.W.findIn K (.ref C0) "__getattr__" = some none)
    (kC0 : PySem.W.keepIn K (.ref C0) = true)
    (ex0 : PySem.W.subIn K (.ref C0) (.type "BaseException") = some true)
    (ty0 : PySem.W.typeIn K (.ref C0) = some (.type "type"))
    (hd0 : PySem.W.hasDictIn K C0 = true)
    (ic0 : PySem.W.isClsIn K C0 = true)
    (ha0 : PySem.W.findIn K (.ref C0) "__class__" = some (some (.builtin "object.__class__")))
    (mo0 : PySem.W.mroIn K C0 (.type "object") = some true)
    (aC1 : PySem.W.nsIn K mainGlobals "InvalidList" = some (some (.ref C1)))
    (ga1 : PySem.W.findIn K (.ref C1) "__getattribute__" = some (some (.builtin "BaseException.__getattribute__")))
    (gg1 : PySem.W.findIn K (.ref C1) "__getattr__" = some none)
    (kC1 : PySem.W.keepIn K (.ref C1) = true)
    (ex1 : PySem.W.subIn K (.ref C1) (.type "BaseException") = some true)
    (ty1 : PySem.W.typeIn K (.ref C1) = some (.type "type"))
    (hd1 : PySem.W.hasDictIn K C1 = true)
    (ic1 : PySem.W.isClsIn K C1 = true)
    (ha1 : PySem.W.findIn K (.ref C1) "__class__" = some (some (.builtin "object.__class__")))
    (mo1 : PySem.W.mroIn K C1 (.type "object") = some true)
    (xL1 : K.lookup C1 = some (excClassObj nm1 q1 C1 N1 bs1 bm1 true sn1 sub1 ab1 col1 dd1 u01 u11 u21 u31 u51 "ValueError.__new__"))
    (rv1 : PySem.HandSPX.refsVE bm1 = true)
    (al1 : PySem.W.ks_superIn K C1 C1 "__init__" = some (some (.builtin "ValueError.__init__")))
    (sa1 : PySem.W.findIn K (.ref C1) "__setattr__" = some (some (.builtin "object.__setattr__")))
    (no1 : PySem.W.findIn K (.ref C1) "value" = some none)
    (iC1 : PySem.W.findIn K (.ref C1) "__init__" = some (some (.ref fI1)))
    (tF1 : PySem.W.typeIn K (.ref fI1) = some (.type "function"))
    (ve1 : PySem.W.subIn K (.ref C1) (.type "ValueError") = some true)
    (mr1 : PySem.W.mroIn K C1 (.ref C1) = some true)
    (lF1 : K.lookup fI1 = some ⟨oc1, od1, .func (PySem.W.fnX "__init__" "InvalidList.__init__" (defArgs sI1) (defBody sI1) (defScope sI1) [("__class__", cc1)] (.ref T1) kV1 doc1 pm1 an1 (.ref cda1) ct1), osl1⟩)
    (cF1 : PySem.W.codeIn K (.ref cda1) "InvalidList.__init__" = true)
    (lD1 : K.lookup cda1 = some ⟨ccl1, cdd1, .fields vs1, ccs1⟩)
    (hv1 : vs1[2]? = some (.str file1 tf1))
    (hf1 : (P.main.file == file1) = true)
    (lcc1 : K.lookup cc1 = some ⟨cl1, cld1, .cell (some (.ref C1)), csl1⟩)
    (lT1 : K.lookup T1 = some ⟨tc1, td1, .seq #[.none] n1, tsl1⟩)
    (aC2 : PySem.W.nsIn K mainGlobals "InvalidItem" = some (some (.ref C2)))
    (ga2 : PySem.W.findIn K (.ref C2) "__getattribute__" = some (some (.builtin "BaseException.__getattribute__")))
    (gg2 : PySem.W.findIn K (.ref C2) "__getattr__" = some none)
    (kC2 : PySem.W.keepIn K (.ref C2) = true)
    (ex2 : PySem.W.subIn K (.ref C2) (.type "BaseException") = some true)
    (ty2 : PySem.W.typeIn K (.ref C2) = some (.type "type"))
    (hd2 : PySem.W.hasDictIn K C2 = true)
    (ic2 : PySem.W.isClsIn K C2 = true)
    (ha2 : PySem.W.findIn K (.ref C2) "__class__" = some (some (.builtin "object.__class__")))
    (mo2 : PySem.W.mroIn K C2 (.type "object") = some true)
    (xL2 : K.lookup C2 = some (excClassObj nm2 q2 C2 N2 bs2 bm2 true sn2 sub2 ab2 col2 dd2 u02 u12 u22 u32 u52 "ValueError.__new__"))
    (rv2 : PySem.HandSPX.refsVE bm2 = true)
    (al2 : PySem.W.ks_superIn K C2 C2 "__init__" = some (some (.builtin "ValueError.__init__")))
    (sa2 : PySem.W.findIn K (.ref C2) "__setattr__" = some (some (.builtin "object.__setattr__")))
    (no2 : PySem.W.findIn K (.ref C2) "value" = some none)
    (iC2 : PySem.W.findIn K (.ref C2) "__init__" = some (some (.ref fI2)))
    (tF2 : PySem.W.typeIn K (.ref fI2) = some (.type "function"))
    (ve2 : PySem.W.subIn K (.ref C2) (.type "ValueError") = some true)
    (mr2 : PySem.W.mroIn K C2 (.ref C2) = some true)
    (lF2 : K.lookup fI2 = some ⟨oc2, od2, .func (PySem.W.fnX "__init__" "InvalidItem.__init__" (defArgs sI2) (defBody sI2) (defScope sI2) [("__class__", cc2)] (.ref T2) kV2 doc2 pm2 an2 (.ref cda2) ct2), osl2⟩)
    (cF2 : PySem.W.codeIn K (.ref cda2) "InvalidItem.__init__" = true)
    (lD2 : K.lookup cda2 = some ⟨ccl2, cdd2, .fields vs2, ccs2⟩)
    (hv2 : vs2[2]? = some (.str file2 tf2))
    (hf2 : (P.main.file == file2) = true)
    (lcc2 : K.lookup cc2 = some ⟨cl2, cld2, .cell (some (.ref C2)), csl2⟩)
    (lT2 : K.lookup T2 = some ⟨tc2, td2, .seq #[.none] n2, tsl2⟩)
    (aC3 : PySem.W.nsIn K mainGlobals "InvalidProgram" = some (some (.ref C3)))
    (ga3 : PySem.W.findIn K (.ref C3) "__getattribute__" = some (some (.builtin "BaseException.__getattribute__")))
    (gg3 : PySem.W.findIn K (.ref C3) "__getattr__" = some none)
    (kC3 : PySem.W.keepIn K (.ref C3) = true)
    (ex3 : PySem.W.subIn K (.ref C3) (.type "BaseException") = some true)
    (ty3 : PySem.W.typeIn K (.ref C3) = some (.type "type"))
    (hd3 : PySem.W.hasDictIn K C3 = true)
    (ic3 : PySem.W.isClsIn K C3 = true)
    (ha3 : PySem.W.findIn K (.ref C3) "__class__" = some (some (.builtin "object.__class__")))
    (mo3 : PySem.W.mroIn K C3 (.type "object") = some true)
    (xL3 : K.lookup C3 = some (excClassObj nm3 q3 C3 N3 bs3 bm3 true sn3 sub3 ab3 col3 dd3 u03 u13 u23 u33 u53 "ValueError.__new__"))
    (rv3 : PySem.HandSPX.refsVE bm3 = true)
    (al3 : PySem.W.ks_superIn K C3 C3 "__init__" = some (some (.builtin "ValueError.__init__")))
    (sa3 : PySem.W.findIn K (.ref C3) "__setattr__" = some (some (.builtin "object.__setattr__")))
    (no3 : PySem.W.findIn K (.ref C3) "value" = some none)
    (iC3 : PySem.W.findIn K (.ref C3) "__init__" = some (some (.ref fI3)))
    (tF3 : PySem.W.typeIn K (.ref fI3) = some (.type "function"))
    (ve3 : PySem.W.subIn K (.ref C3) (.type "ValueError") = some true)
    (mr3 : PySem.W.mroIn K C3 (.ref C3) = some true)
    (lF3 : K.lookup fI3 = some ⟨oc3, od3, .func (PySem.W.fnX "__init__" "InvalidProgram.__init__" (defArgs sI3) (defBody sI3) (defScope sI3) [("__class__", cc3)] (.ref T3) kV3 doc3 pm3 an3 (.ref cda3) ct3), osl3⟩)
    (cF3 : PySem.W.codeIn K (.ref cda3) "InvalidProgram.__init__" = true)
    (lD3 : K.lookup cda3 = some ⟨ccl3, cdd3, .fields vs3, ccs3⟩)
    (hv3 : vs3[2]? = some (.str file3 tf3))
    (hf3 : (P.main.file == file3) = true)
    (lcc3 : K.lookup cc3 = some ⟨cl3, cld3, .cell (some (.ref C3)), csl3⟩)
    (lT3 : K.lookup T3 = some ⟨tc3, td3, .seq #[.none] n3, tsl3⟩)
    (aC4 : PySem.W.nsIn K mainGlobals "InvalidText" = some (some (.ref C4)))
    (ga4 : PySem.W.findIn K (.ref C4) "__getattribute__" = some (some (.builtin "BaseException.__getattribute__")))
    (gg4 : PySem.W.findIn K (.ref C4) "__getattr__" = some none)
    (kC4 : PySem.W.keepIn K (.ref C4) = true)
    (ex4 : PySem.W.subIn K (.ref C4) (.type "BaseException") = some true)
    (ty4 : PySem.W.typeIn K (.ref C4) = some (.type "type"))
    (hd4 : PySem.W.hasDictIn K C4 = true)
    (ic4 : PySem.W.isClsIn K C4 = true)
    (ha4 : PySem.W.findIn K (.ref C4) "__class__" = some (some (.builtin "object.__class__")))
    (mo4 : PySem.W.mroIn K C4 (.type "object") = some true)
    (xL4 : K.lookup C4 = some (excClassObj nm4 q4 C4 N4 bs4 bm4 true sn4 sub4 ab4 col4 dd4 u04 u14 u24 u34 u54 "ValueError.__new__"))
    (rv4 : PySem.HandSPX.refsVE bm4 = true)
    (al4 : PySem.W.ks_superIn K C4 C4 "__init__" = some (some (.builtin "ValueError.__init__")))
    (sa4 : PySem.W.findIn K (.ref C4) "__setattr__" = some (some (.builtin "object.__setattr__")))
    (no4 : PySem.W.findIn K (.ref C4) "value" = some none)
    (iC4 : PySem.W.findIn K (.ref C4) "__init__" = some (some (.ref fI4)))
    (tF4 : PySem.W.typeIn K (.ref fI4) = some (.type "function"))
    (ve4 : PySem.W.subIn K (.ref C4) (.type "ValueError") = some true)
    (mr4 : PySem.W.mroIn K C4 (.ref C4) = some true)
    (lF4 : K.lookup fI4 = some ⟨oc4, od4, .func (PySem.W.fnX "__init__" "InvalidText.__init__" (defArgs sI4) (defBody sI4) (defScope sI4) [("__class__", cc4)] (.ref T4) kV4 doc4 pm4 an4 (.ref cda4) ct4), osl4⟩)
    (cF4 : PySem.W.codeIn K (.ref cda4) "InvalidText.__init__" = true)
    (lD4 : K.lookup cda4 = some ⟨ccl4, cdd4, .fields vs4, ccs4⟩)
    (hv4 : vs4[2]? = some (.str file4 tf4))
    (hf4 : (P.main.file == file4) = true)
    (lcc4 : K.lookup cc4 = some ⟨cl4, cld4, .cell (some (.ref C4)), csl4⟩)
    (lT4 : K.lookup T4 = some ⟨tc4, td4, .seq #[.none] n4, tsl4⟩)
    (aC6 : PySem.W.nsIn K mainGlobals "Walks" = some (some (.ref C6)))
    (pg6 : PySem.W.plainGet K C6 Str.empty = true)
    (hd6 : PySem.W.hasDictIn K C6 = true)
    (po6 : PySem.W.plainOver K C6 = true)
    (sa6 : PySem.W.findIn K (.ref C6) "__setattr__" = some (some (.builtin "object.__setattr__")))
    (mk6 : PySem.W.makesIn K C6 = true)
    (kc6 : PySem.W.keepIn K (.ref C6) = true)
    (ha6 : PySem.W.findIn K (.ref C6) "__class__" = some (some (.builtin "object.__class__")))
    (mo6 : PySem.W.mroIn K C6 (.type "object") = some true)
    (no6_0 : PySem.W.findIn K (.ref C6) "_at" = some none)
    (no6_1 : PySem.W.findIn K (.ref C6) "_ways" = some none)
    (no6_2 : PySem.W.findIn K (.ref C6) "_tables" = some none)
    (no6_3 : PySem.W.findIn K (.ref C6) "_common" = some none)
    (aC7 : PySem.W.nsIn K mainGlobals "Program" = some (some (.ref C7)))
    (pg7 : PySem.W.plainGet K C7 Str.empty = true)
    (hd7 : PySem.W.hasDictIn K C7 = true)
    (po7 : PySem.W.plainOver K C7 = true)
    (sa7 : PySem.W.findIn K (.ref C7) "__setattr__" = some (some (.builtin "object.__setattr__")))
    (mk7 : PySem.W.makesIn K C7 = true)
    (kc7 : PySem.W.keepIn K (.ref C7) = true)
    (ha7 : PySem.W.findIn K (.ref C7) "__class__" = some (some (.builtin "object.__class__")))
    (mo7 : PySem.W.mroIn K C7 (.type "object") = some true)
    (no7_0 : PySem.W.findIn K (.ref C7) "_places" = some none)
    (no7_1 : PySem.W.findIn K (.ref C7) "_moves" = some none)
    (no7_2 : PySem.W.findIn K (.ref C7) "_walks" = some none)
    (ne7 : PySem.W.findIn K (.ref C7) "__ne__" = some (some (.builtin "object.__ne__")))
    (mt7_non : PySem.W.mroIn K C7 (.type "NoneType") = some false)
    (mt7_bl : PySem.W.mroIn K C7 (.type "bool") = some false)
    (mt7_int : PySem.W.mroIn K C7 (.type "int") = some false)
    (mt7_str : PySem.W.mroIn K C7 (.type "str") = some false)
    (mt7_lst : PySem.W.mroIn K C7 (.type "list") = some false)
    (mt7_tup : PySem.W.mroIn K C7 (.type "tuple") = some false)
    (mt7_dct : PySem.W.mroIn K C7 (.type "dict") = some false)
    (opq : PySem.W.nsIn K cStatics "thirdparty.any" = some none)
    (sup : PySem.W.nsIn K mainGlobals "super" = some none)
    (hn : PySem.W.specialIn K (.builtin "object.__class__") "__get__" = some (some (.builtin "getset_descriptor.__get__")))
    (ht : PySem.W.takesIn K (.builtin "object.__class__") = some true)
    (htop : (P.main.scope.names.lookup ("super" : Str)).isSome = false)
    (m_gcd : PySem.W.nsIn K mainGlobals "gcd" = some (some (.builtin "math.gcd")))
    (m_lcm : PySem.W.nsIn K mainGlobals "lcm" = some (some (.builtin "math.lcm")))
    (b_all : PySem.W.nsIn K mainGlobals "all" = some none)
    (b_bool : PySem.W.nsIn K mainGlobals "bool" = some none)
    (b_enumerate : PySem.W.nsIn K mainGlobals "enumerate" = some none)
    (b_int : PySem.W.nsIn K mainGlobals "int" = some none)
    (b_isinstance : PySem.W.nsIn K mainGlobals "isinstance" = some none)
    (b_len : PySem.W.nsIn K mainGlobals "len" = some none)
    (b_list : PySem.W.nsIn K mainGlobals "list" = some none)
    (b_max : PySem.W.nsIn K mainGlobals "max" = some none)
    (b_min : PySem.W.nsIn K mainGlobals "min" = some none)
    (b_range : PySem.W.nsIn K mainGlobals "range" = some none)
    (b_repr : PySem.W.nsIn K mainGlobals "repr" = some none)
    (b_str : PySem.W.nsIn K mainGlobals "str" = some none)
    (b_tuple : PySem.W.nsIn K mainGlobals "tuple" = some none)
    (k_AMOUNTS : PySem.W.nsIn K mainGlobals "AMOUNTS" = some (some (.str "01234" t_AMOUNTS)))
    (k_LEASTS : PySem.W.nsIn K mainGlobals "LEASTS" = some (some (.str "012345678" t_LEASTS)))
    (k_LONGEST_NAME : PySem.W.nsIn K mainGlobals "LONGEST_NAME" = some (some (.int 8 t_LONGEST_NAME)))
    (k_MOST_CHANGE : PySem.W.nsIn K mainGlobals "MOST_CHANGE" = some (some (.int 4 t_MOST_CHANGE)))
    (k_MOST_LEAST : PySem.W.nsIn K mainGlobals "MOST_LEAST" = some (some (.int 8 t_MOST_LEAST)))
    (k_MOST_MOVES : PySem.W.nsIn K mainGlobals "MOST_MOVES" = some (some (.int 10 t_MOST_MOVES)))
    (k_MOST_PLACES : PySem.W.nsIn K mainGlobals "MOST_PLACES" = some (some (.int 4 t_MOST_PLACES)))
    (k_MOVE : PySem.W.nsIn K mainGlobals "MOVE" = some (some (.str "move" t_MOVE)))
    (k_PLACES : PySem.W.nsIn K mainGlobals "PLACES" = some (some (.str "places" t_PLACES)))
    (k_SIGNS : PySem.W.nsIn K mainGlobals "SIGNS" = some (some (.str "+-" t_SIGNS)))
    (on_non_Program : PySem.W.kitOne K (.type "NoneType") (.ref C7) = some false)
    (on_bl_Program : PySem.W.kitOne K (.type "bool") (.ref C7) = some false)
    (on_int_Program : PySem.W.kitOne K (.type "int") (.ref C7) = some false)
    (on_str_Program : PySem.W.kitOne K (.type "str") (.ref C7) = some false)
    (on_lst_Program : PySem.W.kitOne K (.type "list") (.ref C7) = some false)
    (on_tup_Program : PySem.W.kitOne K (.type "tuple") (.ref C7) = some false)
    (on_dct_Program : PySem.W.kitOne K (.type "dict") (.ref C7) = some false)
    (os6_Program : PySem.W.kitOne K (.ref C6) (.ref C7) = some false)
    (os7_Program : PySem.W.kitOne K (.ref C7) (.ref C7) = some true)
    (u0_InvalidProgram : PySem.W.subIn K (.ref C0) (.ref C3) = some false)
    (u1_InvalidProgram : PySem.W.subIn K (.ref C1) (.ref C3) = some false)
    (u2_InvalidProgram : PySem.W.subIn K (.ref C2) (.ref C3) = some false)
    (u3_InvalidProgram : PySem.W.subIn K (.ref C3) (.ref C3) = some true)
    (u4_InvalidProgram : PySem.W.subIn K (.ref C4) (.ref C3) = some false)
    (a55d : PySem.W.nsIn K mainGlobals "_law_cell" = some (some (.ref fa55)))
    (l55d : K.lookup fa55 = some ⟨oc55d, od55d, .func (PySem.W.fnOf "_law_cell" "_law_cell" (defArgs s55) (defBody s55) (defScope s55) .none kV55d dc55d pm55d an55d cd55d ct55d), sl55d⟩)
    (c55d : PySem.W.codeIn K cd55d "_law_cell" = true)
    (k55d : PySem.W.keepIn K (.ref fa55) = true)
    (a58d : PySem.W.nsIn K mainGlobals "_law_generator" = some (some (.ref fa58)))
    (l58d : K.lookup fa58 = some ⟨oc58d, od58d, .func (PySem.W.fnOf "_law_generator" "_law_generator" (defArgs s58) (defBody s58) (defScope s58) .none kV58d dc58d pm58d an58d cd58d ct58d), sl58d⟩)
    (c58d : PySem.W.codeIn K cd58d "_law_generator" = true)
    (k58d : PySem.W.keepIn K (.ref fa58) = true)
    (a54d : PySem.W.nsIn K mainGlobals "_law_hash" = some (some (.ref fa54)))
    (l54d : K.lookup fa54 = some ⟨oc54d, od54d, .func (PySem.W.fnOf "_law_hash" "_law_hash" (defArgs s54) (defBody s54) (defScope s54) .none kV54d dc54d pm54d an54d cd54d ct54d), sl54d⟩)
    (c54d : PySem.W.codeIn K cd54d "_law_hash" = true)
    (k54d : PySem.W.keepIn K (.ref fa54) = true)
    (a57d : PySem.W.nsIn K mainGlobals "_law_random" = some (some (.ref fa57)))
    (l57d : K.lookup fa57 = some ⟨oc57d, od57d, .func (PySem.W.fnOf "_law_random" "_law_random" (defArgs s57) (defBody s57) (defScope s57) .none kV57d dc57d pm57d an57d cd57d ct57d), sl57d⟩)
    (c57d : PySem.W.codeIn K cd57d "_law_random" = true)
    (k57d : PySem.W.keepIn K (.ref fa57) = true)
    (a56d : PySem.W.nsIn K mainGlobals "_law_moves_drawn" = some (some (.ref fa56)))
    (l56d : K.lookup fa56 = some ⟨oc56d, od56d, .func (PySem.W.fnOf "_law_moves_drawn" "_law_moves_drawn" (defArgs s56) (defBody s56) (defScope s56) .none kV56d dc56d pm56d an56d cd56d ct56d), sl56d⟩)
    (c56d : PySem.W.codeIn K cd56d "_law_moves_drawn" = true)
    (k56d : PySem.W.keepIn K (.ref fa56) = true)
    (a59d : PySem.W.nsIn K mainGlobals "_law_drawn" = some (some (.ref fa59)))
    (l59d : K.lookup fa59 = some ⟨oc59d, od59d, .func (PySem.W.fnOf "_law_drawn" "_law_drawn" (defArgs s59) (defBody s59) (defScope s59) .none kV59d dc59d pm59d an59d cd59d ct59d), sl59d⟩)
    (c59d : PySem.W.codeIn K cd59d "_law_drawn" = true)
    (k59d : PySem.W.keepIn K (.ref fa59) = true)
    (a61d : PySem.W.nsIn K mainGlobals "_law_lines" = some (some (.ref fa61)))
    (l61d : K.lookup fa61 = some ⟨oc61d, od61d, .func (PySem.W.fnOf "_law_lines" "_law_lines" (defArgs s61) (defBody s61) (defScope s61) .none kV61d dc61d pm61d an61d cd61d ct61d), sl61d⟩)
    (c61d : PySem.W.codeIn K cd61d "_law_lines" = true)
    (k61d : PySem.W.keepIn K (.ref fa61) = true)
    (a12d : PySem.W.nsIn K mainGlobals "is_name" = some (some (.ref fa12)))
    (l12d : K.lookup fa12 = some ⟨oc12d, od12d, .func (PySem.W.fnOf "is_name" "is_name" (defArgs s12) (defBody s12) (defScope s12) .none kV12d dc12d pm12d an12d cd12d ct12d), sl12d⟩)
    (c12d : PySem.W.codeIn K cd12d "is_name" = true)
    (k12d : PySem.W.keepIn K (.ref fa12) = true)
    (a35d : PySem.W.nsIn K mainGlobals "_check_places" = some (some (.ref fa35)))
    (l35d : K.lookup fa35 = some ⟨oc35d, od35d, .func (PySem.W.fnOf "_check_places" "_check_places" (defArgs s35) (defBody s35) (defScope s35) .none kV35d dc35d pm35d an35d cd35d ct35d), sl35d⟩)
    (c35d : PySem.W.codeIn K cd35d "_check_places" = true)
    (k35d : PySem.W.keepIn K (.ref fa35) = true)
    (a34d : PySem.W.nsIn K mainGlobals "is_among" = some (some (.ref fa34)))
    (l34d : K.lookup fa34 = some ⟨oc34d, od34d, .func (PySem.W.fnOf "is_among" "is_among" (defArgs s34) (defBody s34) (defScope s34) .none kV34d dc34d pm34d an34d cd34d ct34d), sl34d⟩)
    (c34d : PySem.W.codeIn K cd34d "is_among" = true)
    (k34d : PySem.W.keepIn K (.ref fa34) = true)
    (a10d : PySem.W.nsIn K mainGlobals "is_whole" = some (some (.ref fa10)))
    (l10d : K.lookup fa10 = some ⟨oc10d, od10d, .func (PySem.W.fnOf "is_whole" "is_whole" (defArgs s10) (defBody s10) (defScope s10) .none kV10d dc10d pm10d an10d cd10d ct10d), sl10d⟩)
    (c10d : PySem.W.codeIn K cd10d "is_whole" = true)
    (k10d : PySem.W.keepIn K (.ref fa10) = true)
    (a11d : PySem.W.nsIn K mainGlobals "is_between" = some (some (.ref fa11)))
    (l11d : K.lookup fa11 = some ⟨oc11d, od11d, .func (PySem.W.fnOf "is_between" "is_between" (defArgs s11) (defBody s11) (defScope s11) .none kV11d dc11d pm11d an11d cd11d ct11d), sl11d⟩)
    (c11d : PySem.W.codeIn K cd11d "is_between" = true)
    (k11d : PySem.W.keepIn K (.ref fa11) = true)
    (a33d : PySem.W.nsIn K mainGlobals "is_move" = some (some (.ref fa33)))
    (l33d : K.lookup fa33 = some ⟨oc33d, od33d, .func (PySem.W.fnOf "is_move" "is_move" (defArgs s33) (defBody s33) (defScope s33) .none kV33d dc33d pm33d an33d cd33d ct33d), sl33d⟩)
    (c33d : PySem.W.codeIn K cd33d "is_move" = true)
    (k33d : PySem.W.keepIn K (.ref fa33) = true)
    (a36d : PySem.W.nsIn K mainGlobals "_check_moves" = some (some (.ref fa36)))
    (l36d : K.lookup fa36 = some ⟨oc36d, od36d, .func (PySem.W.fnOf "_check_moves" "_check_moves" (defArgs s36) (defBody s36) (defScope s36) .none kV36d dc36d pm36d an36d cd36d ct36d), sl36d⟩)
    (c36d : PySem.W.codeIn K cd36d "_check_moves" = true)
    (k36d : PySem.W.keepIn K (.ref fa36) = true)
    (a16d : PySem.W.nsIn K mainGlobals "_changes_from" = some (some (.ref fa16)))
    (l16d : K.lookup fa16 = some ⟨oc16d, od16d, .func (PySem.W.fnOf "_changes_from" "_changes_from" (defArgs s16) (defBody s16) (defScope s16) .none kV16d dc16d pm16d an16d cd16d ct16d), sl16d⟩)
    (c16d : PySem.W.codeIn K cd16d "_changes_from" = true)
    (k16d : PySem.W.keepIn K (.ref fa16) = true)
    (a15d : PySem.W.nsIn K mainGlobals "_step_at" = some (some (.ref fa15)))
    (l15d : K.lookup fa15 = some ⟨oc15d, od15d, .func (PySem.W.fnOf "_step_at" "_step_at" (defArgs s15) (defBody s15) (defScope s15) .none kV15d dc15d pm15d an15d cd15d ct15d), sl15d⟩)
    (c15d : PySem.W.codeIn K cd15d "_step_at" = true)
    (k15d : PySem.W.keepIn K (.ref fa15) = true)
    (a14d : PySem.W.nsIn K mainGlobals "common_step" = some (some (.ref fa14)))
    (l14d : K.lookup fa14 = some ⟨oc14d, od14d, .func (PySem.W.fnOf "common_step" "common_step" (defArgs s14) (defBody s14) (defScope s14) .none kV14d dc14d pm14d an14d cd14d ct14d), sl14d⟩)
    (c14d : PySem.W.codeIn K cd14d "common_step" = true)
    (k14d : PySem.W.keepIn K (.ref fa14) = true)
    (a_Walks___init__d : PySem.W.findIn K (.ref C6) "__init__" = some (some (.ref fa_Walks___init__)))
    (i_Walks___init__d : PySem.W.isFn K (.ref fa_Walks___init__) = true)
    (l_Walks___init__d : K.lookup fa_Walks___init__ = some ⟨oc_Walks___init__d, od_Walks___init__d, .func (PySem.W.fnOf "__init__" "Walks.__init__" (defArgs s_Walks___init__) (defBody s_Walks___init__) (defScope s_Walks___init__) .none kV_Walks___init__d dc_Walks___init__d pm_Walks___init__d an_Walks___init__d cd_Walks___init__d ct_Walks___init__d), sl_Walks___init__d⟩)
    (c_Walks___init__d : PySem.W.codeIn K cd_Walks___init__d "Walks.__init__" = true)
    (k_Walks___init__d : PySem.W.keepIn K (.ref fa_Walks___init__) = true)
    (a_Program___init__d : PySem.W.findIn K (.ref C7) "__init__" = some (some (.ref fa_Program___init__)))
    (i_Program___init__d : PySem.W.isFn K (.ref fa_Program___init__) = true)
    (l_Program___init__d : K.lookup fa_Program___init__ = some ⟨oc_Program___init__d, od_Program___init__d, .func (PySem.W.fnOf "__init__" "Program.__init__" (defArgs s_Program___init__) (defBody s_Program___init__) (defScope s_Program___init__) .none kV_Program___init__d dc_Program___init__d pm_Program___init__d an_Program___init__d cd_Program___init__d ct_Program___init__d), sl_Program___init__d⟩)
    (c_Program___init__d : PySem.W.codeIn K cd_Program___init__d "Program.__init__" = true)
    (k_Program___init__d : PySem.W.keepIn K (.ref fa_Program___init__) = true)
    (a60d : PySem.W.nsIn K mainGlobals "_law_program" = some (some (.ref fa60)))
    (l60d : K.lookup fa60 = some ⟨oc60d, od60d, .func (PySem.W.fnOf "_law_program" "_law_program" (defArgs s60) (defBody s60) (defScope s60) .none kV60d dc60d pm60d an60d cd60d ct60d), sl60d⟩)
    (c60d : PySem.W.codeIn K cd60d "_law_program" = true)
    (k60d : PySem.W.keepIn K (.ref fa60) = true)
    (a38d : PySem.W.nsIn K mainGlobals "check_program" = some (some (.ref fa38)))
    (l38d : K.lookup fa38 = some ⟨oc38d, od38d, .func (PySem.W.fnOf "check_program" "check_program" (defArgs s38) (defBody s38) (defScope s38) .none kV38d dc38d pm38d an38d cd38d ct38d), sl38d⟩)
    (c38d : PySem.W.codeIn K cd38d "check_program" = true)
    (k38d : PySem.W.keepIn K (.ref fa38) = true)
    (a_Program_placesd : PySem.W.findIn K (.ref C7) "places" = some (some (.ref fa_Program_places)))
    (i_Program_placesd : PySem.W.isFn K (.ref fa_Program_places) = true)
    (l_Program_placesd : K.lookup fa_Program_places = some ⟨oc_Program_placesd, od_Program_placesd, .func (PySem.W.fnOf "places" "Program.places" (defArgs s_Program_places) (defBody s_Program_places) (defScope s_Program_places) .none kV_Program_placesd dc_Program_placesd pm_Program_placesd an_Program_placesd cd_Program_placesd ct_Program_placesd), sl_Program_placesd⟩)
    (c_Program_placesd : PySem.W.codeIn K cd_Program_placesd "Program.places" = true)
    (k_Program_placesd : PySem.W.keepIn K (.ref fa_Program_places) = true)
    (a_Program_movesd : PySem.W.findIn K (.ref C7) "moves" = some (some (.ref fa_Program_moves)))
    (i_Program_movesd : PySem.W.isFn K (.ref fa_Program_moves) = true)
    (l_Program_movesd : K.lookup fa_Program_moves = some ⟨oc_Program_movesd, od_Program_movesd, .func (PySem.W.fnOf "moves" "Program.moves" (defArgs s_Program_moves) (defBody s_Program_moves) (defScope s_Program_moves) .none kV_Program_movesd dc_Program_movesd pm_Program_movesd an_Program_movesd cd_Program_movesd ct_Program_movesd), sl_Program_movesd⟩)
    (c_Program_movesd : PySem.W.codeIn K cd_Program_movesd "Program.moves" = true)
    (k_Program_movesd : PySem.W.keepIn K (.ref fa_Program_moves) = true)
    (a45d : PySem.W.nsIn K mainGlobals "text_of" = some (some (.ref fa45)))
    (l45d : K.lookup fa45 = some ⟨oc45d, od45d, .func (PySem.W.fnOf "text_of" "text_of" (defArgs s45) (defBody s45) (defScope s45) .none kV45d dc45d pm45d an45d cd45d ct45d), sl45d⟩)
    (c45d : PySem.W.codeIn K cd45d "text_of" = true)
    (k45d : PySem.W.keepIn K (.ref fa45) = true)
    (a_Program___eq__d : PySem.W.findIn K (.ref C7) "__eq__" = some (some (.ref fa_Program___eq__)))
    (i_Program___eq__d : PySem.W.isFn K (.ref fa_Program___eq__) = true)
    (l_Program___eq__d : K.lookup fa_Program___eq__ = some ⟨oc_Program___eq__d, od_Program___eq__d, .func (PySem.W.fnOf "__eq__" "Program.__eq__" (defArgs s_Program___eq__) (defBody s_Program___eq__) (defScope s_Program___eq__) .none kV_Program___eq__d dc_Program___eq__d pm_Program___eq__d an_Program___eq__d cd_Program___eq__d ct_Program___eq__d), sl_Program___eq__d⟩)
    (c_Program___eq__d : PySem.W.codeIn K cd_Program___eq__d "Program.__eq__" = true)
    (k_Program___eq__d : PySem.W.keepIn K (.ref fa_Program___eq__) = true)
    (a62d : PySem.W.nsIn K mainGlobals "_law_spaced" = some (some (.ref fa62)))
    (l62d : K.lookup fa62 = some ⟨oc62d, od62d, .func (PySem.W.fnOf "_law_spaced" "_law_spaced" (defArgs s62) (defBody s62) (defScope s62) .none kV62d dc62d pm62d an62d cd62d ct62d), sl62d⟩)
    (c62d : PySem.W.codeIn K cd62d "_law_spaced" = true)
    (k62d : PySem.W.keepIn K (.ref fa62) = true)
    (a47d : PySem.W.nsIn K mainGlobals "_lines_of" = some (some (.ref fa47)))
    (l47d : K.lookup fa47 = some ⟨oc47d, od47d, .func (PySem.W.fnOf "_lines_of" "_lines_of" (defArgs s47) (defBody s47) (defScope s47) .none kV47d dc47d pm47d an47d cd47d ct47d), sl47d⟩)
    (c47d : PySem.W.codeIn K cd47d "_lines_of" = true)
    (k47d : PySem.W.keepIn K (.ref fa47) = true)
    (a50d : PySem.W.nsIn K mainGlobals "_is_least" = some (some (.ref fa50)))
    (l50d : K.lookup fa50 = some ⟨oc50d, od50d, .func (PySem.W.fnOf "_is_least" "_is_least" (defArgs s50) (defBody s50) (defScope s50) .none kV50d dc50d pm50d an50d cd50d ct50d), sl50d⟩)
    (c50d : PySem.W.codeIn K cd50d "_is_least" = true)
    (k50d : PySem.W.keepIn K (.ref fa50) = true)
    (a51d : PySem.W.nsIn K mainGlobals "_is_change" = some (some (.ref fa51)))
    (l51d : K.lookup fa51 = some ⟨oc51d, od51d, .func (PySem.W.fnOf "_is_change" "_is_change" (defArgs s51) (defBody s51) (defScope s51) .none kV51d dc51d pm51d an51d cd51d ct51d), sl51d⟩)
    (c51d : PySem.W.codeIn K cd51d "_is_change" = true)
    (k51d : PySem.W.keepIn K (.ref fa51) = true)
    (a49d : PySem.W.nsIn K mainGlobals "_is_line_of_a_move" = some (some (.ref fa49)))
    (l49d : K.lookup fa49 = some ⟨oc49d, od49d, .func (PySem.W.fnOf "_is_line_of_a_move" "_is_line_of_a_move" (defArgs s49) (defBody s49) (defScope s49) .none kV49d dc49d pm49d an49d cd49d ct49d), sl49d⟩)
    (c49d : PySem.W.codeIn K cd49d "_is_line_of_a_move" = true)
    (k49d : PySem.W.keepIn K (.ref fa49) = true)
    (a48d : PySem.W.nsIn K mainGlobals "_are_lines_of_a_program" = some (some (.ref fa48)))
    (l48d : K.lookup fa48 = some ⟨oc48d, od48d, .func (PySem.W.fnOf "_are_lines_of_a_program" "_are_lines_of_a_program" (defArgs s48) (defBody s48) (defScope s48) .none kV48d dc48d pm48d an48d cd48d ct48d), sl48d⟩)
    (c48d : PySem.W.codeIn K cd48d "_are_lines_of_a_program" = true)
    (k48d : PySem.W.keepIn K (.ref fa48) = true)
    (a52d : PySem.W.nsIn K mainGlobals "_program_of" = some (some (.ref fa52)))
    (l52d : K.lookup fa52 = some ⟨oc52d, od52d, .func (PySem.W.fnOf "_program_of" "_program_of" (defArgs s52) (defBody s52) (defScope s52) .none kV52d dc52d pm52d an52d cd52d ct52d), sl52d⟩)
    (c52d : PySem.W.codeIn K cd52d "_program_of" = true)
    (k52d : PySem.W.keepIn K (.ref fa52) = true)
    (a46d : PySem.W.nsIn K mainGlobals "read_program" = some (some (.ref fa46)))
    (l46d : K.lookup fa46 = some ⟨oc46d, od46d, .func (PySem.W.fnOf "read_program" "read_program" (defArgs s46) (defBody s46) (defScope s46) .none kV46d dc46d pm46d an46d cd46d ct46d), sl46d⟩)
    (c46d : PySem.W.codeIn K cd46d "read_program" = true)
    (k46d : PySem.W.keepIn K (.ref fa46) = true)
    (a63d : PySem.W.nsIn K mainGlobals "law" = some (some (.ref fa63)))
    (l63d : K.lookup fa63 = some ⟨oc63d, od63d, .func (PySem.W.fnOf "law" "law" (defArgs s63) (defBody s63) (defScope s63) .none kV63d dc63d pm63d an63d cd63d ct63d), sl63d⟩)
    (c63d : PySem.W.codeIn K cd63d "law" = true)
    (k63d : PySem.W.keepIn K (.ref fa63) = true)
    : ∃ (fd : FuncData) (cl : List (Addr × List Str)), (∀ (s : Shared) (u : Value), BindsTo s fd ⟨[u], []⟩ [("_law_script", u)]) ∧
        ∀ (base : Heap) (a0 : Addr) (ns : List Int), K.In base → base.Ns mainGlobals mg → (∃ o, base.get? sysModules = some o) → FnG P w K mg base 10 fa fd ["_law_script"] (spM ⟨cl, K, a0, ns, []⟩ 1 f63) := by
  have e := hfa.symm.trans (PySem.W.mg_of X G a63d)
  cases e
  refine ⟨PySem.W.fnOf "law" "law" (defArgs s63) (defBody s63) (defScope s63) .none kV63d dc63d pm63d an63d cd63d ct63d, [(C0, []), (C1, ["value"]), (C2, ["value"]), (C3, ["value"]), (C4, ["value"]), (0, ["_moves", "_needs", "_last"]), (C6, ["_at", "_ways", "_tables", "_common"]), (C7, ["_places", "_moves", "_walks"])], fun s u => .of_eq rfl, fun base a0 ns KB GB sm => ?_⟩
  have hs := PySem.W.mg_none_of X G sup
  have xi0 : ExcIs K C0 := ⟨by first | exact (any_isSome ic0) | (simpa [PySem.W.isClsIn] using ic0), ga0, gg0, ex0, ha0, hn, ht, mo0, hd0⟩
  have xi1 : ExcIs K C1 := ⟨by first | exact (any_isSome ic1) | (simpa [PySem.W.isClsIn] using ic1), ga1, gg1, ex1, ha1, hn, ht, mo1, hd1⟩
  have et1 : Er.ErrTxt P K "value" C1 fI1 :=
    { cls := ⟨nm1, q1, N1, bs1, bm1, sn1, sub1, ab1, col1, dd1, u01, u11, u21, u31, u51, xL1, rv1, Er.along_of xL1 al1⟩, sa := sa1, ga := ga1, gg := gg1, noN := no1, iC := iC1, tC := tF1, kC := kC1, exC := ex1, veC := ve1, tyC := ty1, hdC := hd1, mrC := mr1, opq := opq, htop := htop, fgood := by decide +kernel,
      fn := ⟨"InvalidList.__init__", _, oc1, ccl1, cl1, od1, cdd1, cld1, kV1, doc1, pm1, .ref T1, an1, cda1, cc1, ct1, osl1, ccs1, csl1, vs1, file1, tf1, _, _, _, _, _, _, _, _, _, _, _, _, _, _, _, lF1, cF1, lD1, hv1, hf1, lcc1, by decide, rfl⟩,
      b0 := fun oc od fd osl e => (by
        rw [lF1] at e; cases e
        refine ⟨fun s us X hl => ?_, fun s us X hl => ?_⟩
        · obtain ⟨a, b, rfl⟩ := two_of hl; exact PySem.W.binds_K X rfl lT1 rfl rfl rfl
        · obtain ⟨a, rfl⟩ := one_of hl; exact PySem.W.binds_K X rfl lT1 rfl rfl rfl),
      bK := fun oc od fd osl e s x v X => (by
        rw [lF1] at e; cases e
        exact PySem.W.binds_K X rfl lT1 rfl rfl rfl) }
  have xi2 : ExcIs K C2 := ⟨by first | exact (any_isSome ic2) | (simpa [PySem.W.isClsIn] using ic2), ga2, gg2, ex2, ha2, hn, ht, mo2, hd2⟩
  have et2 : Er.ErrTxt P K "value" C2 fI2 :=
    { cls := ⟨nm2, q2, N2, bs2, bm2, sn2, sub2, ab2, col2, dd2, u02, u12, u22, u32, u52, xL2, rv2, Er.along_of xL2 al2⟩, sa := sa2, ga := ga2, gg := gg2, noN := no2, iC := iC2, tC := tF2, kC := kC2, exC := ex2, veC := ve2, tyC := ty2, hdC := hd2, mrC := mr2, opq := opq, htop := htop, fgood := by decide +kernel,
      fn := ⟨"InvalidItem.__init__", _, oc2, ccl2, cl2, od2, cdd2, cld2, kV2, doc2, pm2, .ref T2, an2, cda2, cc2, ct2, osl2, ccs2, csl2, vs2, file2, tf2, _, _, _, _, _, _, _, _, _, _, _, _, _, _, _, lF2, cF2, lD2, hv2, hf2, lcc2, by decide, rfl⟩,
      b0 := fun oc od fd osl e => (by
        rw [lF2] at e; cases e
        refine ⟨fun s us X hl => ?_, fun s us X hl => ?_⟩
        · obtain ⟨a, b, rfl⟩ := two_of hl; exact PySem.W.binds_K X rfl lT2 rfl rfl rfl
        · obtain ⟨a, rfl⟩ := one_of hl; exact PySem.W.binds_K X rfl lT2 rfl rfl rfl),
      bK := fun oc od fd osl e s x v X => (by
        rw [lF2] at e; cases e
        exact PySem.W.binds_K X rfl lT2 rfl rfl rfl) }
  have xi3 : ExcIs K C3 := ⟨by first | exact (any_isSome ic3) | (simpa [PySem.W.isClsIn] using ic3), ga3, gg3, ex3, ha3, hn, ht, mo3, hd3⟩
  have et3 : Er.ErrTxt P K "value" C3 fI3 :=
    { cls := ⟨nm3, q3, N3, bs3, bm3, sn3, sub3, ab3, col3, dd3, u03, u13, u23, u33, u53, xL3, rv3, Er.along_of xL3 al3⟩, sa := sa3, ga := ga3, gg := gg3, noN := no3, iC := iC3, tC := tF3, kC := kC3, exC := ex3, veC := ve3, tyC := ty3, hdC := hd3, mrC := mr3, opq := opq, htop := htop, fgood := by decide +kernel,
      fn := ⟨"InvalidProgram.__init__", _, oc3, ccl3, cl3, od3, cdd3, cld3, kV3, doc3, pm3, .ref T3, an3, cda3, cc3, ct3, osl3, ccs3, csl3, vs3, file3, tf3, _, _, _, _, _, _, _, _, _, _, _, _, _, _, _, lF3, cF3, lD3, hv3, hf3, lcc3, by decide, rfl⟩,
      b0 := fun oc od fd osl e => (by
        rw [lF3] at e; cases e
        refine ⟨fun s us X hl => ?_, fun s us X hl => ?_⟩
        · obtain ⟨a, b, rfl⟩ := two_of hl; exact PySem.W.binds_K X rfl lT3 rfl rfl rfl
        · obtain ⟨a, rfl⟩ := one_of hl; exact PySem.W.binds_K X rfl lT3 rfl rfl rfl),
      bK := fun oc od fd osl e s x v X => (by
        rw [lF3] at e; cases e
        exact PySem.W.binds_K X rfl lT3 rfl rfl rfl) }
  have xi4 : ExcIs K C4 := ⟨by first | exact (any_isSome ic4) | (simpa [PySem.W.isClsIn] using ic4), ga4, gg4, ex4, ha4, hn, ht, mo4, hd4⟩
  have et4 : Er.ErrTxt P K "value" C4 fI4 :=
    { cls := ⟨nm4, q4, N4, bs4, bm4, sn4, sub4, ab4, col4, dd4, u04, u14, u24, u34, u54, xL4, rv4, Er.along_of xL4 al4⟩, sa := sa4, ga := ga4, gg := gg4, noN := no4, iC := iC4, tC := tF4, kC := kC4, exC := ex4, veC := ve4, tyC := ty4, hdC := hd4, mrC := mr4, opq := opq, htop := htop, fgood := by decide +kernel,
      fn := ⟨"InvalidText.__init__", _, oc4, ccl4, cl4, od4, cdd4, cld4, kV4, doc4, pm4, .ref T4, an4, cda4, cc4, ct4, osl4, ccs4, csl4, vs4, file4, tf4, _, _, _, _, _, _, _, _, _, _, _, _, _, _, _, lF4, cF4, lD4, hv4, hf4, lcc4, by decide, rfl⟩,
      b0 := fun oc od fd osl e => (by
        rw [lF4] at e; cases e
        refine ⟨fun s us X hl => ?_, fun s us X hl => ?_⟩
        · obtain ⟨a, b, rfl⟩ := two_of hl; exact PySem.W.binds_K X rfl lT4 rfl rfl rfl
        · obtain ⟨a, rfl⟩ := one_of hl; exact PySem.W.binds_K X rfl lT4 rfl rfl rfl),
      bK := fun oc od fd osl e s x v X => (by
        rw [lF4] at e; cases e
        exact PySem.W.binds_K X rfl lT4 rfl rfl rfl) }
  have cf6 : ClsF ⟨[(C0, []), (C1, ["value"]), (C2, ["value"]), (C3, ["value"]), (C4, ["value"]), (0, ["_moves", "_needs", "_last"]), (C6, ["_at", "_ways", "_tables", "_common"]), (C7, ["_places", "_moves", "_walks"])], K, a0, ns, []⟩ 6 C6 ["_at", "_ways", "_tables", "_common"] := ⟨rfl, ⟨pg6, hd6, po6, sa6⟩, List.forall_mem_cons.2 ⟨no6_0, List.forall_mem_cons.2 ⟨no6_1, List.forall_mem_cons.2 ⟨no6_2, List.forall_mem_cons.2 ⟨no6_3, fun _ h => nomatch h⟩⟩⟩⟩, by decide +kernel, by decide⟩
  have ii6 : InsIs K C6 := ⟨⟨pg6, hd6, po6, sa6⟩, ha6, hn, ht, mo6⟩
  have cf7 : ClsF ⟨[(C0, []), (C1, ["value"]), (C2, ["value"]), (C3, ["value"]), (C4, ["value"]), (0, ["_moves", "_needs", "_last"]), (C6, ["_at", "_ways", "_tables", "_common"]), (C7, ["_places", "_moves", "_walks"])], K, a0, ns, []⟩ 7 C7 ["_places", "_moves", "_walks"] := ⟨rfl, ⟨pg7, hd7, po7, sa7⟩, List.forall_mem_cons.2 ⟨no7_0, List.forall_mem_cons.2 ⟨no7_1, List.forall_mem_cons.2 ⟨no7_2, fun _ h => nomatch h⟩⟩⟩, by decide +kernel, by decide⟩
  have ii7 : InsIs K C7 := ⟨⟨pg7, hd7, po7, sa7⟩, ha7, hn, ht, mo7⟩
  have T : Tx P w K mg base ⟨[(C0, []), (C1, ["value"]), (C2, ["value"]), (C3, ["value"]), (C4, ["value"]), (0, ["_moves", "_needs", "_last"]), (C6, ["_at", "_ways", "_tables", "_common"]), (C7, ["_places", "_moves", "_walks"])], K, a0, ns, []⟩ (fun i => ([C0, C1, C2, C3, C4, 0, C6, C7] : List Addr).getD i 0) :=
    { hK := rfl,
      sm := sm,
      b_all := PySem.W.mg_none_of X G b_all,
      b_bool := PySem.W.mg_none_of X G b_bool,
      b_enumerate := PySem.W.mg_none_of X G b_enumerate,
      b_int := PySem.W.mg_none_of X G b_int,
      b_isinstance := PySem.W.mg_none_of X G b_isinstance,
      b_len := PySem.W.mg_none_of X G b_len,
      b_list := PySem.W.mg_none_of X G b_list,
      b_max := PySem.W.mg_none_of X G b_max,
      b_min := PySem.W.mg_none_of X G b_min,
      b_range := PySem.W.mg_none_of X G b_range,
      b_repr := PySem.W.mg_none_of X G b_repr,
      b_str := PySem.W.mg_none_of X G b_str,
      b_tuple := PySem.W.mg_none_of X G b_tuple,
      m_gcd := PySem.W.mg_of X G m_gcd,
      m_lcm := PySem.W.mg_of X G m_lcm,
      c_AMOUNTS := ⟨_, PySem.W.mg_of X G k_AMOUNTS⟩,
      c_LEASTS := ⟨_, PySem.W.mg_of X G k_LEASTS⟩,
      c_LONGEST_NAME := ⟨_, PySem.W.mg_of X G k_LONGEST_NAME⟩,
      c_MOST_CHANGE := ⟨_, PySem.W.mg_of X G k_MOST_CHANGE⟩,
      c_MOST_LEAST := ⟨_, PySem.W.mg_of X G k_MOST_LEAST⟩,
      c_MOST_MOVES := ⟨_, PySem.W.mg_of X G k_MOST_MOVES⟩,
      c_MOST_PLACES := ⟨_, PySem.W.mg_of X G k_MOST_PLACES⟩,
      c_MOVE := ⟨_, PySem.W.mg_of X G k_MOVE⟩,
      c_PLACES := ⟨_, PySem.W.mg_of X G k_PLACES⟩,
      c_SIGNS := ⟨_, PySem.W.mg_of X G k_SIGNS⟩,
      g_InvalidProgram := PySem.W.mg_of X G aC3,
      g_Program := PySem.W.mg_of X G aC7,
      g_Walks := PySem.W.mg_of X G aC6,
      e1 := ⟨by decide, C1, ["value"], rfl, rfl, PySem.W.mg_of X G aC1, kC1, Er.err_made et1 hs, ex1, ty1⟩,
      e2 := ⟨by decide, C2, ["value"], rfl, rfl, PySem.W.mg_of X G aC2, kC2, Er.err_made et2 hs, ex2, ty2⟩,
      e3 := ⟨by decide, C3, ["value"], rfl, rfl, PySem.W.mg_of X G aC3, kC3, Er.err_made et3 hs, ex3, ty3⟩,
      e4 := ⟨by decide, C4, ["value"], rfl, rfl, PySem.W.mg_of X G aC4, kC4, Er.err_made et4 hs, ex4, ty4⟩,
      is_Program := fun t b h => (by
          cases t with
          | non => cases h; exact ⟨_, rfl, trivial, on_non_Program⟩
          | bl => cases h; exact ⟨_, rfl, trivial, on_bl_Program⟩
          | int => cases h; exact ⟨_, rfl, trivial, on_int_Program⟩
          | str => cases h; exact ⟨_, rfl, trivial, on_str_Program⟩
          | lst => cases h; exact ⟨_, rfl, trivial, on_lst_Program⟩
          | tup => cases h; exact ⟨_, rfl, trivial, on_tup_Program⟩
          | dct => cases h; exact ⟨_, rfl, trivial, on_dct_Program⟩
          | ins c =>
            match c, h with
            | 0, h => cases h
            | 1, h => cases h
            | 2, h => cases h
            | 3, h => cases h
            | 4, h => cases h
            | 5, h => cases h
            | 6, h => cases h; exact ⟨_, rfl, ⟨C6, _, rfl, ii6⟩, os6_Program⟩
            | 7, h => cases h; exact ⟨_, rfl, ⟨C7, _, rfl, ii7⟩, os7_Program⟩
            | n + 8, h => cases h
          | _ => cases h),
      is_bool := fun t b h => (by
          cases t with
          | non => cases h; exact ⟨_, rfl, trivial, kit_ty (by decide +kernel)⟩
          | bl => cases h; exact ⟨_, rfl, trivial, kit_ty (by decide +kernel)⟩
          | int => cases h; exact ⟨_, rfl, trivial, kit_ty (by decide +kernel)⟩
          | str => cases h; exact ⟨_, rfl, trivial, kit_ty (by decide +kernel)⟩
          | lst => cases h; exact ⟨_, rfl, trivial, kit_ty (by decide +kernel)⟩
          | tup => cases h; exact ⟨_, rfl, trivial, kit_ty (by decide +kernel)⟩
          | dct => cases h; exact ⟨_, rfl, trivial, kit_ty (by decide +kernel)⟩
          | _ => cases h),
      is_int := fun t b h => (by
          cases t with
          | non => cases h; exact ⟨_, rfl, trivial, kit_ty (by decide +kernel)⟩
          | bl => cases h; exact ⟨_, rfl, trivial, kit_ty (by decide +kernel)⟩
          | int => cases h; exact ⟨_, rfl, trivial, kit_ty (by decide +kernel)⟩
          | str => cases h; exact ⟨_, rfl, trivial, kit_ty (by decide +kernel)⟩
          | lst => cases h; exact ⟨_, rfl, trivial, kit_ty (by decide +kernel)⟩
          | tup => cases h; exact ⟨_, rfl, trivial, kit_ty (by decide +kernel)⟩
          | dct => cases h; exact ⟨_, rfl, trivial, kit_ty (by decide +kernel)⟩
          | _ => cases h),
      is_list := fun t b h => (by
          cases t with
          | non => cases h; exact ⟨_, rfl, trivial, kit_ty (by decide +kernel)⟩
          | bl => cases h; exact ⟨_, rfl, trivial, kit_ty (by decide +kernel)⟩
          | int => cases h; exact ⟨_, rfl, trivial, kit_ty (by decide +kernel)⟩
          | str => cases h; exact ⟨_, rfl, trivial, kit_ty (by decide +kernel)⟩
          | lst => cases h; exact ⟨_, rfl, trivial, kit_ty (by decide +kernel)⟩
          | tup => cases h; exact ⟨_, rfl, trivial, kit_ty (by decide +kernel)⟩
          | dct => cases h; exact ⟨_, rfl, trivial, kit_ty (by decide +kernel)⟩
          | _ => cases h),
      is_str := fun t b h => (by
          cases t with
          | non => cases h; exact ⟨_, rfl, trivial, kit_ty (by decide +kernel)⟩
          | bl => cases h; exact ⟨_, rfl, trivial, kit_ty (by decide +kernel)⟩
          | int => cases h; exact ⟨_, rfl, trivial, kit_ty (by decide +kernel)⟩
          | str => cases h; exact ⟨_, rfl, trivial, kit_ty (by decide +kernel)⟩
          | lst => cases h; exact ⟨_, rfl, trivial, kit_ty (by decide +kernel)⟩
          | tup => cases h; exact ⟨_, rfl, trivial, kit_ty (by decide +kernel)⟩
          | dct => cases h; exact ⟨_, rfl, trivial, kit_ty (by decide +kernel)⟩
          | _ => cases h),
      is_tuple := fun t b h => (by
          cases t with
          | non => cases h; exact ⟨_, rfl, trivial, kit_ty (by decide +kernel)⟩
          | bl => cases h; exact ⟨_, rfl, trivial, kit_ty (by decide +kernel)⟩
          | int => cases h; exact ⟨_, rfl, trivial, kit_ty (by decide +kernel)⟩
          | str => cases h; exact ⟨_, rfl, trivial, kit_ty (by decide +kernel)⟩
          | lst => cases h; exact ⟨_, rfl, trivial, kit_ty (by decide +kernel)⟩
          | tup => cases h; exact ⟨_, rfl, trivial, kit_ty (by decide +kernel)⟩
          | dct => cases h; exact ⟨_, rfl, trivial, kit_ty (by decide +kernel)⟩
          | _ => cases h),
      sub_InvalidProgram := fun c b h => (by
          match c, h with
          | 0, h => cases h; exact ⟨C0, _, rfl, exm_of ex3 ic3 ty3 u0_InvalidProgram⟩
          | 1, h => cases h; exact ⟨C1, _, rfl, exm_of ex3 ic3 ty3 u1_InvalidProgram⟩
          | 2, h => cases h; exact ⟨C2, _, rfl, exm_of ex3 ic3 ty3 u2_InvalidProgram⟩
          | 3, h => cases h; exact ⟨C3, _, rfl, exm_of ex3 ic3 ty3 u3_InvalidProgram⟩
          | 4, h => cases h; exact ⟨C4, _, rfl, exm_of ex3 ic3 ty3 u4_InvalidProgram⟩
          | n + 5, h => cases h),
      own := ⟨fun c C ns m e => (by
          simp only [List.mem_cons, List.not_mem_nil, or_false] at m
          rcases m with rfl
          · cases e; exact ⟨ne7, mo7, mt7_non, mt7_bl, mt7_int, mt7_str, mt7_lst, mt7_tup, mt7_dct⟩), fun c m => (by
          simp only [List.mem_cons, List.not_mem_nil, or_false] at m
          rcases m with rfl
          · exact ⟨C7, _, rfl, ii7⟩), fun c C ns d D ms m e m2 e2 => (by
          simp only [List.mem_cons, List.not_mem_nil, or_false] at m
          rcases m with rfl
          · simp only [List.mem_cons, List.not_mem_nil, or_false] at m2
            rcases m2 with rfl
            · cases e; cases e2; exact .inl rfl)⟩,
      x__at := fun c k h => (by
          match c, h with
          | 0, h => cases h
          | 1, h => cases h
          | 2, h => cases h
          | 3, h => cases h
          | 4, h => cases h
          | 5, h => cases h
          | 6, h => cases h; exact ⟨C6, _, cf6, rfl⟩
          | 7, h => cases h
          | n + 8, h => cases h),
      x__common := fun c k h => (by
          match c, h with
          | 0, h => cases h
          | 1, h => cases h
          | 2, h => cases h
          | 3, h => cases h
          | 4, h => cases h
          | 5, h => cases h
          | 6, h => cases h; exact ⟨C6, _, cf6, rfl⟩
          | 7, h => cases h
          | n + 8, h => cases h),
      x__moves := fun c k h => (by
          match c, h with
          | 0, h => cases h
          | 1, h => cases h
          | 2, h => cases h
          | 3, h => cases h
          | 4, h => cases h
          | 5, h => cases h
          | 6, h => cases h
          | 7, h => cases h; exact ⟨C7, _, cf7, rfl⟩
          | n + 8, h => cases h),
      x__places := fun c k h => (by
          match c, h with
          | 0, h => cases h
          | 1, h => cases h
          | 2, h => cases h
          | 3, h => cases h
          | 4, h => cases h
          | 5, h => cases h
          | 6, h => cases h
          | 7, h => cases h; exact ⟨C7, _, cf7, rfl⟩
          | n + 8, h => cases h),
      x__tables := fun c k h => (by
          match c, h with
          | 0, h => cases h
          | 1, h => cases h
          | 2, h => cases h
          | 3, h => cases h
          | 4, h => cases h
          | 5, h => cases h
          | 6, h => cases h; exact ⟨C6, _, cf6, rfl⟩
          | 7, h => cases h
          | n + 8, h => cases h),
      x__walks := fun c k h => (by
          match c, h with
          | 0, h => cases h
          | 1, h => cases h
          | 2, h => cases h
          | 3, h => cases h
          | 4, h => cases h
          | 5, h => cases h
          | 6, h => cases h
          | 7, h => cases h; exact ⟨C7, _, cf7, rfl⟩
          | n + 8, h => cases h),
      x__ways := fun c k h => (by
          match c, h with
          | 0, h => cases h
          | 1, h => cases h
          | 2, h => cases h
          | 3, h => cases h
          | 4, h => cases h
          | 5, h => cases h
          | 6, h => cases h; exact ⟨C6, _, cf6, rfl⟩
          | 7, h => cases h
          | n + 8, h => cases h),
      x_value := fun c k h => (by
          match c, h with
          | 0, h => cases h
          | 1, h => cases h; exact ⟨C1, _, rfl, xi1, no1, by decide +kernel, rfl⟩
          | 2, h => cases h; exact ⟨C2, _, rfl, xi2, no2, by decide +kernel, rfl⟩
          | 3, h => cases h; exact ⟨C3, _, rfl, xi3, no3, by decide +kernel, rfl⟩
          | 4, h => cases h; exact ⟨C4, _, rfl, xi4, no4, by decide +kernel, rfl⟩
          | 5, h => cases h
          | 6, h => cases h
          | 7, h => cases h
          | n + 8, h => cases h) }
  have F55 := fun_mk (st := s55) l55d c55d k55d
  have D55 := at55 T F55 (PySem.W.mg_of X G a55d) 
  have F58 := fun_mk (st := s58) l58d c58d k58d
  have D58 := at58 T F58 (PySem.W.mg_of X G a58d) D55
  have F54 := fun_mk (st := s54) l54d c54d k54d
  have D54 := at54 T F54 (PySem.W.mg_of X G a54d) 
  have F57 := fun_mk (st := s57) l57d c57d k57d
  have D57 := at57 T F57 (PySem.W.mg_of X G a57d) D54
  have F56 := fun_mk (st := s56) l56d c56d k56d
  have D56 := at56 T F56 (PySem.W.mg_of X G a56d) D57
  have F59 := fun_mk (st := s59) l59d c59d k59d
  have D59 := at59 T F59 (PySem.W.mg_of X G a59d) D57 D56
  have F61 := fun_mk (st := s61) l61d c61d k61d
  have D61 := at61 T F61 (PySem.W.mg_of X G a61d) 
  have F12 := fun_mk (st := s12) l12d c12d k12d
  have D12 := at12 T F12 (PySem.W.mg_of X G a12d) 
  have F35 := fun_mk (st := s35) l35d c35d k35d
  have D35 := at35 T F35 (PySem.W.mg_of X G a35d) D12
  have F34 := fun_mk (st := s34) l34d c34d k34d
  have D34 := at34 T F34 (PySem.W.mg_of X G a34d) 
  have F10 := fun_mk (st := s10) l10d c10d k10d
  have D10 := at10 T F10 (PySem.W.mg_of X G a10d) 
  have F11 := fun_mk (st := s11) l11d c11d k11d
  have D11 := at11 T F11 (PySem.W.mg_of X G a11d) D10
  have F33 := fun_mk (st := s33) l33d c33d k33d
  have D33 := at33 T F33 (PySem.W.mg_of X G a33d) D34 D11
  have F36 := fun_mk (st := s36) l36d c36d k36d
  have D36 := at36 T F36 (PySem.W.mg_of X G a36d) D33
  have F16 := fun_mk (st := s16) l16d c16d k16d
  have D16 := at16 T F16 (PySem.W.mg_of X G a16d) 
  have F15 := fun_mk (st := s15) l15d c15d k15d
  have D15 := at15 T F15 (PySem.W.mg_of X G a15d) D16
  have F14 := fun_mk (st := s14) l14d c14d k14d
  have D14 := at14 T F14 (PySem.W.mg_of X G a14d) D15
  have F_Walks___init__ := fun_mk (st := s_Walks___init__) l_Walks___init__d c_Walks___init__d k_Walks___init__d
  have D_Walks := at_Walks___init__ T F_Walks___init__ cf6 (PySem.W.mg_of X G aC6) ⟨mk6, a_Walks___init__d, i_Walks___init__d, kc6⟩ D14
  have F_Program___init__ := fun_mk (st := s_Program___init__) l_Program___init__d c_Program___init__d k_Program___init__d
  have D_Program := at_Program___init__ T F_Program___init__ cf7 (PySem.W.mg_of X G aC7) ⟨mk7, a_Program___init__d, i_Program___init__d, kc7⟩ D35 D36 D_Walks
  have F60 := fun_mk (st := s60) l60d c60d k60d
  have D60 := at60 T F60 (PySem.W.mg_of X G a60d) D_Program
  have F38 := fun_mk (st := s38) l38d c38d k38d
  have D38 := at38 T F38 (PySem.W.mg_of X G a38d) 
  have F_Program_places := fun_mk (st := s_Program_places) l_Program_placesd c_Program_placesd k_Program_placesd
  have D_Program_places := at_Program_places T F_Program_places cf7 ⟨a_Program_placesd, i_Program_placesd, k_Program_placesd⟩ 
  have F_Program_moves := fun_mk (st := s_Program_moves) l_Program_movesd c_Program_movesd k_Program_movesd
  have D_Program_moves := at_Program_moves T F_Program_moves cf7 ⟨a_Program_movesd, i_Program_movesd, k_Program_movesd⟩ 
  have F45 := fun_mk (st := s45) l45d c45d k45d
  have D45 := at45 T F45 (PySem.W.mg_of X G a45d) D38 D_Program_places D_Program_moves
  have F_Program___eq__ := fun_mk (st := s_Program___eq__) l_Program___eq__d c_Program___eq__d k_Program___eq__d
  have D_Program___eq__ := at_Program___eq__ T F_Program___eq__ cf7 ⟨a_Program___eq__d, i_Program___eq__d, k_Program___eq__d⟩ 
  have F62 := fun_mk (st := s62) l62d c62d k62d
  have D62 := at62 T F62 (PySem.W.mg_of X G a62d) D57
  have F47 := fun_mk (st := s47) l47d c47d k47d
  have D47 := at47 T F47 (PySem.W.mg_of X G a47d) 
  have F50 := fun_mk (st := s50) l50d c50d k50d
  have D50 := at50 T F50 (PySem.W.mg_of X G a50d) 
  have F51 := fun_mk (st := s51) l51d c51d k51d
  have D51 := at51 T F51 (PySem.W.mg_of X G a51d) 
  have F49 := fun_mk (st := s49) l49d c49d k49d
  have D49 := at49 T F49 (PySem.W.mg_of X G a49d) D50 D51
  have F48 := fun_mk (st := s48) l48d c48d k48d
  have D48 := at48 T F48 (PySem.W.mg_of X G a48d) D49
  have F52 := fun_mk (st := s52) l52d c52d k52d
  have D52 := at52 T F52 (PySem.W.mg_of X G a52d) D_Program
  have F46 := fun_mk (st := s46) l46d c46d k46d
  have D46 := at46 T F46 (PySem.W.mg_of X G a46d) D47 D48 D52
  have F63 := fun_mk (st := s63) l63d c63d k63d
  exact ok63 T F63 D58 D59 D61 D60 D45 D_Program___eq__ D62 D46 D_Program_moves D_Program_places D_Program
end Gn
namespace Fw
open PySem PySem.Spec L2
/-! what an object's data is stays; texts and their lengths -/
theorem dataAll_of {f : SV → Option PyData} : ∀ {xs : List SV} {ds : List PyData}, xs.length = ds.length → (∀ (k : Nat) (x : SV), xs[k]? = some x → ∃ d, ds[k]? = some d ∧ f x = some d) → dataAll f xs = some ds
  | [], [], _, _ => rfl
  | x :: xs, d :: ds, hl, h => by
    obtain ⟨d', e1, e2⟩ := h 0 x rfl
    cases e1
    unfold dataAll
    rw [e2]
    simp only
    rw [dataAll_of (by simpa using hl) fun k y e => h (k + 1) y (by simpa using e)]
  | [], _ :: _, hl, _ => by simp at hl
  | _ :: _, [], hl, _ => by simp at hl
theorem dataAll_mono {f f' : SV → Option PyData} (k : ∀ x d, f x = some d → f' x = some d) : ∀ {xs : List SV} {ds : List PyData}, dataAll f xs = some ds → dataAll f' xs = some ds
  | [], _, e => e
  | x :: xs, ds, e => by
    unfold dataAll at e ⊢
    cases e1 : f x with
    | none => rw [e1] at e; cases e
    | some d =>
      rw [e1] at e
      simp only at e
      rw [k x d e1]
      simp only
      cases e2 : dataAll f xs with
      | none => rw [e2] at e; cases e
      | some ds' =>
        rw [e2] at e
        rw [dataAll_mono k e2]
        exact e
theorem dataOf_le {h h' : SH} (l : Le h h') : ∀ (n : Nat) (v : SV) (d : PyData), dataOf n h v = some d → dataOf n h' v = some d
  | 0, _, _, e => by cases e
  | n + 1, v, d, e => by
    cases v with
    | ref i =>
      unfold dataOf at e ⊢
      dsimp only at e ⊢
      cases e1 : h[i]? with
      | none => simp only [e1] at e; cases e
      | some o =>
        rw [l i o e1]
        simp only [e1] at e
        cases o with
        | lst xs =>
          simp only at e ⊢
          cases e2 : dataAll (dataOf n h) xs with
          | none => rw [e2] at e; cases e
          | some ds => rw [e2] at e; rw [dataAll_mono (dataOf_le l n) e2]; exact e
        | tup xs =>
          simp only at e ⊢
          cases e2 : dataAll (dataOf n h) xs with
          | none => rw [e2] at e; cases e
          | some ds => rw [e2] at e; rw [dataAll_mono (dataOf_le l n) e2]; exact e
        | dK kvs =>
          simp only at e ⊢
          cases e2 : dataAll (dataOf n h) (kvs.map (·.2)) with
          | none => rw [e2] at e; cases e
          | some ds => rw [e2] at e; rw [dataAll_mono (dataOf_le l n) e2]; exact e
        | dT kvs => simp only at e; cases e
        | ins c vs => simp only at e; cases e
        | exo c vs => simp only at e; cases e
        | lk vs => simp only at e; cases e
    | _ => exact e
theorem dataOf_lst {h : SH} {n i : Nat} {xs : List SV} {ds : List PyData} (e : h[i]? = some (.lst xs)) (a : dataAll (dataOf n h) xs = some ds) : dataOf (n + 1) h (.ref i) = some (.list ds) := by
  unfold dataOf; simp only [e, a, Option.map_some]
theorem data_tup {h : SH} {n i : Nat} {xs : List SV} {ds : List PyData} (e : h[i]? = some (.tup xs)) (a : dataAll (dataOf n h) xs = some ds) : dataOf (n + 1) h (.ref i) = some (.tuple ds) := by
  unfold dataOf; simp only [e, a, Option.map_some]
theorem data_dct {h : SH} {n i : Nat} {kvs : List (Key × SV)} {ds : List PyData} (e : h[i]? = some (.dK kvs)) (a : dataAll (dataOf n h) (kvs.map (·.2)) = some ds) : dataOf (n + 1) h (.ref i) = some (.dict ((kvs.map fun p => keyD p.1).zip ds)) := by
  unfold dataOf; simp only [e, a, Option.map_some]
theorem data_two {h : SH} {n : Nat} {x y : SV} {dx dy : PyData} (ex : dataOf n h x = some dx) (ey : dataOf n h y = some dy) : dataAll (dataOf n h) [x, y] = some [dx, dy] := by
  simp only [dataAll, ex, ey]
theorem data_one {h : SH} {n : Nat} {x : SV} {dx : PyData} (ex : dataOf n h x = some dx) : dataAll (dataOf n h) [x] = some [dx] := by
  simp only [dataAll, ex]
/-- a text of at most n signs, each of which is one -/
def Sg (n : Nat) (x : Str) : Prop := x.cps.size ≤ n ∧ ∀ c ∈ x.cps, c < 0x110000
theorem Sg.app {a b : Nat} {x y : Str} (p : Sg a x) (q : Sg b y) : Sg (a + b) (x ++ y) := by
  refine ⟨?_, fun c hc => ?_⟩
  · show (x.cps ++ y.cps).size ≤ a + b
    rw [Array.size_append]
    have := p.1
    have := q.1
    omega
  · have hc' : c ∈ x.cps ++ y.cps := hc
    rcases Array.mem_append.mp hc' with h | h
    · exact p.2 c h
    · exact q.2 c h
theorem Sg.up {a b : Nat} {x : Str} (p : Sg a x) (h : a ≤ b) : Sg b x := ⟨Nat.le_trans p.1 h, p.2⟩
theorem Sg.lit {s : String} {n : Nat} (h : s.toList.length ≤ n) : Sg n (Str.ofString s) := by
  rw [Str.ofString_eq_toList]
  refine ⟨by simpa using h, fun c hc => ?_⟩
  obtain ⟨d, _, rfl⟩ : ∃ d, d ∈ s.toList ∧ Char.toNat d = c := by simpa using hc
  have := d.valid
  have h2 : d.toNat.isValidChar := this
  unfold Nat.isValidChar at h2
  omega
theorem Sg.num {i : Int} (h : i.natAbs < 10 ^ 13) : Sg 20 (Str.ofString (toString i)) := by
  refine Sg.lit ?_
  have k := PyProof.Rows.digits10_le (k := 13) (n := i.natAbs) (by omega) h
  cases i with
  | ofNat m =>
    show (Nat.repr m).toList.length ≤ 20
    have e : (Nat.repr m).toList = Nat.toDigits 10 m := by simp [Nat.repr]
    rw [e]
    have : (Nat.toDigits 10 m).length ≤ 13 := k
    omega
  | negSucc m =>
    show (("-" : String) ++ Nat.repr (m + 1)).toList.length ≤ 20
    have e : (("-" : String) ++ Nat.repr (m + 1)).toList = '-' :: Nat.toDigits 10 (m + 1) := by simp [Nat.repr]
    rw [e]
    have : (Nat.toDigits 10 (m + 1)).length ≤ 13 := k
    simp; omega
theorem Sg.from {b : Nat} : ∀ (ts : List Str) (k a : Nat) (acc : Str), Sg a acc → (∀ t ∈ ts, Sg b t) → Sg (a + ts.length * (b + 2)) (textFrom k acc ts)
  | [], k, a, acc, p, _ => by unfold textFrom; exact p.up (by omega)
  | t :: ts, k, a, acc, p, q => by
    unfold textFrom
    have s2 : Sg 2 (if k > 0 then ", " else "" : String) := by
      by_cases hk : k > 0
      · rw [if_pos hk]; exact Sg.lit (by decide)
      · rw [if_neg hk]; exact Sg.lit (by decide)
    refine (Sg.from ts (k + 1) _ _ ((p.app s2).app (q t List.mem_cons_self)) fun u hu => q u (List.mem_cons_of_mem _ hu)).up ?_
    simp only [List.length_cons, Nat.add_mul]
    omega
theorem Sg.list {b : Nat} {ts : List Str} (q : ∀ t ∈ ts, Sg b t) : Sg (2 + ts.length * (b + 2)) (listText ts) := by
  unfold listText
  exact ((Sg.from ts 0 1 _ (Sg.lit (by decide)) q).app (Sg.lit (n := 1) (by decide))).up (by omega)
theorem Sg.join {b : Nat} : ∀ {ts : List Str}, (∀ t ∈ ts, Sg b t) → Sg (ts.length * (b + 2)) (Str.join ", " ts)
  | [], _ => ⟨by show 0 ≤ _; omega, fun c hc => by exact absurd hc (by simp [Str.join, Str.empty])⟩
  | [x], q => (q x List.mem_cons_self).up (by simp)
  | x :: y :: r, q => by
    have ih := Sg.join (ts := y :: r) fun t ht => q t (List.mem_cons_of_mem _ ht)
    have e : Str.join ", " (x :: y :: r) = x ++ ", " ++ Str.join ", " (y :: r) := rfl
    rw [e]
    refine (((q x List.mem_cons_self).app (Sg.lit (n := 2) (by decide))).app ih).up ?_
    simp only [List.length_cons, Nat.add_mul]
    omega
theorem Sg.tup {b : Nat} {ts : List Str} (q : ∀ t ∈ ts, Sg b t) : Sg (3 + ts.length * (b + 2)) (tupleText ts) := by
  unfold tupleText
  have e : Sg 2 (if ts.length == 1 then ",)" else ")" : String) := by
    by_cases h : (ts.length == 1) = true
    · rw [if_pos h]; exact Sg.lit (by decide)
    · rw [if_neg h]; exact Sg.lit (by decide)
  exact (((Sg.lit (n := 1) (by decide)).app (Sg.join q)).app e).up (by omega)
/-- data that is shown by a text that is no longer than a text may be -/
structure Tx1 (d : PyData) : Prop where
  sh : d.showable = true
  dp : d.depth ≤ 60
  len : d.shown.length ≤ 16777216
  ok : PyData.strOk d.shown = true
theorem Tx1.of {n : Nat} {d : PyData} (h1 : d.showable = true) (h2 : d.depth ≤ 60) (h3 : Sg n d.shown) (hn : n ≤ 16777216) : Tx1 d :=
  ⟨h1, h2, Nat.le_trans h3.1 hn, by
    unfold PyData.strOk
    rw [Array.all_eq_true_iff_forall_mem]
    exact fun c hc => decide_eq_true (h3.2 c hc)⟩
theorem repr_d {h : SH} {a : SV} {d : PyData} {P : SV → SH → Prop} (e : dataOf 64 h a = some d) (t : Tx1 d) (p : P (.str d.shown) h) : ∃ v h3, un1 opRepr [a] h = some (v, h3) ∧ P v h3 := by
  refine ⟨_, _, ?_, p⟩
  show opRepr a h = _
  unfold opRepr
  rw [e]
  exact if_pos ⟨t.sh, by have := t.dp; omega, t.len⟩
theorem eqD_same {neg : Bool} {a b : SV} {h : SH} {d : PyData} {P : SV → SH → Prop} (ea : dataOf 64 h a = some d) (eb : dataOf 64 h b = some d) (sh : SeqAt.shaped d = true) (p : P (.bl (!neg)) h) : ∃ v h3, eqD neg a b h = some (v, h3) ∧ P v h3 := by
  refine ⟨_, _, ?_, p⟩
  unfold eqD
  rw [ea, eb]
  simp only [sh, Bool.and_self, if_true, SeqAt.eqv_refl d (SeqAt.canLay_of_shaped sh)]
  cases neg <;> rfl
theorem sh_pair {k : Int} {x : Str} (h : PyData.strOk x = true) : SeqAt.shaped (.list [.int k, .str x]) = true := by
  unfold SeqAt.shaped
  simp only [PyData.canLay0, PyData.canLayAll0, PyData.depth, PyData.depthAll, h]
  rfl
theorem is_ok {α : Type} {a : α} {h : SH} {P : α → SH → Prop} (p : P a h) : Is (.ok a h) P := p
end Fw
namespace Fw
open PySem PySem.Spec L2
/-! more runs of meanings: fields, dicts, methods, errors, displays, drawing; from the law of the stretches -/
section
variable {N B C : SS → SH → Prop} {R : SV → SH → Prop} {ss : SS} {h : SH} {P : SV → SH → Prop}
theorem Is.d3 {op : O3} {mo mk md : EM} (x : Is (mo ss h) fun o h1 => isDct h1 o = true ∧ Is (mk ss h1) fun k h2 => Is (md ss h2) fun z h3 => ∃ v h4, op o k z h3 = some (v, h4) ∧ P v h4) : Is (mD3 op mo mk md ss h) P := Is.bind (x.mono fun o h1 ⟨i, y⟩ => by
  rw [if_pos i]
  exact Is.bind (y.mono fun k h2 z => Is.bind (z.mono fun w h3 q => Is.lift q)))
theorem fld_is {ix : List (Option Nat)} {i c k : Nat} {vs : List SV} {v : SV} (e : h[i]? = some (.ins c vs)) (ek : ix[c]? = some (some k)) (ev : vs[k]? = some v) (p : P v h) : ∃ v h2, opFld ix (.ref i) h = some (v, h2) ∧ P v h2 :=
  ⟨v, h, by unfold opFld; simp only [e, ek, ev], p⟩
theorem Ist.fst {ix : List (Option Nat)} {me mo : EM} (x : Is (me ss h) fun v h1 => Is (mo ss h1) fun o h2 => ∃ h3, opFst ix o v h2 = some h3 ∧ N ss h3) : Ist (mFst ix me mo ss h) N R B C := Ist.then (x.mono fun v h1 y => Ist.then (y.mono fun o h2 ⟨h3, e, n⟩ => by rw [e]; exact n))
theorem fst_is {ix : List (Option Nat)} {i c k : Nat} {vs : List SV} {v : SV} {Q : SH → Prop} (e : h[i]? = some (.ins c vs)) (ek : ix[c]? = some (some k)) (ev : k = vs.length) (p : Q (h.set i (.ins c (vs ++ [v])))) : ∃ h3, opFst ix (.ref i) v h = some h3 ∧ Q h3 :=
  ⟨_, by unfold opFst; simp only [e, ek]; rw [if_neg (by omega), if_pos ev], p⟩
theorem Is.bmL {f : SV → OA} {mo : EM} {ma : AM} (x : Is (mo ss h) fun o h1 => isLst h1 o = true ∧ Is (ma ss h1) fun vs h2 => ∃ v h3, f o vs h2 = some (v, h3) ∧ P v h3) : Is (mBm f mo ma ss h) P := Is.bind (x.mono fun o h1 ⟨i, y⟩ => by
  rw [if_pos i]
  exact Is.bind (y.mono fun k h2 z => Is.lift z))
theorem app_is {i : Nat} {xs : List SV} {y : SV} (e : h[i]? = some (.lst xs)) (k : xs.length < big) (p : P .non (h.set i (.lst (xs ++ [y])))) : ∃ v h3, opAppend (.ref i) [y] h = some (v, h3) ∧ P v h3 :=
  ⟨.non, h.set i (.lst (xs ++ [y])), by unfold opAppend; simp only [e, if_pos k], p⟩
theorem Is.ifx {ta : BM} {ma mb : EM} (x : Is (ta ss h) fun b h1 => if b = true then Is (ma ss h1) P else Is (mb ss h1) P) : Is (mIf ta ma mb ss h) P := Is.bind (x.mono fun b h1 y => by
  cases b with
  | true => exact y
  | false => exact y)
theorem Is.dict0 (p : P (.ref h.length) (h ++ [.dK []])) : Is (mDict0 ss h) P := p
theorem Is.make {c : Nat} {f : FM} {ma : AM} (x : Is (ma ss h) fun vs h1 => Is (f (.ref h1.length :: vs) (h1 ++ [.ins c []])) fun v h2 => v = .non ∧ P (.ref h1.length) h2) : Is (mMake c f ma ss h) P := Is.bind (x.mono fun vs h1 y => Is.bind (y.mono fun v h2 ⟨e, p⟩ => by subst e; exact p))
theorem Is.meth {c : Nat} {f : FM} {mo : EM} {ma : AM} (x : Is (mo ss h) fun o h1 => insOf h1 o = some c ∧ Is (ma ss h1) fun vs h2 => Is (f (o :: vs) h2) P) : Is (mMeth c f mo ma ss h) P := Is.bind (x.mono fun o h1 ⟨i, y⟩ => by
  rw [if_pos i]
  exact Is.bind y)
theorem lstB {i : Nat} {xs : List SV} (e : h[i]? = some (.lst xs)) : isLst h (.ref i) = true := by unfold isLst; simp only [e]
theorem dctB {i : Nat} {xs : List (Key × SV)} (e : h[i]? = some (.dK xs)) : isDct h (.ref i) = true := by unfold isDct; simp only [e]
theorem tup_is {xs : List SV} (k : xs.length ≤ big) (p : P (.ref h.length) (h ++ [.tup xs])) : ∃ v h3, opTup xs h = some (v, h3) ∧ P v h3 := ⟨_, _, by unfold opTup; rw [if_pos k]; rfl, p⟩
theorem ok_is {α : Type} {a : α} {Q : α → SH → Prop} (p : Q a h) : Is (.ok a h) Q := p
end
theorem is_eq {α : Type} {r : Res α} {a : α} {h : SH} {P : α → SH → Prop} (e : r = .ok a h) (p : P a h) : Is r P := by rw [e]; exact p
theorem sh_int (i : Int) : SeqAt.shaped (.int i) = true := by
  unfold SeqAt.shaped
  rw [PyData.canLay0, PyData.depth]
  rfl
theorem ev_int (i j : Int) : PyData.eqv (.int i) (.int j) = decide (i = j) := by
  rw [PyData.eqv]
  rfl
def Kp (p : Nat) (h h' : SH) : Prop := ∀ (j : Nat) (o : SO), j ≠ p → h[j]? = some o → h'[j]? = some o
theorem lt_of {h : SH} {j : Nat} {o : SO} (e : h[j]? = some o) : j < h.length := (List.getElem?_eq_some_iff.mp e).1
theorem getS_nil {k : Key} : getS ([] : List (Key × SV)) k = none := rfl
theorem getS_cons {p : Key × SV} {kvs : List (Key × SV)} {k : Key} : getS (p :: kvs) k = if p.1 = k then some p.2 else getS kvs k := by
  unfold getS
  rw [List.find?_cons]
  by_cases e : p.1 = k
  · simp [e]
  · simp [e]
theorem getS_mem {k : Key} {v : SV} : ∀ {kvs : List (Key × SV)}, getS kvs k = some v → (k, v) ∈ kvs
  | [], e => by cases e
  | p :: kvs, e => by
    rw [getS_cons] at e
    by_cases q : p.1 = k
    · rw [if_pos q] at e
      cases e
      rw [← q]
      exact List.mem_cons_self
    · rw [if_neg q] at e
      exact List.mem_cons_of_mem _ (getS_mem e)
theorem getS_app {k k' : Key} {v : SV} : ∀ {kvs : List (Key × SV)}, getS (kvs ++ [(k, v)]) k' = match getS kvs k' with | some x => some x | none => if k = k' then some v else none
  | [] => by rw [List.nil_append, getS_cons]; rfl
  | p :: kvs => by
    rw [List.cons_append, getS_cons, getS_cons]
    by_cases q : p.1 = k'
    · rw [if_pos q, if_pos q]
    · rw [if_neg q, if_neg q]; exact getS_app
theorem any_none {k : Key} : ∀ {kvs : List (Key × SV)}, getS kvs k = none → (kvs.any fun kv => decide (kv.1 = k)) = false
  | [], _ => rfl
  | p :: kvs, e => by
    rw [getS_cons] at e
    by_cases q : p.1 = k
    · rw [if_pos q] at e; cases e
    · rw [if_neg q] at e
      rw [List.any_cons, any_none e, decide_eq_false q]; rfl
theorem put_new {k : Key} {v : SV} {kvs : List (Key × SV)} (e : getS kvs k = none) : putS kvs k v = kvs ++ [(k, v)] := by
  unfold putS
  rw [any_none e]
  rfl
theorem getS_map {k k' : Key} {v : SV} : ∀ {kvs : List (Key × SV)}, (getS (kvs.map fun kv => if kv.1 = k then (kv.1, v) else kv) k').isSome = (getS kvs k').isSome
  | [] => rfl
  | p :: kvs => by
    rw [List.map_cons, getS_cons, getS_cons]
    have e : (if p.1 = k then (p.1, v) else p).1 = p.1 := by split <;> rfl
    rw [e]
    by_cases q : p.1 = k'
    · rw [if_pos q, if_pos q]; rfl
    · rw [if_neg q, if_neg q]; exact getS_map
theorem any_some {k : Key} : ∀ {kvs : List (Key × SV)}, (kvs.any fun kv => decide (kv.1 = k)) = true → (getS kvs k).isSome = true
  | p :: kvs, e => by
    rw [getS_cons]
    by_cases q : p.1 = k
    · rw [if_pos q]; rfl
    · rw [if_neg q]
      rw [List.any_cons, decide_eq_false q, Bool.false_or] at e
      exact any_some e
theorem put_has {k k' : Key} {v : SV} {kvs : List (Key × SV)} : (getS (putS kvs k v) k').isSome = true ↔ k = k' ∨ (getS kvs k').isSome = true := by
  unfold putS
  split
  · rename_i h
    rw [getS_map]
    constructor
    · exact .inr
    · rintro (z | z)
      · rw [← z]; exact any_some h
      · exact z
  · rename_i h
    rw [getS_app]
    cases e : getS kvs k' with
    | some x => simp
    | none =>
      by_cases q : k = k'
      · simp [q]
      · simp [q]
theorem put_len {k : Key} {v : SV} {kvs : List (Key × SV)} : (putS kvs k v).length ≤ kvs.length + 1 := by
  unfold putS
  split
  · simp
  · simp
section
variable {h h0 : SH}
theorem kp_set {p : Nat} {u : SO} : Kp p h (h.set p u) := fun j o n e => by rw [set_ne (Ne.symm n)]; exact e
theorem le_set {p : Nat} {u : SO} (le : Le h0 h) (hp : h0.length ≤ p) : Le h0 (h.set p u) := fun j o e => by
  have := lt_of e
  rw [set_ne (by omega)]
  exact le j o e
end
theorem small_big {n : Nat} (h : n ≤ 1000) : n ≤ big := by unfold big; omega
theorem small_lt {n : Nat} (h : n ≤ 1000) : n < big := by unfold big; omega
theorem g3_is {i j k t : Nat} {a b c : SV} {s : SS} {h : SH} (e : h[t]? = some (.tup [a, b, c])) : gTupM 3 (gsCons (gVar i) (gsCons (gVar j) (gsCons (gVar k) gsNil))) (.ref t) s h = some (((s.set i (some a)).set j (some b)).set k (some c)) := by
  unfold gTupM
  simp only [e]
  rfl
theorem g2_is {i j t : Nat} {a b : SV} {s : SS} {h : SH} (e : h[t]? = some (.tup [a, b])) : gTupM 2 (gsCons (gVar i) (gsCons (gVar j) gsNil)) (.ref t) s h = some ((s.set i (some a)).set j (some b)) := by
  unfold gTupM
  simp only [e]
  rfl
section
variable {N B C : SS → SH → Prop} {R : SV → SH → Prop} {ss : SS} {h : SH}
theorem Ist.items {m : EM} {g : GM} {mb : SM} {i : Nat} {h1 : SH} {kvs : List (Key × SV)} (e : m ss h = .ok (.ref i) h1) (ek : h[i]? = some (.dK kvs))
    (x : Ist (mFor (mIt m) g mb ss (h.set i (.lk kvs))) (fun s h2 => ∃ kv, h2[i]? = some (.lk kv) ∧ N s (h2.set i (.dK kv))) (fun v h2 => ∃ kv, h2[i]? = some (.lk kv) ∧ R v (h2.set i (.dK kv))) (fun s h2 => ∃ kv, h2[i]? = some (.lk kv) ∧ B s (h2.set i (.dK kv))) (fun s h2 => ∃ kv, h2[i]? = some (.lk kv) ∧ C s (h2.set i (.dK kv)))) : Ist (mItems m g mb ss h) N R B C := by
  unfold mItems
  rw [e]
  simp only [ek]
  cases er : mFor (mIt m) g mb ss (h.set i (.lk kvs)) with
  | nx s h2 => rw [er] at x; obtain ⟨kv, z, n⟩ := x; unfold unS; simp only [z]; exact n
  | rt s h2 => rw [er] at x; obtain ⟨kv, z, n⟩ := x; unfold unS; simp only [z]; exact n
  | bk s h2 => rw [er] at x; obtain ⟨kv, z, n⟩ := x; unfold unS; simp only [z]; exact n
  | ct s h2 => rw [er] at x; obtain ⟨kv, z, n⟩ := x; unfold unS; simp only [z]; exact n
  | stuck => rw [er] at x; exact x.elim
  | ex c xs s h2 => rw [er] at x; exact x.elim
theorem Is.it {P : Wk → SH → Prop} {m : EM} (x : Is (m ss h) fun v h1 => ∃ r kvs, v = .ref r ∧ h1[r]? = some (.lk kvs) ∧ P (wkIt r) h1) : Is (mIt m ss h) P := Is.bind (x.mono fun v h1 y => by
  obtain ⟨r, kvs, rfl, e, p⟩ := y
  show Is (match h1[r]? with | some (.lk _) => Res.ok (wkIt r) h1 | _ => .stuck) P
  rw [e]; exact p)
theorem wkIt_at {r k : Nat} {kvs : List (Key × SV)} {kk : Key} {x : SV} (e : h[r]? = some (.lk kvs)) (ex : kvs[k]? = some (kk, x)) : wkIt r h k = some (some (.ref h.length, h ++ [.tup [keyS kk, x]])) := by
  unfold wkIt; simp only [e, ex]
theorem wkIt_end {r : Nat} {kvs : List (Key × SV)} (e : h[r]? = some (.lk kvs)) : wkIt r h kvs.length = some none := by
  unfold wkIt; simp [e]
end
/-- a suite that goes on, or ends in an error -/
def Ise (r : SR) (N : SS → SH → Prop) (E : Nat → List SV → SH → Prop) : Prop := match r with
  | .nx s h => N s h
  | .ex c xs _ h => E c xs h
  | _ => False
section
variable {N : SS → SH → Prop} {E : Nat → List SV → SH → Prop} {ss : SS} {h : SH}
theorem Ise.seq {m1 m2 : SM} (x : Ise (m1 ss h) (fun s h => Ise (m2 s h) N E) E) : Ise (mSeq m1 m2 ss h) N E := by
  unfold mSeq
  cases e : m1 ss h with
  | nx s h => rw [e] at x; exact x
  | ex c xs s h => rw [e] at x; exact x
  | rt v h => rw [e] at x; exact x.elim
  | bk s h => rw [e] at x; exact x.elim
  | ct s h => rw [e] at x; exact x.elim
  | stuck => rw [e] at x; exact x.elim
theorem Ise.ite {t : BM} {m1 m2 : SM} (x : Is (t ss h) fun b h1 => if b = true then Ise (m1 ss h1) N E else Ise (m2 ss h1) N E) : Ise (mIfS t m1 m2 ss h) N E := by
  unfold mIfS
  obtain ⟨b, h1, e, y⟩ := x.out
  rw [e]
  cases b with
  | true => exact y
  | false => exact y
theorem Ise.nil (x : N ss h) : Ise (mNil ss h) N E := x
theorem Ise.raise {c i : Nat} {v : SV} (e : ss[i]? = some (some v)) (x : E c [v] h) : Ise (mRaise c 1 (aCons (mVar i) aNil) ss h) N E := by
  unfold mRaise aCons mVar
  rw [e]
  exact x
theorem Ise.forM {g : GM} {wk : Wk} {body : SM} {I : Nat → SS → SH → Prop} {len : Nat}
    (hn : ∀ k s h, k < len → I k s h → ∃ x h1 s1, wk h k = some (some (x, h1)) ∧ g x s h1 = some s1 ∧ Ise (body s1 h1) (I (k + 1)) E) (he : ∀ s h, I len s h → wk h len = some none ∧ N s h) :
    ∀ (n i : Nat) (s : SS) (h : SH), i ≤ len → len - i < n → I i s h → Ise (Fw.forM g wk body n i s h) N E
  | 0, _, _, _, _, hl, _ => absurd hl (by omega)
  | n + 1, i, s, h, hi, hl, inv => by
    unfold Fw.forM
    by_cases e : i = len
    · subst e
      obtain ⟨e1, e2⟩ := he s h inv
      rw [e1]; exact e2
    · obtain ⟨x, h1, s1, e1, e2, e3⟩ := hn i s h (by omega) inv
      rw [e1]
      simp only [e2]
      cases e4 : body s1 h1 with
      | nx s2 h2 => rw [e4] at e3; exact Ise.forM hn he n (i + 1) s2 h2 (by omega) (by omega) e3
      | ex c xs s2 h2 => rw [e4] at e3; exact e3
      | ct s2 h2 => rw [e4] at e3; exact e3.elim
      | bk s2 h2 => rw [e4] at e3; exact e3.elim
      | rt v h2 => rw [e4] at e3; exact e3.elim
      | stuck => rw [e4] at e3; exact e3.elim
theorem Ise.for {m : IM} {g : GM} {body : SM} (x : Is (m ss h) fun wk h1 => ∃ (len : Nat) (I : Nat → SS → SH → Prop), len < many ∧ I 0 ss h1 ∧
      (∀ k s h, k < len → I k s h → ∃ x h1 s1, wk h k = some (some (x, h1)) ∧ g x s h1 = some s1 ∧ Ise (body s1 h1) (I (k + 1)) E) ∧ (∀ s h, I len s h → wk h len = some none ∧ N s h)) : Ise (mFor m g body ss h) N E := by
  unfold mFor
  obtain ⟨wk, h1, e, len, I, hl, i0, hn, he⟩ := x.out
  rw [e]
  exact Ise.forM hn he many 0 ss h1 (Nat.zero_le _) (by omega) i0
theorem Ise.fn {np n : Nat} {m : SM} {vs : List SV} {c : Nat} {xs : List SV} {h' : SH} (hl : vs.length = np) (x : Ise (m (vs.map some ++ List.replicate (n - vs.length) none) h) (fun _ _ => False) fun c' xs' h2 => c' = c ∧ xs' = xs ∧ h2 = h') : mFn np n m vs h = .ex c xs h' := by
  unfold mFn
  rw [if_pos hl]
  cases e : m (vs.map some ++ List.replicate (n - vs.length) none) h with
  | nx s h => rw [e] at x; exact x.elim
  | ex c xs s h => rw [e] at x; obtain ⟨rfl, rfl, rfl⟩ := x; rfl
  | rt v h => rw [e] at x; exact x.elim
  | bk s h => rw [e] at x; exact x.elim
  | ct s h => rw [e] at x; exact x.elim
  | stuck => rw [e] at x; exact x.elim
end
theorem isi_t {f : Tag → Option Bool} {a : SV} {h : SH} {t : Tag} {b : Bool} {P : SV → SH → Prop} (e : tagOf h a = some t) (ef : f t = some b) (p : P (.bl b) h) : ∃ v h', opIsi f a h = some (v, h') ∧ P v h' :=
  ⟨_, _, by unfold opIsi; simp only [e, ef], p⟩
theorem tag_lst {h : SH} {L : Nat} {xs : List SV} (e : h[L]? = some (.lst xs)) : tagOf h (.ref L) = some .lst := by unfold tagOf; simp only [e]
theorem tru_is {b : Bool} {h : SH} {P : Bool → SH → Prop} (p : P b h) : Is (opTru (.bl b) h) P := p
theorem Ist.tryC {N B C : SS → SH → Prop} {R : SV → SH → Prop} {ss ss1 : SS} {h h1 : SH} {i c : Nat} {xs : List SV} {sub : Nat → Option Bool} {mb ms : SM} (e : mb ss h = .ex c xs ss1 h1) (es : sub c = some true)
    (x : Ist (ms (ss1.set i (some (.ref h1.length))) (h1 ++ [.exo c xs])) (fun s h => N (s.set i none) h) R (fun s h => B (s.set i none) h) (fun s h => C (s.set i none) h)) : Ist (mTry i sub mb ms ss h) N R B C := by
  unfold mTry
  rw [e]
  simp only [es]
  cases er : ms (ss1.set i (some (.ref h1.length))) (h1 ++ [.exo c xs]) with
  | nx s h => rw [er] at x; exact x
  | rt v h => rw [er] at x; exact x
  | bk s h => rw [er] at x; exact x
  | ct s h => rw [er] at x; exact x
  | stuck => rw [er] at x; exact x.elim
  | ex c xs s h => rw [er] at x; exact x.elim
/-- displays whose items all have a property that stays -/
def Sta (Q : SH → SV → Prop) : Prop := ∀ h h' v, Le h h' → Q h v → Q h' v
def IsD (Q : SH → SV → Prop) (a : AM) (ss : SS) (h : SH) (n : Nat) : Prop := Is (a ss h) fun vs h' => Le h h' ∧ vs.length = n ∧ ∀ v ∈ vs, Q h' v
section
variable {Q : SH → SV → Prop} {ss : SS} {h : SH}
theorem IsD.nil : IsD Q aNil ss h 0 := ⟨Le.refl h, rfl, fun _ z => nomatch z⟩
theorem IsD.cons {m : EM} {r : AM} {n : Nat} (st : Sta Q) (x : Is (m ss h) fun v h1 => Le h h1 ∧ Q h1 v) (y : ∀ h1, Le h h1 → IsD Q r ss h1 n) : IsD Q (aCons m r) ss h (n + 1) := by
  refine Is.acons (x.mono fun v h1 ⟨l, q⟩ => (y h1 l).mono fun vs h2 ⟨l2, e, k⟩ => ⟨l.trans l2, by simp [e], fun w hw => ?_⟩)
  rcases List.mem_cons.mp hw with rfl | hw
  · exact st _ _ _ l2 q
  · exact k w hw
theorem IsD.c {v : SV} {r : AM} {n : Nat} (st : Sta Q) (q : Q h v) (y : ∀ h1, Le h h1 → IsD Q r ss h1 n) : IsD Q (aCons (mC v) r) ss h (n + 1) := IsD.cons st ⟨Le.refl h, q⟩ y
/-- the list that a display makes -/
theorem IsD.lst {a : AM} {n : Nat} {P : SV → SH → Prop} (st : Sta Q) (x : IsD Q a ss h n) (hn : n ≤ 1000) (p : ∀ h' j vs, Le h h' → h'[j]? = some (.lst vs) → vs.length = n → (∀ v ∈ vs, Q h' v) → P (.ref j) h') : Is (mOA opLst a ss h) P :=
  Is.oa (x.mono fun vs h1 ⟨l, e, k⟩ => lst_is (small_big (by omega)) (p _ _ vs (l.trans (Le.push _ _)) (new_at _ _) e fun v hv => st _ _ _ (Le.push _ _) (k v hv)))
/-- a loop over such a list -/
theorem loopQ {N B C : SS → SH → Prop} {R : SV → SH → Prop} {m : EM} {body : SM} {i : Nat} {n : Nat} (I : SS → Prop) (st : Sta Q) (hn : n ≤ 1000) (i0 : I ss) (x : Is (m ss h) fun v h1 => ∃ j vs, v = .ref j ∧ Le h h1 ∧ h1[j]? = some (.lst vs) ∧ vs.length = n ∧ ∀ v ∈ vs, Q h1 v)
    (turn : ∀ s h' v, I s → Le h h' → Q h' v → Ist (body (s.set i (some v)) h') (fun s2 h2 => I s2 ∧ Le h' h2) R (fun _ _ => False) (fun _ _ => False)) (n' : ∀ s h', I s → Le h h' → N s h') : Ist (mFor (mWalk m) (gVar i) body ss h) N R B C := by
  refine Ist.for (Is.walkL (x.mono fun v h1 ⟨j, vs, ev, le, e, hl, q⟩ => ⟨j, vs, ev, e, vs.length, fun k s h' => I s ∧ Le h1 h', by unfold many; omega, ⟨i0, Le.refl _⟩, ?_, ?_⟩))
  · rintro k s h' hk ⟨is_, l⟩
    have ek : vs[k]? = some vs[k] := List.getElem?_eq_getElem hk
    refine ⟨_, _, _, wkL_at (l _ _ e) ek, rfl, (turn s h' _ is_ (le.trans l) (st _ _ _ l (q _ (List.getElem_mem hk)))).mono (fun s2 h2 ⟨a, b⟩ => ⟨a, l.trans b⟩) (fun _ _ z => z) (fun _ _ z => z.elim) fun _ _ z => z.elim⟩
  · rintro s h' ⟨is_, l⟩
    exact ⟨wkL_end (l _ _ e), n' s h' is_ (le.trans l)⟩
end
theorem tx_c {d : PyData} (h : (d.showable && decide (d.depth ≤ 60) && decide (d.shown.length ≤ 16777216) && PyData.strOk d.shown) = true) : Tx1 d := by
  simp only [Bool.and_eq_true, decide_eq_true_eq] at h
  exact ⟨h.1.1.1, h.1.1.2, h.1.2, h.2⟩
section
variable {h : SH} {t : Nat} {x y z : SV}
theorem tag_tup {xs : List SV} (e : h[t]? = some (.tup xs)) : tagOf h (.ref t) = some .tup := by unfold tagOf; simp only [e]
theorem tag_dct {xs : List (Key × SV)} (e : h[t]? = some (.dK xs)) : tagOf h (.ref t) = some .dct := by unfold tagOf; simp only [e]
end
theorem num40 {i : Int} (h : i.natAbs < 10 ^ 40) : Sg 50 (Str.ofString (toString i)) := by
  refine Sg.lit ?_
  have k := PyProof.Rows.digits10_le (k := 40) (n := i.natAbs) (by omega) h
  cases i with
  | ofNat m =>
    show (Nat.repr m).toList.length ≤ 50
    have e : (Nat.repr m).toList = Nat.toDigits 10 m := by simp [Nat.repr]
    rw [e]
    have : (Nat.toDigits 10 m).length ≤ 40 := k
    omega
  | negSucc m =>
    show (("-" : String) ++ Nat.repr (m + 1)).toList.length ≤ 50
    have e : (("-" : String) ++ Nat.repr (m + 1)).toList = '-' :: Nat.toDigits 10 (m + 1) := by simp [Nat.repr]
    rw [e]
    have : (Nat.toDigits 10 (m + 1)).length ≤ 40 := k
    simp; omega
theorem log40 {i : Int} (h : i.natAbs < 10 ^ 40) : i.natAbs.log2 < 1920 := by
  by_cases z : i.natAbs = 0
  · rw [z]; decide
  · exact Nat.lt_trans ((Nat.log2_lt (k := 200) z).mpr (Nat.lt_trans h (by decide))) (by decide)
theorem shownAll_len : ∀ ds : List PyData, (PyData.shownAll ds).length = ds.length
  | [] => rfl
  | d :: ds => by simp only [PyData.shownAll, List.length_cons, shownAll_len ds]
theorem add_is {i j : Nat} {xs ys : List SV} {h : SH} {P : SV → SH → Prop} (e1 : h[i]? = some (.lst xs)) (e2 : h[j]? = some (.lst ys)) (k : xs.length + ys.length ≤ big) (p : P (.ref h.length) (h ++ [.lst (xs ++ ys)])) : ∃ v h3, opAdd (.ref i) (.ref j) h = some (v, h3) ∧ P v h3 :=
  ⟨_, _, by unfold opAdd; simp only [e1, e2, if_pos k]; rfl, p⟩
theorem list_is {i : Nat} {xs : List SV} {h : SH} {P : SV → SH → Prop} (e : h[i]? = some (.lst xs)) (p : P (.ref h.length) (h ++ [.lst xs])) : ∃ v h3, un1 opList [.ref i] h = some (v, h3) ∧ P v h3 :=
  ⟨_, _, by show opList (.ref i) h = _; unfold opList; simp only [e]; rfl, p⟩
theorem tuple_is {i : Nat} {xs : List SV} {h : SH} {P : SV → SH → Prop} (e : h[i]? = some (.lst xs)) (p : P (.ref h.length) (h ++ [.tup xs])) : ∃ v h3, un1 opTuple [.ref i] h = some (v, h3) ∧ P v h3 :=
  ⟨_, _, by show opTuple (.ref i) h = _; unfold opTuple; simp only [e]; rfl, p⟩
theorem gs {α : Type} {s : List α} {i j : Nat} {x : α} {v : Option α} (h : s[j]? = v) (n : i ≠ j) : (s.set i x)[j]? = v := by rw [List.getElem?_set_ne n]; exact h
theorem gx {α : Type} {s : List α} {i n : Nat} {x : α} (h : s.length = n) (hi : i < n) : (s.set i x)[i]? = some x := List.getElem?_set_self (by rw [h]; exact hi)
theorem Kp.refl {g : Nat} {h : SH} : Kp g h h := fun _ _ _ e => e
theorem Kp.trans {g : Nat} {a b c : SH} (x : Kp g a b) (y : Kp g b c) : Kp g a c := fun j o n e => y j o n (x j o n e)
theorem Le.kp {g : Nat} {a b : SH} (x : Le a b) : Kp g a b := fun j o _ e => x j o e
/-- the generator's list -/
def GenOk (h : SH) (g : Nat) (B : Int) : Prop := ∃ a b c : Int, h[g]? = some (.lst [.int a, .int b, .int c]) ∧ 0 ≤ a ∧ 0 ≤ c ∧ c ≤ B
theorem GenOk.le {h h' : SH} {g : Nat} {B B' : Int} (x : GenOk h g B) (l : Le h h') (hB : B ≤ B') : GenOk h' g B' := by
  obtain ⟨a, b, c, e, h1, h2, h3⟩ := x
  exact ⟨a, b, c, l _ _ e, h1, h2, by omega⟩
theorem draw {h : SH} {g : Nat} {B n : Int} (G : GenOk h g B) (hB : B ≤ 1000000000000) (hn : 0 < n) (hl : n.natAbs.log2 < 9000) (hb : Builtin.Int.intBits n < 100000) {P : SV → SH → Prop}
    (p : ∀ r h', 0 ≤ r → r < n → Kp g h h' → h'.length = h.length → GenOk h' g (B + 4000) → P (.int r) h') : Is (mFn 2 4 randM [.ref g, .int n] h) P := by
  obtain ⟨a, b, c, e, h1, h2, h3⟩ := G
  refine rand_is e hn hl hb h1 h2 (by omega) fun r a' c' r0 r1 a0 c1 c2 => p r _ r0 r1 kp_set (by simp) ⟨a', b, c', set_at e, a0, by omega, by omega⟩
theorem GenOk.at {h : SH} {g : Nat} {B : Int} (x : GenOk h g B) : ∃ gs, h[g]? = some (.lst gs) := let ⟨a, b, c, e, _⟩ := x; ⟨_, e⟩
theorem eqvAll_nil : ∀ ds : List PyData, PyData.eqvAll ds [] = ds.isEmpty
  | [] => by rw [PyData.eqvAll]; rfl
  | d :: ds => by rw [PyData.eqvAll]; rfl
theorem tx_bool {b : Bool} : Tx1 (.bool b) := by cases b <;> exact tx_c (by decide +kernel)
theorem sh_str {x : Str} (h : PyData.strOk x = true) : SeqAt.shaped (.str x) = true := by
  unfold SeqAt.shaped
  rw [PyData.canLay0, PyData.depth, h]
  rfl
theorem atI_mem {xs : List SV} {r : Int} (h0 : 0 ≤ r) (h1 : r < xs.length) : ∃ x, L2.atI xs r = some x ∧ x ∈ xs := by
  have hr : r.toNat < xs.length := by omega
  refine ⟨xs[r.toNat], ?_, List.getElem_mem hr⟩
  unfold L2.atI L2.ixN
  rw [if_pos (by omega), if_pos (by omega)]
  simp [List.getElem?_eq_getElem hr]
end Fw
namespace Fw
open PySem PySem.Spec L2
theorem Ist.whileM {t : BM} {body : SM} {N B C : SS → SH → Prop} {R : SV → SH → Prop} {I : Nat → SS → SH → Prop}
    (turn : ∀ n s h, I n s h → Is (t s h) fun b h1 => if b = true then Ist (body s h1) (fun s2 h2 => ∃ m, m < n ∧ I m s2 h2) R N (fun s2 h2 => ∃ m, m < n ∧ I m s2 h2) else N s h1) :
    ∀ (f n : Nat) (s : SS) (h : SH), n < f → I n s h → Ist (Fw.whileM t body f s h) N R B C
  | 0, _, _, _, hf, _ => absurd hf (by omega)
  | f + 1, n, s, h, hf, inv => by
    unfold Fw.whileM
    obtain ⟨b, h1, e, y⟩ := (turn n s h inv).out
    rw [e]
    cases b with
    | false => exact y
    | true =>
      have y' : Ist (body s h1) (fun s2 h2 => ∃ m, m < n ∧ I m s2 h2) R N (fun s2 h2 => ∃ m, m < n ∧ I m s2 h2) := y
      cases e4 : body s h1 with
      | nx s2 h2 => rw [e4] at y'; obtain ⟨m, hm, i⟩ := y'; simp only [thenS, if_true, e4]; exact Ist.whileM turn f m s2 h2 (by omega) i
      | ct s2 h2 => rw [e4] at y'; obtain ⟨m, hm, i⟩ := y'; simp only [thenS, if_true, e4]; exact Ist.whileM turn f m s2 h2 (by omega) i
      | bk s2 h2 => rw [e4] at y'; simp only [thenS, if_true, e4]; exact y'
      | rt v h2 => rw [e4] at y'; simp only [thenS, if_true, e4]; exact y'
      | stuck => rw [e4] at y'; exact y'.elim
      | ex c xs s2 h2 => rw [e4] at y'; exact y'.elim
theorem Ist.while {t : BM} {body : SM} {N B C : SS → SH → Prop} {R : SV → SH → Prop} {ss : SS} {h : SH} (I : Nat → SS → SH → Prop) (n : Nat) (hn : n < many) (i0 : I n ss h)
    (turn : ∀ n s h, I n s h → Is (t s h) fun b h1 => if b = true then Ist (body s h1) (fun s2 h2 => ∃ m, m < n ∧ I m s2 h2) R N (fun s2 h2 => ∃ m, m < n ∧ I m s2 h2) else N s h1) : Ist (mWhile t body ss h) N R B C :=
  Ist.whileM turn many n ss h hn i0
theorem g4_is {i j k l t : Nat} {a b c d : SV} {s : SS} {h : SH} (e : h[t]? = some (.tup [a, b, c, d])) : gTupM 4 (gsCons (gVar i) (gsCons (gVar j) (gsCons (gVar k) (gsCons (gVar l) gsNil)))) (.ref t) s h = some ((((s.set i (some a)).set j (some b)).set k (some c)).set l (some d)) := by
  unfold gTupM
  simp only [e]
  rfl
theorem eqI {i j : Int} {h : SH} {P : SV → SH → Prop} (p : P (.bl (decide (i = j))) h) : ∃ v h3, eqD false (.int i) (.int j) h = some (v, h3) ∧ P v h3 := by
  refine ⟨_, _, ?_, p⟩
  unfold eqD
  have e1 : dataOf 64 h (.int i) = some (.int i) := rfl
  have e2 : dataOf 64 h (.int j) = some (.int j) := rfl
  simp only [e1, e2, sh_int, ev_int, Bool.and_self, if_true]
  rfl
theorem inD {d : Nat} {kvs : List (Key × SV)} {v : SV} {kk : Key} {h : SH} {P : SV → SH → Prop} {neg : Bool} (e : h[d]? = some (.dK kvs)) (ek : Fw.keyOf v = some kk) (p : P (.bl (if neg then !(getS kvs kk).isSome else (getS kvs kk).isSome)) h) : ∃ w h3, opIn neg v (.ref d) h = some (w, h3) ∧ P w h3 := by
  refine ⟨_, _, ?_, p⟩
  unfold opIn
  simp only [e, Fw.dictGet, ek, Option.map_some]
theorem ixD {d : Nat} {kvs : List (Key × SV)} {v x : SV} {kk : Key} {h : SH} {P : SV → SH → Prop} (e : h[d]? = some (.dK kvs)) (ek : Fw.keyOf v = some kk) (g : getS kvs kk = some x) (p : P x h) : ∃ w h3, opIx (.ref d) v h = some (w, h3) ∧ P w h3 := by
  refine ⟨_, _, ?_, p⟩
  unfold opIx
  simp only [e, Fw.dictGet, ek, g, Option.map_some]
theorem stD {d : Nat} {kvs : List (Key × SV)} {v x : SV} {kk : Key} {h : SH} {Q : SH → Prop} (e : h[d]? = some (.dK kvs)) (ek : Fw.keyOf v = some kk) (hl : kvs.length < big) (q : Q (h.set d (.dK (putS kvs kk x)))) : ∃ h4, opSt (.ref d) v x h = some h4 ∧ Q h4 := by
  refine ⟨_, ?_, q⟩
  unfold opSt
  simp only [e, ek, if_pos hl]
/-! ### the rounds' common step: what is found of a program's moves when it is made -/
def changesM : SM := (mSeq (mSet 2 (mDict (dCons (mVar 1) (mC (.int 0)) dNil))) (mSeq (mSet 3 (mOA opLst (aCons (mVar 1) aNil))) (mSeq (mWhile (mTru (mVar 3)) (mSeq (mSet 4 (mBm opPop (mVar 3) aNil)) (mFor (mWalk (mVar 0)) (gTupM 4 (gsCons (gVar 5) (gsCons (gVar 6) (gsCons (gVar 7) (gsCons (gVar 8) gsNil))))) (mIfS (bAnd (mB (mO2 (eqD false) (mVar 5) (mVar 4))) (mB (mO2 (opIn true) (mVar 8) (mVar 2)))) (mSeq (mSt (mO2 opAdd (mO2 opIx (mVar 2) (mVar 4)) (mVar 7)) (mVar 2) (mVar 8)) (mDrop (mBm opAppend (mVar 3) (aCons (mVar 8) aNil)))) mNil)))) (mRet (mVar 2)))))
/-- moves between numbered places -/
structure Mvs (h : SH) (A : Nat) (ms : List (Int × Int × Int × Int)) (n : Int) : Prop where
  ex : ∃ ts : List Nat, h[A]? = some (.lst (ts.map SV.ref)) ∧ ts.length = ms.length ∧ ∀ (i t : Nat), ts[i]? = some t → ∃ p l c o, ms[i]? = some (p, l, c, o) ∧ h[t]? = some (.tup [.int p, .int l, .int c, .int o]) ∧ 0 ≤ p ∧ p < n ∧ 0 ≤ o ∧ o < n ∧ -4 ≤ c ∧ c ≤ 4
  few : ms.length ≤ 10
  n4 : n ≤ 4
theorem Mvs.le {h h' : SH} {A : Nat} {ms : List (Int × Int × Int × Int)} {n : Int} (x : Mvs h A ms n) (l : Le h h') : Mvs h' A ms n := by
  obtain ⟨⟨ts, e, hl, z⟩, f, g⟩ := x
  exact ⟨⟨ts, l _ _ e, hl, fun i t et => let ⟨p, l0, c, o, a, b, d⟩ := z i t et; ⟨p, l0, c, o, a, l _ _ b, d⟩⟩, f, g⟩
def has (kvs : List (Key × SV)) (k : Int) : Bool := (getS kvs (.inl k)).isSome
def miss (kvs : List (Key × SV)) : Nat := (if has kvs 0 then 0 else 1) + (if has kvs 1 then 0 else 1) + (if has kvs 2 then 0 else 1) + (if has kvs 3 then 0 else 1)
theorem has_put {kvs : List (Key × SV)} {k j : Int} {v : SV} : has (putS kvs (.inl k) v) j = (decide (k = j) || has kvs j) := by
  rw [Bool.eq_iff_iff]
  unfold has
  rw [put_has]
  simp
theorem miss_put {kvs : List (Key × SV)} {k : Int} {v : SV} (h0 : 0 ≤ k) (h4 : k < 4) (no : has kvs k = false) : miss (putS kvs (.inl k) v) + 1 = miss kvs := by
  unfold miss
  simp only [has_put]
  have q : k = 0 ∨ k = 1 ∨ k = 2 ∨ k = 3 := by omega
  rcases q with rfl | rfl | rfl | rfl <;> rw [no] <;> simp <;> omega
/-- what is known of the found changes -/
structure Chg (kvs : List (Key × SV)) (n : Int) : Prop where
  ks : ∀ p ∈ kvs, ∃ k v : Int, p = (.inl k, .int v) ∧ 0 ≤ k ∧ k < n ∧ -16 ≤ v ∧ v ≤ 16
  len : kvs.length ≤ 4
theorem Chg.get {kvs : List (Key × SV)} {n k : Int} (c : Chg kvs n) (h : has kvs k = true) : ∃ v : Int, getS kvs (.inl k) = some (.int v) ∧ -16 ≤ v ∧ v ≤ 16 := by
  unfold has at h
  obtain ⟨x, e⟩ := Option.isSome_iff_exists.mp h
  obtain ⟨k', v, e2, _, _, a, b⟩ := c.ks _ (getS_mem e)
  cases e2
  exact ⟨v, e, a, b⟩
end Fw
namespace Fw
open PySem PySem.Spec L2
abbrev Mv := Int × Int × Int × Int
def cl (ms : List Mv) (kvs : List (Key × SV)) (k : Int) : Prop := ∀ p l c o, (p, l, c, o) ∈ ms → p = k → has kvs o = true
structure VB (kvs : List (Key × SV)) (n : Int) : Prop where
  ks : ∀ p ∈ kvs, ∃ k v : Int, p = (.inl k, .int v) ∧ 0 ≤ k ∧ k < n ∧ v.natAbs ≤ 4 * (kvs.length - 1)
  len : kvs.length + miss kvs ≤ 4
theorem VB.chg {kvs : List (Key × SV)} {n : Int} (x : VB kvs n) : Chg kvs n := by
  have l := x.len
  refine ⟨fun p hp => ?_, by omega⟩
  obtain ⟨k, v, e, a, b, c⟩ := x.ks p hp
  exact ⟨k, v, e, a, b, by omega, by omega⟩
theorem VB.put {kvs : List (Key × SV)} {n k v c : Int} (x : VB kvs n) (n4 : n ≤ 4) (h0 : 0 ≤ k) (h1 : k < n) (no : has kvs k = false) (hv : v.natAbs ≤ 4 * (kvs.length - 1)) (hl : 1 ≤ kvs.length) (c0 : -4 ≤ c) (c1 : c ≤ 4) : VB (putS kvs (.inl k) (.int (v + c))) n := by
  have g : getS kvs (.inl k) = none := by
    unfold has at no
    cases e : getS kvs (.inl k) with
    | none => rfl
    | some x => rw [e] at no; cases no
  have ml := miss_put (v := .int (v + c)) h0 (by omega) no
  have ll : (putS kvs (.inl k) (.int (v + c))).length = kvs.length + 1 := by rw [put_new g]; simp
  have l := x.len
  refine ⟨fun p hp => ?_, by omega⟩
  rw [ll]
  rw [put_new g] at hp
  rcases List.mem_append.mp hp with hp | hp
  · obtain ⟨k', v', e, a, b, d⟩ := x.ks p hp
    exact ⟨k', v', e, a, b, by omega⟩
  · rw [List.mem_singleton.mp hp]
    exact ⟨k, v + c, rfl, h0, h1, by omega⟩
theorem VB.get {kvs : List (Key × SV)} {n k : Int} (x : VB kvs n) (h : has kvs k = true) : ∃ v : Int, getS kvs (.inl k) = some (.int v) ∧ v.natAbs ≤ 4 * (kvs.length - 1) ∧ 1 ≤ kvs.length := by
  unfold has at h
  obtain ⟨y, e⟩ := Option.isSome_iff_exists.mp h
  obtain ⟨k', v, e2, _, _, a⟩ := x.ks _ (getS_mem e)
  cases e2
  exact ⟨v, e, a, by have := List.length_pos_of_mem (getS_mem e); omega⟩
theorem dict1_eq {ss : SS} {h : SH} {i : Int} (e : ss[1]? = some (some (.int i))) : mDict (dCons (mVar 1) (mC (.int 0)) dNil) ss h = .ok (.ref h.length) (h ++ [.dK [(.inl i, .int 0)]]) := by
  have e1 : mVar 1 ss (h ++ [.dK []]) = .ok (.int i) (h ++ [.dK []]) := by unfold mVar; rw [e]
  have e2 : keysP [(SV.int i, SV.int 0)] = some [(.inl i, .int 0)] := rfl
  have e3 : (h ++ [SO.dK []]).set h.length (SO.dK (mergeS [] [(.inl i, .int 0)])) = h ++ [SO.dK [(.inl i, .int 0)]] := by
    rw [List.set_append_right _ _ (Nat.le_refl _)]
    simp [mergeS, putS]
  unfold mDict dCons dNil
  simp only [e1, Res.bind, mC, e2]
  rw [if_pos ⟨(by simp : (1 : Nat) ≤ 15), new_at _ _⟩, e3]
structure Wst (A d w : Nat) (st n : Int) (ms : List Mv) (h : SH) (kvs : List (Key × SV)) (ws : List Int) (s : SS) (hh : SH) : Prop where
  len : s.length = 9
  s0 : s[0]? = some (some (.ref A))
  s2 : s[2]? = some (some (.ref d))
  s3 : s[3]? = some (some (.ref w))
  le : Le h hh
  hd : hh[d]? = some (.dK kvs)
  hw : hh[w]? = some (.lst (ws.map SV.int))
  vb : VB kvs n
  wk : ∀ k ∈ ws, has kvs k = true
  hst : has kvs st = true
theorem isEmpty_map {ws : List Int} : (ws.map SV.int).isEmpty = ws.isEmpty := by cases ws <;> rfl
theorem changes_is {h : SH} {A : Nat} {ms : List Mv} {n st : Int} (M : Mvs h A ms n) (s0 : 0 ≤ st) (s1 : st < n) {P : SV → SH → Prop} (p : ∀ h' d kvs, Le h h' → h.length ≤ d → h'[d]? = some (.dK kvs) → Chg kvs n → has kvs st = true → (∀ k, has kvs k = true → cl ms kvs k) → P (.ref d) h') : Is (mFn 2 9 changesM [.ref A, .int st] h) P := by
  refine Is.fn rfl ?_
  unfold changesM
  have few := M.few
  have n4 := M.n4
  refine Ist.seq (Ist.set ?_)
  rw [dict1_eq (i := st) rfl]
  refine ok_is ?_
  have n1 := new_at h (.dK [(.inl st, .int 0)])
  have l1 := Le.push h (.dK [(.inl st, .int 0)])
  have hl1 : (h ++ [SO.dK [(.inl st, .int 0)]]).length = h.length + 1 := by simp
  generalize h ++ [SO.dK [(.inl st, .int 0)]] = h1 at n1 l1 hl1 ⊢
  refine Ist.seq (Ist.set (Is.oa (Is.acons (Is.var (v := .int st) rfl (Is.anil (lst_is (small_big (by simp)) ?_))))))
  have n2 := new_at h1 (.lst [.int st])
  have n12 := Le.push h1 (.lst [.int st]) _ _ n1
  have l2 := l1.trans (Le.push h1 (.lst [.int st]))
  generalize h1 ++ [SO.lst [.int st]] = h2 at n2 n12 l2 ⊢
  rw [hl1] at n2 ⊢
  have vb0 : VB [(.inl st, .int 0)] n := by
    refine ⟨fun p hp => ?_, ?_⟩
    · rw [List.mem_singleton.mp hp]
      exact ⟨st, 0, rfl, s0, s1, by simp⟩
    · have q : st = 0 ∨ st = 1 ∨ st = 2 ∨ st = 3 := by omega
      rcases q with rfl | rfl | rfl | rfl <;> decide
  have hs0 : has [(.inl st, .int 0)] st = true := by unfold has; rw [getS_cons, if_pos rfl]; rfl
  have st0 : Wst A h.length (h.length + 1) st n ms h [(.inl st, .int 0)] [st] ((([SV.ref A, SV.int st].map some ++ List.replicate (9 - [SV.ref A, SV.int st].length) none).set 2 (some (.ref h.length))).set 3 (some (.ref (h.length + 1)))) h2 :=
    ⟨rfl, rfl, rfl, rfl, l2, n12, n2, vb0, fun k hk => by rw [List.mem_singleton.mp hk]; exact hs0, hs0⟩
  have only : ∀ k, has [(.inl st, .int 0)] k = true → k = st := fun k hk => by
    unfold has at hk
    rw [getS_cons] at hk
    by_cases e : (Sum.inl st : Key) = .inl k
    · injection e with e; exact e.symm
    · rw [if_neg e] at hk; cases hk
  generalize ((([SV.ref A, SV.int st].map some ++ List.replicate (9 - [SV.ref A, SV.int st].length) none).set 2 (some (.ref h.length))).set 3 (some (.ref (h.length + 1)))) = sA at st0 ⊢
  refine Ist.seq (Ist.while (fun m s hh => ∃ kvs ws, Wst A h.length (h.length + 1) st n ms h kvs ws s hh ∧ (∀ k, has kvs k = true → k ∈ ws ∨ cl ms kvs k) ∧ m = 2 * miss kvs + ws.length ∧ m ≤ 10) (2 * miss [(.inl st, .int 0)] + 1) (by have := vb0.len; unfold many; omega) ⟨_, [st], st0, fun k hk => .inl (by rw [only k hk]; exact List.mem_cons_self), rfl, by have := vb0.len; simp at this; omega⟩ ?_)
  rintro m s hh ⟨kvs, ws, x, cls, rfl, m10⟩
  refine Is.tru (Is.var x.s3 ?_)
  have tr : opTru (.ref (h.length + 1)) hh = .ok (!(ws.map SV.int).isEmpty) hh := by unfold opTru; simp only [x.hw]
  rw [tr, isEmpty_map]
  refine ok_is ?_
  by_cases we : ws = []
  · subst we
    rw [if_neg (by decide)]
    exact Ist.ret (Is.var x.s2 (p hh _ kvs x.le (Nat.le_refl _) x.hd x.vb.chg x.hst fun k hk => (cls k hk).elim (fun z => nomatch z) id))
  · rw [if_pos (by cases ws with | nil => exact absurd rfl we | cons a b => rfl)]
    obtain ⟨ws', at_, rfl⟩ : ∃ ws' a, ws = ws' ++ [a] := ⟨ws.dropLast, ws.getLast we, (List.dropLast_concat_getLast we).symm⟩
    obtain ⟨len, q0, q2, q3, le, hd, hw, vb, wk, hst⟩ := x
    have dw : h.length ≠ h.length + 1 := by omega
    rw [List.length_append] at m10
    refine Ist.seq (Ist.set (Is.bmL (Is.var q3 ⟨lstB hw, Is.anil ⟨.int at_, hh.set (h.length + 1) (.lst (ws'.map SV.int)), ?_, ?_⟩⟩)))
    · unfold opPop
      simp only [hw]
      have e1 : ((ws' ++ [at_]).map SV.int)[((ws' ++ [at_]).map SV.int).length - 1]? = some (.int at_) := by simp
      simp only [e1]
      congr 3
      simp
    have le1 : Le h (hh.set (h.length + 1) (.lst (ws'.map SV.int))) := le_set le (by omega)
    have hd1 : (hh.set (h.length + 1) (SO.lst (ws'.map SV.int)))[h.length]? = some (.dK kvs) := by rw [set_ne (by omega)]; exact hd
    have hw1 : (hh.set (h.length + 1) (SO.lst (ws'.map SV.int)))[h.length + 1]? = some (.lst (ws'.map SV.int)) := set_at hw
    generalize hh.set (h.length + 1) (SO.lst (ws'.map SV.int)) = h3 at le1 hd1 hw1 ⊢
    have x1 : Wst A h.length (h.length + 1) st n ms h kvs ws' (s.set 4 (some (.int at_))) h3 := ⟨by simp [len], gs q0 (by decide), gs q2 (by decide), gs q3 (by decide), le1, hd1, hw1, vb, fun k hk => wk k (List.mem_append_left _ hk), hst⟩
    have t4 := gx (i := 4) (x := some (SV.int at_)) len (by decide)
    have hat : has kvs at_ = true := wk at_ (List.mem_append_right _ List.mem_cons_self)
    generalize s.set 4 (some (.int at_)) = s' at x1 t4 ⊢
    obtain ⟨⟨ts, eA, hts, z⟩, _, _⟩ := M.le le1
    refine Ist.for (Is.walkL (Is.var x1.s0 ⟨A, _, rfl, eA, ts.length, fun q s hh => ∃ kvs' ws2, Wst A h.length (h.length + 1) st n ms h kvs' ws2 s hh ∧ s[4]? = some (some (.int at_)) ∧ has kvs' at_ = true ∧ (∀ k, has kvs' k = true → k ∈ ws2 ∨ k = at_ ∨ cl ms kvs' k) ∧
      (∀ q', q' < q → ∀ p l c o, ms[q']? = some (p, l, c, o) → p = at_ → has kvs' o = true) ∧ 2 * miss kvs' + ws2.length ≤ 2 * miss kvs + ws'.length, by unfold many; omega, ⟨kvs, ws', x1, t4, hat, fun k hk => ?_, fun q' hq => by omega, Nat.le_refl _⟩, ?_, ?_⟩))
    · rcases cls k hk with c | c
      · rcases List.mem_append.mp c with c | c
        · exact .inl c
        · exact .inr (.inl (List.mem_singleton.mp c))
      · exact .inr (.inr c)
    · rintro q s hh hq ⟨kvs', ws2, x, u4, hat', cls', pr, me⟩
      obtain ⟨⟨ts', eA', hts', z'⟩, _, _⟩ := M.le x.le
      have eq : ts'[q]? = some ts'[q] := List.getElem?_eq_getElem (by omega)
      obtain ⟨pp, l, c, o, em, et, p0, p1, o0, o1, c0, c1⟩ := z' q _ eq
      obtain ⟨len, q0, q2, q3, le, hd, hw, vb, wk, hst⟩ := x
      refine ⟨_, _, _, wkL_at eA' (by rw [List.getElem?_map, eq]; rfl), g4_is et, ?_⟩
      have v0 := gs (gs (gs (gs q0 (show 5 ≠ 0 by decide) (x := some (SV.int pp))) (show 6 ≠ 0 by decide) (x := some (SV.int l))) (show 7 ≠ 0 by decide) (x := some (SV.int c))) (show 8 ≠ 0 by decide) (x := some (SV.int o))
      have v2 := gs (gs (gs (gs q2 (show 5 ≠ 2 by decide) (x := some (SV.int pp))) (show 6 ≠ 2 by decide) (x := some (SV.int l))) (show 7 ≠ 2 by decide) (x := some (SV.int c))) (show 8 ≠ 2 by decide) (x := some (SV.int o))
      have v3 := gs (gs (gs (gs q3 (show 5 ≠ 3 by decide) (x := some (SV.int pp))) (show 6 ≠ 3 by decide) (x := some (SV.int l))) (show 7 ≠ 3 by decide) (x := some (SV.int c))) (show 8 ≠ 3 by decide) (x := some (SV.int o))
      have v4 := gs (gs (gs (gs u4 (show 5 ≠ 4 by decide) (x := some (SV.int pp))) (show 6 ≠ 4 by decide) (x := some (SV.int l))) (show 7 ≠ 4 by decide) (x := some (SV.int c))) (show 8 ≠ 4 by decide) (x := some (SV.int o))
      have v5 : ((((s.set 5 (some (SV.int pp))).set 6 (some (SV.int l))).set 7 (some (SV.int c))).set 8 (some (SV.int o)))[5]? = some (some (.int pp)) := gs (gs (gs (gx len (by decide)) (by decide)) (by decide)) (by decide)
      have v7 : ((((s.set 5 (some (SV.int pp))).set 6 (some (SV.int l))).set 7 (some (SV.int c))).set 8 (some (SV.int o)))[7]? = some (some (.int c)) := gs (gx (n := 9) (by simp [len]) (by decide)) (by decide)
      have v8 : ((((s.set 5 (some (SV.int pp))).set 6 (some (SV.int l))).set 7 (some (SV.int c))).set 8 (some (SV.int o)))[8]? = some (some (.int o)) := gx (n := 9) (by simp [len]) (by decide)
      have vl : ((((s.set 5 (some (SV.int pp))).set 6 (some (SV.int l))).set 7 (some (SV.int c))).set 8 (some (SV.int o))).length = 9 := by simp [len]
      generalize ((((s.set 5 (some (SV.int pp))).set 6 (some (SV.int l))).set 7 (some (SV.int c))).set 8 (some (SV.int o))) = sT at v0 v2 v3 v4 v5 v7 v8 vl ⊢
      have keepit : (pp = at_ → has kvs' o = true) → ∃ kvs2 ws3, Wst A h.length (h.length + 1) st n ms h kvs2 ws3 sT hh ∧ sT[4]? = some (some (.int at_)) ∧ has kvs2 at_ = true ∧ (∀ k, has kvs2 k = true → k ∈ ws3 ∨ k = at_ ∨ cl ms kvs2 k) ∧
          (∀ q', q' < q + 1 → ∀ p l c o, ms[q']? = some (p, l, c, o) → p = at_ → has kvs2 o = true) ∧ 2 * miss kvs2 + ws3.length ≤ 2 * miss kvs + ws'.length := fun ho =>
        ⟨kvs', ws2, ⟨vl, v0, v2, v3, le, hd, hw, vb, wk, hst⟩, v4, hat', cls', fun q' hq' p' l' c' o' em' ep => by
          by_cases hqq : q' = q
          · subst hqq
            rw [em] at em'; cases em'
            exact ho ep
          · exact pr q' (by omega) p' l' c' o' em' ep, me⟩
      refine Ist.ite (Is.band (Is.bm (Is.o2 (Is.var v5 (Is.var v4 (eqI ⟨_, rfl, ?_⟩))))))
      by_cases hp : pp = at_
      · rw [if_pos (decide_eq_true hp)]
        refine Is.bm (Is.o2 (Is.var v8 (Is.var v2 (inD (neg := true) hd rfl ⟨_, rfl, ?_⟩))))
        by_cases ho : has kvs' o = true
        · rw [if_neg (by unfold has at ho; simp [ho])]
          exact Ist.nil (keepit fun _ => ho)
        · have ho' : has kvs' o = false := by simpa using ho
          rw [if_pos (by unfold has at ho'; simp [ho'])]
          obtain ⟨v, gv, hv, hl1⟩ := vb.get hat'
          have nl : kvs'.length ≤ 4 := by have := vb.len; omega
          refine Ist.seq (Ist.st (Is.o2 (Is.o2 (Is.var v2 (Is.var v4 (ixD hd rfl gv (Is.var v7 ⟨_, _, rfl, Is.var v2 (Is.var v8 (stD hd rfl (small_lt (by omega)) ?_))⟩)))))))
          have hd2 : (hh.set h.length (.dK (putS kvs' (.inl o) (.int (v + c)))))[h.length]? = some (.dK (putS kvs' (.inl o) (.int (v + c)))) := set_at hd
          have hw2 : (hh.set h.length (.dK (putS kvs' (.inl o) (.int (v + c)))))[h.length + 1]? = some (.lst (ws2.map SV.int)) := by rw [set_ne (by omega)]; exact hw
          have le2 : Le h (hh.set h.length (.dK (putS kvs' (.inl o) (.int (v + c))))) := le_set le (Nat.le_refl _)
          generalize hh.set h.length (SO.dK (putS kvs' (.inl o) (.int (v + c)))) = h4 at hd2 hw2 le2 ⊢
          have nwl : ws2.length ≤ 100 := by omega
          refine Ist.drop (Is.bmL (Is.var v3 ⟨lstB hw2, Is.acons (Is.var v8 (Is.anil (app_is hw2 (small_lt (by simp; omega)) ?_)))⟩))
          have mono : ∀ k, has kvs' k = true → has (putS kvs' (.inl o) (.int (v + c))) k = true := fun k hk => by rw [has_put, hk]; simp
          have mp := miss_put (kvs := kvs') (v := .int (v + c)) o0 (by omega) ho'
          refine ⟨putS kvs' (.inl o) (.int (v + c)), ws2 ++ [o], ⟨vl, v0, v2, v3, le_set le2 (by omega), by rw [set_ne (by omega)]; exact hd2, by rw [set_at hw2, List.map_append]; rfl, vb.put n4 o0 o1 ho' hv hl1 c0 c1, fun k hk => ?_, mono _ hst⟩, v4, mono _ hat', fun k hk => ?_, fun q' hq' p' l' c' o' em' ep => ?_, by simp; omega⟩
          · rcases List.mem_append.mp hk with hk | hk
            · exact mono k (wk k hk)
            · rw [List.mem_singleton.mp hk, has_put]; simp
          · rw [has_put, Bool.or_eq_true] at hk
            rcases hk with hk | hk
            · exact .inl (List.mem_append_right _ (by rw [← of_decide_eq_true hk]; exact List.mem_cons_self))
            · rcases cls' k hk with y | y | y
              · exact .inl (List.mem_append_left _ y)
              · exact .inr (.inl y)
              · exact .inr (.inr fun p' l' c' o' hm ep => mono _ (y p' l' c' o' hm ep))
          · by_cases hqq : q' = q
            · subst hqq
              rw [em] at em'; cases em'
              rw [has_put]; simp
            · exact mono _ (pr q' (by omega) p' l' c' o' em' ep)
      · rw [if_neg (by simpa using hp), if_neg Bool.false_ne_true]
        exact Ist.nil (keepit fun z => absurd z hp)
    · rintro s hh ⟨kvs', ws2, x, u4, hat', cls', pr, me⟩
      obtain ⟨⟨ts', eA', hts', z'⟩, _, _⟩ := M.le x.le
      have w := wkL_end eA'
      rw [List.length_map, hts', ← hts] at w
      refine ⟨w, 2 * miss kvs' + ws2.length, by simp; omega, kvs', ws2, x, fun k hk => ?_, rfl, by omega⟩
      rcases cls' k hk with y | y | y
      · exact .inl y
      · refine .inr fun p' l' c' o' hm ep => ?_
        obtain ⟨q, hq, eq⟩ := List.getElem_of_mem hm
        exact pr q (by omega) p' l' c' o' (by rw [List.getElem?_eq_getElem hq, eq]) (by rw [ep, y])
      · exact .inr y
end Fw
namespace Fw
open PySem PySem.Spec L2
def stepM : SM := (mSeq (mSet 2 (mCall (mFn 2 9 changesM) (aCons (mVar 0) (aCons (mVar 1) aNil)))) (mSeq (mSet 3 (mC (.int 0))) (mSeq (mFor (mWalk (mVar 0)) (gTupM 4 (gsCons (gVar 4) (gsCons (gVar 5) (gsCons (gVar 6) (gsCons (gVar 7) gsNil))))) (mIfS (bAnd (mB (mO2 (opIn false) (mVar 4) (mVar 2))) (mB (mO2 (opIn false) (mVar 1) (mCall (mFn 2 9 changesM) (aCons (mVar 0) (aCons (mVar 7) aNil)))))) (mSet 3 (mOA (bin2 opGcd) (aCons (mVar 3) (aCons (mO2 opSub (mO2 opAdd (mO2 opIx (mVar 2) (mVar 4)) (mVar 6)) (mO2 opIx (mVar 2) (mVar 7))) aNil)))) mNil)) (mRet (mVar 3)))))
def commonM : SM := (mSeq (mSet 2 (mC (.int 1))) (mSeq (mFor (mRng1 (aCons (mVar 1) aNil)) (gVar 3) (mSeq (mSet 4 (mCall (mFn 2 8 stepM) (aCons (mVar 0) (aCons (mVar 3) aNil)))) (mIfS (mB (mO2 opGt (mVar 4) (mC (.int 0)))) (mSet 2 (mOA (bin2 opLcm) (aCons (mVar 2) (aCons (mVar 4) aNil)))) mNil))) (mRet (mVar 2))))
theorem gcd_le {a b B : Nat} (ha : a ≤ B) (hb : b ≤ B) : Nat.gcd a b ≤ B := by
  by_cases h : a = 0
  · subst h; rw [Nat.gcd_zero_left]; exact hb
  · exact Nat.le_trans (Nat.gcd_le_left b (Nat.pos_of_ne_zero h)) ha
theorem step_is {h : SH} {A : Nat} {ms : List Mv} {n st : Int} (M : Mvs h A ms n) (s0 : 0 ≤ st) (s1 : st < n) {P : SV → SH → Prop} (p : ∀ (s : Int) h', 0 ≤ s → s ≤ 40 → Le h h' → P (.int s) h') : Is (mFn 2 8 stepM [.ref A, .int st] h) P := by
  refine Is.fn rfl ?_
  unfold stepM
  have few := M.few
  refine Ist.seq (Ist.set (Is.call (Is.acons (Is.var (v := .ref A) rfl (Is.acons (Is.var (v := .int st) rfl (Is.anil (changes_is M s0 s1 fun h1 d kvs le1 _ hd ch hst cls => ?_))))))))
  refine Ist.seq (Ist.set (Is.c ?_))
  obtain ⟨⟨ts, eA, hts, z⟩, _, _⟩ := M.le le1
  refine Ist.seq (Ist.for (Is.walkL (Is.var (v := .ref A) rfl ⟨A, _, rfl, eA, ts.length, fun q s hh => s.length = 8 ∧ s[0]? = some (some (.ref A)) ∧ s[1]? = some (some (.int st)) ∧ s[2]? = some (some (.ref d)) ∧ Le h1 hh ∧ ∃ g : Int, s[3]? = some (some (.int g)) ∧ 0 ≤ g ∧ g ≤ 40, by unfold many; omega, ⟨rfl, rfl, rfl, rfl, Le.refl _, 0, rfl, by decide, by decide⟩, ?_, ?_⟩)))
  · rintro q s hh hq ⟨len, q0, q1, q2, le, g, q3, g0, g1⟩
    obtain ⟨⟨ts', eA', hts', z'⟩, _, _⟩ := M.le (le1.trans le)
    have eq : ts'[q]? = some ts'[q] := List.getElem?_eq_getElem (by omega)
    obtain ⟨pp, l, c, o, em, et, p0, p1, o0, o1, c0, c1⟩ := z' q _ eq
    refine ⟨_, _, _, wkL_at eA' (by rw [List.getElem?_map, eq]; rfl), g4_is et, ?_⟩
    have v0 := gs (gs (gs (gs q0 (show 4 ≠ 0 by decide) (x := some (SV.int pp))) (show 5 ≠ 0 by decide) (x := some (SV.int l))) (show 6 ≠ 0 by decide) (x := some (SV.int c))) (show 7 ≠ 0 by decide) (x := some (SV.int o))
    have v1 := gs (gs (gs (gs q1 (show 4 ≠ 1 by decide) (x := some (SV.int pp))) (show 5 ≠ 1 by decide) (x := some (SV.int l))) (show 6 ≠ 1 by decide) (x := some (SV.int c))) (show 7 ≠ 1 by decide) (x := some (SV.int o))
    have v2 := gs (gs (gs (gs q2 (show 4 ≠ 2 by decide) (x := some (SV.int pp))) (show 5 ≠ 2 by decide) (x := some (SV.int l))) (show 6 ≠ 2 by decide) (x := some (SV.int c))) (show 7 ≠ 2 by decide) (x := some (SV.int o))
    have v3 := gs (gs (gs (gs q3 (show 4 ≠ 3 by decide) (x := some (SV.int pp))) (show 5 ≠ 3 by decide) (x := some (SV.int l))) (show 6 ≠ 3 by decide) (x := some (SV.int c))) (show 7 ≠ 3 by decide) (x := some (SV.int o))
    have v4 : ((((s.set 4 (some (SV.int pp))).set 5 (some (SV.int l))).set 6 (some (SV.int c))).set 7 (some (SV.int o)))[4]? = some (some (.int pp)) := gs (gs (gs (gx len (by decide)) (by decide)) (by decide)) (by decide)
    have v6 : ((((s.set 4 (some (SV.int pp))).set 5 (some (SV.int l))).set 6 (some (SV.int c))).set 7 (some (SV.int o)))[6]? = some (some (.int c)) := gs (gx (n := 8) (by simp [len]) (by decide)) (by decide)
    have v7 : ((((s.set 4 (some (SV.int pp))).set 5 (some (SV.int l))).set 6 (some (SV.int c))).set 7 (some (SV.int o)))[7]? = some (some (.int o)) := gx (n := 8) (by simp [len]) (by decide)
    have vl : ((((s.set 4 (some (SV.int pp))).set 5 (some (SV.int l))).set 6 (some (SV.int c))).set 7 (some (SV.int o))).length = 8 := by simp [len]
    generalize ((((s.set 4 (some (SV.int pp))).set 5 (some (SV.int l))).set 6 (some (SV.int c))).set 7 (some (SV.int o))) = sT at v0 v1 v2 v3 v4 v6 v7 vl ⊢
    refine Ist.ite (Is.band (Is.bm (Is.o2 (Is.var v4 (Is.var v2 (inD (neg := false) (le _ _ hd) rfl ⟨_, rfl, ?_⟩))))))
    by_cases hp : has kvs pp = true
    · rw [if_pos (by unfold has at hp; simpa using hp)]
      refine Is.bm (Is.o2 (Is.var v1 (Is.call (Is.acons (Is.var v0 (Is.acons (Is.var v7 (Is.anil (changes_is (M.le (le1.trans le)) o0 o1 fun h2 d2 kv2 le2 _ hd2 ch2 hst2 _ => ?_)))))))))
      refine inD (neg := false) hd2 rfl ⟨_, rfl, ?_⟩
      have le3 := le.trans le2
      by_cases hs : has kv2 st = true
      · rw [if_pos (by unfold has at hs; simpa using hs)]
        have ho : has kvs o = true := cls pp hp pp l c o (List.mem_of_getElem? em) rfl
        obtain ⟨x1, gx1, a1, a2⟩ := ch.get hp
        obtain ⟨x2, gx2, b1, b2⟩ := ch.get ho
        refine Ist.set (Is.oa (Is.acons (Is.var v3 (Is.acons (Is.o2 (Is.o2 (Is.o2 (Is.var v2 (Is.var v4 (ixD (le3 _ _ hd) rfl gx1 (Is.var v6 ⟨_, _, rfl, Is.o2 (Is.var v2 (Is.var v7 (ixD (le3 _ _ hd) rfl gx2 ⟨_, _, rfl, Is.anil ⟨_, _, rfl, ?_⟩⟩)))⟩)))))))))))
        refine ⟨by simp [vl], gs v0 (by decide), gs v1 (by decide), gs v2 (by decide), le3, _, gx vl (by decide), Int.natCast_nonneg _, ?_⟩
        have := gcd_le (a := g.natAbs) (b := (x1 + c - x2).natAbs) (B := 40) (by omega) (by omega)
        exact_mod_cast this
      · rw [if_neg (by unfold has at hs; simpa using hs)]
        exact Ist.nil ⟨vl, v0, v1, v2, le3, g, v3, g0, g1⟩
    · rw [if_neg (by unfold has at hp; simpa using hp), if_neg Bool.false_ne_true]
      exact Ist.nil ⟨vl, v0, v1, v2, le, g, v3, g0, g1⟩
  · rintro s hh ⟨len, q0, q1, q2, le, g, q3, g0, g1⟩
    obtain ⟨⟨ts', eA', hts', z'⟩, _, _⟩ := M.le (le1.trans le)
    have w := wkL_end eA'
    rw [List.length_map, hts', ← hts] at w
    exact ⟨w, Ist.ret (Is.var q3 (p g hh g0 g1 (le1.trans le)))⟩
theorem common_is {h : SH} {A : Nat} {ms : List Mv} {n : Int} (M : Mvs h A ms n) (n0 : 0 ≤ n) {P : SV → SH → Prop} (p : ∀ (s : Int) h', 1 ≤ s → s ≤ 2560000 → Le h h' → P (.int s) h') : Is (mFn 2 5 commonM [.ref A, .int n] h) P := by
  refine Is.fn rfl ?_
  unfold commonM
  have n4 := M.n4
  refine Ist.seq (Ist.set (Is.c ?_))
  refine Ist.seq (Ist.for (Is.rng1 (Is.acons (Is.var (v := .int n) rfl (Is.anil ⟨n, rfl, decide_eq_true (by omega), n.toNat, fun k s hh => s.length = 5 ∧ s[0]? = some (some (.ref A)) ∧ Le h hh ∧ ∃ c : Nat, s[2]? = some (some (.int c)) ∧ 1 ≤ c ∧ c ≤ 40 ^ k, by unfold many; omega, ⟨rfl, rfl, Le.refl _, 1, rfl, by decide, by decide⟩, ?_, ?_⟩)))))
  · rintro k s hh hk ⟨len, q0, le, c, q2, c1, c2⟩
    refine ⟨_, _, _, wkRng_at hk, rfl, ?_⟩
    have v0 := gs q0 (show 3 ≠ 0 by decide) (x := some (SV.int (0 + (k : Int))))
    have v2 := gs q2 (show 3 ≠ 2 by decide) (x := some (SV.int (0 + (k : Int))))
    have v3 := gx (i := 3) (x := some (SV.int (0 + (k : Int)))) len (by decide)
    have vl : (s.set 3 (some (SV.int (0 + (k : Int))))).length = 5 := by simp [len]
    generalize s.set 3 (some (SV.int (0 + (k : Int)))) = sT at v0 v2 v3 vl ⊢
    refine Ist.seq (Ist.set (Is.call (Is.acons (Is.var v0 (Is.acons (Is.var v3 (Is.anil (step_is (M.le le) (by omega) (by omega) fun s h2 s0 s1 le2 => ?_))))))))
    have w2 := gs v2 (show 4 ≠ 2 by decide) (x := some (SV.int s))
    have w0 := gs v0 (show 4 ≠ 0 by decide) (x := some (SV.int s))
    have w4 := gx (i := 4) (x := some (SV.int s)) vl (by decide)
    have wl : (sT.set 4 (some (SV.int s))).length = 5 := by simp [vl]
    generalize sT.set 4 (some (SV.int s)) = sU at w0 w2 w4 wl ⊢
    have k4 : k < 4 := by omega
    have pw : (40 : Nat) ^ k * 40 = 40 ^ (k + 1) := (Nat.pow_succ ..).symm
    have p4 : (40 : Nat) ^ k ≤ 64000 := by
      have q : k = 0 ∨ k = 1 ∨ k = 2 ∨ k = 3 := by omega
      rcases q with rfl | rfl | rfl | rfl <;> decide
    refine Ist.ite (Is.bm (Is.o2 (Is.var w4 (Is.c ⟨_, _, rfl, _, rfl, ?_⟩))))
    by_cases hs : 0 < s
    · rw [if_pos (decide_eq_true hs)]
      refine Ist.set (Is.oa (Is.acons (Is.var w2 (Is.acons (Is.var w4 (Is.anil ⟨.int ((Nat.lcm (c : Int).natAbs s.natAbs : Nat) : Int), h2, ?_, ?_⟩))))))
      · show opLcm (.int c) (.int s) h2 = _
        unfold opLcm
        exact if_pos ⟨by simp; omega, by omega⟩
      · refine ⟨by simp [wl], gs w0 (by decide), le.trans le2, _, gx wl (by decide), ?_, ?_⟩
        · exact Nat.pos_of_ne_zero (Nat.lcm_ne_zero (by simp; omega) (by omega))
        · have h1 : Nat.lcm (c : Int).natAbs s.natAbs ≤ c * s.natAbs := by unfold Nat.lcm; exact Nat.div_le_self _ _
          have h2 : c * s.natAbs ≤ 40 ^ k * 40 := Nat.mul_le_mul c2 (by omega)
          omega
    · rw [if_neg (by simpa using hs)]
      refine Ist.nil ⟨wl, w0, le.trans le2, c, w2, c1, ?_⟩
      have : (40 : Nat) ^ k ≤ 40 ^ k * 40 := Nat.le_mul_of_pos_right _ (by decide)
      omega
  · rintro s hh ⟨len, q0, le, c, q2, c1, c2⟩
    refine ⟨wkRng_end, Ist.ret (Is.var q2 (p c hh (by omega) ?_ le))⟩
    have : (40 : Nat) ^ n.toNat ≤ 2560000 := by
      have q : n.toNat = 0 ∨ n.toNat = 1 ∨ n.toNat = 2 ∨ n.toNat = 3 ∨ n.toNat = 4 := by omega
      rcases q with q | q | q | q | q <;> rw [q] <;> decide
    omega
end Fw
namespace Fw
open PySem PySem.Spec L2
/-- a dict comprehension -/
theorem Is.dcM {ss : SS} {P : SV → SH → Prop} {g : GM} {wk : Wk} {t : BM} {ek ev : EM} {is : List Nat} {D : Nat} {I : Nat → List (Key × SV) → SH → Prop} {len : Nat}
    (hn : ∀ k acc h, k < len → h[D]? = some (.dK acc) → I k acc h → ∃ x h1 s1, wk h k = some (some (x, h1)) ∧ g x (wipeS ss is) h1 = some s1 ∧ Is (t s1 h1) fun b h2 =>
      if b = true then Is (ek s1 h2) fun y h3 => Is (ev s1 h3) fun z h4 => ∃ kk, Fw.keyOf y = some kk ∧ h4[D]? = some (.dK acc) ∧ acc.length < big ∧ I (k + 1) (putS acc kk z) (h4.set D (.dK (putS acc kk z))) else h2[D]? = some (.dK acc) ∧ I (k + 1) acc h2)
    (he : ∀ acc h, h[D]? = some (.dK acc) → I len acc h → wk h len = some none ∧ P (.ref D) h) :
    ∀ (n i : Nat) (acc : List (Key × SV)) (h : SH), i ≤ len → len - i < n → h[D]? = some (.dK acc) → I i acc h → Is (Fw.dcM g wk t ek ev is D ss n i h) P
  | 0, _, _, _, _, hl, _, _ => absurd hl (by omega)
  | n + 1, i, acc, h, hi, hl, hd, inv => by
    unfold Fw.dcM
    by_cases q : i = len
    · subst q
      obtain ⟨e1, e2⟩ := he acc h hd inv
      rw [e1]; exact e2
    · obtain ⟨x, h1, s1, e1, e2, e3⟩ := hn i acc h (by omega) hd inv
      rw [e1]
      simp only [e2]
      obtain ⟨b, h2, e4, e5⟩ := e3.out
      rw [e4]
      cases b with
      | false =>
        simp only [Bool.false_eq_true, if_false] at e5 ⊢
        exact Is.dcM hn he n (i + 1) acc h2 (by omega) (by omega) e5.1 e5.2
      | true =>
        simp only [if_true] at e5 ⊢
        obtain ⟨y, h3, e6, e7⟩ := e5.out
        rw [e6]
        obtain ⟨z, h4, e8, kk, e9, e10, e11, e12⟩ := e7.out
        simp only [e8, e10, e9, if_pos e11]
        exact Is.dcM hn he n (i + 1) (putS acc kk z) (h4.set D (.dK (putS acc kk z))) (by omega) (by omega) (set_at e10) e12
theorem Is.dc {ss : SS} {h : SH} {P : SV → SH → Prop} {m : IM} {g : GM} {t : BM} {ek ev : EM} {is : List Nat} (x : Is (m ss h) fun wk h0 => ∃ (len : Nat) (I : Nat → List (Key × SV) → SH → Prop), len < many ∧ I 0 [] (h0 ++ [.dK []]) ∧
      (∀ k acc h, k < len → h[h0.length]? = some (.dK acc) → I k acc h → ∃ x h1 s1, wk h k = some (some (x, h1)) ∧ g x (wipeS ss is) h1 = some s1 ∧ Is (t s1 h1) fun b h2 =>
        if b = true then Is (ek s1 h2) fun y h3 => Is (ev s1 h3) fun z h4 => ∃ kk, Fw.keyOf y = some kk ∧ h4[h0.length]? = some (.dK acc) ∧ acc.length < big ∧ I (k + 1) (putS acc kk z) (h4.set h0.length (.dK (putS acc kk z))) else h2[h0.length]? = some (.dK acc) ∧ I (k + 1) acc h2) ∧
      (∀ acc h, h[h0.length]? = some (.dK acc) → I len acc h → wk h len = some none ∧ P (.ref h0.length) h)) : Is (mDc m g t ek ev is ss h) P := by
  unfold mDc
  obtain ⟨wk, h0, e, len, I, hl, i0, hn, he⟩ := x.out
  rw [e]
  exact Is.dcM hn he many 0 [] (h0 ++ [.dK []]) (Nat.zero_le _) (by omega) (new_at _ _) i0
theorem Is.chain {ss : SS} {h : SH} {P : SV → SH → Prop} {o1 o2 : O2} {ma mb mc : EM} (x : Is (ma ss h) fun a h1 => Is (mb ss h1) fun b h2 => ∃ z h3, o1 a b h2 = some (z, h3) ∧ ((z = .bl true ∧ Is (mc ss h3) fun c h4 => ∃ w h5, o2 b c h4 = some (w, h5) ∧ P w h5) ∨ (z = .bl false ∧ P (.bl false) h3))) : Is (mChain o1 o2 ma mb mc ss h) P :=
  Is.bind (x.mono fun a h1 y => Is.bind (y.mono fun b h2 ⟨z, h3, e, q⟩ => by
    rw [e]
    rcases q with ⟨rfl, q⟩ | ⟨rfl, q⟩
    · exact Is.bind (Is.lift ⟨_, _, rfl, Is.bind (q.mono fun c h4 r => Is.lift r)⟩)
    · exact Is.bind (Is.lift ⟨_, _, rfl, q⟩)))
theorem Is.enum {ss : SS} {h : SH} {m : AM} {P : Wk → SH → Prop} (x : Is (m ss h) fun vs h1 => ∃ r xs, vs = [.ref r] ∧ h1[r]? = some (.lst xs) ∧ P (wkEnum r) h1) : Is (mEnum m ss h) P := Is.bind (x.mono fun v h1 y => by
  obtain ⟨r, xs, rfl, e, p⟩ := y
  show Is (match h1[r]? with | some (.lst _) => Res.ok (wkEnum r) h1 | _ => .stuck) P
  rw [e]; exact p)
theorem wkEnum_at {h : SH} {r k : Nat} {xs : List SV} {x : SV} (e : h[r]? = some (.lst xs)) (ex : xs[k]? = some x) : wkEnum r h k = some (some (.ref h.length, h ++ [.tup [.int (k : Nat), x]])) := by
  unfold wkEnum; simp only [e, ex]
theorem wkEnum_end {h : SH} {r : Nat} {xs : List SV} (e : h[r]? = some (.lst xs)) : wkEnum r h xs.length = some none := by
  unfold wkEnum; simp [e]
theorem Is.andV {ss : SS} {h : SH} {P : SV → SH → Prop} {ma mb : EM} (x : Is (ma ss h) fun v h1 => (v = .bl true ∧ Is (mb ss h1) P) ∨ (v = .bl false ∧ P (.bl false) h1)) : Is (mAnd ma mb ss h) P := Is.bind (x.mono fun v h1 y => by
  rcases y with ⟨rfl, y⟩ | ⟨rfl, y⟩ <;> exact y)
theorem Is.notV {ss : SS} {h : SH} {P : SV → SH → Prop} {ma : EM} (x : Is (ma ss h) fun v h1 => ∃ b, v = .bl b ∧ P (.bl (!b)) h1) : Is (mNot ma ss h) P := Is.bind (x.mono fun v h1 ⟨b, e, p⟩ => by subst e; exact p)
end Fw
namespace Fw
open PySem PySem.Spec L2
/-! ### a program's parts: places by name, moves; what Walks makes of them -/
/-- a move by names -/
structure Nm where
  p : Str
  l : Int
  c : Int
  o : Str
def Nm.so (m : Nm) : SO := .tup [.str m.p, .int m.l, .int m.c, .str m.o]
structure Nm.Ok (ps : List Str) (m : Nm) : Prop where
  hp : m.p ∈ ps
  ho : m.o ∈ ps
  l0 : 0 ≤ m.l
  l8 : m.l ≤ 8
  c0 : -4 ≤ m.c
  c4 : m.c ≤ 4
  e0 : 0 ≤ m.l + m.c
  e8 : m.l + m.c ≤ 8
/-- a list of places, a list of moves, as they stand -/
structure Pls (h : SH) (A : Nat) (ps : List Str) : Prop where
  at_ : h[A]? = some (.lst (ps.map SV.str))
structure Mvn (h : SH) (A : Nat) (ms : List Nm) : Prop where
  ex : ∃ ts : List Nat, h[A]? = some (.lst (ts.map SV.ref)) ∧ ts.length = ms.length ∧ ∀ (i t : Nat), ts[i]? = some t → ∃ m, ms[i]? = some m ∧ h[t]? = some (Nm.so m)
theorem Mvn.le {h h' : SH} {A : Nat} {ms : List Nm} (x : Mvn h A ms) (l : Le h h') : Mvn h' A ms := by
  obtain ⟨ts, e, hl, z⟩ := x
  exact ⟨ts, l _ _ e, hl, fun i t et => let ⟨m, a, b⟩ := z i t et; ⟨m, a, l _ _ b⟩⟩
theorem Pls.le {h h' : SH} {A : Nat} {ps : List Str} (x : Pls h A ps) (l : Le h h') : Pls h' A ps := ⟨l _ _ x.at_⟩
structure PsOk (ps : List Str) : Prop where
  one : 1 ≤ ps.length
  four : ps.length ≤ 4
  nd : ps.Nodup
/-- the number of a place -/
def Num (ps : List Str) (x : Str) (i : Int) : Prop := 0 ≤ i ∧ i < ps.length ∧ ps[i.toNat]? = some x
theorem num_of {ps : List Str} {x : Str} (h : x ∈ ps) : ∃ i, Num ps x i := by
  obtain ⟨i, hi, e⟩ := List.getElem_of_mem h
  exact ⟨i, by omega, by omega, by rw [Int.toNat_natCast, List.getElem?_eq_getElem hi, e]⟩
/-- the dict of the places' numbers -/
structure Nums2 (ps : List Str) (k : Nat) (kvs : List (Key × SV)) : Prop where
  len : kvs.length ≤ k
  get : ∀ (i : Nat) (x : Str), i < k → ps[i]? = some x → getS kvs (.inr x) = some (.int (i : Nat))
  no : ∀ x, getS kvs (.inr x) ≠ none → ∃ i, i < k ∧ ps[i]? = some x
theorem Nums2.put {ps : List Str} {k : Nat} {kvs : List (Key × SV)} {x : Str} (n : Nums2 ps k kvs) (nd : ps.Nodup) (e : ps[k]? = some x) : Nums2 ps (k + 1) (putS kvs (.inr x) (.int (k : Nat))) := by
  have g : getS kvs (.inr x) = none := by
    cases gg : getS kvs (.inr x) with
    | none => rfl
    | some v =>
      obtain ⟨i, hi, ei⟩ := n.no x (by rw [gg]; exact fun z => nomatch z)
      have := nd_ix nd e ei
      omega
  rw [put_new g]
  refine ⟨by have := n.len; simp; omega, fun i y hi ey => ?_, fun y hy => ?_⟩
  · rw [getS_app]
    by_cases hik : i < k
    · rw [n.get i y hik ey]
    · obtain rfl : i = k := by omega
      rw [e] at ey; cases ey
      rw [g]; simp
  · rw [getS_app] at hy
    cases gg : getS kvs (.inr y) with
    | some v =>
      obtain ⟨i, hi, ei⟩ := n.no y (by rw [gg]; exact fun z => nomatch z)
      exact ⟨i, by omega, ei⟩
    | none =>
      rw [gg] at hy
      by_cases q : (Sum.inr x : Key) = .inr y
      · injection q with q
        exact ⟨k, by omega, by rw [← q]; exact e⟩
      · simp only [if_neg q] at hy; exact absurd rfl hy
end Fw
namespace Fw
open PySem PySem.Spec L2
section
variable (xA xW xT xC : List (Option Nat))
def onwardM : EM := (mLc (mWalk (mVar 2)) (gTupM 4 (gsCons (gVar 6) (gsCons (gVar 7) (gsCons (gVar 8) (gsCons (gVar 9) gsNil))))) bYes (mOA opTup (aCons (mO2 opIx (mO1 (opFld xA) (mVar 0)) (mVar 6)) (aCons (mVar 7) (aCons (mVar 8) (aCons (mO2 opIx (mO1 (opFld xA) (mVar 0)) (mVar 9)) aNil))))) [6, 7, 8, 9])
def turnedM : EM := (mLc (mWalk (mVar 3)) (gTupM 4 (gsCons (gVar 6) (gsCons (gVar 7) (gsCons (gVar 8) (gsCons (gVar 9) gsNil))))) bYes (mOA opTup (aCons (mVar 9) (aCons (mO2 opAdd (mVar 7) (mVar 8)) (aCons (mO1 opNeg (mVar 8)) (aCons (mVar 6) aNil))))) [6, 7, 8, 9])
def atM : EM := (mDc (mEnum (aCons (mVar 1) aNil)) (gTupM 2 (gsCons (gVar 5) (gsCons (gVar 6) gsNil))) bYes (mVar 6) (mVar 5) [5, 6])
def walksM : SM := (mSeq (mFst xA atM (mVar 0)) (mSeq (mSet 3 (onwardM xA)) (mSeq (mSet 4 turnedM) (mSeq (mFst xW (mOA opTup (aCons (mVar 3) (aCons (mVar 4) aNil))) (mVar 0)) (mSeq (mFst xT mDict0 (mVar 0)) (mFst xC (mCall (mFn 2 5 commonM) (aCons (mVar 3) (aCons (mOA (un1 opLen) (aCons (mVar 1) aNil)) aNil))) (mVar 0)))))))
end
theorem at_is {ss : SS} {h : SH} {A : Nat} {ps : List Str} (hl : ss.length = 10) (s1 : ss[1]? = some (some (.ref A))) (pl : Pls h A ps) (ok : PsOk ps) {P : SV → SH → Prop} (p : ∀ h' D kvs, Le h h' → h.length ≤ D → h'[D]? = some (.dK kvs) → Nums2 ps ps.length kvs → P (.ref D) h') : Is (atM ss h) P := by
  unfold atM
  have four := ok.four
  refine Is.dc (Is.enum (Is.acons (Is.var s1 (Is.anil ⟨A, _, rfl, pl.at_, ps.length, fun k acc h' => Le h h' ∧ Nums2 ps k acc, by unfold many; omega, ⟨Le.push _ _, ⟨Nat.le_refl _, fun i _ hi => by omega, fun x hx => absurd rfl hx⟩⟩, ?_, ?_⟩))))
  · rintro k acc h' hk hD ⟨le, nu⟩
    have ek : ps[k]? = some ps[k] := List.getElem?_eq_getElem hk
    refine ⟨_, _, _, wkEnum_at (le _ _ pl.at_) (by rw [List.getElem?_map, ek]; rfl), g2_is (new_at _ _), ?_⟩
    show Is (Res.ok true _) _
    refine is_ok ?_
    rw [if_pos rfl]
    refine Is.var (v := .str ps[k]) (gx (n := 10) (by simp [wipeS, hl]) (by decide)) (Is.var (v := .int (k : Nat)) (gs (gx (n := 10) (by simp [wipeS, hl]) (by decide)) (by decide)) ⟨_, rfl, Le.push _ _ _ _ hD, small_lt (by have := nu.len; omega), fun j o ej => ?_, nu.put ok.nd ek⟩)
    have hj : h.length ≠ j := by have := lt_of ej; omega
    rw [set_ne hj]
    exact Le.push _ _ _ _ (le _ _ ej)
  · rintro acc h' hD ⟨le, nu⟩
    have w := wkEnum_end (le _ _ pl.at_)
    rw [List.length_map] at w
    exact ⟨w, p h' _ acc le (Nat.le_refl _) hD nu⟩
theorem set4 {ss : SS} {n : Nat} (hl : ss.length = n) (hn : 10 ≤ n) {a b c d : SV} : ∃ s, s = ((((wipeS ss [6, 7, 8, 9]).set 6 (some a)).set 7 (some b)).set 8 (some c)).set 9 (some d) ∧ s.length = n ∧ s[6]? = some (some a) ∧ s[7]? = some (some b) ∧ s[8]? = some (some c) ∧ s[9]? = some (some d) ∧ ∀ i, i < 6 → s[i]? = ss[i]? := by
  refine ⟨_, rfl, by simp [wipeS, hl], ?_, ?_, ?_, ?_, fun i hi => ?_⟩
  · exact gs (gs (gs (gx (n := n) (by simp [wipeS, hl]) (by omega)) (by decide)) (by decide)) (by decide)
  · exact gs (gs (gx (n := n) (by simp [wipeS, hl]) (by omega)) (by decide)) (by decide)
  · exact gs (gx (n := n) (by simp [wipeS, hl]) (by omega)) (by decide)
  · exact gx (n := n) (by simp [wipeS, hl]) (by omega)
  · rw [List.getElem?_set_ne (by omega), List.getElem?_set_ne (by omega), List.getElem?_set_ne (by omega), List.getElem?_set_ne (by omega)]
    show ((((ss.set 9 none).set 8 none).set 7 none).set 6 none)[i]? = ss[i]?
    rw [List.getElem?_set_ne (by omega), List.getElem?_set_ne (by omega), List.getElem?_set_ne (by omega), List.getElem?_set_ne (by omega)]
theorem onward_is {xA : List (Option Nat)} {c o D : Nat} {vs : List SV} {ss : SS} {h : SH} {M : Nat} {ps : List Str} {ms : List Nm} {kvs : List (Key × SV)} (hl : ss.length = 10) (s0 : ss[0]? = some (some (.ref o))) (s2 : ss[2]? = some (some (.ref M))) (ho : h[o]? = some (.ins c (.ref D :: vs))) (eA : xA[c]? = some (some 0)) (hD : h[D]? = some (.dK kvs)) (nu : Nums2 ps ps.length kvs)
    (mv : Mvn h M ms) (few : ms.length ≤ 10) (four : ps.length ≤ 4) (mok : ∀ m ∈ ms, Nm.Ok ps m) {P : SV → SH → Prop} (p : ∀ h' A ms', Le h h' → Mvs h' A ms' ps.length → P (.ref A) h') : Is (onwardM xA ss h) P := by
  unfold onwardM
  obtain ⟨ts, eM, hts, z⟩ := mv
  refine Is.lc (Is.walkL (Is.var s2 ⟨M, _, rfl, eM, ts.length, fun k acc h' => Le h h' ∧ ∃ (us : List Nat) (ms' : List Mv), acc = us.map SV.ref ∧ us.length = k ∧ us.length = ms'.length ∧ ∀ (i t : Nat), us[i]? = some t → t ≠ h.length ∧ ∃ p l c o, ms'[i]? = some (p, l, c, o) ∧ h'[t]? = some (.tup [.int p, .int l, .int c, .int o]) ∧ 0 ≤ p ∧ p < ps.length ∧ 0 ≤ o ∧ o < ps.length ∧ -4 ≤ c ∧ c ≤ 4, by unfold many; omega, ⟨Le.push _ _, [], [], rfl, rfl, rfl, fun i t e => by simp at e⟩, ?_, ?_⟩))
  · rintro k acc h' hk hDl ⟨le, us, ms', rfl, hu, hm, zz⟩
    have ek : ts[k]? = some ts[k] := List.getElem?_eq_getElem hk
    obtain ⟨m, em, et⟩ := z k _ ek
    have mo := mok m (List.mem_of_getElem? em)
    obtain ⟨s, es, sl, t6, t7, t8, t9, told⟩ := set4 hl (by decide) (a := .str m.p) (b := .int m.l) (c := .int m.c) (d := .str m.o)
    refine ⟨_, _, _, wkL_at (le _ _ eM) (by rw [List.getElem?_map, ek]; rfl), g4_is (le _ _ et), ?_⟩
    rw [← es]
    show Is (Res.ok true _) _
    refine is_ok ?_
    rw [if_pos rfl]
    obtain ⟨i, i0, i1, ei⟩ := num_of mo.hp
    obtain ⟨j, j0, j1, ej⟩ := num_of mo.ho
    have gi := nu.get i.toNat m.p (by omega) ei
    have gj := nu.get j.toNat m.o (by omega) ej
    have ti : ((i.toNat : Nat) : Int) = i := Int.toNat_of_nonneg i0
    have tj : ((j.toNat : Nat) : Int) = j := Int.toNat_of_nonneg j0
    rw [ti] at gi
    rw [tj] at gj
    have z0 := (told 0 (by omega)).trans s0
    refine Is.oa (Is.acons (Is.o2 (Is.o1 (Is.var z0 (fld_is (le _ _ ho) eA rfl (Is.var t6 (ixD (le _ _ hD) rfl gi ?_)))))))
    refine Is.acons (Is.var t7 (Is.acons (Is.var t8 (Is.acons (Is.o2 (Is.o1 (Is.var z0 (fld_is (le _ _ ho) eA rfl (Is.var t9 (ixD (le _ _ hD) rfl gj (Is.anil (tup_is (small_big (by simp)) ?_))))))))))))
    have hlt := lt_of hDl
    refine ⟨Le.push _ _ _ _ hDl, small_lt (by simp; omega), fun q u eq => ?_, us ++ [h'.length], ms' ++ [(i, m.l, m.c, j)], by simp, by simp [hu], by simp [hm], fun q t eq => ?_⟩
    · have hq : h.length ≠ q := by have := lt_of eq; omega
      rw [set_ne hq]
      exact Le.push _ _ _ _ (le _ _ eq)
    · by_cases hq : q < us.length
      · rw [List.getElem?_append_left hq] at eq
        obtain ⟨nt, a, b, c, d, e1, e2, e3⟩ := zz q t eq
        exact ⟨nt, a, b, c, d, by rw [List.getElem?_append_left (by omega)]; exact e1, by rw [set_ne (Ne.symm nt)]; exact Le.push _ _ _ _ e2, e3⟩
      · have hq2 : q = us.length := by have := (List.getElem?_eq_some_iff.mp eq).1; simp at this; omega
        subst hq2
        rw [List.getElem?_append_right (Nat.le_refl _)] at eq
        simp at eq
        subst eq
        exact ⟨by omega, i, m.l, m.c, j, by rw [hm, List.getElem?_append_right (Nat.le_refl _)]; simp, by rw [set_ne (by omega)]; exact new_at _ _, i0, i1, j0, j1, mo.c0, mo.c4⟩
  · rintro acc h' hDl ⟨le, us, ms', rfl, hu, hm, zz⟩
    have w := wkL_end (le _ _ eM)
    rw [List.length_map] at w
    exact ⟨w, p h' _ ms' le ⟨⟨us, hDl, hm, fun i t e => (zz i t e).2⟩, by omega, by omega⟩⟩
theorem turned_is {ss : SS} {h : SH} {A : Nat} {ms : List Mv} {n : Int} (hl : ss.length = 10) (s3 : ss[3]? = some (some (.ref A))) (mv : Mvs h A ms n) {P : SV → SH → Prop} (p : ∀ h' B, Le h h' → P (.ref B) h') : Is (turnedM ss h) P := by
  unfold turnedM
  have few := mv.few
  obtain ⟨⟨ts, eM, hts, z⟩, _, _⟩ := mv
  refine Is.lc (Is.walkL (Is.var s3 ⟨A, _, rfl, eM, ts.length, fun k acc h' => Le h h' ∧ acc.length = k, by unfold many; omega, ⟨Le.push _ _, rfl⟩, ?_, ?_⟩))
  · rintro k acc h' hk hDl ⟨le, ha⟩
    have ek : ts[k]? = some ts[k] := List.getElem?_eq_getElem hk
    obtain ⟨pp, l, c, o, em, et, _⟩ := z k _ ek
    obtain ⟨s, es, sl, t6, t7, t8, t9, told⟩ := set4 hl (by decide) (a := .int pp) (b := .int l) (c := .int c) (d := .int o)
    refine ⟨_, _, _, wkL_at (le _ _ eM) (by rw [List.getElem?_map, ek]; rfl), g4_is (le _ _ et), ?_⟩
    rw [← es]
    show Is (Res.ok true _) _
    refine is_ok ?_
    rw [if_pos rfl]
    refine Is.oa (Is.acons (Is.var t9 (Is.acons (Is.o2 (Is.var t7 (Is.var t8 ⟨_, _, rfl, Is.acons (Is.o1 (Is.var t8 ⟨_, _, rfl, Is.acons (Is.var t6 (Is.anil (tup_is (small_big (by simp)) ?_)))⟩))⟩))))))
    refine ⟨Le.push _ _ _ _ hDl, small_lt (by omega), fun q u eq => ?_, by simp [ha]⟩
    have hq : h.length ≠ q := by have := lt_of eq; omega
    rw [set_ne hq]
    exact Le.push _ _ _ _ (le _ _ eq)
  · rintro acc h' hDl ⟨le, ha⟩
    have w := wkL_end (le _ _ eM)
    rw [List.length_map] at w
    exact ⟨w, p h' _ le⟩
theorem walks_is {xA xW xT xC : List (Option Nat)} {c : Nat} (eA : xA[c]? = some (some 0)) (eW : xW[c]? = some (some 1)) (eT : xT[c]? = some (some 2)) (eC : xC[c]? = some (some 3)) {h0 : SH} {A M : Nat} {ps : List Str} {ms : List Nm} (pl : Pls h0 A ps) (mv : Mvn h0 M ms) (ok : PsOk ps) (mok : ∀ m ∈ ms, Nm.Ok ps m) (few : ms.length ≤ 10) :
    Is (mFn 3 10 (walksM xA xW xT xC) [.ref h0.length, .ref A, .ref M] (h0 ++ [.ins c []])) fun v h' => v = .non ∧ Le h0 h' ∧ ∃ vs, h'[h0.length]? = some (.ins c vs) := by
  refine Is.fn rfl ?_
  unfold walksM
  have n0 := new_at h0 (.ins c [])
  have l0 := Le.push h0 (.ins c [])
  generalize h0 ++ [SO.ins c []] = hA at n0 l0 ⊢
  refine Ist.seq (Ist.fst (at_is rfl rfl (pl.le l0) ok fun h1 D kvs l1 hd eD nu => Is.var (v := .ref h0.length) rfl (fst_is (l1 _ _ n0) eA rfl ?_)))
  have hDo : h0.length ≠ D := by have := lt_of n0; omega
  have n1 : (h1.set h0.length (.ins c ([] ++ [.ref D])))[h0.length]? = some (.ins c [.ref D]) := set_at (l1 _ _ n0)
  have eD1 : (h1.set h0.length (.ins c ([] ++ [.ref D])))[D]? = some (.dK kvs) := by rw [set_ne hDo]; exact eD
  have le1 : Le h0 (h1.set h0.length (.ins c ([] ++ [.ref D]))) := le_set (l0.trans l1) (Nat.le_refl _)
  generalize h1.set h0.length (SO.ins c ([] ++ [.ref D])) = h2 at n1 eD1 le1 ⊢
  refine Ist.seq (Ist.set (onward_is rfl rfl rfl n1 eA eD1 nu (mv.le le1) few ok.four mok fun h3 B ms' l3 mvs => ?_))
  refine Ist.seq (Ist.set (turned_is (A := B) rfl rfl mvs fun h4 B2 l4 => ?_))
  have n4 := l4 _ _ (l3 _ _ n1)
  refine Ist.seq (Ist.fst (Is.oa (Is.acons (Is.var (v := .ref B) rfl (Is.acons (Is.var (v := .ref B2) rfl (Is.anil (tup_is (small_big (by simp)) (Is.var (v := .ref h0.length) rfl (fst_is (Le.push _ _ _ _ n4) eW rfl ?_))))))))))
  have n5 : ((h4 ++ [SO.tup [.ref B, .ref B2]]).set h0.length (.ins c ([.ref D] ++ [.ref h4.length])))[h0.length]? = some (.ins c [.ref D, .ref h4.length]) := set_at (Le.push _ _ _ _ n4)
  have le5 : Le h0 ((h4 ++ [SO.tup [.ref B, .ref B2]]).set h0.length (.ins c ([.ref D] ++ [.ref h4.length]))) := le_set (((le1.trans l3).trans l4).trans (Le.push _ _)) (Nat.le_refl _)
  have mvs5 : Mvs ((h4 ++ [SO.tup [.ref B, .ref B2]]).set h0.length (.ins c ([.ref D] ++ [.ref h4.length]))) B ms' ps.length := by
    have m4 := (mvs.le l4).le (Le.push h4 (.tup [.ref B, .ref B2]))
    have n4' := Le.push h4 (.tup [.ref B, .ref B2]) _ _ n4
    obtain ⟨⟨ts, e, hl, z⟩, f, g⟩ := m4
    refine ⟨⟨ts, by rw [set_ne (fun w => by have q := n4'; rw [w] at q; rw [q] at e; cases e)]; exact e, hl, fun i t et => ?_⟩, f, g⟩
    obtain ⟨p, l, cc, o, a, b, d⟩ := z i t et
    exact ⟨p, l, cc, o, a, by rw [set_ne (fun w => by have q := n4'; rw [w] at q; rw [q] at b; cases b)]; exact b, d⟩
  generalize (h4 ++ [SO.tup [.ref B, .ref B2]]).set h0.length (SO.ins c ([.ref D] ++ [.ref h4.length])) = h5 at n5 le5 mvs5 ⊢
  refine Ist.seq (Ist.fst (Is.dict0 (Is.var (v := .ref h0.length) rfl (fst_is (Le.push _ _ _ _ n5) eT rfl ?_))))
  have n6 : ((h5 ++ [SO.dK []]).set h0.length (.ins c ([.ref D, .ref h4.length] ++ [.ref h5.length])))[h0.length]? = some (.ins c [.ref D, .ref h4.length, .ref h5.length]) := set_at (Le.push _ _ _ _ n5)
  have le6 : Le h0 ((h5 ++ [SO.dK []]).set h0.length (.ins c ([.ref D, .ref h4.length] ++ [.ref h5.length]))) := le_set (le5.trans (Le.push _ _)) (Nat.le_refl _)
  have mvs6 : Mvs ((h5 ++ [SO.dK []]).set h0.length (.ins c ([.ref D, .ref h4.length] ++ [.ref h5.length]))) B ms' ps.length := by
    have m4 := mvs5.le (Le.push h5 (.dK []))
    have n4' := Le.push h5 (.dK []) _ _ n5
    obtain ⟨⟨ts, e, hl, z⟩, f, g⟩ := m4
    refine ⟨⟨ts, by rw [set_ne (fun w => by have q := n4'; rw [w] at q; rw [q] at e; cases e)]; exact e, hl, fun i t et => ?_⟩, f, g⟩
    obtain ⟨p, l, cc, o, a, b, d⟩ := z i t et
    exact ⟨p, l, cc, o, a, by rw [set_ne (fun w => by have q := n4'; rw [w] at q; rw [q] at b; cases b)]; exact b, d⟩
  have pl6 := pl.le le6
  generalize (h5 ++ [SO.dK []]).set h0.length (SO.ins c ([.ref D, .ref h4.length] ++ [.ref h5.length])) = h6 at n6 le6 mvs6 pl6 ⊢
  refine Ist.fst (Is.call (Is.acons (Is.var (v := .ref B) rfl (Is.acons (Is.oa (Is.acons (Is.var (v := .ref A) rfl (Is.anil ⟨.int (ps.length : Nat), h6, ?_, ?_⟩))))))))
  · show opLen (.ref A) h6 = _
    unfold opLen
    simp only [pl6.at_]
    rw [List.length_map]
  · with_reducible refine Is.anil ?_
    have n0' : (0 : Int) ≤ ((ps.length : Nat) : Int) := by omega
    with_reducible refine common_is mvs6 n0' ?_
    intro s h7 s1 s2 l7
    refine Is.var (v := .ref h0.length) rfl (fst_is (l7 _ _ n6) eC rfl ⟨rfl, le_set (le6.trans l7) (Nat.le_refl _), _, set_at (l7 _ _ n6)⟩)
end Fw
namespace Fw
open PySem PySem.Spec L2
/-! ### a program is made: its parts are looked through -/
structure NmOk (z : Str) : Prop where
  one : 1 ≤ z.length
  eight : z.length ≤ 8
  az : ∀ c ∈ z.cps, 97 ≤ c ∧ c ≤ 122
theorem lt1 (c d : Nat) : decide ([c] < [d]) = decide (c < d) := by
  by_cases h : c < d
  · rw [decide_eq_true h]
    exact decide_eq_true (List.Lex.rel h)
  · rw [decide_eq_false h]
    refine decide_eq_false fun z => ?_
    cases z with
    | rel z => exact h z
    | cons z => cases z
def nameM (iS : Tag → Option Bool) : SM := (mSeq (mIfS (bOr (bNot (mB (mO1 (opIsi iS) (mVar 0)))) (bNot (mB (mChain opLe opLe (mC (.int 1)) (mOA (un1 opLen) (aCons (mVar 0) aNil)) (mC (.int 8)))))) (mRet (mC (.bl false))) mNil) (mRet (mOA (un1 opAll) (aCons (mLc (mWalk (mVar 0)) (gVar 1) bYes (mChain opLe opLe (mC (.str "a")) (mVar 1) (mC (.str "z"))) [1]) aNil))))
theorem boolsOf_rep : ∀ n, boolsOf (List.replicate n (.bl true)) = some (List.replicate n true)
  | 0 => rfl
  | n + 1 => by
    rw [List.replicate_succ, List.replicate_succ]
    unfold boolsOf
    simp only [boolsOf_rep n]
theorem walkStr_is {ss : SS} {h : SH} {m : EM} {z : Str} {P : Wk → SH → Prop} (x : Is (m ss h) fun v h1 => v = .str z ∧ P (wkStr z) h1) : Is (mWalk m ss h) P := Is.bind (x.mono fun v h1 ⟨e, p⟩ => by subst e; exact p)
theorem name_is {iS : Tag → Option Bool} (eS : iS .str = some true) {z : Str} (ok : NmOk z) {h : SH} {P : SV → SH → Prop} (p : ∀ h', Le h h' → P (.bl true) h') : Is (mFn 1 2 (nameM iS) [.str z] h) P := by
  refine Is.fn rfl ?_
  unfold nameM
  have h8 := ok.eight
  have h1 := ok.one
  have ob : z.length ≤ big := small_big (by omega)
  refine Ist.seq (Ist.ite (Is.bor (Is.bnot (Is.bm (Is.o1 (Is.var (v := .str z) rfl (isi_t (t := .str) (b := true) rfl eS ⟨true, rfl, ?_⟩)))))))
  rw [if_neg (by decide)]
  have ln : ∀ hh : SH, un1 opLen [.str z] hh = some (.int (z.length : Nat), hh) := fun hh => by
    show opLen (.str z) hh = _
    unfold opLen
    exact if_pos ob
  refine Is.bnot (Is.bm (Is.chain (Is.c (Is.oa (Is.acons (Is.var (v := .str z) rfl (Is.anil ⟨_, _, ln h, .bl true, h, ?_, .inl ⟨rfl, Is.c ⟨.bl true, h, ?_, true, rfl, ?_⟩⟩⟩))))))) 
  · show some (SV.bl (decide ((1 : Int) ≤ (z.length : Nat))), h) = _
    rw [decide_eq_true (by omega)]
  · show some (SV.bl (decide (((z.length : Nat) : Int) ≤ 8)), h) = _
    rw [decide_eq_true (by omega)]
  rw [if_neg (by decide)]
  refine Ist.nil (Ist.ret (Is.oa (Is.acons (Is.lc (walkStr_is (Is.var (v := .str z) rfl ⟨rfl, z.cps.size, fun k acc h' => Le h h' ∧ acc = List.replicate k (.bl true), by have : z.cps.size = z.length := rfl; unfold many; omega, ⟨Le.push _ _, rfl⟩, ?_, ?_⟩))))))
  · rintro k acc h' hk hD ⟨le, rfl⟩
    have ec : z.cps[k]? = some z.cps[k] := Array.getElem?_eq_getElem hk
    obtain ⟨a1, a2⟩ := ok.az _ (Array.getElem_mem hk)
    refine ⟨.str ⟨#[z.cps[k]]⟩, h', _, by unfold wkStr; simp only [ec], rfl, ?_⟩
    show Is (Res.ok true h') _
    refine is_ok ?_
    rw [if_pos rfl]
    refine Is.chain (Is.c (Is.var (v := .str ⟨#[z.cps[k]]⟩) rfl ⟨.bl true, h', ?_, .inl ⟨rfl, Is.c ⟨.bl true, h', ?_, hD, small_lt (by have : z.cps.size = z.length := rfl; simp; omega), fun j o ej => ?_, by rw [List.replicate_succ']⟩⟩⟩))
    · show some (SV.bl (!decide ([z.cps[k]] < [97])), h') = _
      rw [lt1, decide_eq_false (by omega)]; rfl
    · show some (SV.bl (!decide ([122] < [z.cps[k]])), h') = _
      rw [lt1, decide_eq_false (by omega)]; rfl
    · have hj : h.length ≠ j := by have := lt_of ej; omega
      rw [set_ne hj]; exact le _ _ ej
  · rintro acc h' hD ⟨le, rfl⟩
    refine ⟨by unfold wkStr; simp, Is.anil ⟨.bl true, h', ?_, p h' le⟩⟩
    show opAll (.ref h.length) h' = _
    unfold opAll
    simp only [hD, boolsOf_rep]
    congr 3
    simp
theorem inS {j : Nat} {ps : List Str} {x : Str} {h : SH} {P : SV → SH → Prop} (e : h[j]? = some (.lst (ps.map SV.str))) (p : P (.bl (decide (x ∈ ps))) h) : ∃ w h3, opIn false (.str x) (.ref j) h = some (w, h3) ∧ P w h3 := by
  refine ⟨_, _, ?_, p⟩
  unfold opIn
  simp only [e]
  have f1 : (ps.map SV.str).all flatS = true := by simp [flatS]
  have f2 : flatS (.str x) = true := rfl
  rw [f1, f2]
  rw [if_pos (by rfl)]
  congr 3
  rw [List.any_map]
  show (if false = true then _ else _) = _
  rw [if_neg Bool.false_ne_true, Bool.eq_iff_iff]
  simp only [List.any_eq_true, decide_eq_true_eq, Function.comp]
  constructor
  · rintro ⟨y, hy, e⟩
    have : y = x := by unfold eqS at e; exact eq_of_beq e
    rw [← this]; exact hy
  · intro hx
    exact ⟨x, hx, by unfold eqS; exact beq_self_eq_true x⟩
def checkPM (rL rE : Nat) (iL iS : Tag → Option Bool) : SM := (mSeq (mIfS (bOr (bNot (mB (mO1 (opIsi iL) (mVar 0)))) (bNot (mB (mChain opLe opLe (mC (.int 1)) (mOA (un1 opLen) (aCons (mVar 0) aNil)) (mC (.int 4)))))) (mRaise rL 1 (aCons (mVar 0) aNil)) mNil) (mFor (mEnum (aCons (mVar 0) aNil)) (gTupM 2 (gsCons (gVar 1) (gsCons (gVar 2) gsNil))) (mIfS (bOr (bNot (mTru (mCall (mFn 1 2 (nameM iS)) (aCons (mVar 2) aNil)))) (mB (mO2 (opIn false) (mVar 2) (mCut (mVar 0) pNone (pSome (mVar 1)))))) (mRaise rE 1 (aCons (mVar 2) aNil)) mNil)))
theorem cut_take (xs : List SV) (k : Nat) (h : k ≤ xs.length) : cutS xs none (some (k : Int)) = xs.take k := by
  unfold cutS
  have e1 : HT.sIx xs.length 0 none = 0 := rfl
  have e2 : HT.sIx xs.length xs.length (some (k : Int)) = k := by
    unfold HT.sIx
    simp [show ¬ ((k : Int) < 0) from by omega]
    omega
  rw [e1, e2]
  simp
end Fw
namespace Fw
open PySem PySem.Spec L2
theorem len_is {A : Nat} {xs : List SV} {h : SH} {P : SV → SH → Prop} (e : h[A]? = some (.lst xs)) (p : P (.int (xs.length : Nat)) h) : ∃ v h3, un1 opLen [.ref A] h = some (v, h3) ∧ P v h3 :=
  ⟨_, _, by show opLen (.ref A) h = _; unfold opLen; simp only [e], p⟩
theorem lenT_is {A : Nat} {xs : List SV} {h : SH} {P : SV → SH → Prop} (e : h[A]? = some (.tup xs)) (p : P (.int (xs.length : Nat)) h) : ∃ v h3, un1 opLen [.ref A] h = some (v, h3) ∧ P v h3 :=
  ⟨_, _, by show opLen (.ref A) h = _; unfold opLen; simp only [e], p⟩
theorem Is.cut {ss : SS} {h : SH} {P : SV → SH → Prop} {m : EM} {pl pu : PM} (x : Is (m ss h) fun v h1 => Is (pl ss h1) fun lo h2 => Is (pu ss h2) fun hi h3 => ∃ i xs, v = .ref i ∧ h3[i]? = some (.lst xs) ∧ P (.ref h3.length) (h3 ++ [.lst (cutS xs lo hi)])) : Is (mCut m pl pu ss h) P :=
  Is.bind (x.mono fun v h1 y => Is.bind (y.mono fun lo h2 z => Is.bind (z.mono fun hi h3 ⟨i, xs, ev, e, p⟩ => by
    subst ev
    refine Is.lift ⟨_, _, ?_, p⟩
    unfold opCut
    simp only [e]
    rfl)))
theorem Is.pN {ss : SS} {h : SH} {P : Option Int → SH → Prop} (p : P none h) : Is (pNone ss h) P := p
theorem Is.pS {ss : SS} {h : SH} {P : Option Int → SH → Prop} {m : EM} (x : Is (m ss h) fun v h1 => ∃ i, v = .int i ∧ P (some i) h1) : Is (pSome m ss h) P := Is.bind (x.mono fun v h1 ⟨i, e, p⟩ => by subst e; exact p)
theorem checkP_is {rL rE : Nat} {iL iS : Tag → Option Bool} (eL : iL .lst = some true) (eS : iS .str = some true) {h : SH} {A : Nat} {ps : List Str} (pl : Pls h A ps) (ok : PsOk ps) (nm : ∀ p ∈ ps, NmOk p) {P : SV → SH → Prop} (p : ∀ h', Le h h' → P .non h') : Is (mFn 1 3 (checkPM rL rE iL iS) [.ref A] h) P := by
  refine Is.fn rfl ?_
  unfold checkPM
  have o1 := ok.one
  have o4 := ok.four
  have e := pl.at_
  refine Ist.seq (Ist.ite (Is.bor (Is.bnot (Is.bm (Is.o1 (Is.var (v := .ref A) rfl (isi_t (t := .lst) (b := true) (tag_lst e) eL ⟨true, rfl, ?_⟩)))))))
  rw [if_neg (by decide)]
  refine Is.bnot (Is.bm (Is.chain (Is.c (Is.oa (Is.acons (Is.var (v := .ref A) rfl (Is.anil (len_is e ⟨.bl true, h, ?_, .inl ⟨rfl, Is.c ⟨.bl true, h, ?_, true, rfl, ?_⟩⟩⟩))))))))
  · show some (SV.bl (decide ((1 : Int) ≤ (((ps.map SV.str).length : Nat) : Int))), h) = _
    rw [decide_eq_true (by simp; omega)]
  · show some (SV.bl (decide ((((ps.map SV.str).length : Nat) : Int) ≤ 4)), h) = _
    rw [decide_eq_true (by simp; omega)]
  rw [if_neg (by decide)]
  refine Ist.nil (Ist.for (Is.enum (Is.acons (Is.var (v := .ref A) rfl (Is.anil ⟨A, _, rfl, e, ps.length, fun k s h' => s.length = 3 ∧ s[0]? = some (some (.ref A)) ∧ Le h h', by unfold many; omega, ⟨rfl, rfl, Le.refl _⟩, ?_, ?_⟩)))))
  · rintro k s h' hk ⟨len, q0, le⟩
    have ek : ps[k]? = some ps[k] := List.getElem?_eq_getElem hk
    refine ⟨_, _, _, wkEnum_at (le _ _ e) (by rw [List.getElem?_map, ek]; rfl), g2_is (new_at _ _), ?_⟩
    have le1 := le.trans (Le.push h' (.tup [.int (k : Nat), .str ps[k]]))
    generalize h' ++ [SO.tup [.int (k : Nat), .str ps[k]]] = h1 at le1 ⊢
    have t0 := gs (gs q0 (show 1 ≠ 0 by decide) (x := some (SV.int (k : Nat)))) (show 2 ≠ 0 by decide) (x := some (SV.str ps[k]))
    have t1 : ((s.set 1 (some (SV.int (k : Nat)))).set 2 (some (SV.str ps[k])))[1]? = some (some (.int (k : Nat))) := gs (gx len (by decide)) (by decide)
    have t2 : ((s.set 1 (some (SV.int (k : Nat)))).set 2 (some (SV.str ps[k])))[2]? = some (some (.str ps[k])) := gx (n := 3) (by simp [len]) (by decide)
    have tl : ((s.set 1 (some (SV.int (k : Nat)))).set 2 (some (SV.str ps[k]))).length = 3 := by simp [len]
    generalize ((s.set 1 (some (SV.int (k : Nat)))).set 2 (some (SV.str ps[k]))) = s1 at t0 t1 t2 tl ⊢
    refine Ist.ite (Is.bor (Is.bnot (Is.tru (Is.call (Is.acons (Is.var t2 (Is.anil (name_is eS (nm _ (List.getElem_mem hk)) fun h2 le2 => ?_))))))))
    refine tru_is ?_
    rw [if_neg (by decide)]
    have le3 := le1.trans le2
    refine Is.bm (Is.o2 (Is.var t2 (Is.cut (Is.var t0 (Is.pN (Is.pS (Is.var t1 ⟨_, rfl, A, _, rfl, le3 _ _ e, ?_⟩)))))))
    have ec : cutS (ps.map SV.str) none (some ((k : Nat) : Int)) = (ps.take k).map SV.str := by
      rw [cut_take _ _ (by simp; omega), List.map_take]
    rw [ec]
    refine inS (new_at _ _) ⟨_, rfl, ?_⟩
    have no : ps[k] ∉ ps.take k := fun hm => by
      obtain ⟨i, hi, ei⟩ := List.getElem_of_mem hm
      have hik : i < k := by simp at hi; omega
      have e1 : ps[i]? = some ps[k] := by rw [List.getElem?_eq_getElem (by omega), ← ei]; simp
      have := nd_ix ok.nd e1 ek
      omega
    rw [if_neg (by simpa using no)]
    exact Ist.nil ⟨tl, t0, le3.trans (Le.push _ _)⟩
  · rintro s h' ⟨len, q0, le⟩
    have w := wkEnum_end (le _ _ e)
    rw [List.length_map] at w
    exact ⟨w, p h' le⟩
/-- is_whole, is_between, _is_among, is_move -/
def wholeM (iI iB : Tag → Option Bool) : SM := mRet (mAnd (mO1 (opIsi iI) (mVar 0)) (mNot (mO1 (opIsi iB) (mVar 0))))
def betwM (iI iB : Tag → Option Bool) : SM := mRet (mAnd (mCall (mFn 1 1 (wholeM iI iB)) (aCons (mVar 0) aNil)) (mChain opLe opLe (mVar 1) (mVar 0) (mVar 2)))
def amongM (iS : Tag → Option Bool) : SM := mRet (mAnd (mO1 (opIsi iS) (mVar 0)) (mO2 (opIn false) (mVar 0) (mVar 1)))
theorem whole_is {iI iB : Tag → Option Bool} (eI : iI .int = some true) (eB : iB .int = some false) {i : Int} {h : SH} {P : SV → SH → Prop} (p : P (.bl true) h) : Is (mFn 1 1 (wholeM iI iB) [.int i] h) P := by
  refine Is.fn rfl ?_
  unfold wholeM
  exact Ist.ret (Is.andV (Is.o1 (Is.var (v := .int i) rfl (isi_t (t := .int) (b := true) rfl eI (.inl ⟨rfl, Is.notV (Is.o1 (Is.var (v := .int i) rfl (isi_t (t := .int) (b := false) rfl eB ⟨false, rfl, p⟩)))⟩)))))
theorem betw_is {iI iB : Tag → Option Bool} (eI : iI .int = some true) (eB : iB .int = some false) {i lo hi : Int} {h : SH} (h0 : lo ≤ i) (h1 : i ≤ hi) {P : SV → SH → Prop} (p : P (.bl true) h) : Is (mFn 3 3 (betwM iI iB) [.int i, .int lo, .int hi] h) P := by
  refine Is.fn rfl ?_
  unfold betwM
  refine Ist.ret (Is.andV (Is.call (Is.acons (Is.var (v := .int i) rfl (Is.anil (whole_is eI eB (.inl ⟨rfl, ?_⟩)))))))
  refine Is.chain (Is.var (v := .int lo) rfl (Is.var (v := .int i) rfl ⟨.bl true, h, ?_, .inl ⟨rfl, Is.var (v := .int hi) rfl ⟨.bl true, h, ?_, p⟩⟩⟩))
  · show some (SV.bl (decide (lo ≤ i)), h) = _
    rw [decide_eq_true h0]
  · show some (SV.bl (decide (i ≤ hi)), h) = _
    rw [decide_eq_true h1]
theorem among_is {iS : Tag → Option Bool} (eS : iS .str = some true) {A : Nat} {ps : List Str} {x : Str} {h : SH} (pl : Pls h A ps) (hx : x ∈ ps) {P : SV → SH → Prop} (p : P (.bl true) h) : Is (mFn 2 2 (amongM iS) [.str x, .ref A] h) P := by
  refine Is.fn rfl ?_
  unfold amongM
  refine Ist.ret (Is.andV (Is.o1 (Is.var (v := .str x) rfl (isi_t (t := .str) (b := true) rfl eS (.inl ⟨rfl, Is.o2 (Is.var (v := .str x) rfl (Is.var (v := .ref A) rfl (inS pl.at_ ?_)))⟩)))))
  rw [decide_eq_true hx]
  exact p
def moveM (iT iS iI iB : Tag → Option Bool) : SM := (mSeq (mIfS (bOr (bNot (mB (mO1 (opIsi iT) (mVar 0)))) (mB (mO2 (eqD true) (mOA (un1 opLen) (aCons (mVar 0) aNil)) (mC (.int 4))))) (mRet (mC (.bl false))) mNil) (mSeq (mAsg (gTupM 4 (gsCons (gVar 2) (gsCons (gVar 3) (gsCons (gVar 4) (gsCons (gVar 5) gsNil))))) (mVar 0)) (mSeq (mIfS (bOr (bNot (mTru (mCall (mFn 2 2 (amongM iS)) (aCons (mVar 2) (aCons (mVar 1) aNil))))) (bNot (mTru (mCall (mFn 2 2 (amongM iS)) (aCons (mVar 5) (aCons (mVar 1) aNil)))))) (mRet (mC (.bl false))) mNil) (mSeq (mIfS (bOr (bNot (mTru (mCall (mFn 3 3 (betwM iI iB)) (aCons (mVar 3) (aCons (mC (.int 0)) (aCons (mC (.int 8)) aNil)))))) (bNot (mTru (mCall (mFn 3 3 (betwM iI iB)) (aCons (mVar 4) (aCons (mO1 opNeg (mC (.int 4))) (aCons (mC (.int 4)) aNil))))))) (mRet (mC (.bl false))) mNil) (mRet (mChain opLe opLe (mC (.int 0)) (mO2 opAdd (mVar 3) (mVar 4)) (mC (.int 8))))))))
theorem Ist.asg {g : GM} {m : EM} {ss : SS} {h : SH} {N B C : SS → SH → Prop} {R : SV → SH → Prop} (x : Is (m ss h) fun v h1 => ∃ ss', g v ss h1 = some ss' ∧ N ss' h1) : Ist (mAsg g m ss h) N R B C := by
  refine Ist.then (x.mono fun v h1 ⟨ss', e, n⟩ => ?_)
  rw [e]; exact n
theorem neI {i j : Int} {h : SH} {P : SV → SH → Prop} (p : P (.bl (!decide (i = j))) h) : ∃ v h3, eqD true (.int i) (.int j) h = some (v, h3) ∧ P v h3 := by
  refine ⟨_, _, ?_, p⟩
  unfold eqD
  have e1 : dataOf 64 h (.int i) = some (.int i) := rfl
  have e2 : dataOf 64 h (.int j) = some (.int j) := rfl
  simp only [e1, e2, sh_int, ev_int, Bool.and_self, if_true]
theorem move_is {iT iS iI iB : Tag → Option Bool} (eT : iT .tup = some true) (eS : iS .str = some true) (eI : iI .int = some true) (eB : iB .int = some false) {A t : Nat} {ps : List Str} {m : Nm} {h : SH} (pl : Pls h A ps) (et : h[t]? = some m.so) (ok : m.Ok ps) {P : SV → SH → Prop} (p : P (.bl true) h) : Is (mFn 2 6 (moveM iT iS iI iB) [.ref t, .ref A] h) P := by
  refine Is.fn rfl ?_
  unfold moveM
  unfold Nm.so at et
  refine Ist.seq (Ist.ite (Is.bor (Is.bnot (Is.bm (Is.o1 (Is.var (v := .ref t) rfl (isi_t (t := .tup) (b := true) (tag_tup et) eT ⟨true, rfl, ?_⟩)))))))
  rw [if_neg (by decide)]
  refine Is.bm (Is.o2 (Is.oa (Is.acons (Is.var (v := .ref t) rfl (Is.anil (lenT_is et (Is.c (neI ⟨_, rfl, ?_⟩))))))))
  rw [if_neg (by simp)]
  refine Ist.nil (Ist.seq (Ist.asg (Is.var (v := .ref t) rfl ⟨_, g4_is et, ?_⟩)))
  refine Ist.seq (Ist.ite (Is.bor (Is.bnot (Is.tru (Is.call (Is.acons (Is.var (v := .str m.p) rfl (Is.acons (Is.var (v := .ref A) rfl (Is.anil (among_is eS pl ok.hp ?_)))))))))))
  refine tru_is ?_
  rw [if_neg (by decide)]
  refine Is.bnot (Is.tru (Is.call (Is.acons (Is.var (v := .str m.o) rfl (Is.acons (Is.var (v := .ref A) rfl (Is.anil (among_is eS pl ok.ho ?_))))))))
  refine tru_is ?_
  rw [if_neg (by decide)]
  refine Ist.nil (Ist.seq (Ist.ite (Is.bor (Is.bnot (Is.tru (Is.call (Is.acons (Is.var (v := .int m.l) rfl (Is.acons (Is.c (Is.acons (Is.c (Is.anil (betw_is eI eB ok.l0 ok.l8 ?_))))))))))))))
  refine tru_is ?_
  rw [if_neg (by decide)]
  refine Is.bnot (Is.tru (Is.call (Is.acons (Is.var (v := .int m.c) rfl (Is.acons (Is.o1 (Is.c ⟨.int (-4), h, rfl, Is.acons (Is.c (Is.anil (betw_is eI eB ok.c0 ok.c4 ?_)))⟩)))))))
  refine tru_is ?_
  rw [if_neg (by decide)]
  refine Ist.nil (Ist.ret (Is.chain (Is.c (Is.o2 (Is.var (v := .int m.l) rfl (Is.var (v := .int m.c) rfl ⟨_, _, rfl, .bl true, h, ?_, .inl ⟨rfl, Is.c ⟨.bl true, h, ?_, p⟩⟩⟩))))))
  · show some (SV.bl (decide ((0 : Int) ≤ m.l + m.c)), h) = _
    rw [decide_eq_true ok.e0]
  · show some (SV.bl (decide (m.l + m.c ≤ 8)), h) = _
    rw [decide_eq_true ok.e8]
end Fw
namespace Fw
open PySem PySem.Spec L2
def checkMM (rL rE : Nat) (iL iT iS iI iB : Tag → Option Bool) : SM := (mSeq (mIfS (bOr (bNot (mB (mO1 (opIsi iL) (mVar 0)))) (mB (mO2 opGt (mOA (un1 opLen) (aCons (mVar 0) aNil)) (mC (.int 10))))) (mRaise rL 1 (aCons (mVar 0) aNil)) mNil) (mFor (mWalk (mVar 0)) (gVar 2) (mIfS (bNot (mTru (mCall (mFn 2 6 (moveM iT iS iI iB)) (aCons (mVar 2) (aCons (mVar 1) aNil))))) (mRaise rE 1 (aCons (mVar 2) aNil)) mNil)))
structure Isis (iL iT iS iI iB : Tag → Option Bool) : Prop where
  L : iL .lst = some true
  T : iT .tup = some true
  S : iS .str = some true
  I : iI .int = some true
  B : iB .int = some false
theorem checkM_is {rL rE : Nat} {iL iT iS iI iB : Tag → Option Bool} (es : Isis iL iT iS iI iB) {h : SH} {A M : Nat} {ps : List Str} {ms : List Nm} (pl : Pls h A ps) (mv : Mvn h M ms) (mok : ∀ m ∈ ms, Nm.Ok ps m) (few : ms.length ≤ 10) {P : SV → SH → Prop} (p : P .non h) : Is (mFn 2 3 (checkMM rL rE iL iT iS iI iB) [.ref M, .ref A] h) P := by
  refine Is.fn rfl ?_
  unfold checkMM
  obtain ⟨ts, e, hts, z⟩ := mv
  refine Ist.seq (Ist.ite (Is.bor (Is.bnot (Is.bm (Is.o1 (Is.var (v := .ref M) rfl (isi_t (t := .lst) (b := true) (tag_lst e) es.L ⟨true, rfl, ?_⟩)))))))
  rw [if_neg (by decide)]
  refine Is.bm (Is.o2 (Is.oa (Is.acons (Is.var (v := .ref M) rfl (Is.anil (len_is e (Is.c ⟨_, _, rfl, _, rfl, ?_⟩)))))))
  rw [if_neg (by simp; omega)]
  refine Ist.nil (Ist.for (Is.walkL (Is.var (v := .ref M) rfl ⟨M, _, rfl, e, ts.length, fun k s h' => h' = h ∧ s.length = 3 ∧ s[1]? = some (some (.ref A)), by unfold many; omega, ⟨rfl, rfl, rfl⟩, ?_, ?_⟩)))
  · rintro k s _ hk ⟨rfl, len, q1⟩
    have ek : ts[k]? = some ts[k] := List.getElem?_eq_getElem hk
    obtain ⟨m, em, et⟩ := z k _ ek
    refine ⟨_, _, _, wkL_at e (by rw [List.getElem?_map, ek]; rfl), rfl, ?_⟩
    refine Ist.ite (Is.bnot (Is.tru (Is.call (Is.acons (Is.var (gx len (by decide)) (Is.acons (Is.var (gs q1 (by decide)) (Is.anil (move_is es.T es.S es.I es.B pl et (mok m (List.mem_of_getElem? em)) ?_)))))))))
    refine tru_is ?_
    rw [if_neg (by decide)]
    exact Ist.nil ⟨rfl, by simp [len], gs q1 (by decide)⟩
  · rintro s _ ⟨rfl, len, q1⟩
    have w := wkL_end e
    rw [List.length_map] at w
    exact ⟨w, p⟩
def programM (rL rE : Nat) (iL iT iS iI iB : Tag → Option Bool) (xA xW xT xC xP xM xK : List (Option Nat)) (cW : Nat) : SM := (mSeq (mDrop (mCall (mFn 1 3 (checkPM rL rE iL iS)) (aCons (mVar 1) aNil))) (mSeq (mDrop (mCall (mFn 2 3 (checkMM rL rE iL iT iS iI iB)) (aCons (mVar 2) (aCons (mVar 1) aNil)))) (mSeq (mFst xP (mOA (un1 opList) (aCons (mVar 1) aNil)) (mVar 0)) (mSeq (mFst xM (mOA (un1 opList) (aCons (mVar 2) aNil)) (mVar 0)) (mFst xK (mMake cW (mFn 3 10 (walksM xA xW xT xC)) (aCons (mO1 (opFld xP) (mVar 0)) (aCons (mO1 (opFld xM) (mVar 0)) aNil))) (mVar 0))))))
structure Ixs (xA xW xT xC xP xM xK : List (Option Nat)) (cW c : Nat) : Prop where
  A : xA[cW]? = some (some 0)
  W : xW[cW]? = some (some 1)
  T : xT[cW]? = some (some 2)
  C : xC[cW]? = some (some 3)
  P : xP[c]? = some (some 0)
  M : xM[c]? = some (some 1)
  K : xK[c]? = some (some 2)
/-- a program as it stands -/
structure Prog (h : SH) (c a lo : Nat) (ps : List Str) (ms : List Nm) : Prop where
  ex : ∃ P M W, h[a]? = some (.ins c [.ref P, .ref M, .ref W]) ∧ lo ≤ P ∧ lo ≤ M ∧ Pls h P ps ∧ Mvn h M ms
theorem program_is {rL rE : Nat} {iL iT iS iI iB : Tag → Option Bool} (es : Isis iL iT iS iI iB) {xA xW xT xC xP xM xK : List (Option Nat)} {cW c : Nat} (xs : Ixs xA xW xT xC xP xM xK cW c) {h0 : SH} {A M : Nat} {ps : List Str} {ms : List Nm} (pl : Pls h0 A ps) (mv : Mvn h0 M ms) (ok : PsOk ps) (nm : ∀ p ∈ ps, NmOk p) (mok : ∀ m ∈ ms, Nm.Ok ps m) (few : ms.length ≤ 10) :
    Is (mFn 3 3 (programM rL rE iL iT iS iI iB xA xW xT xC xP xM xK cW) [.ref h0.length, .ref A, .ref M] (h0 ++ [.ins c []])) fun v h' => v = .non ∧ Le h0 h' ∧ Prog h' c h0.length h0.length ps ms := by
  refine Is.fn rfl ?_
  unfold programM
  have n0 := new_at h0 (.ins c [])
  have l0 := Le.push h0 (.ins c [])
  generalize h0 ++ [SO.ins c []] = hA at n0 l0 ⊢
  refine Ist.seq (Ist.drop (Is.call (Is.acons (Is.var (v := .ref A) rfl (Is.anil ?_)))))
  refine checkP_is es.L es.S (pl.le l0) ok nm fun h1 l1 => ?_
  refine Ist.seq (Ist.drop (Is.call (Is.acons (Is.var (v := .ref M) rfl (Is.acons (Is.var (v := .ref A) rfl (Is.anil ?_)))))))
  refine checkM_is es ((pl.le l0).le l1) ((mv.le l0).le l1) mok few ?_
  have pl1 := (pl.le l0).le l1
  have mv1 := (mv.le l0).le l1
  have hlt := lt_of n0
  have hl1 := l1.len
  refine Ist.seq (Ist.fst (Is.oa (Is.acons (Is.var (v := .ref A) rfl (Is.anil (list_is pl1.at_ (Is.var (v := .ref h0.length) rfl (fst_is (Le.push _ _ _ _ (l1 _ _ n0)) xs.P rfl ?_))))))))
  have n2 : ((h1 ++ [SO.lst (ps.map SV.str)]).set h0.length (.ins c ([] ++ [.ref h1.length])))[h0.length]? = some (.ins c [.ref h1.length]) := set_at (Le.push _ _ _ _ (l1 _ _ n0))
  have p2 : Pls ((h1 ++ [SO.lst (ps.map SV.str)]).set h0.length (.ins c ([] ++ [.ref h1.length]))) h1.length ps := ⟨by rw [set_ne (by omega)]; exact new_at _ _⟩
  have le2 : Le h0 ((h1 ++ [SO.lst (ps.map SV.str)]).set h0.length (.ins c ([] ++ [.ref h1.length]))) := le_set ((l0.trans l1).trans (Le.push _ _)) (Nat.le_refl _)
  have ll2 : ((h1 ++ [SO.lst (ps.map SV.str)]).set h0.length (.ins c ([] ++ [.ref h1.length]))).length = h1.length + 1 := by simp
  generalize (h1 ++ [SO.lst (ps.map SV.str)]).set h0.length (SO.ins c ([] ++ [.ref h1.length])) = h2 at n2 p2 le2 ll2 ⊢
  obtain ⟨ts, eM, hts, z⟩ := mv.le le2
  refine Ist.seq (Ist.fst (Is.oa (Is.acons (Is.var (v := .ref M) rfl (Is.anil (list_is eM (Is.var (v := .ref h0.length) rfl (fst_is (Le.push _ _ _ _ n2) xs.M rfl ?_))))))))
  have n3 : ((h2 ++ [SO.lst (ts.map SV.ref)]).set h0.length (.ins c ([.ref h1.length] ++ [.ref h2.length])))[h0.length]? = some (.ins c [.ref h1.length, .ref h2.length]) := set_at (Le.push _ _ _ _ n2)
  have p3 : Pls ((h2 ++ [SO.lst (ts.map SV.ref)]).set h0.length (.ins c ([.ref h1.length] ++ [.ref h2.length]))) h1.length ps := ⟨by rw [set_ne (by omega)]; exact Le.push _ _ _ _ p2.at_⟩
  have le3 : Le h0 ((h2 ++ [SO.lst (ts.map SV.ref)]).set h0.length (.ins c ([.ref h1.length] ++ [.ref h2.length]))) := le_set (le2.trans (Le.push _ _)) (Nat.le_refl _)
  have m3 : Mvn ((h2 ++ [SO.lst (ts.map SV.ref)]).set h0.length (.ins c ([.ref h1.length] ++ [.ref h2.length]))) h2.length ms := ⟨ts, by rw [set_ne (by omega)]; exact new_at _ _, hts, fun i t et => by
    obtain ⟨m, a, b⟩ := z i t et
    have nt : h0.length ≠ t := fun w => by rw [← w, n2] at b; cases b
    exact ⟨m, a, by rw [set_ne nt]; exact Le.push _ _ _ _ b⟩⟩
  generalize (h2 ++ [SO.lst (ts.map SV.ref)]).set h0.length (SO.ins c ([.ref h1.length] ++ [.ref h2.length])) = h3 at n3 p3 le3 m3 ⊢
  refine Ist.fst (Is.make (Is.acons (Is.o1 (Is.var (v := .ref h0.length) rfl (fld_is n3 xs.P rfl (Is.acons (Is.o1 (Is.var (v := .ref h0.length) rfl (fld_is n3 xs.M rfl (Is.anil ?_))))))))))
  refine (walks_is xs.A xs.W xs.T xs.C p3 m3 ok mok few).mono fun v h4 ⟨ev, l4, vs, ew⟩ => ⟨ev, ?_⟩
  have n4 := l4 _ _ n3
  refine Is.var (v := .ref h0.length) rfl (fst_is n4 xs.K rfl ⟨rfl, le_set (le3.trans l4) (Nat.le_refl _), _, _, _, set_at n4, by omega, by omega, ⟨?_⟩, ?_⟩)
  · rw [set_ne (fun w => by have q := (p3.le l4).at_; rw [← w, n4] at q; cases q)]
    exact (p3.le l4).at_
  · obtain ⟨us, e, hu, zz⟩ := m3.le l4
    refine ⟨us, by rw [set_ne (fun w => by rw [← w, n4] at e; cases e)]; exact e, hu, fun i t et => ?_⟩
    obtain ⟨m, a, b⟩ := zz i t et
    exact ⟨m, a, by rw [set_ne (fun w => by rw [← w, n4] at b; cases b)]; exact b⟩
end Fw
namespace Fw
open PySem PySem.Spec L2
/-! ### drawn moves, places, programs -/
theorem bits100 {n : Int} (h0 : 0 < n) (h1 : n ≤ 100) : n.natAbs.log2 < 9000 ∧ Builtin.Int.intBits n < 100000 := by
  refine ⟨?_, ?_⟩
  · have : n.natAbs.log2 < 8 := (Nat.log2_lt (by omega)).mpr (by omega)
    omega
  · obtain ⟨k, rfl⟩ := Int.eq_ofNat_of_zero_le (Int.le_of_lt h0)
    have hk : k ≤ 100 := by omega
    have : ∀ k : Fin 101, Builtin.Int.intBits ((k.1 : Nat) : Int) < 100000 := by decide +kernel
    exact this ⟨k, by omega⟩
theorem draw100 {h : SH} {g : Nat} {B n : Int} (G : GenOk h g B) (hB : B ≤ 1000000000) (h0 : 0 < n) (h1 : n ≤ 100) {P : SV → SH → Prop}
    (p : ∀ r h', 0 ≤ r → r < n → Kp g h h' → h'.length = h.length → GenOk h' g (B + 4000) → P (.int r) h') : Is (mFn 2 4 randM [.ref g, .int n] h) P :=
  draw G (by omega) h0 (bits100 h0 h1).1 (bits100 h0 h1).2 p
/-- one of a list, drawn: the list stands or is made just now -/
theorem pickR {h : SH} {g j : Nat} {B n : Int} {xs : List SV} {ss : SS} {mb : AM} (G : GenOk h g B) (hB : B ≤ 900000000) (hn : n = xs.length) (h0 : 0 < n) (h1 : n ≤ 100) {m : EM} (hm : Is (m ss h) fun v h1 => ∃ j, v = .ref j ∧ j ≠ g ∧ Le h h1 ∧ h1[j]? = some (.lst xs) ∧ Is (mb ss h1) fun vs h2 => vs = [.ref g, .int n] ∧ h2 = h1) {P : SV → SH → Prop}
    (p : ∀ x h', x ∈ xs → Kp g h h' → h.length ≤ h'.length → GenOk h' g (B + 4000) → P x h') : Is (mO2 opIx m (mCall (mFn 2 4 randM) mb) ss h) P := by
  refine Is.o2 (hm.mono fun v h2 ⟨j, ev, nj, l, e, hb⟩ => ?_)
  subst ev
  refine Is.call (hb.mono fun vs h3 ⟨ev, eh⟩ => ?_)
  subst ev; subst eh
  refine draw100 (G.le l (Int.le_refl _)) (by omega) h0 h1 fun r h3 r0 r1 kp hl G3 => ?_
  obtain ⟨x, ex, mx⟩ := atI_mem r0 (by rw [← hn]; exact r1)
  refine ix_is (kp _ _ nj e) ex (p x h3 mx ((Le.kp l).trans kp) ?_ G3)
  have := l.len
  omega
theorem Ist.par {N B C : SS → SH → Prop} {R : SV → SH → Prop} {i j : Nat} {m : AM} {ss : SS} {h : SH} (x : Is (m ss h) fun vs h1 => ∃ v w, vs = [v, w] ∧ N ((ss.set i (some v)).set j (some w)) h1) : Ist (mPar i j m ss h) N R B C := Ist.then (x.mono fun vs h1 y => by
  obtain ⟨v, w, rfl, n⟩ := y; exact n)
end Fw
namespace Fw
open PySem PySem.Spec L2
def four : List Str := ["up", "down", "mid", "low"]
/-- all places that a law draws -/
def five : List Str := ["up", "down", "mid", "low", "move"]
/-- the two lists that a program is made of, in a list -/
structure Parts (h : SH) (t lo : Nat) (ps : List Str) (ms : List Nm) : Prop where
  ex : ∃ A M, h[t]? = some (.lst [.ref A, .ref M]) ∧ lo ≤ A ∧ lo ≤ M ∧ lo ≤ t ∧ Pls h A ps ∧ Mvn h M ms
  ok : PsOk ps
  nm : ∀ p ∈ ps, NmOk p
  mok : ∀ m ∈ ms, Nm.Ok ps m
  few : ms.length ≤ 10
  fr : ∀ p ∈ ps, p ∈ five
  up : ps.head? = some "up"
theorem Parts.le {h h' : SH} {t lo : Nat} {ps : List Str} {ms : List Nm} (x : Parts h t lo ps ms) (l : Le h h') : Parts h' t lo ps ms := by
  obtain ⟨⟨A, M, e, a, b, c, d, f⟩, g1, g2, g3, g4, g5, g6⟩ := x
  exact ⟨⟨A, M, l _ _ e, a, b, c, d.le l, f.le l⟩, g1, g2, g3, g4, g5, g6⟩
theorem Parts.kp {h h' : SH} {t lo g : Nat} {ps : List Str} {ms : List Nm} {gl : List SV} (x : Parts h t lo ps ms) (k : Kp g h h') (hg : g < lo) (eg : h[g]? = some (.lst gl)) : Parts h' t lo ps ms := by
  obtain ⟨⟨A, M, e, a, b, c, d, us, f1, f2, f3⟩, g1, g2, g3, g4, g5, g6⟩ := x
  refine ⟨⟨A, M, k _ _ (by omega) e, a, b, c, ⟨k _ _ (by omega) d.at_⟩, us, k _ _ (by omega) f1, f2, fun i t et => ?_⟩, g1, g2, g3, g4, g5, g6⟩
  obtain ⟨m, h1, h2⟩ := f3 i t et
  exact ⟨m, h1, k _ _ (fun w => by rw [w, eg] at h2; cases h2) h2⟩
end Fw
namespace Fw
open PySem PySem.Spec L2
def lawProgramM (rL rE : Nat) (iL iT iS iI iB : Tag → Option Bool) (xA xW xT xC xP xM xK : List (Option Nat)) (cW c : Nat) : SM := (mRet (mMake c (mFn 3 3 (programM rL rE iL iT iS iI iB xA xW xT xC xP xM xK cW)) (aCons (mOA (un1 opList) (aCons (mO2 opIx (mVar 0) (mC (.int 0))) aNil)) (aCons (mOA (un1 opList) (aCons (mO2 opIx (mVar 0) (mC (.int 1))) aNil)) aNil))))
theorem lawProgram_is {rL rE : Nat} {iL iT iS iI iB : Tag → Option Bool} (es : Isis iL iT iS iI iB) {xA xW xT xC xP xM xK : List (Option Nat)} {cW c : Nat} (xs : Ixs xA xW xT xC xP xM xK cW c) {h : SH} {t lo : Nat} {ps : List Str} {ms : List Nm} (pt : Parts h t lo ps ms) {P : SV → SH → Prop}
    (p : ∀ h' a, Le h h' → h.length ≤ a → Prog h' c a h.length ps ms → P (.ref a) h') : Is (mFn 1 1 (lawProgramM rL rE iL iT iS iI iB xA xW xT xC xP xM xK cW c) [.ref t] h) P := by
  refine Is.fn rfl ?_
  unfold lawProgramM
  obtain ⟨⟨A, M, e, a, b, cc, pl, mv⟩, ok, nm, mok, few, fr, up⟩ := pt
  refine Ist.ret (Is.make (Is.acons (Is.oa (Is.acons (Is.o2 (Is.var (v := .ref t) rfl (Is.c (ix_is e rfl (Is.anil (list_is pl.at_ ?_))))))))))
  have l1 := Le.push h (.lst (ps.map SV.str))
  have n1 := new_at h (.lst (ps.map SV.str))
  have hl1 : (h ++ [SO.lst (ps.map SV.str)]).length = h.length + 1 := by simp
  generalize h ++ [SO.lst (ps.map SV.str)] = h1 at l1 n1 hl1 ⊢
  obtain ⟨ts, eM, hts, z⟩ := mv.le l1
  refine Is.acons (Is.oa (Is.acons (Is.o2 (Is.var (v := .ref t) rfl (Is.c (ix_is (l1 _ _ e) rfl (Is.anil (list_is eM ?_))))))))
  have l2 := Le.push h1 (.lst (ts.map SV.ref))
  have n2 := new_at h1 (.lst (ts.map SV.ref))
  have hl2 : (h1 ++ [SO.lst (ts.map SV.ref)]).length = h1.length + 1 := by simp
  have mv2 : Mvn (h1 ++ [SO.lst (ts.map SV.ref)]) h1.length ms := ⟨ts, n2, hts, fun i u eu => let ⟨m, x, y⟩ := z i u eu; ⟨m, x, l2 _ _ y⟩⟩
  have pl2 : Pls (h1 ++ [SO.lst (ts.map SV.ref)]) h.length ps := ⟨l2 _ _ n1⟩
  have l12 := l1.trans l2
  generalize h1 ++ [SO.lst (ts.map SV.ref)] = h2 at l2 n2 hl2 mv2 pl2 l12 ⊢
  refine Is.anil ((program_is es xs pl2 mv2 ok nm mok few).mono fun v h3 ⟨ev, l3, pr⟩ => ⟨ev, p h3 _ (l12.trans l3) (by omega) ?_⟩)
  obtain ⟨P', M', W', e1, e2, e3, e4, e5⟩ := pr
  exact ⟨P', M', W', e1, by omega, by omega, e4, e5⟩
/-! ### rows -/
/-- one tuple of a pressed row -/
structure Pt where
  t : Int
  ns : List Int
def PtAt (h : SH) (a : Nat) (x : Pt) : Prop := ∃ b, h[a]? = some (.tup [.int x.t, .ref b]) ∧ h[b]? = some (.lst (x.ns.map SV.int))
structure Row (h : SH) (a : Nat) (r : List Pt) : Prop where
  ex : ∃ ts : List Nat, h[a]? = some (.lst (ts.map SV.ref)) ∧ ts.length = r.length ∧ ∀ (i t : Nat), ts[i]? = some t → ∃ x, r[i]? = some x ∧ PtAt h t x
theorem PtAt.le {h h' : SH} {a : Nat} {x : Pt} (p : PtAt h a x) (l : Le h h') : PtAt h' a x := let ⟨b, e, f⟩ := p; ⟨b, l _ _ e, l _ _ f⟩
theorem Row.le {h h' : SH} {a : Nat} {r : List Pt} (x : Row h a r) (l : Le h h') : Row h' a r := by
  obtain ⟨ts, e, hl, z⟩ := x
  exact ⟨ts, l _ _ e, hl, fun i t et => let ⟨y, a, b⟩ := z i t et; ⟨y, a, b.le l⟩⟩
/-- where the moves one behind the other lead, from a place; none: they do not hang together -/
def walkN (ms : List Nm) : Str → List Int → Option Str
  | p, [] => some p
  | p, n :: ns => if 0 ≤ n then match ms[n.toNat]? with
    | some m => if m.p = p then walkN ms m.o ns else none
    | none => none
    else none
/-- .. of a row of rounds -/
def walkR (ms : List Nm) : Str → List Pt → Option Str
  | p, [] => some p
  | p, x :: r => if 1 ≤ x.t ∧ x.ns ≠ [] then match walkN ms p x.ns with
    | some q => if 1 < x.t → q = p then walkR ms q r else none
    | none => none
    else none
end Fw
namespace Fw
open PySem PySem.Spec L2
theorem NmOk.ok {z : Str} (n : NmOk z) : PyData.strOk z = true := by
  unfold PyData.strOk
  rw [Array.all_eq_true_iff_forall_mem]
  exact fun c hc => decide_eq_true (by have := n.az c hc; omega)
theorem ev_str (x y : Str) : PyData.eqv (.str x) (.str y) = decide (x = y) := by
  rw [PyData.eqv]
  by_cases h : x = y
  · rw [decide_eq_true h, h]; exact beq_self_eq_true y
  · rw [decide_eq_false h]; simpa using h
theorem eqStr {x y : Str} (hx : PyData.strOk x = true) (hy : PyData.strOk y = true) {h : SH} {P : SV → SH → Prop} {neg : Bool} (p : P (.bl (if neg then !decide (x = y) else decide (x = y))) h) : ∃ v h3, eqD neg (.str x) (.str y) h = some (v, h3) ∧ P v h3 := by
  refine ⟨_, _, ?_, p⟩
  unfold eqD
  have e1 : dataOf 64 h (.str x) = some (.str x) := rfl
  have e2 : dataOf 64 h (.str y) = some (.str y) := rfl
  simp only [e1, e2, sh_str hx, sh_str hy, ev_str, Bool.and_self, if_true]
/-- one move's entry: parts[1][n][k] -/
theorem Mvn.at {h : SH} {M : Nat} {ms : List Nm} (mv : Mvn h M ms) {n : Int} (h0 : 0 ≤ n) (h1 : n < ms.length) : ∃ m t xs, ms[n.toNat]? = some m ∧ h[M]? = some (.lst xs) ∧ xs.length = ms.length ∧ L2.atI xs n = some (.ref t) ∧ h[t]? = some (Nm.so m) := by
  obtain ⟨ts, e, hl, z⟩ := mv
  have hn : n.toNat < ts.length := by omega
  have et : ts[n.toNat]? = some ts[n.toNat] := List.getElem?_eq_getElem hn
  obtain ⟨m, em, eo⟩ := z _ _ et
  refine ⟨m, _, _, em, e, by simp [hl], ?_, eo⟩
  unfold L2.atI L2.ixN
  rw [if_pos (by omega), if_pos (by simp; omega)]
  simp [List.getElem?_map, et]
end Fw
namespace Fw
open PySem PySem.Spec L2
section
variable {h : SH} {t lo : Nat} {ps : List Str} {ms : List Nm} {ss : SS} {P : SV → SH → Prop}
end
/-- what stands while a round is drawn -/
structure Rst (g t N : Nat) (ps : List Str) (ms : List Nm) (h0 : SH) (B : Int) (at_ : Str) (k : Nat) (s : SS) (h : SH) (ns : List Int) (here : Str) : Prop where
  len : s.length = 13
  s0 : s[0]? = some (some (.ref g))
  s1 : s[1]? = some (some (.ref t))
  s8 : s[8]? = some (some (.ref N))
  s9 : s[9]? = some (some (.str here))
  kp : Kp g h0 h
  le : h0.length ≤ h.length
  gen : GenOk h g B
  hN : h[N]? = some (.lst (ns.map SV.int))
  few : ns.length ≤ k
  walk : walkN ms at_ ns = some here
  hh : here ∈ ps
  num : ∀ n ∈ ns, 0 ≤ n ∧ n < ms.length
end Fw
namespace Fw
open PySem PySem.Spec L2
/-- a row all of whose objects are new -/
structure Rowb (h : SH) (lo A : Nat) (r : List Pt) : Prop where
  hA : lo ≤ A
  ex : ∃ ts : List Nat, h[A]? = some (.lst (ts.map SV.ref)) ∧ ts.length = r.length ∧ ∀ (i t : Nat), ts[i]? = some t → ∃ (x : Pt) (b : Nat), r[i]? = some x ∧ lo ≤ t ∧ lo ≤ b ∧ t ≠ A ∧ b ≠ A ∧ h[t]? = some (.tup [.int x.t, .ref b]) ∧ h[b]? = some (.lst (x.ns.map SV.int))
theorem Rowb.row {h : SH} {lo A : Nat} {r : List Pt} (x : Rowb h lo A r) : Row h A r := by
  obtain ⟨_, ts, e, hl, z⟩ := x
  exact ⟨ts, e, hl, fun i t et => let ⟨y, b, a1, _, _, _, _, a2, a3⟩ := z i t et; ⟨y, a1, b, a2, a3⟩⟩
theorem Rowb.kp {h h' : SH} {g lo A : Nat} {r : List Pt} (x : Rowb h lo A r) (k : Kp g h h') (hg : g < lo) : Rowb h' lo A r := by
  obtain ⟨a, ts, e, hl, z⟩ := x
  refine ⟨a, ts, k _ _ (by omega) e, hl, fun i t et => ?_⟩
  obtain ⟨y, b, a1, a2, a3, a4, a5, a6, a7⟩ := z i t et
  exact ⟨y, b, a1, a2, a3, a4, a5, k _ _ (by omega) a6, k _ _ (by omega) a7⟩
theorem Rowb.set {h : SH} {lo A t b : Nat} {r : List Pt} {x : Pt} (y : Rowb h lo A r) (ht : lo ≤ t) (hb : lo ≤ b) (nt : t ≠ A) (nb : b ≠ A) (et : h[t]? = some (.tup [.int x.t, .ref b])) (eb : h[b]? = some (.lst (x.ns.map SV.int))) :
    ∃ ts : List Nat, h[A]? = some (.lst (ts.map SV.ref)) ∧ ts.length = r.length ∧ Rowb (h.set A (.lst (ts.map SV.ref ++ [.ref t]))) lo A (r ++ [x]) := by
  obtain ⟨a, ts, e, hl, z⟩ := y
  refine ⟨ts, e, hl, a, ts ++ [t], by rw [set_at e]; simp, by simp [hl], fun i u eu => ?_⟩
  by_cases hi : i < ts.length
  · rw [List.getElem?_append_left hi] at eu
    obtain ⟨y, b', a1, a2, a3, a4, a5, a6, a7⟩ := z i u eu
    exact ⟨y, b', by rw [List.getElem?_append_left (by omega)]; exact a1, a2, a3, a4, a5, by rw [set_ne (Ne.symm a4)]; exact a6, by rw [set_ne (Ne.symm a5)]; exact a7⟩
  · have hi2 : i = ts.length := by have := (List.getElem?_eq_some_iff.mp eu).1; simp at this; omega
    subst hi2
    rw [List.getElem?_append_right (Nat.le_refl _)] at eu
    simp at eu
    subst eu
    exact ⟨x, b, by rw [hl, List.getElem?_append_right (Nat.le_refl _)]; simp, ht, hb, nt, nb, by rw [set_ne (Ne.symm nt)]; exact et, by rw [set_ne (Ne.symm nb)]; exact eb⟩
theorem Rst.up {g t N : Nat} {ps : List Str} {ms : List Nm} {h0 h : SH} {B B' : Int} {at_ : Str} {k : Nat} {s : SS} {ns : List Int} {here : Str} (x : Rst g t N ps ms h0 B at_ k s h ns here) (hB : B ≤ B') : Rst g t N ps ms h0 B' at_ k s h ns here :=
  { x with gen := x.gen.le (Le.refl _) hB }
end Fw
namespace Fw
open PySem PySem.Spec L2
end Fw
namespace Fw
open PySem PySem.Spec L2
/-! ### what rows need and change -/
def beh (a b : Int × Int) : Int × Int := (if b.1 - a.2 > a.1 then b.1 - a.2 else a.1, a.2 + b.2)
def stepN (ms : List Nm) (a : Int × Int) (n : Int) : Int × Int := match ms[n.toNat]? with
  | some m => beh a (m.l, m.c)
  | none => a
def mN (ms : List Nm) (ns : List Int) : Int × Int := ns.foldl (stepN ms) (0, 0)
/-- rows as they are drawn -/
structure RowOk (ms : List Nm) (r : List Pt) : Prop where
  few : r.length ≤ 4
  num : ∀ x ∈ r, 1 ≤ x.t ∧ x.t ≤ 10 ^ 30 ∧ x.ns ≠ [] ∧ x.ns.length ≤ 4 ∧ ∀ n ∈ x.ns, 0 ≤ n ∧ n < ms.length
theorem walkN_num {ms : List Nm} : ∀ {ns : List Int} {p q : Str}, walkN ms p ns = some q → ∀ n ∈ ns, 0 ≤ n ∧ n < ms.length
  | [], _, _, _, n, z => nomatch z
  | k :: ns, p, q, e, n, z => by
    unfold walkN at e
    by_cases c : 0 ≤ k
    · rw [if_pos c] at e
      cases ek : ms[k.toNat]? with
      | none => rw [ek] at e; cases e
      | some m =>
        rw [ek] at e
        simp only at e
        by_cases d : m.p = p
        · rw [if_pos d] at e
          rcases List.mem_cons.mp z with z | z
          · subst z
            have := (List.getElem?_eq_some_iff.mp ek).1
            exact ⟨c, by omega⟩
          · exact walkN_num e n z
        · rw [if_neg d] at e; cases e
    · rw [if_neg c] at e; cases e
theorem walkR_num {ms : List Nm} : ∀ {r : List Pt} {p q : Str}, walkR ms p r = some q → ∀ x ∈ r, 1 ≤ x.t ∧ x.ns ≠ [] ∧ ∀ n ∈ x.ns, 0 ≤ n ∧ n < ms.length
  | [], _, _, _, n, z => nomatch z
  | y :: r, p, q, e, x, z => by
    unfold walkR at e
    by_cases c : 1 ≤ y.t ∧ y.ns ≠ []
    · rw [if_pos c] at e
      cases ek : walkN ms p y.ns with
      | none => rw [ek] at e; cases e
      | some w =>
        rw [ek] at e
        simp only at e
        by_cases d : 1 < y.t → w = p
        · rw [if_pos d] at e
          rcases List.mem_cons.mp z with z | z
          · subst z
            exact ⟨c.1, c.2, walkN_num ek⟩
          · exact walkR_num e x z
        · rw [if_neg d] at e; cases e
    · rw [if_neg c] at e; cases e
theorem RowOk.of {ms : List Nm} {r : List Pt} {p q : Str} (e : walkR ms p r = some q) (few : r.length ≤ 4) (num : ∀ x ∈ r, x.t ≤ 10 ^ 30 ∧ x.ns.length ≤ 4) : RowOk ms r :=
  ⟨few, fun x hx => let ⟨a, b, c⟩ := walkR_num e x hx; let ⟨d, f⟩ := num x hx; ⟨a, d, b, f, c⟩⟩
end Fw
namespace Fw
open PySem PySem.Spec L2
theorem Row.at {h : SH} {A : Nat} {r : List Pt} (x : Row h A r) : ∃ ts : List Nat, h[A]? = some (.lst (ts.map SV.ref)) ∧ ts.length = r.length ∧ ∀ k, k < ts.length → ∃ (t b : Nat) (y : Pt), (ts.map SV.ref)[k]? = some (.ref t) ∧ r[k]? = some y ∧ y ∈ r ∧ h[t]? = some (.tup [.int y.t, .ref b]) ∧ h[b]? = some (.lst (y.ns.map SV.int)) := by
  obtain ⟨ts, e, hl, z⟩ := x
  refine ⟨ts, e, hl, fun k hk => ?_⟩
  have ek : ts[k]? = some ts[k] := List.getElem?_eq_getElem hk
  obtain ⟨y, ey, b, e1, e2⟩ := z k _ ek
  exact ⟨ts[k], b, y, by rw [List.getElem?_map, ek]; rfl, ey, List.mem_of_getElem? ey, e1, e2⟩
def TwoAt (h : SH) (u : Nat) (a : Int × Int) : Prop := h[u]? = some (.tup [.int a.1, .int a.2])
end Fw
namespace Fw
open PySem PySem.Spec L2
theorem TwoAt.le {h h' : SH} {u : Nat} {a : Int × Int} (x : TwoAt h u a) (l : Le h h') : TwoAt h' u a := l _ _ x
end Fw
namespace Fw
open PySem PySem.Spec L2
end Fw
namespace Fw
open PySem PySem.Spec L2
end Fw
namespace Fw
open PySem PySem.Spec L2
theorem tag_ins {a c : Nat} {vs : List SV} {h : SH} (e : h[a]? = some (.ins c vs)) : tagOf h (.ref a) = some (.ins c) := by unfold tagOf; simp only [e]
theorem Prog.le {h h' : SH} {c a lo : Nat} {ps : List Str} {ms : List Nm} (x : Prog h c a lo ps ms) (l : Le h h') : Prog h' c a lo ps ms := by
  obtain ⟨P, M, W, e, a1, a2, a3, a4⟩ := x
  exact ⟨P, M, W, l _ _ e, a1, a2, a3.le l, a4.le l⟩
theorem Prog.kp {h h' : SH} {g c a lo : Nat} {ps : List Str} {ms : List Nm} {gl : List SV} (x : Prog h c a lo ps ms) (k : Kp g h h') (hg : g < lo) (eg : h[g]? = some (.lst gl)) : Prog h' c a lo ps ms := by
  obtain ⟨P, M, W, e, a1, a2, a3, us, f1, f2, f3⟩ := x
  refine ⟨P, M, W, k _ _ (fun w => by rw [w, eg] at e; cases e) e, a1, a2, ⟨k _ _ (by omega) a3.at_⟩, us, k _ _ (by omega) f1, f2, fun i t et => ?_⟩
  obtain ⟨m, h1, h2⟩ := f3 i t et
  exact ⟨m, h1, k _ _ (fun w => by rw [w, eg] at h2; cases h2) h2⟩
/-- what a question about a row is asked with, as it stands -/
structure Asked (h : SH) (c a lo A : Nat) (ps : List Str) (ms : List Nm) (r : List Pt) (place q : Str) : Prop where
  pr : Prog h c a lo ps ms
  nm : ∀ p ∈ ps, NmOk p
  mok : ∀ m ∈ ms, Nm.Ok ps m
  few : ms.length ≤ 10
  row : Row h A r
  rok : RowOk ms r
  walk : walkR ms place r = some q
  hp : place ∈ ps
theorem Asked.le {h h' : SH} {c a lo A : Nat} {ps : List Str} {ms : List Nm} {r : List Pt} {place q : Str} (x : Asked h c a lo A ps ms r place q) (l : Le h h') : Asked h' c a lo A ps ms r place q :=
  ⟨x.pr.le l, x.nm, x.mok, x.few, x.row.le l, x.rok, x.walk, x.hp⟩
def movesM (xM : List (Option Nat)) : SM := (mRet (mOA (un1 opList) (aCons (mO1 (opFld xM) (mVar 0)) aNil)))
def placesM (xP : List (Option Nat)) : SM := (mRet (mOA (un1 opList) (aCons (mO1 (opFld xP) (mVar 0)) aNil)))
def checkProgM (iP : Tag → Option Bool) (eP : Nat) : SM := (mIfS (bNot (mB (mO1 (opIsi iP) (mVar 0)))) (mRaise eP 1 (aCons (mVar 0) aNil)) mNil)
theorem checkProg_is {iP : Tag → Option Bool} {eP c a lo : Nat} (ip : iP (.ins c) = some true) {ps : List Str} {ms : List Nm} {h : SH} (pr : Prog h c a lo ps ms) {P : SV → SH → Prop} (p : P .non h) : Is (mFn 1 1 (checkProgM iP eP) [.ref a] h) P := by
  refine Is.fn rfl ?_
  unfold checkProgM
  obtain ⟨Q, M, W, e, _⟩ := pr
  refine Ist.ite (Is.bnot (Is.bm (Is.o1 (Is.var (v := .ref a) rfl (isi_t (t := .ins c) (b := true) (tag_ins e) ip ⟨true, rfl, ?_⟩)))))
  rw [if_neg (by decide)]
  exact Ist.nil p
end Fw
namespace Fw
open PySem PySem.Spec L2
end Fw
namespace Fw
open PySem PySem.Spec L2
end Fw
namespace Fw
open PySem PySem.Spec L2
section
variable {iL iT iS iI iB iP : Tag → Option Bool} {xP xM : List (Option Nat)} {c eP eU eN eR : Nat}
end
end Fw
namespace Fw
open PySem PySem.Spec L2
end Fw
namespace Fw
open PySem PySem.Spec L2
/-! ### rows move by move -/
section
variable {ms : List Nm} {ps : List Str}
end
end Fw
namespace Fw
open PySem PySem.Spec L2
end Fw
namespace Fw
open PySem PySem.Spec L2
/-! ### texts of rows, of ends -/
theorem rq_of (x : Str) : reprQuote x = 34 ∨ reprQuote x = 39 := by
  unfold reprQuote
  split <;> simp
theorem rc_of {q c : Nat} (hq : q = 34 ∨ q = 39) (h1 : 97 ≤ c) (h2 : c ≤ 122) : Builtin.Str.reprChar q c = [c] := by
  have d : ∀ q ∈ [34, 39], ∀ c : Fin 26, Builtin.Str.reprChar q (97 + c.1) = [97 + c.1] := by decide +kernel
  have := d q (by rcases hq with rfl | rfl <;> simp) ⟨c - 97, by omega⟩
  have e : 97 + (c - 97) = c := by omega
  simp only [e] at this
  exact this
theorem fold_cs {q : Nat} (hq : q = 34 ∨ q = 39) : ∀ (l : List Nat) (acc : Array Nat), (∀ c ∈ l, 97 ≤ c ∧ c ≤ 122) → (∀ c ∈ acc, c < 0x110000) → (∀ c ∈ l.foldl (fun out c => out ++ (Builtin.Str.reprChar q c).toArray) acc, c < 0x110000) ∧ (l.foldl (fun out c => out ++ (Builtin.Str.reprChar q c).toArray) acc).size = acc.size + l.length
  | [], acc, _, h => ⟨h, rfl⟩
  | c :: l, acc, hl, h => by
    obtain ⟨c1, c2⟩ := hl c List.mem_cons_self
    rw [List.foldl_cons, rc_of hq c1 c2]
    have := fold_cs hq l (acc ++ [c].toArray) (fun d hd => hl d (List.mem_cons_of_mem _ hd)) (fun d hd => by
      rcases Array.mem_append.mp hd with hd | hd
      · exact h d hd
      · simp at hd; omega)
    refine ⟨this.1, ?_⟩
    rw [this.2]
    simp; omega
theorem sg_repr {z : Str} (ok : NmOk z) : Sg 10 (reprText z) := by
  have hq := rq_of z
  have e8 := ok.eight
  unfold reprText Sg
  have k := fold_cs hq z.cps.toList #[reprQuote z] (fun c hc => ok.az c (by simpa using hc)) (fun c hc => by
    simp at hc; rcases hq with e | e <;> omega)
  rw [Array.foldl_toList] at k
  refine ⟨?_, fun c hc => ?_⟩
  · rw [Array.size_push, k.2]
    have e1 : z.cps.toList.length = z.cps.size := by simp
    have e2 : z.length = z.cps.size := rfl
    have e3 : (#[reprQuote z]).size = 1 := rfl
    rw [e1, e3]; omega
  · rcases Array.mem_push.mp hc with hc | hc
    · exact k.1 c hc
    · rcases hq with e | e <;> omega
theorem shown_int (i : Int) : PyData.shown (.int i) = Str.ofString (toString i) := by rw [PyData.shown]
theorem tx_none : Tx1 .none := tx_c (by decide +kernel)
end Fw
namespace Fw
open PySem PySem.Spec L2
theorem showAll_of : ∀ {ds : List PyData}, (∀ d ∈ ds, d.showable = true) → PyData.showableAll ds = true
  | [], _ => by rw [PyData.showableAll]
  | d :: ds, h => by rw [PyData.showableAll, h d List.mem_cons_self, showAll_of fun e he => h e (List.mem_cons_of_mem _ he)]; rfl
theorem shownAll_mem {t : Str} : ∀ {ds : List PyData}, t ∈ PyData.shownAll ds → ∃ d ∈ ds, t = d.shown
  | [], h => by rw [PyData.shownAll] at h; cases h
  | d :: ds, h => by
    rw [PyData.shownAll] at h
    rcases List.mem_cons.mp h with h | h
    · exact ⟨d, List.mem_cons_self, h⟩
    · obtain ⟨e, he, q⟩ := shownAll_mem h
      exact ⟨e, List.mem_cons_of_mem _ he, q⟩
theorem show_int {i : Int} (h : i.natAbs < 10 ^ 40) : PyData.showable (.int i) = true := by rw [PyData.showable, decide_eq_true (log40 h)]
theorem depth_int {i : Int} : PyData.depth (.int i) = 0 := by rw [PyData.depth]
structure PtOk (x : Pt) : Prop where
  t : x.t.natAbs < 10 ^ 40
  ns : ∀ n ∈ x.ns, n.natAbs < 10 ^ 40
  l : x.ns.length ≤ 10
theorem RowOk.pt {ms : List Nm} {r : List Pt} (h : RowOk ms r) (few : ms.length ≤ 10) : ∀ x ∈ r, PtOk x := fun x hx => by
  obtain ⟨a, b, c, d, e⟩ := h.num x hx
  refine ⟨by omega, fun n hn => ?_, by omega⟩
  have := e n hn
  have : n.natAbs ≤ 10 := by omega
  exact Nat.lt_of_le_of_lt this (by decide)
end Fw
namespace Fw
open PySem PySem.Spec L2
/-- texts of equal data are the same -/
theorem neText {d : PyData} (t : Tx1 d) {h : SH} {P : SV → SH → Prop} (p : P (.bl false) h) : ∃ v h3, eqD true (.str d.shown) (.str d.shown) h = some (v, h3) ∧ P v h3 :=
  eqStr (neg := true) t.ok t.ok (by rw [if_pos rfl, decide_eq_true rfl]; exact p)
section
variable {iL iT iS iI iB iP : Tag → Option Bool} {xP xM : List (Option Nat)} {c eP eU eN eR : Nat}
/-- what stands in the law's loops -/
structure Lst (n a t A : Nat) (place : Str) (b : Int × Int) (s : SS) : Prop where
  len : s.length = n
  s0 : s[0]? = some (some (.ref a))
  s1 : s[1]? = some (some (.ref t))
  s2 : s[2]? = some (some (.str place))
  s3 : s[3]? = some (some (.ref A))
  s5 : s[5]? = some (some (.int b.1))
  s6 : s[6]? = some (some (.int b.2))
theorem Lst.set {n a t A : Nat} {place : Str} {b : Int × Int} {s : SS} (x : Lst n a t A place b s) {j : Nat} {v : Option SV} (h : j = 4 ∨ 7 ≤ j) : Lst n a t A place b (s.set j v) :=
  ⟨by simp [x.len], gs x.s0 (by omega), gs x.s1 (by omega), gs x.s2 (by omega), gs x.s3 (by omega), gs x.s5 (by omega), gs x.s6 (by omega)⟩
end
end Fw
namespace Fw
open PySem PySem.Spec L2
structure Rgt (a t A : Nat) (place : Str) (b : Int × Int) (d : PyData) (s : SS) : Prop where
  len : s.length = 17
  s0 : s[0]? = some (some (.ref a))
  s1 : s[1]? = some (some (.ref t))
  s2 : s[2]? = some (some (.str place))
  s3 : s[3]? = some (some (.ref A))
  s4 : s[4]? = some (some (.str d.shown))
  s9 : s[9]? = some (some (.int b.1))
  s10 : s[10]? = some (some (.int b.2))
theorem Rgt.set {a t A : Nat} {place : Str} {b : Int × Int} {d : PyData} {s : SS} (x : Rgt a t A place b d s) {j : Nat} {v : Option SV} (h : (5 ≤ j ∧ j ≤ 8) ∨ 11 ≤ j) : Rgt a t A place b d (s.set j v) :=
  ⟨by simp [x.len], gs x.s0 (by omega), gs x.s1 (by omega), gs x.s2 (by omega), gs x.s3 (by omega), gs x.s4 (by omega), gs x.s9 (by omega), gs x.s10 (by omega)⟩
section
variable {iL iT iS iI iB iP : Tag → Option Bool} {xP xM : List (Option Nat)} {c eP eU eN eR : Nat} {N B C : SS → SH → Prop} {R : SV → SH → Prop}
end
end Fw
namespace Fw
open PySem PySem.Spec L2
theorem cut_drop (xs : List SV) (k : Nat) (h : k ≤ xs.length) : cutS xs (some (k : Int)) none = xs.drop k := by
  unfold cutS
  have e1 : HT.sIx xs.length 0 (some (k : Int)) = k := by
    unfold HT.sIx
    simp [show ¬ ((k : Int) < 0) from by omega]
    omega
  have e2 : HT.sIx xs.length xs.length none = xs.length := by
    unfold HT.sIx; rfl
  rw [e1, e2]
  rw [List.take_of_length_le (by simp)]
theorem TwoAt.data {h : SH} {u : Nat} {a : Int × Int} (x : TwoAt h u a) : dataOf 64 h (.ref u) = some (.tuple [.int a.1, .int a.2]) := data_tup x (data_two rfl rfl)
theorem RowOk.take {ms : List Nm} {r : List Pt} (x : RowOk ms r) (k : Nat) : RowOk ms (r.take k) :=
  ⟨by have := x.few; simp; omega, fun y hy => x.num y (List.mem_of_mem_take hy)⟩
theorem RowOk.drop {ms : List Nm} {r : List Pt} (x : RowOk ms r) (k : Nat) : RowOk ms (r.drop k) :=
  ⟨by have := x.few; simp; omega, fun y hy => x.num y (List.mem_of_mem_drop hy)⟩
section
variable {N B C : SS → SH → Prop} {R : SV → SH → Prop}
end
end Fw
namespace Fw
open PySem PySem.Spec L2
theorem canAll_of : ∀ {ds : List PyData}, (∀ d ∈ ds, d.canLay0 = true) → PyData.canLayAll0 ds = true
  | [], _ => by rw [PyData.canLayAll0]
  | d :: ds, h => by rw [PyData.canLayAll0, h d List.mem_cons_self, canAll_of fun e he => h e (List.mem_cons_of_mem _ he)]; rfl
def one (x : Pt) : Bool := decide (x.t = 1)
end Fw
namespace Fw
open PySem PySem.Spec L2
section
variable {iL iT iS iI iB iP : Tag → Option Bool} {xP xM : List (Option Nat)} {c eP eU eN eR : Nat}
end
end Fw
namespace Fw
open PySem PySem.Spec L2
end Fw
namespace Fw
open PySem PySem.Spec L2
/-! ### what is refused: an error leaves, the heap only grows -/
def Isx {α : Type} (r : Res α) (E : Nat → List SV → SH → Prop) : Prop := match r with
  | .ex c xs h => E c xs h
  | _ => False
theorem Isx.out {α : Type} {r : Res α} {E : Nat → List SV → SH → Prop} (x : Isx r E) : ∃ c xs h, r = .ex c xs h ∧ E c xs h := by
  cases r with
  | ex c xs h => exact ⟨c, xs, h, rfl, x⟩
  | ok a h => exact x.elim
  | stuck => exact x.elim
section
variable {E : Nat → List SV → SH → Prop} {N : SS → SH → Prop} {ss : SS} {h : SH}
theorem Isx.call {f : FM} {ma : AM} (x : Is (ma ss h) fun vs h1 => Isx (f vs h1) E) : Isx (mCall f ma ss h) E := by
  obtain ⟨vs, h1, e, y⟩ := x.out
  unfold mCall
  rw [e]; exact y
theorem Isx.fn {np n : Nat} {m : SM} {vs : List SV} (hl : vs.length = np) (x : Ise (m (vs.map some ++ List.replicate (n - vs.length) none) h) (fun _ _ => False) E) : Isx (mFn np n m vs h) E := by
  unfold mFn
  rw [if_pos hl]
  cases e : m (vs.map some ++ List.replicate (n - vs.length) none) h with
  | nx s h => rw [e] at x; exact x.elim
  | ex c xs s h => rw [e] at x; exact x
  | rt v h => rw [e] at x; exact x.elim
  | bk s h => rw [e] at x; exact x.elim
  | ct s h => rw [e] at x; exact x.elim
  | stuck => rw [e] at x; exact x.elim
theorem Ise.drop {m : EM} (x : Is (m ss h) fun _ h1 => N ss h1) : Ise (mDrop m ss h) N E := by
  obtain ⟨v, h1, e, y⟩ := x.out
  unfold mDrop
  rw [e]; exact y
theorem Ise.dropX {m : EM} (x : Isx (m ss h) E) : Ise (mDrop m ss h) N E := by
  obtain ⟨c, xs, h1, e, y⟩ := x.out
  unfold mDrop
  rw [e]; exact y
end
/-- v leaves in an error of class k -/
def Out (k : Nat) (v : SV) (h : SH) : Nat → List SV → SH → Prop := fun c xs h' => c = k ∧ xs = [v] ∧ Le h h'
section
variable {iL iT iS iI iB iP : Tag → Option Bool} {xP xM : List (Option Nat)} {c eP eU eN eR : Nat} {h : SH} {v : SV}
theorem Isx.mono {α : Type} {r : Res α} {E E' : Nat → List SV → SH → Prop} (x : Isx r E) (k : ∀ c xs h, E c xs h → E' c xs h) : Isx r E' := by
  cases r with
  | ex c xs h => exact k _ _ _ x
  | ok a h => exact x.elim
  | stuck => exact x.elim
theorem progX {t : Tag} (et : tagOf h v = some t) (n : iP t = some false) : Isx (mFn 1 1 (checkProgM iP eP) [v] h) (Out eP v h) := by
  refine Isx.fn rfl ?_
  unfold checkProgM
  refine Ise.ite (Is.bnot (Is.bm (Is.o1 (Is.var (v := v) rfl (isi_t et n ⟨false, rfl, ?_⟩)))))
  rw [if_pos (show (!false) = true from rfl)]
  exact Ise.raise (v := v) rfl ⟨rfl, rfl, Le.refl _⟩
end
end Fw
namespace Fw
open PySem PySem.Spec L2
section
variable {iL iT iS iI iB iP : Tag → Option Bool} {xP xM : List (Option Nat)} {c eP eU eN eR : Nat} {h : SH} {v : SV}
end
end Fw
namespace Fw
open PySem PySem.Spec L2
theorem dropX_eq {m : EM} {ss : SS} {h : SH} {E : Nat → List SV → SH → Prop} (x : Isx (m ss h) E) : ∃ c xs h1, mDrop m ss h = .ex c xs ss h1 ∧ E c xs h1 := by
  obtain ⟨c, xs, h1, e, y⟩ := x.out
  exact ⟨c, xs, h1, by unfold mDrop; rw [e]; rfl, y⟩
end Fw
namespace Fw
open PySem PySem.Spec L2
/-! ### the law's bad values -/
section
variable {iL iT iS iI iB iP : Tag → Option Bool} {xP xM : List (Option Nat)} {c : Nat}
/-- a value with a text and a kind that both stay -/
def Val (f : Tag → Option Bool) (h : SH) (v : SV) : Prop := ∃ d t, Tx1 d ∧ f t = some false ∧ ∀ h', Le h h' → dataOf 64 h' v = some d ∧ tagOf h' v = some t
theorem staV {f : Tag → Option Bool} : Sta (Val f) := fun h h' v l ⟨d, t, a, b, c⟩ => ⟨d, t, a, b, fun h2 l2 => c h2 (l.trans l2)⟩
end
end Fw
namespace Fw
open PySem PySem.Spec L2
/-! ### parts that are none -/
section
variable {iL iT iS iI iB iP : Tag → Option Bool} {xP xM : List (Option Nat)} {c : Nat} {h : SH} {n : Int}
end
end Fw
namespace Fw
open PySem PySem.Spec L2
/-! ### values written in a law: their data and kind, which stay -/
def Sd (k : Nat) (h : SH) (v : SV) (d : PyData) (t : Tag) : Prop := ∀ (h' : SH) (m : Nat), Le h h' → dataOf (m + k) h' v = some d ∧ tagOf h' v = some t
section
variable {h : SH} {k j : Nat}
theorem Sd.le {h' : SH} {v : SV} {d : PyData} {t : Tag} (x : Sd k h v d t) (l : Le h h') : Sd k h' v d t := fun h2 m l2 => x h2 m (l.trans l2)
theorem Sd.up {v : SV} {d : PyData} {t : Tag} {k' : Nat} (x : Sd k h v d t) (hk : k ≤ k') : Sd k' h v d t := fun h2 m l2 => by
  have := x h2 (m + (k' - k)) l2
  have e : m + (k' - k) + k = m + k' := by omega
  rw [e] at this
  exact this
theorem sd_non : Sd 1 h .non .none .non := fun _ _ _ => ⟨rfl, rfl⟩
theorem sd_int {i : Int} : Sd 1 h (.int i) (.int i) .int := fun _ _ _ => ⟨rfl, rfl⟩
theorem sd_bl {b : Bool} : Sd 1 h (.bl b) (.bool b) .bl := fun _ _ _ => ⟨rfl, rfl⟩
theorem sd_str {x : Str} : Sd 1 h (.str x) (.str x) .str := fun _ _ _ => ⟨rfl, rfl⟩
theorem sd_lst {xs : List SV} {ds : List PyData} (e : h[j]? = some (.lst xs)) (hl : xs.length = ds.length) (z : ∀ (i : Nat) (x : SV), xs[i]? = some x → ∃ d t, ds[i]? = some d ∧ Sd k h x d t) : Sd (k + 1) h (.ref j) (.list ds) .lst := fun h' m l =>
  ⟨dataOf_lst (n := m + k) (l _ _ e) (dataAll_of hl fun i x ex => let ⟨d, t, ed, sd⟩ := z i x ex; ⟨d, ed, (sd h' m l).1⟩), tag_lst (l _ _ e)⟩
theorem sd_tup {xs : List SV} {ds : List PyData} (e : h[j]? = some (.tup xs)) (hl : xs.length = ds.length) (z : ∀ (i : Nat) (x : SV), xs[i]? = some x → ∃ d t, ds[i]? = some d ∧ Sd k h x d t) : Sd (k + 1) h (.ref j) (.tuple ds) .tup := fun h' m l =>
  ⟨data_tup (n := m + k) (l _ _ e) (dataAll_of hl fun i x ex => let ⟨d, t, ed, sd⟩ := z i x ex; ⟨d, ed, (sd h' m l).1⟩), tag_tup (l _ _ e)⟩
theorem sd_lst0 (e : h[j]? = some (.lst [])) : Sd 2 h (.ref j) (.list []) .lst := sd_lst (k := 1) e rfl fun _ _ z => nomatch z
theorem sd_tup0 (e : h[j]? = some (.tup [])) : Sd 2 h (.ref j) (.tuple []) .tup := sd_tup (k := 1) e rfl fun _ _ z => nomatch z
theorem sd_dct0 (e : h[j]? = some (.dK [])) : Sd 2 h (.ref j) (.dict []) .dct := fun h' m l =>
  ⟨data_dct (n := m + 1) (l _ _ e) rfl, tag_dct (l _ _ e)⟩
theorem Sd.val {v : SV} {d : PyData} {t : Tag} {f : Tag → Option Bool} (x : Sd k h v d t) (hk : k ≤ 64) (tx : Tx1 d) (n : f t = some false) : Val f h v :=
  ⟨d, t, tx, n, fun h' l => by
    have := (x.up hk) h' 0 l
    rw [Nat.zero_add] at this
    exact this⟩
end
theorem tx_int {i : Int} (h : i.natAbs < 10 ^ 40) : Tx1 (.int i) :=
  Tx1.of (n := 50) (show_int h) (by rw [depth_int]; decide) (by rw [shown_int]; exact num40 h) (by decide)
end Fw
namespace Fw
open PySem PySem.Spec L2
section
variable {iL iT iS iI iB iP : Tag → Option Bool} {xP xM : List (Option Nat)} {c eP eU eN eR : Nat} {h : SH}
end
end Fw
namespace Fw
open PySem PySem.Spec L2
/-- a kind of value that f tells nothing but objects of the package -/
structure NoOwn (f : Tag → Option Bool) : Prop where
  non : f .non = some false
  bl : f .bl = some false
  int : f .int = some false
  str : f .str = some false
  lst : f .lst = some false
  tup : f .tup = some false
  dct : f .dct = some false
section
variable {Q : SH → SV → Prop} {ss : SS} {h : SH} {r : AM} {n : Nat}
theorem IsD.lst0 (st : Sta Q) (q : ∀ h1 j, Le h h1 → h1[j]? = some (.lst []) → Q h1 (.ref j)) (y : ∀ h1, Le h h1 → IsD Q r ss h1 n) : IsD Q (aCons (mOA opLst aNil) r) ss h (n + 1) :=
  IsD.cons st (Is.oa (Is.anil (lst_is (small_big (by simp)) ⟨Le.push _ _, q _ _ (Le.push _ _) (new_at _ _)⟩))) y
theorem IsD.tup0 (st : Sta Q) (q : ∀ h1 j, Le h h1 → h1[j]? = some (.tup []) → Q h1 (.ref j)) (y : ∀ h1, Le h h1 → IsD Q r ss h1 n) : IsD Q (aCons (mOA opTup aNil) r) ss h (n + 1) :=
  IsD.cons st (Is.oa (Is.anil (tup_is (small_big (by simp)) ⟨Le.push _ _, q _ _ (Le.push _ _) (new_at _ _)⟩))) y
theorem IsD.dct0 (st : Sta Q) (q : ∀ h1 j, Le h h1 → h1[j]? = some (.dK []) → Q h1 (.ref j)) (y : ∀ h1, Le h h1 → IsD Q r ss h1 n) : IsD Q (aCons mDict0 r) ss h (n + 1) :=
  IsD.cons st (Is.dict0 ⟨Le.push _ _, q _ _ (Le.push _ _) (new_at _ _)⟩) y
end
end Fw
namespace Fw
open PySem PySem.Spec L2
section
variable {Q : SH → SV → Prop} {ss : SS} {h : SH} {r : AM} {n : Nat}
end
end Fw
namespace Fw
open PySem PySem.Spec L2
section
variable {iL iT iS iI iB iP : Tag → Option Bool} {xP xM : List (Option Nat)} {c : Nat}
end
section
variable {iL iT iS iI iB iP : Tag → Option Bool} {xP xM : List (Option Nat)} {c : Nat}
end
end Fw
namespace Fw
open PySem PySem.Spec L2
structure Rfs (a t : Nat) (s : SS) : Prop where
  len : s.length = 7
  s0 : s[0]? = some (some (.ref a))
  s1 : s[1]? = some (some (.ref t))
theorem Rfs.set {a t : Nat} {s : SS} (x : Rfs a t s) {j : Nat} {v : Option SV} (h : 2 ≤ j) : Rfs a t (s.set j v) := ⟨by simp [x.len], gs x.s0 (by omega), gs x.s1 (by omega)⟩
section
variable {iL iT iS iI iB iP : Tag → Option Bool} {xP xM : List (Option Nat)} {c eP eU eN eR : Nat} {sub : Nat → Option Bool} {iU iQ iN iR : Tag → Option Bool} {xn xv : List (Option Nat)}
end
end Fw
namespace Fw
open PySem PySem.Spec L2
section
variable {iL iT iS iI iB iP : Tag → Option Bool} {xP xM : List (Option Nat)} {c eP eU eN eR : Nat} {sub : Nat → Option Bool} {iU iQ iN iR : Tag → Option Bool} {xn xv : List (Option Nat)}
end
end Fw
namespace Fw
open PySem PySem.Spec L2
end Fw
namespace Fw
open PySem PySem.Spec L2
section
variable {iL iT iS iI iB iP : Tag → Option Bool} {xA xW xT xC xP xM xK : List (Option Nat)} {cW c eP eU eN eR : Nat} {sub : Nat → Option Bool} {iU iQ iN iR : Tag → Option Bool} {xn xv : List (Option Nat)}
structure Mst (g t a : Nat) (lo : Nat) (ps : List Str) (ms : List Nm) (c : Nat) (B : Int) (s : SS) (h : SH) : Prop where
  len : s.length = 11
  s2 : s[2]? = some (some (.ref g))
  s3 : s[3]? = some (some (.ref t))
  s4 : s[4]? = some (some (.ref a))
  gen : GenOk h g B
  pt : Parts h t lo ps ms
  pr : Prog h c a lo ps ms
  hg : g < lo
  hl : g < h.length
theorem Mst.set {g t a lo : Nat} {ps : List Str} {ms : List Nm} {c : Nat} {B : Int} {s : SS} {h : SH} (x : Mst g t a lo ps ms c B s h) {j : Nat} {v : Option SV} (hj : j = 0 ∨ j = 1 ∨ 5 ≤ j) : Mst g t a lo ps ms c B (s.set j v) h :=
  { x with len := by simp [x.len], s2 := gs x.s2 (by omega), s3 := gs x.s3 (by omega), s4 := gs x.s4 (by omega) }
theorem Mst.le {g t a lo : Nat} {ps : List Str} {ms : List Nm} {c : Nat} {B B' : Int} {s : SS} {h h' : SH} (x : Mst g t a lo ps ms c B s h) (l : Le h h') (hB : B ≤ B') : Mst g t a lo ps ms c B' s h' := by
  obtain ⟨gl, e⟩ := x.gen.at
  exact { x with gen := x.gen.le l hB, pt := x.pt.le l, pr := x.pr.le l, hl := lt_of (l _ _ e) }
theorem Mst.kp {g t a lo : Nat} {ps : List Str} {ms : List Nm} {c : Nat} {B B' : Int} {s : SS} {h h' : SH} (x : Mst g t a lo ps ms c B s h) (k : Kp g h h') (hl : h.length ≤ h'.length) (G : GenOk h' g B') : Mst g t a lo ps ms c B' s h' := by
  obtain ⟨gl, e⟩ := x.gen.at
  exact { x with gen := G, pt := x.pt.kp k x.hg e, pr := x.pr.kp k x.hg e, hl := Nat.lt_of_lt_of_le x.hl hl }
end
end Fw
namespace Fw
open PySem PySem.Spec L2
end Fw
namespace Fw
open PySem PySem.Spec L2
/-! ### values of all kinds as rows: what the data says -/
def tagD : PyData → Tag
  | .none => .non | .bool _ => .bl | .int _ => .int | .str _ => .str | .list _ => .lst | .tuple _ => .tup | .dict _ => .dct
def intD : PyData → Option Int
  | .int i => some i
  | _ => none
def numsD (many : Nat) : List PyData → Option (List Int)
  | [] => some []
  | d :: ds => match intD d with
    | some i => if 0 ≤ i ∧ i < many then (numsD many ds).map (i :: ·) else none
    | none => none
def partD (many : Nat) : PyData → Option Pt
  | .tuple [.int t, .list ns] => if 1 ≤ t ∧ ns ≠ [] then (numsD many ns).map (Pt.mk t) else none
  | _ => none
def partsD (many : Nat) : List PyData → Option (List Pt)
  | [] => some []
  | d :: ds => match partD many d with
    | some x => (partsD many ds).map (x :: ·)
    | none => none
def rowsD (many : Nat) : PyData → Option (List Pt)
  | .list ds => partsD many ds
  | _ => none
/-- the law's own walk over the data -/
def walkDN (ms : List Nm) : Str → List PyData → Option Str
  | p, [] => some p
  | p, d :: ds => match intD d with
    | some i => if 0 ≤ i ∧ i < ms.length then match ms[i.toNat]? with
      | some m => if m.p = p then walkDN ms m.o ds else none
      | none => none
      else none
    | none => none
def walkDP (ms : List Nm) (p : Str) : PyData → Option Str
  | .tuple [.int t, .list ns] => if 1 ≤ t ∧ ns ≠ [] then match walkDN ms p ns with
    | some q => if 1 < t → q = p then some q else none
    | none => none
    else none
  | _ => none
def walkDR (ms : List Nm) : Str → List PyData → Option Str
  | p, [] => some p
  | p, d :: ds => match walkDP ms p d with
    | some q => walkDR ms q ds
    | none => none
def lastD (ms : List Nm) (p : Str) : PyData → Option Str
  | .list ds => walkDR ms p ds
  | _ => none
theorem walkDN_eq {ms : List Nm} : ∀ {ds : List PyData} {p : Str}, walkDN ms p ds = (numsD ms.length ds).bind (walkN ms p)
  | [], p => by simp [walkDN, numsD, walkN]
  | d :: ds, p => by
    unfold walkDN numsD
    cases e : intD d with
    | none => rfl
    | some i =>
      simp only
      by_cases c : 0 ≤ i ∧ i < ms.length
      · rw [if_pos c, if_pos c]
        have hi : i.toNat < ms.length := by omega
        have em : ms[i.toNat]? = some ms[i.toNat] := List.getElem?_eq_getElem hi
        rw [em]
        simp only
        rw [walkDN_eq]
        cases en : numsD ms.length ds with
        | none => simp
        | some ns =>
          simp only [Option.map_some, Option.bind_some]
          conv => rhs; unfold walkN
          rw [if_pos c.1, em]
      · rw [if_neg c, if_neg c]; rfl
theorem walkDP_eq {ms : List Nm} {d : PyData} {p : Str} : walkDP ms p d = (partD ms.length d).bind fun x => walkR ms p [x] := by
  unfold walkDP partD
  split
  · rename_i t ns
    by_cases c : 1 ≤ t ∧ ns ≠ []
    · rw [if_pos c, if_pos c, walkDN_eq]
      have len : ∀ {ds : List PyData} {xs : List Int}, numsD ms.length ds = some xs → xs.length = ds.length := by
        intro ds
        induction ds with
        | nil => intro xs e; unfold numsD at e; cases e; rfl
        | cons d ds ih =>
          intro xs e
          unfold numsD at e
          cases ei : intD d with
          | none => rw [ei] at e; cases e
          | some i =>
            rw [ei] at e
            simp only at e
            split at e
            · cases en : numsD ms.length ds with
              | none => rw [en] at e; cases e
              | some ys => rw [en] at e; cases e; simp [ih en]
            · cases e
      cases en : numsD ms.length ns with
      | none => rfl
      | some xs =>
        have hx : xs ≠ [] := fun z => by
          have := len en
          rw [z] at this
          exact c.2 (List.eq_nil_of_length_eq_zero this.symm)
        simp only [Option.bind_some, Option.map_some]
        unfold walkR
        rw [if_pos ⟨c.1, hx⟩]
        cases walkN ms p xs with
        | none => rfl
        | some q =>
          simp only
          by_cases cc : 1 < t → q = p
          · rw [if_pos cc, if_pos cc]; unfold walkR; rfl
          · rw [if_neg cc, if_neg cc]
    · rw [if_neg c, if_neg c]; rfl
  · rfl
theorem walkR_head {ms : List Nm} {p : Str} {x : Pt} {r : List Pt} : walkR ms p (x :: r) = (walkR ms p [x]).bind fun q => walkR ms q r := by
  simp only [walkR]
  by_cases c : 1 ≤ x.t ∧ x.ns ≠ []
  · rw [if_pos c, if_pos c]
    cases walkN ms p x.ns with
    | none => rfl
    | some q =>
      simp only
      by_cases cc : 1 < x.t → q = p
      · rw [if_pos cc, if_pos cc]; rfl
      · rw [if_neg cc, if_neg cc]; rfl
  · rw [if_neg c, if_neg c]; rfl
theorem walkDR_eq {ms : List Nm} : ∀ {ds : List PyData} {p : Str}, walkDR ms p ds = (partsD ms.length ds).bind (walkR ms p)
  | [], p => by simp [walkDR, partsD, walkR]
  | d :: ds, p => by
    unfold walkDR partsD
    rw [walkDP_eq]
    cases e : partD ms.length d with
    | none => rfl
    | some x =>
      simp only [Option.bind_some]
      cases ew : walkR ms p [x] with
      | none =>
        cases en : partsD ms.length ds with
        | none => rfl
        | some r => simp only [Option.map_some, Option.bind_some]; rw [walkR_head, ew]; rfl
      | some q =>
        simp only
        rw [walkDR_eq]
        cases en : partsD ms.length ds with
        | none => rfl
        | some r => simp only [Option.map_some, Option.bind_some]; rw [walkR_head, ew]; rfl
theorem lastD_eq {ms : List Nm} {d : PyData} {p : Str} : lastD ms p d = (rowsD ms.length d).bind (walkR ms p) := by
  unfold lastD rowsD
  cases d <;> first | exact walkDR_eq | rfl
end Fw
namespace Fw
open PySem PySem.Spec L2
/-! ### hanging together: the program's walk against the law's -/
end Fw
namespace Fw
open PySem PySem.Spec L2
/-! ### from an object's data back to the object -/
/-- what isinstance tells of all kinds -/
structure IsA (iL iT iS iI iB : Tag → Option Bool) : Prop where
  L : ∀ d : PyData, iL (tagD d) = some (match d with | .list _ => true | _ => false)
  T : ∀ d : PyData, iT (tagD d) = some (match d with | .tuple _ => true | _ => false)
  S : ∀ d : PyData, iS (tagD d) = some (match d with | .str _ => true | _ => false)
  I : ∀ d : PyData, iI (tagD d) = some (match d with | .int _ => true | .bool _ => true | _ => false)
  B : ∀ d : PyData, iB (tagD d) = some (match d with | .bool _ => true | _ => false)
theorem IsA.es {iL iT iS iI iB : Tag → Option Bool} (A : IsA iL iT iS iI iB) : Isis iL iT iS iI iB := ⟨A.L (.list []), A.T (.tuple []), A.S (.str Str.empty), A.I (.int 0), A.B (.int 0)⟩
section
variable {iL iT iS iI iB : Tag → Option Bool} {h : SH} {v : SV} {d : PyData} {m : Nat}
def betD (lo hi : Int) (d : PyData) : Bool := match intD d with
  | some i => decide (lo ≤ i ∧ i ≤ hi)
  | none => false
end
theorem boolsOf_map : ∀ bs : List Bool, boolsOf (bs.map SV.bl) = some bs
  | [] => rfl
  | b :: bs => by
    rw [List.map_cons]
    unfold boolsOf
    rw [boolsOf_map bs]
end Fw
namespace Fw
open PySem PySem.Spec L2
/-- lists within are not long -/
def wideD : Nat → PyData → Prop
  | k + 1, .list ds => ds.length ≤ 1000 ∧ ∀ x ∈ ds, wideD k x
  | k + 1, .tuple ds => ds.length ≤ 1000 ∧ ∀ x ∈ ds, wideD k x
  | _, _ => True
section
variable {iL iT iS iI iB : Tag → Option Bool} {h : SH} {v : SV} {d : PyData} {m : Nat}
end
end Fw
namespace Fw
open PySem PySem.Spec L2
end Fw
namespace Fw
open PySem PySem.Spec L2
section
variable {iL iT iS iI iB iP : Tag → Option Bool} {xP xM : List (Option Nat)} {c eP eU eN eR : Nat}
end
end Fw
namespace Fw
open PySem PySem.Spec L2
/-- lists of numbers within tuples can be compared -/
def shpL : PyData → Prop
  | .list ns => SeqAt.shaped (.list ns) = true
  | _ => True
def shpT : PyData → Prop
  | .tuple qs => ∀ y ∈ qs, shpL y
  | _ => True
def shpD : PyData → Prop
  | .list ds => ∀ x ∈ ds, shpT x
  | _ => True
section
variable {iL iT iS iI iB : Tag → Option Bool}
end
end Fw
namespace Fw
open PySem PySem.Spec L2
/-! ### values that stay but for the generator: built from small ones -/
theorem depthAll_le {k : Nat} : ∀ {ds : List PyData}, (∀ d ∈ ds, d.depth ≤ k) → PyData.depthAll ds ≤ k
  | [], _ => by rw [PyData.depthAll]; omega
  | d :: ds, h => by
    rw [PyData.depthAll]
    have := h d List.mem_cons_self
    have := depthAll_le (k := k) (ds := ds) fun e he => h e (List.mem_cons_of_mem _ he)
    omega
/-- what stood stays, but for some places -/
def KpS (S : Nat → Prop) (h h' : SH) : Prop := ∀ (j : Nat) (o : SO), ¬ S j → h[j]? = some o → h'[j]? = some o
theorem KpS.refl {S : Nat → Prop} {h : SH} : KpS S h h := fun _ _ _ e => e
theorem KpS.trans {S : Nat → Prop} {a b c : SH} (x : KpS S a b) (y : KpS S b c) : KpS S a c := fun j o n e => y j o n (x j o n e)
theorem Le.kpS {S : Nat → Prop} {a b : SH} (x : Le a b) : KpS S a b := fun j o _ e => x j o e
theorem Kp.kpS {S : Nat → Prop} {g : Nat} {a b : SH} (x : Kp g a b) (hg : S g) : KpS S a b := fun j o n e => x j o (fun z => n (z ▸ hg)) e
theorem KpS.le {S T : Nat → Prop} {a b : SH} (x : KpS S a b) (st : ∀ j, S j → T j) : KpS T a b := fun j o n e => x j o (fun z => n (st j z)) e
theorem KpS.set {S : Nat → Prop} {h : SH} {j : Nat} {o : SO} (hj : S j) : KpS S h (h.set j o) := fun i p n e => by rw [set_ne (fun (z : j = i) => n (by rw [← z]; exact hj))]; exact e
/-- a value that is no object -/
structure V0 (v : SV) (d : PyData) : Prop where
  show_ : d.showable = true
  dep : d.depth = 0
  sg : Sg 50 d.shown
  lay : d.canLay0 = true
  fl : (∀ ds, d ≠ .list ds) ∧ ∀ ds, d ≠ .tuple ds
  dat : ∀ (h : SH) (m : Nat), dataOf (m + 1) h v = some d
/-- a value of depth k whose text has at most n signs -/
structure Vn (k n : Nat) (S : Nat → Prop) (h : SH) (v : SV) (d : PyData) : Prop where
  show_ : d.showable = true
  dep : d.depth ≤ k
  sg : Sg n d.shown
  wide : ∀ j, wideD j d
  shL : shpL d
  shT : shpT d
  shD : shpD d
  dat : ∀ (h' : SH) (m : Nat), KpS S h h' → dataOf (m + k + 1) h' v = some d
theorem v0_int {i : Int} (h : i.natAbs < 10 ^ 40) : V0 (.int i) (.int i) := ⟨show_int h, by rw [PyData.depth], by rw [shown_int]; exact num40 h, by rw [PyData.canLay0], ⟨fun _ z => (nomatch z), fun _ z => (nomatch z)⟩, fun _ _ => rfl⟩
section
variable {k n j : Nat} {S : Nat → Prop} {h : SH} {v : SV} {d : PyData}
theorem V0.wide (x : V0 v d) : ∀ j, wideD j d := fun j => by
  cases d with
  | list ds => exact absurd rfl (x.fl.1 ds)
  | tuple ds => exact absurd rfl (x.fl.2 ds)
  | _ => cases j <;> trivial
theorem V0.shL (x : V0 v d) : shpL d := by
  cases d with
  | list ds => exact absurd rfl (x.fl.1 ds)
  | _ => trivial
theorem V0.shT (x : V0 v d) : shpT d := by
  cases d with
  | tuple ds => exact absurd rfl (x.fl.2 ds)
  | _ => trivial
theorem V0.shD (x : V0 v d) : shpD d := by
  cases d with
  | list ds => exact absurd rfl (x.fl.1 ds)
  | _ => trivial
theorem V0.vn (x : V0 v d) (hn : 50 ≤ n) : Vn k n S h v d := ⟨x.show_, by rw [x.dep]; omega, x.sg.up hn, x.wide, x.shL, x.shT, x.shD, fun h' m _ => x.dat h' (m + k)⟩
theorem Vn.up {k' n' : Nat} (x : Vn k n S h v d) (hk : k ≤ k') (hn : n ≤ n') : Vn k' n' S h v d :=
  ⟨x.show_, Nat.le_trans x.dep hk, x.sg.up hn, x.wide, x.shL, x.shT, x.shD, fun h' m l => by
    have := x.dat h' (m + (k' - k)) l
    have e : m + (k' - k) + k = m + k' := by omega
    rw [e] at this
    exact this⟩
theorem Vn.kp {h' : SH} (x : Vn k n S h v d) (l : KpS S h h') : Vn k n S h' v d := { x with dat := fun h2 m l2 => x.dat h2 m (l.trans l2) }
/-- a list of such: what stands in it as a list of numbers is not asked -/
structure Vw (k n : Nat) (S : Nat → Prop) (h : SH) (v : SV) (d : PyData) : Prop where
  show_ : d.showable = true
  dep : d.depth ≤ k
  sg : Sg n d.shown
  wide : ∀ j, wideD j d
  shT : shpT d
  shD : shpD d
  dat : ∀ (h' : SH) (m : Nat), KpS S h h' → dataOf (m + k + 1) h' v = some d
theorem Vn.vw (x : Vn k n S h v d) : Vw k n S h v d := ⟨x.show_, x.dep, x.sg, x.wide, x.shT, x.shD, x.dat⟩
theorem Vw.up {k' n' : Nat} (x : Vw k n S h v d) (hk : k ≤ k') (hn : n ≤ n') : Vw k' n' S h v d :=
  ⟨x.show_, Nat.le_trans x.dep hk, x.sg.up hn, x.wide, x.shT, x.shD, fun h' m l => by
    have := x.dat h' (m + (k' - k)) l
    have e : m + (k' - k) + k = m + k' := by omega
    rw [e] at this
    exact this⟩
theorem Vw.kp {h' : SH} (x : Vw k n S h v d) (l : KpS S h h') : Vw k n S h' v d := { x with dat := fun h2 m l2 => x.dat h2 m (l.trans l2) }
theorem Vw.tx (x : Vw k n S h v d) (hk : k ≤ 60) (hn : n ≤ 16777216) : Tx1 d := Tx1.of x.show_ (by have := x.dep; omega) x.sg hn
theorem Vw.at_ (x : Vw k n S h v d) (hk : k ≤ 60) : dataOf 64 h v = some d := by
  have := x.dat h (63 - k) KpS.refl
  have e : 63 - k + k + 1 = 64 := by omega
  rw [e] at this
  exact this
end
end Fw
namespace Fw
open PySem PySem.Spec L2
/-- a part of a bent row; a bent row -/
def It (S : Nat → Prop) (h : SH) (v : SV) : Prop := ∃ d, Vw 2 4000 S h v d
def Vz (S : Nat → Prop) (h : SH) (v : SV) : Prop := ∃ d, Tx1 d ∧ (∀ j, wideD j d) ∧ shpD d ∧ ∀ h', KpS S h h' → dataOf 64 h' v = some d
section
variable {S T : Nat → Prop} {h h' : SH} {v : SV} {j : Nat}
theorem It.kp (x : It S h v) (l : KpS S h h') : It S h' v := let ⟨d, q⟩ := x; ⟨d, q.kp l⟩
theorem Vz.kp (x : Vz S h v) (l : KpS S h h') : Vz S h' v := let ⟨d, a, b, c, q⟩ := x; ⟨d, a, b, c, fun h2 l2 => q h2 (l.trans l2)⟩
theorem Vz.le (x : Vz S h v) (l : Le h h') : Vz S h' v := x.kp l.kpS
theorem It.le (x : It S h v) (l : Le h h') : It S h' v := x.kp l.kpS
/-- .. but for more places, none of which stood -/
theorem KpS.new {h h1 h2 : SH} (a : KpS S h h1) (b : KpS T h1 h2) (n : ∀ j, T j → S j ∨ h.length ≤ j) : KpS S h h2 := fun j o hj e => by
  refine b j o (fun z => ?_) (a j o hj e)
  rcases n j z with w | w
  · exact hj w
  · have := lt_of e; omega
theorem It.new (x : It S h v) (a : KpS S h h') (n : ∀ j, T j → S j ∨ h.length ≤ j) : It T h' v := by
  obtain ⟨d, q⟩ := x
  exact ⟨d, { q with dat := fun h2 m l2 => q.dat h2 m (a.new l2 n) }⟩
theorem Vz.new (x : Vz S h v) (a : KpS S h h') (n : ∀ j, T j → S j ∨ h.length ≤ j) : Vz T h' v := by
  obtain ⟨d, a1, a2, a3, q⟩ := x
  exact ⟨d, a1, a2, a3, fun h2 l2 => q h2 (a.new l2 n)⟩
theorem V0.it {d : PyData} (x : V0 v d) : It S h v := ⟨d, (x.vn (k := 2) (n := 4000) (by decide)).vw⟩
end
end Fw
namespace Fw
open PySem PySem.Spec L2
def Below (S : Nat → Prop) (h : SH) : Prop := ∀ j, S j → j < h.length
theorem Below.le {S : Nat → Prop} {h h' : SH} (b : Below S h) (l : Le h h') : Below S h' := fun j s => Nat.lt_of_lt_of_le (b j s) l.len
theorem Below.no {S : Nat → Prop} {h : SH} (b : Below S h) {j : Nat} (hj : h.length ≤ j) : ¬ S j := fun s => by have := b j s; omega
section
variable {S : Nat → Prop} {ss : SS} {h : SH}
/-- a row as it stands, for bending -/
structure Rw (S : Nat → Prop) (h : SH) (A : Nat) (xs : List SV) : Prop where
  e : h[A]? = some (.lst xs)
  n : ¬ S A
  few : xs.length ≤ 10
  it : ∀ x ∈ xs, It S h x
theorem Rw.le {h' : SH} {A : Nat} {xs : List SV} (x : Rw S h A xs) (l : Le h h') : Rw S h' A xs := ⟨l _ _ x.e, x.n, x.few, fun y hy => (x.it y hy).le l⟩
theorem Rw.kp {h' : SH} {A : Nat} {xs : List SV} (x : Rw S h A xs) (l : KpS S h h') : Rw S h' A xs := ⟨l _ _ x.n x.e, x.n, x.few, fun y hy => (x.it y hy).kp l⟩
theorem Rw.new {T : Nat → Prop} {h' : SH} {A : Nat} {xs : List SV} (x : Rw S h A xs) (a : KpS S h h') (n : ∀ j, T j → S j ∨ h.length ≤ j) : Rw T h' A xs :=
  ⟨a _ _ x.n x.e, fun t => by
    rcases n A t with w | w
    · exact x.n w
    · have := lt_of x.e; omega, x.few, fun y hy => (x.it y hy).new a n⟩
end
end Fw
namespace Fw
open PySem PySem.Spec L2
section
variable {S : Nat → Prop} {ss : SS} {h : SH}
/-- what stands while bent rows are put into a list -/
structure Bst (S : Nat → Prop) (A F : Nat) (xs : List SV) (hL : SH) (m : Nat) (h : SH) : Prop where
  kp : KpS (fun j => j = F) hL h
  len : hL.length ≤ h.length
  F : ∃ acc, h[F]? = some (.lst acc) ∧ acc.length = m ∧ ∀ v ∈ acc, Vz S h v
theorem Bst.kpS {A F : Nat} {xs : List SV} {hL : SH} {m : Nat} (x : Bst S A F xs hL m h) (hF : S F) : KpS S hL h := x.kp.le fun j e => by rw [e]; exact hF
end
end Fw
namespace Fw
open PySem PySem.Spec L2
section
variable {S : Nat → Prop} {h : SH}
theorem GenOk.kpS {g F : Nat} {h h' : SH} {B B' : Int} (x : GenOk h g B) (k : KpS (fun j => j = F) h h') (n : F ≠ g) (hB : B ≤ B') : GenOk h' g B' := by
  obtain ⟨a, b, c, e, h1, h2, h3⟩ := x
  exact ⟨a, b, c, k _ _ (fun z => n z.symm) e, h1, h2, by omega⟩
end
end Fw
namespace Fw
open PySem PySem.Spec L2
structure Bs (g A F : Nat) (n : Int) (s : SS) : Prop where
  len : s.length = 11
  s0 : s[0]? = some (some (.ref g))
  s2 : s[2]? = some (some (.ref A))
  s3 : s[3]? = some (some (.ref F))
  s7 : s[7]? = some (some (.int n))
theorem Bs.set {g A F : Nat} {n : Int} {s : SS} (x : Bs g A F n s) {j : Nat} {v : Option SV} (h : j = 4 ∨ j = 5 ∨ 8 ≤ j) : Bs g A F n (s.set j v) :=
  ⟨by simp [x.len], gs x.s0 (by omega), gs x.s2 (by omega), gs x.s3 (by omega), gs x.s7 (by omega)⟩
section
variable {S : Nat → Prop} {h : SH}
end
end Fw
namespace Fw
open PySem PySem.Spec L2
end Fw
namespace Fw
open PySem PySem.Spec L2
section
variable {iL iT iS iI iB iP : Tag → Option Bool} {xP xM : List (Option Nat)} {c eP eU : Nat}
structure Js (a t : Nat) (s : SS) : Prop where
  len : s.length = 8
  s1 : s[1]? = some (some (.ref a))
  s2 : s[2]? = some (some (.ref t))
theorem Js.set {a t : Nat} {s : SS} (x : Js a t s) {j : Nat} {v : Option SV} (h : 3 ≤ j) : Js a t (s.set j v) := ⟨by simp [x.len], gs x.s1 (by omega), gs x.s2 (by omega)⟩
end
end Fw
namespace Fw
open PySem PySem.Spec L2
section
variable {iL iT iS iI iB iP : Tag → Option Bool} {xP xM : List (Option Nat)} {c eP eU : Nat} {h : SH} {v : SV}
end
section
variable {iL iT iS iI iB iP : Tag → Option Bool} {xP xM : List (Option Nat)} {c eP eU : Nat} {sub : Nat → Option Bool} {iU iQ iN iR : Tag → Option Bool} {xn xv : List (Option Nat)}
end
end Fw
namespace Fw
open PySem PySem.Spec L2
theorem Rowb.low {h : SH} {lo lo' A : Nat} {r : List Pt} (x : Rowb h lo A r) (l : lo' ≤ lo) : Rowb h lo' A r := by
  obtain ⟨a, ts, e, hl, z⟩ := x
  refine ⟨by omega, ts, e, hl, fun i t et => ?_⟩
  obtain ⟨y, b, a1, a2, a3, a4⟩ := z i t et
  exact ⟨y, b, a1, by omega, by omega, a4⟩
section
variable {iL iT iS iI iB iP : Tag → Option Bool} {xA xW xT xC xP xM xK : List (Option Nat)} {cW c eP eU : Nat} {sub : Nat → Option Bool} {iU iQ iN iR : Tag → Option Bool} {xn xv : List (Option Nat)}
structure Mst5 (n : Nat) (g t a : Nat) (lo : Nat) (ps : List Str) (ms : List Nm) (c : Nat) (B : Int) (s : SS) (h : SH) : Prop where
  len : s.length = n
  s2 : s[2]? = some (some (.ref g))
  s3 : s[3]? = some (some (.ref t))
  s4 : s[4]? = some (some (.ref a))
  gen : GenOk h g B
  pt : Parts h t lo ps ms
  pr : Prog h c a lo ps ms
  hg : g < lo
  hl : lo ≤ h.length
theorem Mst5.set {n g t a lo : Nat} {ps : List Str} {ms : List Nm} {c : Nat} {B : Int} {s : SS} {h : SH} (x : Mst5 n g t a lo ps ms c B s h) {j : Nat} {v : Option SV} (hj : j = 0 ∨ j = 1 ∨ 5 ≤ j) : Mst5 n g t a lo ps ms c B (s.set j v) h :=
  { x with len := by simp [x.len], s2 := gs x.s2 (by omega), s3 := gs x.s3 (by omega), s4 := gs x.s4 (by omega) }
theorem Mst5.le {n g t a lo : Nat} {ps : List Str} {ms : List Nm} {c : Nat} {B B' : Int} {s : SS} {h h' : SH} (x : Mst5 n g t a lo ps ms c B s h) (l : Le h h') (hB : B ≤ B') : Mst5 n g t a lo ps ms c B' s h' :=
  { x with gen := x.gen.le l hB, pt := x.pt.le l, pr := x.pr.le l, hl := Nat.le_trans x.hl l.len }
theorem Mst5.kp {n g t a lo : Nat} {ps : List Str} {ms : List Nm} {c : Nat} {B B' : Int} {s : SS} {h h' : SH} (x : Mst5 n g t a lo ps ms c B s h) (k : Kp g h h') (hl : h.length ≤ h'.length) (G : GenOk h' g B') : Mst5 n g t a lo ps ms c B' s h' := by
  obtain ⟨gl, e⟩ := x.gen.at
  exact { x with gen := G, pt := x.pt.kp k x.hg e, pr := x.pr.kp k x.hg e, hl := Nat.le_trans x.hl hl }
end
end Fw
namespace Fw
open PySem PySem.Spec L2
/-! ### programs as the laws from heights on draw them -/
def placeA : EM := mO2 opIx (mVar 1) (mCall (mFn 2 4 randM) (aCons (mVar 0) (aCons (mOA (un1 opLen) (aCons (mVar 1) aNil)) aNil)))
def moves5M : SM := (mSeq (mSet 3 (mOA opLst aNil)) (mSeq (mFor (mRng1 (aCons (mCall (mFn 2 4 randM) (aCons (mVar 0) (aCons (mO2 opAdd (mVar 2) (mC (.int 1))) aNil))) aNil)) (gVar 4) (mSeq (mSet 5 (mO2 opSub (mCall (mFn 2 4 randM) (aCons (mVar 0) (aCons (mC (.int 9)) aNil))) (mC (.int 4)))) (mSeq (mSet 6 (mO2 opIx (mOA opLst (aCons (mC (.int 0)) (aCons (mC (.int 0)) (aCons (mC (.int 1)) (aCons (mC (.int 2)) (aCons (mC (.int 4)) aNil)))))) (mCall (mFn 2 4 randM) (aCons (mVar 0) (aCons (mC (.int 5)) aNil))))) (mSeq (mSet 7 (mOA (bin2 opMin) (aCons (mO2 opAdd (mOA (bin2 opMax) (aCons (mC (.int 0)) (aCons (mO2 opSub (mC (.int 0)) (mVar 5)) aNil))) (mVar 6)) (aCons (mO2 opSub (mC (.int 8)) (mOA (bin2 opMax) (aCons (mC (.int 0)) (aCons (mVar 5) aNil)))) aNil)))) (mSeq (mPar 8 9 (aCons placeA (aCons placeA aNil))) (mDrop (mBm opAppend (mVar 3) (aCons (mOA opTup (aCons (mVar 8) (aCons (mVar 7) (aCons (mVar 5) (aCons (mVar 9) aNil))))) aNil)))))))) (mRet (mVar 3))))
structure M5 (g A F : Nat) (s : SS) : Prop where
  len : s.length = 10
  s0 : s[0]? = some (some (.ref g))
  s1 : s[1]? = some (some (.ref A))
  s3 : s[3]? = some (some (.ref F))
theorem M5.set {g A F : Nat} {s : SS} (x : M5 g A F s) {j : Nat} {v : Option SV} (h : 4 ≤ j) : M5 g A F (s.set j v) := ⟨by simp [x.len], gs x.s0 (by omega), gs x.s1 (by omega), gs x.s3 (by omega)⟩
theorem placeA_is {g A : Nat} {ps : List Str} {h : SH} {B : Int} {s : SS} (G : GenOk h g B) (hB : B ≤ 900000000) (pl : Pls h A ps) (ng : A ≠ g) (one : 1 ≤ ps.length) (four : ps.length ≤ 4) (s0 : s[0]? = some (some (.ref g))) (s1 : s[1]? = some (some (.ref A))) {P : SV → SH → Prop}
    (p : ∀ x h', x ∈ ps → Kp g h h' → h.length ≤ h'.length → GenOk h' g (B + 4000) → P (.str x) h') : Is (placeA s h) P := by
  unfold placeA
  refine pickR (j := 0) (n := ((ps.map SV.str).length : Nat)) (xs := ps.map SV.str) G hB rfl (by simp; omega) (by simp; omega) (Is.var s1 ⟨A, rfl, ng, Le.refl _, pl.at_, Is.acons (Is.var s0 (Is.acons (Is.oa (Is.acons (Is.var s1 (Is.anil (len_is pl.at_ (Is.anil ⟨rfl, rfl⟩))))))))⟩) fun x h' hx k l G' => ?_
  obtain ⟨y, hy, rfl⟩ := List.mem_map.mp hx
  exact p y h' hy k l G'
theorem moves5_is {g A : Nat} {ps : List Str} {h : SH} {B most : Int} (G : GenOk h g B) (hB : B ≤ 700000000) (pl : Pls h A ps) (ng : A ≠ g) (one : 1 ≤ ps.length) (four : ps.length ≤ 4) (m0 : 0 ≤ most) (m1 : most ≤ 10) {P : SV → SH → Prop}
    (p : ∀ h' M ms, Kp g h h' → h.length ≤ h'.length → GenOk h' g (B + 200000) → Mvn h' M ms → h.length ≤ M → (∀ m ∈ ms, Nm.Ok ps m) → ms.length ≤ 10 → P (.ref M) h') : Is (mFn 3 10 moves5M [.ref g, .ref A, .int most] h) P := by
  refine Is.fn rfl ?_
  unfold moves5M
  have hg : g < h.length := by obtain ⟨_, e⟩ := G.at; exact lt_of e
  have hA : A < h.length := lt_of pl.at_
  refine Ist.seq (Ist.set (Is.oa (Is.anil (lst_is (small_big (by simp)) ?_))))
  have l1 := Le.push h (.lst [])
  have n1 := new_at h (.lst [])
  have hl1 : (h ++ [SO.lst []]).length = h.length + 1 := by simp
  have i1 : M5 g A h.length (([SV.ref g, .ref A, .int most].map some ++ List.replicate (10 - [SV.ref g, .ref A, .int most].length) none).set 3 (some (SV.ref h.length))) := ⟨rfl, rfl, rfl, rfl⟩
  have i2 : (([SV.ref g, .ref A, .int most].map some ++ List.replicate (10 - [SV.ref g, .ref A, .int most].length) none).set 3 (some (SV.ref h.length)))[2]? = some (some (.int most)) := rfl
  generalize (([SV.ref g, .ref A, .int most].map some ++ List.replicate (10 - [SV.ref g, .ref A, .int most].length) none).set 3 (some (SV.ref h.length))) = s1 at i1 i2 ⊢
  have G1 := G.le l1 (Int.le_refl _)
  generalize h ++ [SO.lst []] = h1 at l1 n1 hl1 G1 ⊢
  refine Ist.seq (Ist.for (Is.rng1 (Is.acons (Is.call (Is.acons (Is.var i1.s0 (Is.acons (Is.o2 (Is.var i2 (Is.c ⟨_, _, rfl, Is.anil ?_⟩))))))))))
  refine draw100 G1 (by omega) (by omega) (by omega) fun q h2 q0 q1 kp2 l2 G2 => Is.anil ⟨q, rfl, decide_eq_true (by omega), q.toNat, fun j s hh => M5 g A h.length s ∧ Kp g h hh ∧ h1.length ≤ hh.length ∧ GenOk hh g (B + 4000 + 16000 * j) ∧
      ∃ (ts : List Nat) (ms : List Nm), hh[h.length]? = some (.lst (ts.map SV.ref)) ∧ ts.length = j ∧ ts.length = ms.length ∧ (∀ m ∈ ms, Nm.Ok ps m) ∧ ∀ (i t : Nat), ts[i]? = some t → h1.length ≤ t ∧ ∃ m, ms[i]? = some m ∧ hh[t]? = some (Nm.so m), by unfold many; omega, ⟨i1, (Le.kp l1).trans kp2, by omega, G2.le (Le.refl _) (by omega), [], [], kp2 _ _ (by omega) n1, rfl, rfl, fun _ z => (nomatch z), fun i t e => by simp at e⟩, ?_, ?_⟩
  · rintro j s hh hj ⟨i, kp, lh, GG, ts, ms, ets, hj1, hj2, mok, zz⟩
    refine ⟨_, _, _, wkRng_at hj, rfl, ?_⟩
    have j1 := i.set (j := 4) (v := some (.int (0 + (j : Int)))) (by decide)
    generalize s.set 4 (some (SV.int (0 + (j : Int)))) = s2 at j1 ⊢
    have plh : Pls hh A ps := ⟨kp _ _ ng pl.at_⟩
    refine Ist.seq (Ist.set (Is.o2 (Is.call (Is.acons (Is.var j1.s0 (Is.acons (Is.c (Is.anil ?_))))))))
    refine draw100 GG (by omega) (by decide) (by decide) fun r h3 r0 r1 kp3 l3 G3 => Is.c ⟨_, _, rfl, ?_⟩
    have j2 := j1.set (j := 5) (v := some (.int (r - 4))) (by decide)
    have q5 := gx (i := 5) (x := some (SV.int (r - 4))) j1.len (by decide)
    generalize s2.set 5 (some (SV.int (r - 4))) = s3 at j2 q5 ⊢
    refine Ist.seq (Ist.set ?_)
    refine pickR (j := 0) (n := 5) (xs := [.int 0, .int 0, .int 1, .int 2, .int 4]) G3 (by omega) rfl (by decide) (by decide) (Is.oa (Is.acons (Is.c (Is.acons (Is.c (Is.acons (Is.c (Is.acons (Is.c (Is.acons (Is.c (Is.anil (lst_is (small_big (by simp)) ⟨_, rfl, by omega, Le.push _ _, new_at _ _, Is.acons (Is.var j2.s0 (Is.acons (Is.c (Is.anil ⟨rfl, rfl⟩))))⟩))))))))))))) fun x h4 mx kp4 l4 G4 => ?_
    have hx : ∃ e : Int, x = .int e ∧ 0 ≤ e ∧ e ≤ 4 := by
      simp only [List.mem_cons, List.not_mem_nil, or_false] at mx
      rcases mx with rfl | rfl | rfl | rfl | rfl <;> exact ⟨_, rfl, by decide, by decide⟩
    obtain ⟨e, rfl, e0, e4⟩ := hx
    have j3 := j2.set (j := 6) (v := some (.int e)) (by decide)
    have r5 := gs (i := 6) (x := some (SV.int e)) q5 (by decide)
    have q6 := gx (i := 6) (x := some (SV.int e)) j2.len (by decide)
    generalize s3.set 6 (some (SV.int e)) = s4 at j3 r5 q6 ⊢
    refine Ist.seq (Ist.set (Is.oa (Is.acons (Is.o2 (Is.oa (Is.acons (Is.c (Is.acons (Is.o2 (Is.c (Is.var r5 ⟨_, _, rfl, Is.anil ⟨_, _, rfl, Is.var q6 ⟨_, _, rfl, ?_⟩⟩⟩)))))))))))
    refine Is.acons (Is.o2 (Is.c (Is.oa (Is.acons (Is.c (Is.acons (Is.var r5 (Is.anil ⟨_, _, rfl, _, _, rfl, Is.anil ⟨_, _, rfl, ?_⟩⟩))))))))
    generalize hl : (ite ((_ : Int) < _) _ _ : Int) = l
    have hl' : 0 ≤ l ∧ l ≤ 8 ∧ 0 ≤ l + (r - 4) ∧ l + (r - 4) ≤ 8 := by
      rw [← hl]
      split <;> split <;> split <;> refine ⟨?_, ?_, ?_, ?_⟩ <;> omega
    have j4 := j3.set (j := 7) (v := some (.int l)) (by decide)
    have p5 := gs (i := 7) (x := some (SV.int l)) r5 (by decide)
    have q7 := gx (i := 7) (x := some (SV.int l)) j3.len (by decide)
    generalize s4.set 7 (some (SV.int l)) = s5 at j4 p5 q7 ⊢
    have pl4 : Pls h4 A ps := ⟨(kp3.trans kp4) _ _ ng plh.at_⟩
    refine Ist.seq (Ist.par (Is.acons (placeA_is G4 (by omega) pl4 ng one four j4.s0 j4.s1 fun x h5 hx kp5 l5 G5 => ?_)))
    refine Is.acons (placeA_is G5 (by omega) ⟨kp5 _ _ ng pl4.at_⟩ ng one four j4.s0 j4.s1 fun y h6 hy kp6 l6 G6 => Is.anil ⟨_, _, rfl, ?_⟩)
    have j5 := (j4.set (j := 8) (v := some (.str x)) (by decide)).set (j := 9) (v := some (.str y)) (by decide)
    have o5 : ((s5.set 8 (some (SV.str x))).set 9 (some (SV.str y)))[5]? = some (some (.int (r - 4))) := gs (gs p5 (by decide)) (by decide)
    have o7 : ((s5.set 8 (some (SV.str x))).set 9 (some (SV.str y)))[7]? = some (some (.int l)) := gs (gs q7 (by decide)) (by decide)
    have o8 : ((s5.set 8 (some (SV.str x))).set 9 (some (SV.str y)))[8]? = some (some (.str x)) := gs (gx j4.len (by decide)) (by decide)
    have o9 : ((s5.set 8 (some (SV.str x))).set 9 (some (SV.str y)))[9]? = some (some (.str y)) := gx (n := 10) (by simp [j4.len]) (by decide)
    generalize (s5.set 8 (some (SV.str x))).set 9 (some (SV.str y)) = s6 at j5 o5 o7 o8 o9 ⊢
    have kp36 := ((kp3.trans kp4).trans kp5).trans kp6
    have ets6 := kp36 _ _ (by omega) ets
    refine Ist.drop (Is.bmL (Is.var j5.s3 ⟨lstB ets6, ?_⟩))
    refine Is.acons (Is.oa (Is.acons (Is.var o8 (Is.acons (Is.var o7 (Is.acons (Is.var o5 (Is.acons (Is.var o9 (Is.anil (tup_is (small_big (by simp)) ?_)))))))))))
    have l7 := Le.push h6 (.tup [.str x, .int l, .int (r - 4), .str y])
    have n7 := new_at h6 (.tup [.str x, .int l, .int (r - 4), .str y])
    have hl7 : (h6 ++ [SO.tup [.str x, .int l, .int (r - 4), .str y]]).length = h6.length + 1 := by simp
    generalize ht6 : h6.length = t at n7 hl7 ⊢
    generalize h6 ++ [SO.tup [.str x, .int l, .int (r - 4), .str y]] = h7 at l7 n7 hl7 ⊢
    have ets7 := l7 _ _ ets6
    refine Is.anil (app_is ets7 (small_lt (by simp; omega)) ⟨j5, ?_, by simp; omega, ?_, ts ++ [t], ms ++ [⟨x, l, r - 4, y⟩], by rw [set_at ets7]; simp, by simp [hj1], by simp [hj2], ?_, ?_⟩)
    · intro i' o ni ei
      have hi := lt_of ei
      rw [set_ne (by omega)]
      exact l7 _ _ (kp36 _ _ ni (kp i' o ni ei))
    · obtain ⟨a, b, c, e, c1, c2, c3⟩ := G6
      exact ⟨a, b, c, by rw [set_ne (by omega)]; exact l7 _ _ e, c1, c2, by omega⟩
    · intro m' hm'
      rcases List.mem_append.mp hm' with hm' | hm'
      · exact mok m' hm'
      · rw [List.mem_singleton.mp hm']
        exact ⟨hx, hy, hl'.1, hl'.2.1, by show -4 ≤ r - 4; omega, by show r - 4 ≤ 4; omega, hl'.2.2.1, hl'.2.2.2⟩
    · intro i' u eu
      by_cases hi : i' < ts.length
      · rw [List.getElem?_append_left hi] at eu
        obtain ⟨a, m', b, c⟩ := zz i' u eu
        refine ⟨a, m', by rw [List.getElem?_append_left (by omega)]; exact b, ?_⟩
        rw [set_ne (by omega)]
        have ng' : u ≠ g := fun w => by
          obtain ⟨gl, eg⟩ := GG.at
          rw [w, eg] at c; cases c
        exact l7 _ _ (kp36 _ _ ng' c)
      · have hi2 : i' = ts.length := by have := (List.getElem?_eq_some_iff.mp eu).1; simp at this; omega
        subst hi2
        rw [List.getElem?_append_right (Nat.le_refl _)] at eu
        simp at eu
        subst eu
        exact ⟨by omega, ⟨x, l, r - 4, y⟩, by rw [hj2, List.getElem?_append_right (Nat.le_refl _)]; simp, by rw [set_ne (by omega)]; exact n7⟩
  · rintro s hh ⟨i, kp, lh, GG, ts, ms, ets, hj1, hj2, mok, zz⟩
    exact ⟨wkRng_end, Ist.ret (Is.var i.s3 (p hh _ ms kp (by omega) (GG.le (Le.refl _) (by omega)) ⟨ts, ets, hj2, fun i t e => (zz i t e).2⟩ (Nat.le_refl _) mok (by omega)))⟩
end Fw
namespace Fw
open PySem PySem.Spec L2
def fourm : List Str := ["up", "down", "mid", "move"]
theorem fourm_ok {k : Nat} (h1 : 1 ≤ k) (h4 : k ≤ 4) : PsOk (fourm.take k) ∧ ∀ p ∈ fourm.take k, NmOk p := by
  have nm : ∀ p ∈ fourm, NmOk p := by
    have d : ∀ p ∈ fourm, (1 ≤ p.length ∧ p.length ≤ 8) ∧ p.cps.toList.all (fun c => decide (97 ≤ c ∧ c ≤ 122)) = true := by decide +kernel
    intro p hp
    obtain ⟨⟨a, b⟩, c⟩ := d p hp
    refine ⟨a, b, fun x hx => ?_⟩
    have := List.all_eq_true.mp c x (by simpa using hx)
    simpa using this
  refine ⟨⟨?_, ?_, ?_⟩, fun p hp => nm p (List.mem_of_mem_take hp)⟩
  · have : fourm.length = 4 := rfl
    rw [List.length_take]; omega
  · have : fourm.length = 4 := rfl
    rw [List.length_take]; omega
  · have nd : fourm.Nodup := by decide +kernel
    exact nd.sublist (List.take_sublist _ _)
def drawn5M : SM := (mSeq (mSet 3 (mCut (mOA opLst (aCons (mC (.str "up")) (aCons (mC (.str "down")) (aCons (mC (.str "mid")) (aCons (mC (.str "move")) aNil))))) pNone (pSome (mO2 opAdd (mC (.int 1)) (mCall (mFn 2 4 randM) (aCons (mVar 0) (aCons (mVar 1) aNil))))))) (mRet (mOA opLst (aCons (mVar 3) (aCons (mCall (mFn 3 10 moves5M) (aCons (mVar 0) (aCons (mVar 3) (aCons (mVar 2) aNil)))) aNil)))))
theorem drawn5_is {g : Nat} {h : SH} {B many most : Int} (G : GenOk h g B) (hB : B ≤ 600000000) (a0 : 1 ≤ many) (a1 : many ≤ 4) (m0 : 0 ≤ most) (m1 : most ≤ 10) {P : SV → SH → Prop}
    (p : ∀ h' t ps ms, Kp g h h' → h.length ≤ h'.length → GenOk h' g (B + 300000) → Parts h' t h.length ps ms → P (.ref t) h') : Is (mFn 3 4 drawn5M [.ref g, .int many, .int most] h) P := by
  refine Is.fn rfl ?_
  unfold drawn5M
  have hg : g < h.length := by obtain ⟨_, e⟩ := G.at; exact lt_of e
  refine Ist.seq (Ist.set (Is.cut (Is.oa (Is.acons (Is.c (Is.acons (Is.c (Is.acons (Is.c (Is.acons (Is.c (Is.anil (lst_is (small_big (by simp)) (Is.pN (Is.pS (Is.o2 (Is.c (Is.call (Is.acons (Is.var (v := .ref g) rfl (Is.acons (Is.var (v := .int many) rfl (Is.anil ?_)))))))))))))))))))))))
  have l1 := Le.push h (.lst [.str "up", .str "down", .str "mid", .str "move"])
  have n1 := new_at h (.lst [.str "up", .str "down", .str "mid", .str "move"])
  have hl1 : (h ++ [SO.lst [.str "up", .str "down", .str "mid", .str "move"]]).length = h.length + 1 := by simp
  refine draw100 (G.le l1 (Int.le_refl _)) (by omega) (by omega) (by omega) fun r h2 r0 r1 kp2 l2 G2 => ?_
  refine ⟨.int (1 + r), h2, rfl, 1 + r, rfl, h.length, [.str "up", .str "down", .str "mid", .str "move"], rfl, kp2 _ _ (by omega) n1, ?_⟩
  obtain ⟨k, hk, k1, k4⟩ : ∃ k : Nat, 1 + r = (k : Int) ∧ 1 ≤ k ∧ k ≤ 4 := ⟨(1 + r).toNat, by omega, by omega, by omega⟩
  rw [hk]
  have ec : cutS [SV.str "up", .str "down", .str "mid", .str "move"] none (some ((k : Nat) : Int)) = (fourm.take k).map SV.str := by
    rw [cut_take _ _ (by simpa using k4), List.map_take]; rfl
  rw [ec]
  obtain ⟨pok, pnm⟩ := fourm_ok k1 k4
  have f45 : ∀ p ∈ fourm, p ∈ five := by decide +kernel
  have pfr : ∀ p ∈ fourm.take k, p ∈ five := fun p hp => f45 p (List.mem_of_mem_take hp)
  have pup : (fourm.take k).head? = some "up" := by
    cases k with
    | zero => omega
    | succ k => rfl
  generalize fourm.take k = ps at pok pnm pfr pup ⊢
  have l3 := Le.push h2 (.lst (ps.map SV.str))
  have n3 := new_at h2 (.lst (ps.map SV.str))
  have kp3 := ((Le.kp (g := g) l1).trans kp2).trans (Le.kp l3)
  have hl3 : (h2 ++ [SO.lst (ps.map SV.str)]).length = h2.length + 1 := by simp
  have G3 := G2.le l3 (Int.le_refl _)
  have hh2 : h.length ≤ h2.length := by omega
  generalize h2.length = A at n3 hl3 hh2 ⊢
  generalize h2 ++ [SO.lst (ps.map SV.str)] = h3 at l3 n3 kp3 hl3 G3 ⊢
  show Ist (mRet _ [some (.ref g), some (.int many), some (.int most), some (.ref A)] h3) _ _ _ _
  refine Ist.ret (Is.oa (Is.acons (Is.var (v := .ref A) rfl (Is.acons (Is.call (Is.acons (Is.var (v := .ref g) rfl (Is.acons (Is.var (v := .ref A) rfl (Is.acons (Is.var (v := .int most) rfl (Is.anil ?_))))))))))))
  refine moves5_is G3 (by omega) ⟨n3⟩ (by omega) pok.one pok.four m0 m1 fun h4 M ms kp4 l4 G4 mv hM mok few => Is.anil (lst_is (small_big (by simp)) ?_)
  have l5 := Le.push h4 (.lst [.ref A, .ref M])
  exact p _ _ ps ms ((kp3.trans kp4).trans (Le.kp l5)) (by simp; omega) (G4.le l5 (by omega)) ⟨⟨A, M, new_at _ _, hh2, by omega, by omega, ⟨l5 _ _ (kp4 _ _ (by omega) n3)⟩, mv.le l5⟩, pok, pnm, mok, few, pfr, pup⟩
end Fw
namespace Fw
open PySem PySem.Spec L2
/-- rows of up to a hundred numbers each -/
structure Row5 (ms : List Nm) (r : List Pt) : Prop where
  few : r.length ≤ 100
  num : ∀ x ∈ r, 1 ≤ x.t ∧ x.ns ≠ [] ∧ x.ns.length ≤ 100 ∧ ∀ n ∈ x.ns, 0 ≤ n ∧ n < ms.length
theorem Row5.of {ms : List Nm} {r : List Pt} {p q : Str} (e : walkR ms p r = some q) (few : r.length ≤ 100) (num : ∀ x ∈ r, x.ns.length ≤ 100) : Row5 ms r :=
  ⟨few, fun x hx => let ⟨a, b, c⟩ := walkR_num e x hx; ⟨a, b, num x hx, c⟩⟩
end Fw
namespace Fw
open PySem PySem.Spec L2
section
variable {h : SH} {t lo : Nat} {ps : List Str} {ms : List Nm} {ss : SS} {P : SV → SH → Prop}
end
end Fw
namespace Fw
open PySem PySem.Spec L2
end Fw
namespace Fw
open PySem PySem.Spec L2
/-! ### how high a row climbs -/
def mx (a b : Int) : Int := if b > a then b else a
end Fw
namespace Fw
open PySem PySem.Spec L2
/-- what a top is asked with -/
structure Ask5 (h : SH) (c a lo A : Nat) (ps : List Str) (ms : List Nm) (r : List Pt) (place q : Str) : Prop where
  pr : Prog h c a lo ps ms
  nm : ∀ p ∈ ps, NmOk p
  mok : ∀ m ∈ ms, Nm.Ok ps m
  row : Row h A r
  rok : Row5 ms r
  walk : walkR ms place r = some q
  hp : place ∈ ps
theorem Ask5.le {h h' : SH} {c a lo A : Nat} {ps : List Str} {ms : List Nm} {r : List Pt} {place q : Str} (x : Ask5 h c a lo A ps ms r place q) (l : Le h h') : Ask5 h' c a lo A ps ms r place q := { x with pr := x.pr.le l, row := x.row.le l }
section
variable {iL iT iS iI iB iP : Tag → Option Bool} {xP xM : List (Option Nat)} {c eP eU eN eR : Nat}
end
end Fw
namespace Fw
open PySem PySem.Spec L2
section
variable {iL iT iS iI iB iP : Tag → Option Bool} {xP xM : List (Option Nat)} {c eP eU eN eR : Nat}
end
end Fw
namespace Fw
open PySem PySem.Spec L2
end Fw
namespace Fw
open PySem PySem.Spec L2
structure W5 (t A : Nat) (a : Int × Int) (here : Str) (s : SS) : Prop where
  len : s.length = 15
  s0 : s[0]? = some (some (.ref t))
  s1 : s[1]? = some (some (.str here))
  s3 : s[3]? = some (some (.int a.1))
  s4 : s[4]? = some (some (.int a.2))
theorem W5.set {t A : Nat} {a : Int × Int} {here : Str} {s : SS} (x : W5 t A a here s) {j : Nat} {v : Option SV} (h : 5 ≤ j) : W5 t A a here (s.set j v) := ⟨by simp [x.len], gs x.s0 (by omega), gs x.s1 (by omega), gs x.s3 (by omega), gs x.s4 (by omega)⟩
end Fw
namespace Fw
open PySem PySem.Spec L2
def chg (ms : List Nm) (ns : List Int) (k : Nat) : Int := (mN ms (ns.take (k + 1))).2
end Fw
namespace Fw
open PySem PySem.Spec L2
structure Hst (t A : Nat) (place : Str) (i : Int) (st : (Int × Int) × Int) (s : SS) : Prop where
  len : s.length = 13
  s0 : s[0]? = some (some (.ref t))
  s1 : s[1]? = some (some (.str place))
  s2 : s[2]? = some (some (.int i))
  s3 : s[3]? = some (some (.ref A))
  s4 : s[4]? = some (some (.int (i + st.1.2)))
  s5 : s[5]? = some (some (.int st.2))
theorem Hst.set {t A : Nat} {place : Str} {i : Int} {st : (Int × Int) × Int} {s : SS} (x : Hst t A place i st s) {j : Nat} {v : Option SV} (h : 6 ≤ j) : Hst t A place i st (s.set j v) := ⟨by simp [x.len], gs x.s0 (by omega), gs x.s1 (by omega), gs x.s2 (by omega), gs x.s3 (by omega), gs x.s4 (by omega), gs x.s5 (by omega)⟩
end Fw
namespace Fw
open PySem PySem.Spec L2
/-! ### bounds; copies of rows -/
end Fw
namespace Fw
open PySem PySem.Spec L2
structure R5 (g a t : Nat) (place : Str) (s : SS) : Prop where
  len : s.length = 12
  s0 : s[0]? = some (some (.ref g))
  s1 : s[1]? = some (some (.ref a))
  s2 : s[2]? = some (some (.ref t))
  s3 : s[3]? = some (some (.str place))
theorem R5.set {g a t : Nat} {place : Str} {s : SS} (x : R5 g a t place s) {j : Nat} {v : Option SV} (h : 4 ≤ j) : R5 g a t place (s.set j v) := ⟨by simp [x.len], gs x.s0 (by omega), gs x.s1 (by omega), gs x.s2 (by omega), gs x.s3 (by omega)⟩
section
variable {iL iT iS iI iB iP : Tag → Option Bool} {xP xM : List (Option Nat)} {c eP eU eN eR : Nat}
end
end Fw
namespace Fw
open PySem PySem.Spec L2
section
variable {iL iT iS iI iB iP : Tag → Option Bool} {xP xM : List (Option Nat)} {c eP eU eN eR : Nat}
structure S5 (h0 : SH) (g a t lo : Nat) (place : Str) (ps : List Str) (ms : List Nm) (c : Nat) (B : Int) (s : SS) (h : SH) : Prop where
  rs : R5 g a t place s
  gen : GenOk h g B
  pt : Parts h t lo ps ms
  pr : Prog h c a lo ps ms
  hg : g < lo
  hl : lo ≤ h.length
  hp : place ∈ ps
  kp0 : Kp g h0 h
  hl0 : h0.length ≤ h.length
theorem S5.kp {h0 : SH} {g a t lo : Nat} {place : Str} {ps : List Str} {ms : List Nm} {c : Nat} {B B' : Int} {s s' : SS} {h h' : SH} (x : S5 h0 g a t lo place ps ms c B s h) (k : Kp g h h') (hl : h.length ≤ h'.length) (G : GenOk h' g B') (rs : R5 g a t place s') : S5 h0 g a t lo place ps ms c B' s' h' := by
  obtain ⟨gl, e⟩ := x.gen.at
  exact { x with rs := rs, gen := G, pt := x.pt.kp k x.hg e, pr := x.pr.kp k x.hg e, hl := Nat.le_trans x.hl hl, kp0 := x.kp0.trans k, hl0 := Nat.le_trans x.hl0 hl }
theorem S5.le {h0 : SH} {g a t lo : Nat} {place : Str} {ps : List Str} {ms : List Nm} {c : Nat} {B : Int} {s s' : SS} {h h' : SH} (x : S5 h0 g a t lo place ps ms c B s h) (l : Le h h') (rs : R5 g a t place s') : S5 h0 g a t lo place ps ms c B s' h' :=
  x.kp (Le.kp l) l.len (x.gen.le l (Int.le_refl _)) rs
end
end Fw
namespace Fw
open PySem PySem.Spec L2
section
variable {iL iT iS iI iB iP : Tag → Option Bool} {xP xM : List (Option Nat)} {c eP eU eN eR : Nat} {h : SH} {v : SV}
end
/-! ### odd rows, written -/
/-- a row that leads nowhere, and stays -/
def BadR (ms : List Nm) (place : Str) (h : SH) (v : SV) : Prop := ∃ d, (∀ h', Le h h' → dataOf 64 h' v = some d) ∧ Tx1 d ∧ wideD 3 d ∧ lastD ms place d = none
theorem staR {ms : List Nm} {place : Str} : Sta (BadR ms place) := fun h h' v l ⟨d, a, b⟩ => ⟨d, fun h2 l2 => a h2 (l.trans l2), b⟩
/-- what a term makes, from h0 on -/
def Mk (h0 : SH) (ss : SS) (k : Nat) (d : PyData) (m : EM) : Prop := ∀ h, Le h0 h → Is (m ss h) fun v h1 => Le h h1 ∧ ∃ t, Sd k h1 v d t
section
variable {h0 : SH} {ss : SS} {k : Nat} {d d' d'' : PyData} {m m' m'' : EM}
theorem Mk.up {k' : Nat} (x : Mk h0 ss k d m) (hk : k ≤ k') : Mk h0 ss k' d m := fun h l => (x h l).mono fun v h1 ⟨a, t, s⟩ => ⟨a, t, s.up hk⟩
/-- such a value among those that lead nowhere -/
theorem IsD.mk {ms : List Nm} {place : Str} {h : SH} {r : AM} {n : Nat} (x : Mk h0 ss k d m) (l : Le h0 h) (hk : k ≤ 64) (tx : Tx1 d) (wd : wideD 3 d) (no : rowsD ms.length d = none) (y : ∀ h1, Le h0 h1 → IsD (BadR ms place) r ss h1 n) : IsD (BadR ms place) (aCons m r) ss h (n + 1) :=
  IsD.cons staR ((x h l).mono fun v h1 ⟨a, t, s⟩ => ⟨a, d, fun h' l' => by
    have := ((s.up hk) h' 0 l').1
    rw [Nat.zero_add] at this
    exact this, tx, wd, by rw [lastD_eq, no]; rfl⟩) fun h1 l1 => y h1 (l.trans l1)
end
end Fw
namespace Fw
open PySem PySem.Spec L2
/-! ### what top_of refuses -/
section
variable {h0 : SH} {ss : SS} {h : SH} {ms : List Nm} {place : Str}
end
/-! ### the moves that leave another place, each a row -/
structure RawA (D : Nat) (Q : Int → Prop) (h : SH) (v : SV) : Prop where
  ex : ∃ j t b n, v = .ref j ∧ j ≠ D ∧ t ≠ D ∧ b ≠ D ∧ h[j]? = some (.lst [.ref t]) ∧ h[t]? = some (.tup [.int 1, .ref b]) ∧ h[b]? = some (.lst [.int n]) ∧ Q n
theorem RawA.le {D : Nat} {Q : Int → Prop} {h h' : SH} {v : SV} (x : RawA D Q h v) (l : Le h h') : RawA D Q h' v := by
  obtain ⟨j, t, b, n, e, a1, a2, a3, e1, e2, e3, q⟩ := x
  exact ⟨j, t, b, n, e, a1, a2, a3, l _ _ e1, l _ _ e2, l _ _ e3, q⟩
theorem RawA.set {D : Nat} {Q : Int → Prop} {h : SH} {v : SV} {o : SO} (x : RawA D Q h v) : RawA D Q (h.set D o) v := by
  obtain ⟨j, t, b, n, e, a1, a2, a3, e1, e2, e3, q⟩ := x
  exact ⟨j, t, b, n, e, a1, a2, a3, by rw [set_ne a1.symm]; exact e1, by rw [set_ne a2.symm]; exact e2, by rw [set_ne a3.symm]; exact e3, q⟩
/-! ### all of it -/
structure Rf6 (a t : Nat) (s : SS) : Prop where
  len : s.length = 6
  s0 : s[0]? = some (some (.ref a))
  s1 : s[1]? = some (some (.ref t))
theorem Rf6.set {a t : Nat} {s : SS} (x : Rf6 a t s) {j : Nat} {v : Option SV} (h : 2 ≤ j) : Rf6 a t (s.set j v) := ⟨by simp [x.len], gs x.s0 (by omega), gs x.s1 (by omega)⟩
section
variable {iL iT iS iI iB iP : Tag → Option Bool} {xP xM : List (Option Nat)} {c eP eU eN eR : Nat} {sub : Nat → Option Bool} {iU iQ iN iR : Tag → Option Bool} {xn xv : List (Option Nat)}
end
end Fw
namespace Fw
open PySem PySem.Spec L2
structure M52 (g t a lo : Nat) (ps : List Str) (ms : List Nm) (c : Nat) (B : Int) (ns : List Int) (s : SS) (h : SH) : Prop where
  len : s.length = 7
  s0 : s[0]? = some (some (.scr ns))
  s3 : s[3]? = some (some (.ref g))
  s4 : s[4]? = some (some (.ref t))
  s5 : s[5]? = some (some (.ref a))
  gen : GenOk h g B
  pt : Parts h t lo ps ms
  pr : Prog h c a lo ps ms
  hg : g < lo
  hl : lo ≤ h.length
theorem M52.set {g t a lo : Nat} {ps : List Str} {ms : List Nm} {c : Nat} {B : Int} {ns : List Int} {s : SS} {h : SH} (x : M52 g t a lo ps ms c B ns s h) {j : Nat} {v : Option SV} (hj : j = 1 ∨ j = 2 ∨ 6 ≤ j) : M52 g t a lo ps ms c B ns (s.set j v) h :=
  { x with len := by simp [x.len], s0 := gs x.s0 (by omega), s3 := gs x.s3 (by omega), s4 := gs x.s4 (by omega), s5 := gs x.s5 (by omega) }
theorem M52.kp {g t a lo : Nat} {ps : List Str} {ms : List Nm} {c : Nat} {B B' : Int} {ns : List Int} {s : SS} {h h' : SH} (x : M52 g t a lo ps ms c B ns s h) (k : Kp g h h') (hl : h.length ≤ h'.length) (G : GenOk h' g B') : M52 g t a lo ps ms c B' ns s h' := by
  obtain ⟨gl, e⟩ := x.gen.at
  exact { x with gen := G, pt := x.pt.kp k x.hg e, pr := x.pr.kp k x.hg e, hl := Nat.le_trans x.hl hl }
section
variable {iL iT iS iI iB iP : Tag → Option Bool} {xA xW xT xC xP xM xK : List (Option Nat)} {cW c eP eU eN eR : Nat} {sub : Nat → Option Bool} {iU iQ iN iR : Tag → Option Bool} {xn xv : List (Option Nat)}
end
end Fw
namespace Fw
open PySem PySem.Spec L2
/-! ### names and moves judged, whatever they are (k10) -/
section
variable {iL iT iS iI iB : Tag → Option Bool} {h : SH} {v : SV} {d : PyData} {m : Nat}
def inPs (ps : List Str) : PyData → Bool
  | .str x => decide (x ∈ ps)
  | _ => false
end
end Fw
namespace Fw
open PySem PySem.Spec L2
def sumD (l c : PyData) : Bool := match intD l, intD c with
  | some a, some b => decide (0 ≤ a + b ∧ a + b ≤ 8)
  | _, _ => false
def moveD (ps : List Str) : PyData → Bool
  | .tuple [p, l, c, o] => inPs ps p && inPs ps o && betD 0 8 l && betD (-4) 4 c && sumD l c
  | _ => false
section
variable {iL iT iS iI iB : Tag → Option Bool} {h : SH} {v : SV} {d : PyData} {m : Nat}
end
end Fw
namespace Fw
open PySem PySem.Spec L2
/-! ### a program refused -/
theorem Isx.make {c : Nat} {f : FM} {ma : AM} {ss : SS} {h : SH} {E : Nat → List SV → SH → Prop} (x : Is (ma ss h) fun vs h1 => Isx (f (.ref h1.length :: vs) (h1 ++ [.ins c []])) E) : Isx (mMake c f ma ss h) E := by
  obtain ⟨vs, h1, e, y⟩ := x.out
  obtain ⟨k, xs, h2, e2, z⟩ := y.out
  unfold mMake
  rw [e]
  show Isx ((f (.ref h1.length :: vs) (h1 ++ [.ins c []])).bind _) E
  rw [e2]
  exact z
section
variable {rL rE : Nat} {iL iT iS iI iB : Tag → Option Bool} {h : SH} {v : SV} {d : PyData} {m : Nat}
end
end Fw
namespace Fw
open PySem PySem.Spec L2
section
variable {rL rE : Nat} {iL iT iS iI iB : Tag → Option Bool} {h : SH} {v : SV} {d : PyData} {m : Nat}
end
/-! ### Program(..) refused -/
section
variable {rL rE : Nat} {iL iT iS iI iB : Tag → Option Bool} {xA xW xT xC xP xM xK : List (Option Nat)} {cW c : Nat} {h : SH}
end
end Fw
namespace Fw
open PySem PySem.Spec L2
instance nm_dec : DecidableEq Nm := fun ⟨p, l, c, o⟩ ⟨p', l', c', o'⟩ => if h : p = p' ∧ l = l' ∧ c = c' ∧ o = o' then isTrue (by obtain ⟨rfl, rfl, rfl, rfl⟩ := h; rfl) else isFalse fun e => h (by cases e; exact ⟨rfl, rfl, rfl, rfl⟩)
/-! ### two programs compared -/
def namesD (ps : List Str) : PyData := .list (ps.map .str)
def mvD (m : Nm) : PyData := .tuple [.str m.p, .int m.l, .int m.c, .str m.o]
def movesD (ms : List Nm) : PyData := .list (ms.map mvD)
theorem eqv_strs {x y : Str} : PyData.eqv (.str x) (.str y) = decide (x = y) := by
  rw [PyData.eqv]
  by_cases c : x = y
  · rw [c, decide_eq_true rfl]; exact beq_self_eq_true y
  · rw [decide_eq_false c]; exact beq_eq_false_iff_ne.mpr c
theorem eqvAll_map {α : Type} [DecidableEq α] {f : α → PyData} (hf : ∀ a b, PyData.eqv (f a) (f b) = decide (a = b)) : ∀ {xs ys : List α}, PyData.eqvAll (xs.map f) (ys.map f) = decide (xs = ys)
  | [], [] => by rw [List.map_nil, PyData.eqvAll]; rfl
  | x :: xs, y :: ys => by
    rw [List.map_cons, List.map_cons, PyData.eqvAll, hf, eqvAll_map hf (xs := xs) (ys := ys)]
    by_cases c : x = y
    · by_cases c2 : xs = ys <;> simp [c, c2]
    · simp [c]
  | [], y :: ys => by rw [List.map_nil, List.map_cons, PyData.eqvAll]; simp
  | x :: xs, [] => by rw [List.map_nil, List.map_cons, PyData.eqvAll]; simp
theorem eqv_mv {m n : Nm} : PyData.eqv (mvD m) (mvD n) = decide (m = n) := by
  unfold mvD
  rw [PyData.eqv, PyData.eqvAll, PyData.eqvAll, PyData.eqvAll, PyData.eqvAll, PyData.eqvAll, eqv_strs, eqv_strs, ev_int, ev_int]
  obtain ⟨p, l, c, o⟩ := m
  obtain ⟨p', l', c', o'⟩ := n
  simp only [Nm.mk.injEq]
  by_cases c1 : p = p' <;> by_cases c2 : l = l' <;> by_cases c3 : c = c' <;> by_cases c4 : o = o' <;> simp [c1, c2, c3, c4]
theorem eqv_names {ps qs : List Str} : PyData.eqv (namesD ps) (namesD qs) = decide (ps = qs) := by
  unfold namesD
  rw [PyData.eqv, eqvAll_map fun a b => eqv_strs]
theorem eqv_moves {ms ns : List Nm} : PyData.eqv (movesD ms) (movesD ns) = decide (ms = ns) := by
  unfold movesD
  rw [PyData.eqv, eqvAll_map fun a b => eqv_mv]
theorem data_names {h : SH} {A : Nat} {ps : List Str} (pl : Pls h A ps) : dataOf 64 h (.ref A) = some (namesD ps) :=
  dataOf_lst pl.at_ (dataAll_of (by simp) fun k x ex => by
    rw [List.getElem?_map] at ex
    cases e : ps[k]? with
    | none => rw [e] at ex; cases ex
    | some p =>
      rw [e] at ex; cases ex
      exact ⟨.str p, by rw [List.getElem?_map, e]; rfl, rfl⟩)
theorem data_moves {h : SH} {A : Nat} {ms : List Nm} (mv : Mvn h A ms) : dataOf 64 h (.ref A) = some (movesD ms) := by
  obtain ⟨ts, e, hl, z⟩ := mv
  refine dataOf_lst e (dataAll_of (by simp [hl]) fun k x ex => ?_)
  rw [List.getElem?_map] at ex
  cases et : ts[k]? with
  | none => rw [et] at ex; cases ex
  | some t =>
    rw [et] at ex; cases ex
    obtain ⟨m, em, eo⟩ := z k t et
    refine ⟨mvD m, by rw [List.getElem?_map, em]; rfl, ?_⟩
    exact data_tup (n := 62) eo rfl
theorem sh_names {ps : List Str} (nm : ∀ p ∈ ps, NmOk p) : SeqAt.shaped (namesD ps) = true := by
  unfold namesD SeqAt.shaped
  rw [PyData.canLay0, canAll_of fun d hd => ?_, PyData.depth]
  · have := depthAll_le (k := 0) (ds := ps.map PyData.str) fun d hd => by
      obtain ⟨p, _, rfl⟩ := List.mem_map.mp hd
      rw [PyData.depth]; omega
    simp; omega
  · obtain ⟨p, hp, rfl⟩ := List.mem_map.mp hd
    rw [PyData.canLay0]; exact (nm p hp).ok
theorem sh_moves {ps : List Str} {ms : List Nm} (nm : ∀ p ∈ ps, NmOk p) (mok : ∀ m ∈ ms, Nm.Ok ps m) : SeqAt.shaped (movesD ms) = true := by
  unfold movesD SeqAt.shaped
  have one : ∀ d ∈ ms.map mvD, d.canLay0 = true ∧ d.depth ≤ 1 := fun d hd => by
    obtain ⟨m, hm, rfl⟩ := List.mem_map.mp hd
    have mo := mok m hm
    unfold mvD
    refine ⟨?_, ?_⟩
    · rw [PyData.canLay0]
      refine canAll_of fun d hd => ?_
      simp only [List.mem_cons, List.not_mem_nil, or_false] at hd
      rcases hd with rfl | rfl | rfl | rfl
      · rw [PyData.canLay0]; exact (nm _ mo.hp).ok
      · rw [PyData.canLay0]
      · rw [PyData.canLay0]
      · rw [PyData.canLay0]; exact (nm _ mo.ho).ok
    · rw [PyData.depth]
      have := depthAll_le (k := 0) (ds := [.str m.p, .int m.l, .int m.c, .str m.o]) fun d hd => by
        simp only [List.mem_cons, List.not_mem_nil, or_false] at hd
        rcases hd with rfl | rfl | rfl | rfl <;> (rw [PyData.depth]; omega)
      omega
  rw [PyData.canLay0, canAll_of fun d hd => (one d hd).1, PyData.depth]
  have := depthAll_le (k := 1) (ds := ms.map mvD) fun d hd => (one d hd).2
  simp; omega
end Fw
namespace Fw
open PySem PySem.Spec L2
def eqPM (iP : Tag → Option Bool) (xP xM : List (Option Nat)) : SM := (mRet (mAnd (mO1 (opIsi iP) (mVar 1)) (mAnd (mO2 (eqD false) (mO1 (opFld xP) (mVar 0)) (mO1 (opFld xP) (mVar 1))) (mO2 (eqD false) (mO1 (opFld xM) (mVar 0)) (mO1 (opFld xM) (mVar 1))))))
theorem eqD_d {a b : SV} {d e : PyData} {h : SH} {P : SV → SH → Prop} (ea : dataOf 64 h a = some d) (eb : dataOf 64 h b = some e) (sd : SeqAt.shaped d = true) (se : SeqAt.shaped e = true) (p : P (.bl (PyData.eqv d e)) h) : ∃ v h3, eqD false a b h = some (v, h3) ∧ P v h3 := by
  refine ⟨_, _, ?_, p⟩
  unfold eqD
  rw [ea, eb]
  simp only [sd, se, Bool.and_self, if_true]
  rfl
section
variable {iP : Tag → Option Bool} {xP xM : List (Option Nat)} {c : Nat} {h : SH} {v : SV}
theorem eqP_is (ip : iP (.ins c) = some true) (xp : xP[c]? = some (some 0)) (xm : xM[c]? = some (some 1)) {a lo a' lo' : Nat} {ps ps' : List Str} {ms ms' : List Nm} (pr : Prog h c a lo ps ms) (pr' : Prog h c a' lo' ps' ms')
    (nm : ∀ p ∈ ps, NmOk p) (mok : ∀ m ∈ ms, Nm.Ok ps m) (nm' : ∀ p ∈ ps', NmOk p) (mok' : ∀ m ∈ ms', Nm.Ok ps' m) : Is (mFn 2 2 (eqPM iP xP xM) [.ref a, .ref a'] h) fun w h2 => w = .bl (decide (ps = ps' ∧ ms = ms')) ∧ h2 = h := by
  refine Is.fn rfl ?_
  unfold eqPM
  obtain ⟨P, M, W, e, _, _, pl, mv⟩ := pr.ex
  obtain ⟨P', M', W', e', _, _, pl', mv'⟩ := pr'.ex
  have f0 : opFld xP (.ref a) h = some (.ref P, h) := by unfold opFld; simp only [e, xp]; rfl
  have f1 : opFld xP (.ref a') h = some (.ref P', h) := by unfold opFld; simp only [e', xp]; rfl
  have f2 : opFld xM (.ref a) h = some (.ref M, h) := by unfold opFld; simp only [e, xm]; rfl
  have f3 : opFld xM (.ref a') h = some (.ref M', h) := by unfold opFld; simp only [e', xm]; rfl
  refine Ist.ret (Is.andV (Is.o1 (Is.var (v := .ref a') rfl (isi_t (tag_ins e') ip (.inl ⟨rfl, ?_⟩)))))
  refine Is.andV (Is.o2 (Is.o1 (Is.var (v := .ref a) rfl ⟨_, _, f0, Is.o1 (Is.var (v := .ref a') rfl ⟨_, _, f1, eqD_d (data_names pl) (data_names pl') (sh_names nm) (sh_names nm') ?_⟩)⟩)))
  rw [eqv_names]
  by_cases c1 : ps = ps'
  · refine .inl ⟨by rw [decide_eq_true c1], Is.o2 (Is.o1 (Is.var (v := .ref a) rfl ⟨_, _, f2, Is.o1 (Is.var (v := .ref a') rfl ⟨_, _, f3, eqD_d (data_moves mv) (data_moves mv') (sh_moves nm mok) (sh_moves nm' mok') ?_⟩)⟩))⟩
    rw [eqv_moves]
    refine ⟨?_, rfl⟩
    simp [c1]
  · refine .inr ⟨by rw [decide_eq_false c1], ?_, rfl⟩
    simp [c1]
def os1 (c : Nat) (f : FM) : List (Nat × FM) := [(c, f)]
theorem look1 {f : FM} : (os1 c f).lookup c = some f := by
  unfold os1
  rw [List.lookup_cons]
  simp
theorem insOf_at {a : Nat} {vs : List SV} (e : h[a]? = some (.ins c vs)) : insOf h (.ref a) = some c := by unfold insOf; simp only [e]
theorem callB_is {f : FM} {a b : SV} {neg r : Bool} {P : SV → SH → Prop} (x : Is (f [a, b] h) fun w h2 => w = .bl r ∧ h2 = h) (p : P (.bl (if neg = true then !r else r)) h) : ∃ v h3, callB f a b h neg = some (v, h3) ∧ P v h3 := by
  obtain ⟨w, h2, e, rfl, rfl⟩ := x.out
  refine ⟨_, _, ?_, p⟩
  unfold callB
  rw [e]
/-- own == own -/
theorem own_pp {neg r : Bool} {f : FM} {a a' : Nat} {vs vs' : List SV} {P : SV → SH → Prop} (e : h[a]? = some (.ins c vs)) (e' : h[a']? = some (.ins c vs')) (x : Is (f [.ref a, .ref a'] h) fun w h2 => w = .bl r ∧ h2 = h) (p : P (.bl (if neg = true then !r else r)) h) : ∃ v h3, eqOwns (os1 c f) neg (.ref a) (.ref a') h = some (v, h3) ∧ P v h3 := by
  obtain ⟨v, h3, e1, e2⟩ := callB_is x p
  refine ⟨v, h3, ?_, e2⟩
  unfold eqOwns
  simp only [insOf_at e, look1, tag_ins e']
  have ok : okT (os1 c f) (.ins c) = true := by unfold okT; simp only [look1]; rfl
  rw [if_pos ok]
  exact e1
/-- two values, none an own thing -/
theorem own_dd {f : FM} {neg : Bool} {a b : SV} {P : SV → SH → Prop} (na : insOf h a = none) (nb : insOf h b = none) (x : ∃ v h3, eqD neg a b h = some (v, h3) ∧ P v h3) : ∃ v h3, eqOwns (os1 c f) neg a b h = some (v, h3) ∧ P v h3 := by
  obtain ⟨v, h3, e1, e2⟩ := x
  refine ⟨v, h3, ?_, e2⟩
  unfold eqOwns
  simp only [na, nb]
  exact e1
end
end Fw
namespace Fw
open PySem PySem.Spec L2
end Fw
namespace Fw
open PySem PySem.Spec L2
/-! ### written values with a drawn name in them: their data and texts -/
section
variable {h0 : SH} {ss : SS} {k : Nat} {d : PyData} {ds : List PyData} {m : EM} {r : AM}
end
/-- a text of at most n signs, k deep -/
structure Tk (k n : Nat) (d : PyData) : Prop where
  sh : d.showable = true
  dp : d.depth ≤ k
  sg : Sg n d.shown
theorem Tk.tx {k n : Nat} {d : PyData} (x : Tk k n d) (hk : k ≤ 60) (hn : n ≤ 16777216) : Tx1 d := Tx1.of x.sh (Nat.le_trans x.dp hk) x.sg hn
theorem Tk.up {k n k' n' : Nat} {d : PyData} (x : Tk k n d) (hk : k ≤ k') (hn : n ≤ n') : Tk k' n' d := ⟨x.sh, Nat.le_trans x.dp hk, x.sg.up hn⟩
theorem tk_0 {v : SV} {d : PyData} (x : V0 v d) : Tk 0 50 d := ⟨x.show_, by rw [x.dep]; omega, x.sg⟩
theorem tk_name {p : Str} (ok : NmOk p) : Tk 0 50 (.str p) := ⟨by rw [PyData.showable], by rw [PyData.depth]; omega, by rw [PyData.shown]; exact (sg_repr ok).up (by decide)⟩
theorem tk_lst {k n : Nat} {ds : List PyData} (hl : ds.length ≤ 20) (q : ∀ d ∈ ds, Tk k n d) : Tk (k + 1) (2 + 20 * (n + 2)) (.list ds) := by
  refine ⟨by rw [PyData.showable]; exact showAll_of fun d hd => (q d hd).sh, ?_, ?_⟩
  · rw [PyData.depth]
    have := depthAll_le (k := k) (ds := ds) fun d hd => (q d hd).dp
    omega
  · rw [PyData.shown]
    refine (Sg.list (b := n) fun t ht => ?_).up ?_
    · obtain ⟨d, hd, rfl⟩ := shownAll_mem ht
      exact (q d hd).sg
    · rw [shownAll_len]
      have := Nat.mul_le_mul_right (n + 2) hl
      omega
theorem tk_tup {k n : Nat} {ds : List PyData} (hl : ds.length ≤ 20) (q : ∀ d ∈ ds, Tk k n d) : Tk (k + 1) (3 + 20 * (n + 2)) (.tuple ds) := by
  refine ⟨by rw [PyData.showable]; exact showAll_of fun d hd => (q d hd).sh, ?_, ?_⟩
  · rw [PyData.depth]
    have := depthAll_le (k := k) (ds := ds) fun d hd => (q d hd).dp
    omega
  · rw [PyData.shown]
    refine (Sg.tup (b := n) fun t ht => ?_).up ?_
    · obtain ⟨d, hd, rfl⟩ := shownAll_mem ht
      exact (q d hd).sg
    · rw [shownAll_len]
      have := Nat.mul_le_mul_right (n + 2) hl
      omega
theorem tk_all {k n : Nat} : ∀ d ∈ ([] : List PyData), Tk k n d := fun _ z => nomatch z
theorem tk_cons {k n : Nat} {d : PyData} {ds : List PyData} (x : Tk k n d) (y : ∀ d ∈ ds, Tk k n d) : ∀ e ∈ d :: ds, Tk k n e := List.forall_mem_cons.2 ⟨x, y⟩
end Fw
namespace Fw
open PySem PySem.Spec L2
section
variable {h0 : SH} {ss : SS} {h : SH} {ps : List Str} {p : Str}
end
end Fw
namespace Fw
open PySem PySem.Spec L2
section
variable {h0 : SH} {ss : SS} {k : Nat} {d : PyData} {m : EM}
theorem rep_one {x : SV} : ∀ n, repS n [x] = List.replicate n x
  | 0 => rfl
  | n + 1 => by
    show [x] ++ repS n [x] = _
    rw [rep_one n]; rfl
end
theorem tk_mv {ps : List Str} {m : Nm} (nm : ∀ p ∈ ps, NmOk p) (mo : Nm.Ok ps m) : Tk 1 1100 (mvD m) := by
  have a := mo.l0; have b := mo.l8; have c := mo.c0; have d := mo.c4
  exact (tk_tup (by simp) (tk_cons (tk_name (nm _ mo.hp)) (tk_cons (tk_0 (v0_int (Nat.lt_of_le_of_lt (show m.l.natAbs ≤ 8 by omega) (by decide)))) (tk_cons (tk_0 (v0_int (Nat.lt_of_le_of_lt (show m.c.natAbs ≤ 8 by omega) (by decide)))) (tk_cons (tk_name (nm _ mo.ho)) tk_all))))).up (by decide) (by decide)
end Fw
namespace Fw
open PySem PySem.Spec L2
section
variable {rL rE : Nat} {iL iT iS iI iB : Tag → Option Bool} {xA xW xT xC xP xM xK : List (Option Nat)} {cW c : Nat} {h : SH}
end
/-! ### lists with one bad item -/
end Fw
namespace Fw
open PySem PySem.Spec L2
def GoodM (ps : List Str) (h : SH) (v : SV) : Prop := ∃ d, (∀ h', Le h h' → dataOf 64 h' v = some d) ∧ moveD ps d = true
theorem GoodM.le {ps : List Str} {h h' : SH} {v : SV} (x : GoodM ps h v) (l : Le h h') : GoodM ps h' v := let ⟨d, a, b⟩ := x; ⟨d, fun h2 l2 => a h2 (l.trans l2), b⟩
/-! ### _law_refused -/
structure Rc (t A M : Nat) (s : SS) : Prop where
  len : s.length = 7
  s0 : s[0]? = some (some (.ref t))
  s4 : s[4]? = some (some (.ref A))
  s5 : s[5]? = some (some (.ref M))
theorem Rc.set {t A M : Nat} {s : SS} (x : Rc t A M s) {j : Nat} {v : Option SV} (h : j = 1 ∨ j = 2 ∨ j = 3 ∨ j = 6) : Rc t A M (s.set j v) := ⟨by simp [x.len], gs x.s0 (by omega), gs x.s4 (by omega), gs x.s5 (by omega)⟩
end Fw
namespace Fw
open PySem PySem.Spec L2
section
variable {rL rE : Nat} {iL iT iS iI iB iP : Tag → Option Bool} {xA xW xT xC xP xM xK : List (Option Nat)} {cW c : Nat} {sub : Nat → Option Bool} {iQ iR : Tag → Option Bool} {xv : List (Option Nat)}
end
end Fw
namespace Fw
open PySem PySem.Spec L2
theorem le_setD {hb h : SH} {D : Nat} {o : SO} (l : Le hb h) (hD : hb.length ≤ D) : Le hb (h.set D o) := fun j o e => by
  have := lt_of e
  rw [set_ne (by omega)]
  exact l _ _ e
section
variable {rL rE : Nat} {iL iT iS iI iB iP : Tag → Option Bool} {xA xW xT xC xP xM xK : List (Option Nat)} {cW c : Nat} {sub : Nat → Option Bool} {iQ iR : Tag → Option Bool} {xv : List (Option Nat)}
end
end Fw
namespace Fw
open PySem PySem.Spec L2
/-- parts that a program can be made of, whatever their names -/
structure Parts0 (h : SH) (t lo : Nat) (ps : List Str) (ms : List Nm) : Prop where
  ex : ∃ A M, h[t]? = some (.lst [.ref A, .ref M]) ∧ lo ≤ A ∧ lo ≤ M ∧ lo ≤ t ∧ Pls h A ps ∧ Mvn h M ms
  ok : PsOk ps
  nm : ∀ p ∈ ps, NmOk p
  mok : ∀ m ∈ ms, Nm.Ok ps m
  few : ms.length ≤ 10
theorem Parts.to0 {h : SH} {t lo : Nat} {ps : List Str} {ms : List Nm} (x : Parts h t lo ps ms) : Parts0 h t lo ps ms := ⟨x.ex, x.ok, x.nm, x.mok, x.few⟩
/-! ### the very thing that was refused -/
section
variable {rL rE : Nat} {iL iT iS iI iB : Tag → Option Bool} {xA xW xT xC xP xM xK : List (Option Nat)} {cW c : Nat} {sub : Nat → Option Bool} {xv : List (Option Nat)}
end
end Fw
namespace Fw
open PySem PySem.Spec L2
/-! ### other parts -/
structure Cnd (h : SH) (t A M : Nat) (ps : List Str) (ms : List Nm) : Prop where
  at_ : h[t]? = some (.lst [.ref A, .ref M])
  pl : Pls h A ps
  mv : Mvn h M ms
  one : 1 ≤ ps.length
  five : ps.length ≤ 5
  elv : ms.length ≤ 11
  nd : ps.Nodup
  nm : ∀ p ∈ ps, NmOk p
  mok : ∀ m ∈ ms, Nm.Ok ps m
theorem Cnd.le {h h' : SH} {t A M : Nat} {ps : List Str} {ms : List Nm} (x : Cnd h t A M ps ms) (l : Le h h') : Cnd h' t A M ps ms := { x with at_ := l _ _ x.at_, pl := x.pl.le l, mv := x.mv.le l }
theorem Cnd.set {h : SH} {D t A M : Nat} {ps : List Str} {ms : List Nm} {l : List SV} {o : SO} (x : Cnd h t A M ps ms) (eD : h[D]? = some (.lst l)) (a : t ≠ D) (b : A ≠ D) (c : M ≠ D) : Cnd (h.set D o) t A M ps ms := by
  obtain ⟨ts, e, hl, z⟩ := x.mv
  refine { x with at_ := by rw [set_ne a.symm]; exact x.at_, pl := ⟨by rw [set_ne b.symm]; exact x.pl.at_⟩, mv := ⟨ts, by rw [set_ne c.symm]; exact e, hl, fun i u eu => ?_⟩ }
  obtain ⟨m, em, eo⟩ := z i u eu
  have : D ≠ u := fun q => by
    rw [← q, eD] at eo
    cases eo
  exact ⟨m, em, by rw [set_ne this]; exact eo⟩
/-- other parts, none of whose lists stands at D -/
def CndD (D : Nat) (h : SH) (v : SV) : Prop := ∃ t A M ps ms, v = .ref t ∧ t ≠ D ∧ A ≠ D ∧ M ≠ D ∧ Cnd h t A M ps ms
def Cnd0 (h : SH) (v : SV) : Prop := ∃ t A M ps ms, v = .ref t ∧ Cnd h t A M ps ms
theorem CndD.to0 {D : Nat} {h : SH} {v : SV} (x : CndD D h v) : Cnd0 h v := let ⟨t, A, M, ps, ms, a, _, _, _, b⟩ := x; ⟨t, A, M, ps, ms, a, b⟩
theorem CndD.le {D : Nat} {h h' : SH} {v : SV} (x : CndD D h v) (l : Le h h') : CndD D h' v := let ⟨t, A, M, ps, ms, a, b, c, d, e⟩ := x; ⟨t, A, M, ps, ms, a, b, c, d, e.le l⟩
theorem CndD.set {D : Nat} {h : SH} {v : SV} {l : List SV} {o : SO} (x : CndD D h v) (eD : h[D]? = some (.lst l)) : CndD D (h.set D o) v := let ⟨t, A, M, ps, ms, a, b, c, d, e⟩ := x; ⟨t, A, M, ps, ms, a, b, c, d, e.set eD b c d⟩
theorem Cnd0.new {D : Nat} {hb h : SH} {v : SV} (x : Cnd0 hb v) (l : Le hb h) (hD : hb.length ≤ D) : CndD D h v := by
  obtain ⟨t, A, M, ps, ms, a, e⟩ := x
  obtain ⟨ts, eM, _, _⟩ := e.mv
  have := lt_of e.at_
  have := lt_of e.pl.at_
  have := lt_of eM
  exact ⟨t, A, M, ps, ms, a, by omega, by omega, by omega, e.le l⟩
theorem Cnd0.le {h h' : SH} {v : SV} (x : Cnd0 h v) (l : Le h h') : Cnd0 h' v := let ⟨t, A, M, ps, ms, a, e⟩ := x; ⟨t, A, M, ps, ms, a, e.le l⟩
theorem mv_new {h : SH} {ts : List Nat} {ms : List Nm} (hl : ts.length = ms.length) (z : ∀ (i t : Nat), ts[i]? = some t → ∃ m, ms[i]? = some m ∧ h[t]? = some (Nm.so m)) : Mvn (h ++ [.lst (ts.map SV.ref)]) h.length ms :=
  ⟨ts, new_at _ _, hl, fun i t et => let ⟨m, a, b⟩ := z i t et; ⟨m, a, Le.push _ _ _ _ b⟩⟩
section
variable {h : SH} {A M : Nat} {ps : List Str} {ms : List Nm} {ss : SS} {P : SV → SH → Prop}
end
end Fw
namespace Fw
open PySem PySem.Spec L2
section
variable {h : SH} {A M : Nat} {ps : List Str} {ms : List Nm} {ss : SS} {P : SV → SH → Prop}
end
end Fw
namespace Fw
open PySem PySem.Spec L2
section
variable {h : SH} {A M : Nat} {ps : List Str} {ms : List Nm} {ss : SS} {P : SV → SH → Prop}
end
end Fw
namespace Fw
open PySem PySem.Spec L2
section
variable {h : SH} {A M : Nat} {ps : List Str} {ms : List Nm} {ss : SS} {P : SV → SH → Prop}
def stay (p : Str) : Nm := ⟨p, 8, 0, p⟩
end
end Fw
namespace Fw
open PySem PySem.Spec L2
def partsD2 (ps : List Str) (ms : List Nm) : PyData := .list [namesD ps, movesD ms]
theorem tx_parts {ps : List Str} {ms : List Nm} (nm : ∀ p ∈ ps, NmOk p) (mok : ∀ m ∈ ms, Nm.Ok ps m) (h5 : ps.length ≤ 5) (h11 : ms.length ≤ 11) : Tx1 (partsD2 ps ms) := by
  have a : Tk 2 30000 (namesD ps) := (tk_lst (k := 0) (n := 50) (by simp; omega) fun d hd => by
    obtain ⟨p, hp, rfl⟩ := List.mem_map.mp hd
    exact tk_name (nm p hp)).up (by decide) (by decide)
  have b : Tk 2 30000 (movesD ms) := (tk_lst (k := 1) (n := 1100) (by simp; omega) fun d hd => by
    obtain ⟨m, hm, rfl⟩ := List.mem_map.mp hd
    exact tk_mv nm (mok m hm)).up (by decide) (by decide)
  exact (tk_lst (by simp) (tk_cons a (tk_cons b tk_all))).tx (by decide) (by decide)
theorem data_parts {h : SH} {t A M : Nat} {ps : List Str} {ms : List Nm} (e : h[t]? = some (.lst [.ref A, .ref M])) (pl : Pls h A ps) (mv : Mvn h M ms) : dataOf 64 h (.ref t) = some (partsD2 ps ms) := by
  refine dataOf_lst (n := 63) e (data_two ?_ ?_)
  · exact dataOf_lst (n := 62) pl.at_ (dataAll_of (by simp) fun k x ex => by
      rw [List.getElem?_map] at ex
      cases e : ps[k]? with
      | none => rw [e] at ex; cases ex
      | some p =>
        rw [e] at ex; cases ex
        exact ⟨.str p, by rw [List.getElem?_map, e]; rfl, rfl⟩)
  · obtain ⟨ts, e, hl, z⟩ := mv
    refine dataOf_lst (n := 62) e (dataAll_of (by simp [hl]) fun k x ex => ?_)
    rw [List.getElem?_map] at ex
    cases et : ts[k]? with
    | none => rw [et] at ex; cases ex
    | some t =>
      rw [et] at ex; cases ex
      obtain ⟨m, em, eo⟩ := z k t et
      exact ⟨mvD m, by rw [List.getElem?_map, em]; rfl, data_tup (n := 61) eo rfl⟩
theorem Parts0.le {h h' : SH} {t lo : Nat} {ps : List Str} {ms : List Nm} (x : Parts0 h t lo ps ms) (l : Le h h') : Parts0 h' t lo ps ms := by
  obtain ⟨⟨A, M, e, a, b, c, d, f⟩, g1, g2, g3, g4⟩ := x
  exact ⟨⟨A, M, l _ _ e, a, b, c, d.le l, f.le l⟩, g1, g2, g3, g4⟩
end Fw
namespace Fw
open PySem PySem.Spec L2
structure Ot (t A M : Nat) (s : SS) : Prop where
  len : s.length = 11
  s0 : s[0]? = some (some (.ref t))
  s3 : s[3]? = some (some (.ref A))
  s4 : s[4]? = some (some (.ref M))
theorem Ot.set {t A M : Nat} {s : SS} (x : Ot t A M s) {j : Nat} {v : Option SV} (h : j = 1 ∨ j = 2 ∨ 5 ≤ j) : Ot t A M (s.set j v) := ⟨by simp [x.len], gs x.s0 (by omega), gs x.s3 (by omega), gs x.s4 (by omega)⟩
/-- the list of other parts, as it grows: at D, behind h0 -/
structure Grw (h0 : SH) (D : Nat) (vs : List SV) (k : Nat) (h : SH) : Prop where
  le : Le h0 h
  hD : h0.length ≤ D
  at_ : h[D]? = some (.lst vs)
  few : vs.length ≤ k
  all : ∀ v ∈ vs, CndD D h v
theorem Grw.app {h0 h h' : SH} {D k t A M : Nat} {vs : List SV} {ps : List Str} {ms : List Nm} (g : Grw h0 D vs k h) (l : Le h h') (x : Cnd h' t A M ps ms) (a : t ≠ D) (b : A ≠ D) (c : M ≠ D) : Grw h0 D (vs ++ [.ref t]) (k + 1) (h'.set D (.lst (vs ++ [.ref t]))) := by
  have eD := l _ _ g.at_
  refine ⟨le_setD (g.le.trans l) g.hD, g.hD, List.getElem?_set_self (lt_of eD), by have := g.few; simp; omega, fun v hv => ?_⟩
  rcases List.mem_append.mp hv with hv | hv
  · exact ((g.all v hv).le l).set eD
  · rw [List.mem_singleton.mp hv]
    exact CndD.set ⟨t, A, M, ps, ms, rfl, a, b, c, x⟩ eD
end Fw
namespace Fw
open PySem PySem.Spec L2
section
variable {iP : Tag → Option Bool} {xP xM : List (Option Nat)} {c : Nat} {h : SH}
end
end Fw
namespace Fw
open PySem PySem.Spec L2
structure L10 (ns : List Int) (t a : Nat) (s : SS) : Prop where
  len : s.length = 13
  s0 : s[0]? = some (some (.scr ns))
  s5 : s[5]? = some (some (.ref t))
  s7 : s[7]? = some (some (.ref a))
theorem L10.set {ns : List Int} {t a : Nat} {s : SS} (x : L10 ns t a s) {j : Nat} {v : Option SV} (h : j = 1 ∨ j = 2 ∨ j = 3 ∨ j = 4 ∨ j = 6 ∨ 8 ≤ j) : L10 ns t a (s.set j v) := ⟨by simp [x.len], gs x.s0 (by omega), gs x.s5 (by omega), gs x.s7 (by omega)⟩
theorem meth_movesF {xM : List (Option Nat)} {c i a lo : Nat} (xm : xM[c]? = some (some 1)) {ps : List Str} {ms : List Nm} {ss : SS} {h : SH} {P : SV → SH → Prop} (s : ss[i]? = some (some (.ref a))) (pr : Prog h c a lo ps ms) (p : ∀ h' M', Le h h' → h.length ≤ M' → Mvn h' M' ms → P (.ref M') h') :
    Is (mMeth c (mFn 1 1 (movesM xM)) (mVar i) aNil ss h) P := by
  obtain ⟨Q, M, W, e, a1, a2, a3, us, f1, f2, f3⟩ := pr
  refine Is.meth (Is.var s ⟨by unfold insOf; simp only [e], Is.anil (Is.fn rfl ?_)⟩)
  unfold movesM
  refine Ist.ret (Is.oa (Is.acons (Is.o1 (Is.var (v := .ref a) rfl (fld_is e xm rfl (Is.anil (list_is f1 ?_)))))))
  exact p _ _ (Le.push _ _) (Nat.le_refl _) ⟨us, new_at _ _, f2, fun i t et => let ⟨m, x, y⟩ := f3 i t et; ⟨m, x, Le.push _ _ _ _ y⟩⟩
theorem meth_placesF {xP : List (Option Nat)} {c i a lo : Nat} (xp : xP[c]? = some (some 0)) {ps : List Str} {ms : List Nm} {ss : SS} {h : SH} {P : SV → SH → Prop} (s : ss[i]? = some (some (.ref a))) (pr : Prog h c a lo ps ms) (p : ∀ h' A', Le h h' → h.length ≤ A' → Pls h' A' ps → P (.ref A') h') :
    Is (mMeth c (mFn 1 1 (placesM xP)) (mVar i) aNil ss h) P := by
  obtain ⟨Q, M, W, e, a1, a2, ⟨a3⟩, a4⟩ := pr
  refine Is.meth (Is.var s ⟨by unfold insOf; simp only [e], Is.anil (Is.fn rfl ?_)⟩)
  unfold placesM
  refine Ist.ret (Is.oa (Is.acons (Is.o1 (Is.var (v := .ref a) rfl (fld_is e xp rfl (Is.anil (list_is a3 ?_)))))))
  exact p _ _ (Le.push _ _) (Nat.le_refl _) ⟨new_at _ _⟩
theorem own_text {c : Nat} {f : FM} {d : PyData} (t : Tx1 d) {h : SH} {P : SV → SH → Prop} (p : P (.bl false) h) : ∃ v h3, eqOwns (os1 c f) true (.str d.shown) (.str d.shown) h = some (v, h3) ∧ P v h3 := own_dd rfl rfl (neText t p)
section
variable {rL rE : Nat} {iL iT iS iI iB iP : Tag → Option Bool} {xA xW xT xC xP xM xK : List (Option Nat)} {cW c : Nat} {h : SH}
end
end Fw
namespace Fw
open PySem PySem.Spec L2
section
variable {rL rE : Nat} {iL iT iS iI iB iP : Tag → Option Bool} {xA xW xT xC xP xM xK : List (Option Nat)} {cW c : Nat} {h : SH} {ss : SS} {P : SV → SH → Prop}
/-- Program(..), made of lists that are right -/
theorem make_is (es : Isis iL iT iS iI iB) (xs : Ixs xA xW xT xC xP xM xK cW c) {ma : AM} (ha : Is (ma ss h) fun vs h1 => ∃ A M ps ms, vs = [.ref A, .ref M] ∧ Le h h1 ∧ Pls h1 A ps ∧ Mvn h1 M ms ∧ PsOk ps ∧ (∀ p ∈ ps, NmOk p) ∧ (∀ m ∈ ms, Nm.Ok ps m) ∧ ms.length ≤ 10 ∧ ∀ h' a, Le h1 h' → Prog h' c a h1.length ps ms → P (.ref a) h') :
    Is (mMake c (mFn 3 3 (programM rL rE iL iT iS iI iB xA xW xT xC xP xM xK cW)) ma ss h) P := by
  refine Is.make (ha.mono fun vs h1 ⟨A, M, ps, ms, ev, l, pl, mv, ok, nm, mok, few, p⟩ => ?_)
  subst ev
  exact (program_is es xs pl mv ok nm mok few).mono fun v h3 ⟨ev, l3, pr⟩ => ⟨ev, p h3 _ l3 pr⟩
end
end Fw
namespace Fw
open PySem PySem.Spec L2
section
variable {rL rE : Nat} {iL iT iS iI iB iP : Tag → Option Bool} {xA xW xT xC xP xM xK : List (Option Nat)} {cW c : Nat} {sub : Nat → Option Bool} {iQ iR : Tag → Option Bool} {xv : List (Option Nat)} {h : SH}
end
end Fw
namespace Fw
open PySem PySem.Spec L2
section
variable {rL rE : Nat} {iL iT iS iI iB iP : Tag → Option Bool} {xA xW xT xC xP xM xK : List (Option Nat)} {cW c : Nat} {sub subL : Nat → Option Bool} {iQ iR : Tag → Option Bool} {xv : List (Option Nat)} {h : SH}
end
end Fw
namespace Fw
open PySem PySem.Spec L2
section
variable {rL rE : Nat} {iL iT iS iI iB iP : Tag → Option Bool} {xA xW xT xC xP xM xK : List (Option Nat)} {cW c : Nat} {h : SH} {ss : SS}
end
end Fw
namespace Fw
open PySem PySem.Spec L2
/-- tuples at ts tell the moves ms -/
def Mvt (h : SH) (ts : List Nat) (ms : List Nm) : Prop := ts.length = ms.length ∧ ∀ (i t : Nat), ts[i]? = some t → ∃ m, ms[i]? = some m ∧ h[t]? = some (Nm.so m)
theorem Mvt.le {h h' : SH} {ts : List Nat} {ms : List Nm} (x : Mvt h ts ms) (l : Le h h') : Mvt h' ts ms := ⟨x.1, fun i t e => let ⟨m, a, b⟩ := x.2 i t e; ⟨m, a, l _ _ b⟩⟩
theorem Mvt.app {h : SH} {ts us : List Nat} {ms ns : List Nm} (x : Mvt h ts ms) (y : Mvt h us ns) : Mvt h (ts ++ us) (ms ++ ns) := ⟨by simp [x.1, y.1], fun i t e => by
  by_cases c : i < ts.length
  · rw [List.getElem?_append_left c] at e
    obtain ⟨m, a, b⟩ := x.2 i t e
    exact ⟨m, by rw [List.getElem?_append_left (by rw [← x.1]; exact c)]; exact a, b⟩
  · rw [List.getElem?_append_right (by omega)] at e
    obtain ⟨m, a, b⟩ := y.2 _ t e
    exact ⟨m, by rw [List.getElem?_append_right (by rw [← x.1]; omega), ← x.1]; exact a, b⟩⟩
theorem Mvt.take {h : SH} {ts : List Nat} {ms : List Nm} (x : Mvt h ts ms) (k : Nat) : Mvt h (ts.take k) (ms.take k) := ⟨by simp [x.1], fun i t e => by
  rw [List.getElem?_take] at e
  split at e
  · rename_i c
    obtain ⟨m, a, b⟩ := x.2 i t e
    exact ⟨m, by rw [List.getElem?_take_of_lt c]; exact a, b⟩
  · cases e⟩
theorem Mvt.set {h : SH} {ts : List Nat} {ms : List Nm} {D : Nat} {l : List SV} {o : SO} (x : Mvt h ts ms) (eD : h[D]? = some (.lst l)) : Mvt (h.set D o) ts ms := ⟨x.1, fun i t e => by
  obtain ⟨m, a, b⟩ := x.2 i t e
  have : D ≠ t := fun q => by rw [← q, eD] at b; cases b
  exact ⟨m, a, by rw [set_ne this]; exact b⟩⟩
def IsM (a : AM) (ss : SS) (ms : List Nm) : Prop := ∀ h, Is (a ss h) fun vs h' => Le h h' ∧ ∃ ts : List Nat, vs = ts.map SV.ref ∧ Mvt h' ts ms
section
variable {ss : SS}
theorem ism_nil : IsM aNil ss [] := fun h => Is.anil ⟨Le.refl _, [], rfl, rfl, fun _ _ z => by simp at z⟩
theorem one_mv {p o : Str} {l c : Int} {X : EM} (ex : ∀ h, Is (X ss h) fun v h1 => v = .int c ∧ h1 = h) (h : SH) : Is ((mOA opTup (aCons (mC (.str p)) (aCons (mC (.int l)) (aCons X (aCons (mC (.str o)) aNil))))) ss h) fun v h1 => Le h h1 ∧ ∃ t, v = .ref t ∧ h1[t]? = some (Nm.so ⟨p, l, c, o⟩) :=
  Is.oa (Is.acons (Is.c (Is.acons (Is.c (Is.acons ((ex h).mono fun v h1 ⟨e1, e2⟩ => by
    subst e1; subst e2
    exact Is.acons (Is.c (Is.anil (tup_is (small_big (by simp)) ⟨Le.push _ _, _, rfl, new_at _ _⟩)))))))))
theorem ism_cons {p o : Str} {l c : Int} {X : EM} {r : AM} {ms : List Nm} (ex : ∀ h, Is (X ss h) fun v h1 => v = .int c ∧ h1 = h) (y : IsM r ss ms) : IsM (aCons (mOA opTup (aCons (mC (.str p)) (aCons (mC (.int l)) (aCons X (aCons (mC (.str o)) aNil))))) r) ss (⟨p, l, c, o⟩ :: ms) := fun h =>
  Is.acons ((one_mv ex h).mono fun v h1 ⟨l1, t, ev, et⟩ => (y h1).mono fun vs h2 ⟨l2, ts, evs, z⟩ => ⟨l1.trans l2, t :: ts, by rw [ev, evs]; rfl, Mvt.app (ts := [t]) (ms := [_]) ⟨rfl, fun i u e => by
    match i, e with
    | 0, e => cases e; exact ⟨_, rfl, l2 _ _ et⟩
    | i + 1, e => cases e⟩ z⟩)
theorem ex_c {c : Int} : ∀ h, Is (mC (.int c) ss h) fun v h1 => v = .int c ∧ h1 = h := fun h => Is.c ⟨rfl, rfl⟩
theorem ex_n {c : Int} : ∀ h, Is (mO1 opNeg (mC (.int c)) ss h) fun v h1 => v = .int (-c) ∧ h1 = h := fun h => Is.o1 (Is.c ⟨.int (-c), _, rfl, rfl, rfl⟩)
end
def w5 : List Nm := [⟨"a", 8, 0, "b"⟩, ⟨"b", 4, 4, "c"⟩, ⟨"c", 8, -4, "d"⟩, ⟨"d", 0, 0, "a"⟩, ⟨"a", 4, -4, "a"⟩]
def w6 : List Nm := w5 ++ [⟨"a", 0, 4, "a"⟩]
end Fw
namespace Fw
open PySem PySem.Spec L2
section
variable {rL rE : Nat} {iL iT iS iI iB iP : Tag → Option Bool} {xA xW xT xC xP xM xK : List (Option Nat)} {cW c : Nat} {sub subL : Nat → Option Bool} {iQ iR : Tag → Option Bool} {xv : List (Option Nat)}
end
end Fw
namespace Fw
open PySem PySem.Spec L2
/-! ### texts cut at line ends and blanks -/
theorem pre_one {c x : Nat} {r : List Nat} : TL.pre [c] (x :: r) = decide (x = c) := by
  by_cases h : x = c
  · subst h; simp [TL.pre]
  · rw [TL.pre_of_head _ _ h, decide_eq_false h]
theorem spl_app {c : Nat} : ∀ (a : List Nat) (acc b : List Nat), TL.spl [c] 0 acc (a ++ c :: b) = TL.spl [c] 0 acc a ++ TL.spl [c] 0 [] b
  | [], acc, b => by
    rw [List.nil_append, TL.spl_hit (by rw [pre_one]; simp), TL.spl_nil]; rfl
  | x :: a, acc, b => by
    by_cases h : x = c
    · rw [List.cons_append, TL.spl_hit (by rw [pre_one]; simp [h]), TL.spl_hit (by rw [pre_one]; simp [h])]
      show acc :: TL.spl [c] 0 [] (a ++ c :: b) = acc :: TL.spl [c] 0 [] a ++ _
      rw [spl_app a [] b]; rfl
    · rw [List.cons_append, TL.spl_miss (by rw [pre_one]; simp [h]), TL.spl_miss (by rw [pre_one]; simp [h]), spl_app a _ b]
def wordsL (c : Nat) (l : List Nat) : List (List Nat) := (TL.spl [c] 0 [] l).filter fun p => !p.isEmpty
theorem words_app {c : Nat} (a b : List Nat) : wordsL c (a ++ c :: b) = wordsL c a ++ wordsL c b := by
  unfold wordsL; rw [spl_app, List.filter_append]
theorem words_nil {c : Nat} : wordsL c [] = [] := rfl
theorem words_one {c : Nat} {p : List Nat} (h : c ∉ p) (hp : p ≠ []) : wordsL c p = [p] := by
  unfold wordsL
  rw [TL.spl_last1 h, List.nil_append]
  cases p with
  | nil => exact absurd rfl hp
  | cons x r => rfl
theorem words_left {c : Nat} (l : List Nat) : ∀ k : Nat, wordsL c (List.replicate k c ++ l) = wordsL c l
  | 0 => rfl
  | k + 1 => by
    rw [List.replicate_succ, List.cons_append]
    have := words_app (c := c) [] (List.replicate k c ++ l)
    rw [List.nil_append] at this
    rw [this, words_nil, List.nil_append, words_left l k]
theorem words_mid {c : Nat} (a l : List Nat) (k : Nat) : wordsL c (a ++ List.replicate (k + 1) c ++ l) = wordsL c a ++ wordsL c l := by
  rw [List.replicate_succ, List.append_assoc, List.cons_append, words_app, words_left]
theorem words_right {c : Nat} (a : List Nat) : ∀ k : Nat, wordsL c (a ++ List.replicate k c) = wordsL c a
  | 0 => by rw [List.replicate_zero, List.append_nil]
  | k + 1 => by
    have := words_mid (c := c) a [] k
    rw [List.append_nil, words_nil, List.append_nil] at this
    exact this
theorem words_join {c : Nat} {ts : List (List Nat)} (h : ∀ t ∈ ts, c ∉ t ∧ t ≠ []) : wordsL c (TL.joinL [c] ts) = ts := by
  unfold wordsL
  cases ts with
  | nil => rfl
  | cons t r =>
    rw [TL.spl_join (by simp) fun p hp => (h p hp).1]
    refine List.filter_eq_self.mpr fun p hp => ?_
    have := (h p hp).2
    cases p with
    | nil => exact absurd rfl this
    | cons x y => rfl
def linesL (l : List Nat) : List (List (List Nat)) := ((TL.spl [10] 0 [] l).map (wordsL 32)).filter fun p => !p.isEmpty
theorem lines_app (a b : List Nat) : linesL (a ++ 10 :: b) = linesL a ++ linesL b := by
  unfold linesL; rw [spl_app, List.map_append, List.filter_append]
theorem lines_join {rs : List (List Nat)} (h : ∀ r ∈ rs, 10 ∉ r) : linesL (TL.joinL [10] rs) = (rs.map (wordsL 32)).filter fun p => !p.isEmpty := by
  unfold linesL
  cases rs with
  | nil => rfl
  | cons t r => rw [TL.spl_join (by simp) h]
/-! at the texts -/
def wordsT (z : Str) : List Str := (Txt.split z " ").filter fun p => decide (p.length ≠ 0)
def linesT (z : Str) : List (List Str) := ((Txt.split z "\n").map wordsT).filter fun p => !p.isEmpty
theorem tl_blank : TL.tl (" " : Str) = [32] := by decide +kernel
theorem tl_end : TL.tl ("\n" : Str) = [10] := by decide +kernel
theorem split_tl {z y : Str} {c : Nat} (hy : TL.tl y = [c]) (hk : y.cps.all (· < 256) = true) : (Txt.split z y).map TL.tl = TL.spl [c] 0 [] (TL.tl z) := by
  rw [TL.split_spl z y (by rw [hy]; simp) (TL.kind_ok hk), hy]
theorem isE_tl (p : Str) : decide (p.length ≠ 0) = !(TL.tl p).isEmpty := by
  rw [TL.len_tl]
  cases TL.tl p with
  | nil => rfl
  | cons x r => simp
theorem filter_map {α β : Type} {f : α → β} {p : α → Bool} {q : β → Bool} (h : ∀ a, p a = q (f a)) : ∀ l : List α, (l.filter p).map f = (l.map f).filter q
  | [] => rfl
  | a :: l => by
    rw [List.map_cons, List.filter_cons, List.filter_cons, ← h a]
    cases p a with
    | true => simp only [if_true, List.map_cons, filter_map h l]
    | false => simp only [Bool.false_eq_true, if_false, filter_map h l]
theorem wordsT_tl (z : Str) : (wordsT z).map TL.tl = wordsL 32 (TL.tl z) := by
  unfold wordsT wordsL
  rw [filter_map (q := fun p => !p.isEmpty) isE_tl, split_tl tl_blank (by decide +kernel)]
theorem linesT_tl (z : Str) : (linesT z).map (List.map TL.tl) = linesL (TL.tl z) := by
  unfold linesT linesL
  rw [filter_map (q := fun p => !p.isEmpty) (fun a => by cases a <;> rfl), List.map_map, ← split_tl tl_end (by decide +kernel), List.map_map]
  congr 1
  refine List.map_congr_left fun a _ => ?_
  exact wordsT_tl a
theorem lines_inj : ∀ {xs ys : List (List Str)}, xs.map (List.map TL.tl) = ys.map (List.map TL.tl) → xs = ys
  | [], [], _ => rfl
  | x :: xs, y :: ys, h => by
    rw [List.map_cons, List.map_cons] at h
    injection h with h1 h2
    rw [TL.map_tl_inj h1, lines_inj h2]
  | [], y :: ys, h => by simp at h
  | x :: xs, [], h => by simp at h
theorem linesT_of {z : Str} {ls : List (List Str)} (h : linesL (TL.tl z) = ls.map (List.map TL.tl)) : linesT z = ls := lines_inj (by rw [linesT_tl, h])
end Fw
namespace Fw
open PySem PySem.Spec L2
/-! ### the lines of a program -/
structure Tok (z : Str) : Prop where
  bl : 32 ∉ TL.tl z
  nl : 10 ∉ TL.tl z
  ne : TL.tl z ≠ []
  few : (TL.tl z).length ≤ 8
theorem tok_c {z : Str} (h : (decide (32 ∉ TL.tl z) && decide (10 ∉ TL.tl z) && !(TL.tl z).isEmpty && decide ((TL.tl z).length ≤ 8)) = true) : Tok z := by
  simp only [Bool.and_eq_true, decide_eq_true_eq] at h
  obtain ⟨⟨⟨a, b⟩, c⟩, d⟩ := h
  exact ⟨a, b, fun e => (by rw [e] at c; cases c), d⟩
theorem tok_name {p : Str} (n : NmOk p) : Tok p := by
  have az : ∀ c ∈ TL.tl p, 97 ≤ c ∧ c ≤ 122 := fun c hc => n.az c (by simpa [TL.tl] using hc)
  refine ⟨fun h => ?_, fun h => ?_, fun e => ?_, ?_⟩
  · have := az _ h; omega
  · have := az _ h; omega
  · have := n.one
    rw [TL.len_tl, e] at this
    exact absurd this (by decide)
  · have := n.eight
    rw [TL.len_tl] at this; exact this
def numT (l : Int) : Str := Str.ofString (toString l)
theorem nine_of {l : Int} (h0 : 0 ≤ l) (h8 : l ≤ 8) : l = 0 ∨ l = 1 ∨ l = 2 ∨ l = 3 ∨ l = 4 ∨ l = 5 ∨ l = 6 ∨ l = 7 ∨ l = 8 := by omega
theorem fours_of {a : Int} (h0 : -4 ≤ a) (h8 : a ≤ 4) : a = -4 ∨ a = -3 ∨ a = -2 ∨ a = -1 ∨ a = 0 ∨ a = 1 ∨ a = 2 ∨ a = 3 ∨ a = 4 := by omega
theorem tok_num {l : Int} (h0 : 0 ≤ l) (h8 : l ≤ 8) : Tok (numT l) := by
  rcases nine_of h0 h8 with rfl | rfl | rfl | rfl | rfl | rfl | rfl | rfl | rfl <;> exact tok_c (by decide +kernel)
theorem tok_plus {a : Int} (h0 : -4 ≤ a) (h8 : a ≤ 4) : Tok (plusText a) := by
  rcases fours_of h0 h8 with rfl | rfl | rfl | rfl | rfl | rfl | rfl | rfl | rfl <;> exact tok_c (by decide +kernel)
theorem plus_eq {a : Int} (h0 : -4 ≤ a) (h8 : a ≤ 4) : (if decide (a ≥ 0) = true then ("+" : Str) else "") ++ Str.ofString (toString a) = plusText a := by
  rcases fours_of h0 h8 with rfl | rfl | rfl | rfl | rfl | rfl | rfl | rfl | rfl <;> decide +kernel
def mvT (m : Nm) : List Str := ["move", m.p, numT m.l, plusText m.c, m.o]
def rowsOf (ps : List Str) (ms : List Nm) : List (List Str) := ("places" :: ps) :: ms.map mvT
def rowT (r : List Str) : Str := Txt.join " " r
def dueT (ps : List Str) (ms : List Nm) : Str := Txt.join "\n" ((rowsOf ps ms).map rowT)
theorem toks_rows {ps : List Str} {ms : List Nm} (nm : ∀ p ∈ ps, NmOk p) (mok : ∀ m ∈ ms, Nm.Ok ps m) : ∀ r ∈ rowsOf ps ms, r ≠ [] ∧ ∀ t ∈ r, Tok t := by
  intro r hr
  unfold rowsOf at hr
  rcases List.mem_cons.mp hr with rfl | hr
  · refine ⟨by simp, fun t ht => ?_⟩
    rcases List.mem_cons.mp ht with rfl | ht
    · exact tok_c (by decide +kernel)
    · exact tok_name (nm t ht)
  · obtain ⟨m, hm, rfl⟩ := List.mem_map.mp hr
    have mo := mok m hm
    refine ⟨by simp [mvT], fun t ht => ?_⟩
    unfold mvT at ht
    simp only [List.mem_cons, List.not_mem_nil, or_false] at ht
    rcases ht with rfl | rfl | rfl | rfl | rfl
    · exact tok_c (by decide +kernel)
    · exact tok_name (nm _ mo.hp)
    · exact tok_num mo.l0 mo.l8
    · exact tok_plus mo.c0 mo.c4
    · exact tok_name (nm _ mo.ho)
theorem tl_joinT {y : Str} (parts : List Str) : TL.tl (Txt.join y parts) = TL.joinL (TL.tl y) (parts.map TL.tl) := by rw [TL.join_eq, TL.tl_join]
theorem not_joinL {c : Nat} {S : List Nat} (hS : c ∉ S) : ∀ {ts : List (List Nat)}, (∀ t ∈ ts, c ∉ t) → c ∉ TL.joinL S ts
  | [], _ => by simp [TL.joinL]
  | [p], h => h p (by simp)
  | p :: q :: r, h => by
    show c ∉ p ++ (S ++ TL.joinL S (q :: r))
    simp only [List.mem_append, not_or]
    exact ⟨h p (by simp), hS, not_joinL hS fun t ht => h t (List.mem_cons_of_mem _ ht)⟩
theorem len_joinL {S : List Nat} {b : Nat} : ∀ {ts : List (List Nat)}, (∀ t ∈ ts, t.length ≤ b) → (TL.joinL S ts).length ≤ ts.length * (b + S.length)
  | [], _ => by simp [TL.joinL]
  | [p], h => by
    have := h p (by simp)
    show p.length ≤ _
    simp only [List.length_cons, List.length_nil, Nat.zero_add, Nat.one_mul]
    omega
  | p :: q :: r, h => by
    have h1 := h p (by simp)
    have ih := len_joinL (S := S) (ts := q :: r) fun t ht => h t (List.mem_cons_of_mem _ ht)
    show (p ++ (S ++ TL.joinL S (q :: r))).length ≤ _
    rw [List.length_append, List.length_append, List.length_cons, Nat.add_mul]
    omega
theorem row_nl {r : List Str} (h : ∀ t ∈ r, Tok t) : 10 ∉ TL.tl (rowT r) := by
  unfold rowT
  rw [tl_joinT, tl_blank]
  refine not_joinL (by decide) fun t ht => ?_
  obtain ⟨z, hz, rfl⟩ := List.mem_map.mp ht
  exact (h z hz).nl
theorem row_words {r : List Str} (h : ∀ t ∈ r, Tok t) : wordsL 32 (TL.tl (rowT r)) = r.map TL.tl := by
  unfold rowT
  rw [tl_joinT, tl_blank]
  refine words_join fun t ht => ?_
  obtain ⟨z, hz, rfl⟩ := List.mem_map.mp ht
  exact ⟨(h z hz).bl, (h z hz).ne⟩
theorem row_len {r : List Str} (h : ∀ t ∈ r, Tok t) (hl : r.length ≤ 5) : (TL.tl (rowT r)).length ≤ 45 := by
  unfold rowT
  rw [tl_joinT, tl_blank]
  refine Nat.le_trans (len_joinL (b := 8) fun t ht => ?_) ?_
  · obtain ⟨z, hz, rfl⟩ := List.mem_map.mp ht
    exact (h z hz).few
  · simp only [List.length_map, List.length_cons, List.length_nil]
    omega
theorem filter_rows {rs : List (List Str)} (h : ∀ r ∈ rs, r ≠ []) : ((rs.map (List.map TL.tl)).filter fun p => !p.isEmpty) = rs.map (List.map TL.tl) := by
  refine List.filter_eq_self.mpr fun p hp => ?_
  obtain ⟨r, hr, rfl⟩ := List.mem_map.mp hp
  have := h r hr
  cases r with
  | nil => exact absurd rfl this
  | cons x y => rfl
theorem lines_rows {rs : List (List Str)} (h : ∀ r ∈ rs, r ≠ [] ∧ ∀ t ∈ r, Tok t) : linesL (TL.tl (Txt.join "\n" (rs.map rowT))) = rs.map (List.map TL.tl) := by
  rw [tl_joinT, tl_end, lines_join fun r hr => ?_]
  · rw [List.map_map, List.map_map, ← filter_rows fun r hr => (h r hr).1]
    congr 1
    refine List.map_congr_left fun r hr => ?_
    exact row_words (h r hr).2
  · obtain ⟨z, hz, rfl⟩ := List.mem_map.mp hr
    obtain ⟨r, hr', rfl⟩ := List.mem_map.mp hz
    exact row_nl (h r hr').2
theorem lines_due {ps : List Str} {ms : List Nm} (nm : ∀ p ∈ ps, NmOk p) (mok : ∀ m ∈ ms, Nm.Ok ps m) : linesT (dueT ps ms) = rowsOf ps ms := linesT_of (lines_rows (toks_rows nm mok))
end Fw
namespace Fw
open PySem PySem.Spec L2
/-! ### lines with other blanks, and empty ones between them -/
structure Ln (ts : List Str) (b : Nat) (z : Str) : Prop where
  w : wordsL 32 (TL.tl z) = ts.map TL.tl
  nl : 10 ∉ TL.tl z
  few : (TL.tl z).length ≤ b
structure Bk (lo : Nat) (z : Str) : Prop where
  ex : ∃ k : Nat, lo ≤ k ∧ k ≤ 4 ∧ TL.tl z = List.replicate k 32
theorem Bk.nl {lo : Nat} {z : Str} (x : Bk lo z) : 10 ∉ TL.tl z := by
  obtain ⟨k, _, _, e⟩ := x
  rw [e]
  intro h
  have := List.eq_of_mem_replicate h
  omega
theorem Bk.len {lo : Nat} {z : Str} (x : Bk lo z) : (TL.tl z).length ≤ 4 := by
  obtain ⟨k, _, h, e⟩ := x
  rw [e, List.length_replicate]; exact h
theorem Ln.blank {lo : Nat} {z : Str} (x : Bk lo z) : Ln [] 4 z := by
  refine ⟨?_, x.nl, x.len⟩
  obtain ⟨k, _, _, e⟩ := x
  have := words_left (c := 32) [] k
  rw [List.append_nil] at this
  rw [e, this]; rfl
theorem Ln.start {z t : Str} (x : Bk 0 z) (tk : Tok t) : Ln [t] 12 (z ++ t) := by
  refine ⟨?_, ?_, ?_⟩
  · obtain ⟨k, _, _, e⟩ := x
    rw [TL.tl_append, e, words_left, words_one tk.bl tk.ne]; rfl
  · rw [TL.tl_append, List.mem_append]
    rintro (h | h)
    · exact x.nl h
    · exact tk.nl h
  · rw [TL.tl_append, List.length_append]
    have := x.len
    have := tk.few
    omega
theorem Ln.step {ts : List Str} {b : Nat} {L z t : Str} (y : Ln ts b L) (x : Bk 1 z) (tk : Tok t) : Ln (ts ++ [t]) (b + 12) (L ++ z ++ t) := by
  refine ⟨?_, ?_, ?_⟩
  · obtain ⟨k, h1, _, e⟩ := x
    cases k with
    | zero => omega
    | succ k => rw [TL.tl_append, TL.tl_append, e, words_mid, y.w, words_one tk.bl tk.ne, List.map_append]; rfl
  · rw [TL.tl_append, TL.tl_append, List.mem_append, List.mem_append]
    rintro ((h | h) | h)
    · exact y.nl h
    · exact x.nl h
    · exact tk.nl h
  · rw [TL.tl_append, TL.tl_append, List.length_append, List.length_append]
    have := x.len
    have := tk.few
    have := y.few
    omega
theorem Ln.fin {ts : List Str} {b : Nat} {L z : Str} (y : Ln ts b L) (x : Bk 0 z) : Ln ts (b + 4) (L ++ z) := by
  refine ⟨?_, ?_, ?_⟩
  · obtain ⟨k, _, _, e⟩ := x
    rw [TL.tl_append, e, words_right, y.w]
  · rw [TL.tl_append, List.mem_append]
    rintro (h | h)
    · exact y.nl h
    · exact x.nl h
  · rw [TL.tl_append, List.length_append]
    have := x.len
    have := y.few
    omega
theorem Ln.up {ts : List Str} {b b' : Nat} {z : Str} (y : Ln ts b z) (h : b ≤ b') : Ln ts b' z := ⟨y.w, y.nl, Nat.le_trans y.few h⟩
structure Rws (R : List Str) (ls : List (List Str)) : Prop where
  ln : ∀ r ∈ R, ∃ ts, Ln ts 100 r
  w : ((R.map fun r => wordsL 32 (TL.tl r)).filter fun p => !p.isEmpty) = ls.map (List.map TL.tl)
theorem Rws.nil : Rws [] [] := ⟨fun _ z => (nomatch z), rfl⟩
theorem Rws.app {R R' : List Str} {ls ls' : List (List Str)} (x : Rws R ls) (y : Rws R' ls') : Rws (R ++ R') (ls ++ ls') :=
  ⟨fun r hr => (List.mem_append.mp hr).elim (x.ln r) (y.ln r), by rw [List.map_append, List.filter_append, x.w, y.w, List.map_append]⟩
theorem Rws.one {ts : List Str} {r : Str} (y : Ln ts 100 r) (ne : ts ≠ []) : Rws [r] [ts] := by
  refine ⟨fun r' hr => by rw [List.mem_singleton.mp hr]; exact ⟨ts, y⟩, ?_⟩
  simp only [List.map_cons, List.map_nil, y.w]
  cases ts with
  | nil => exact absurd rfl ne
  | cons t r => rfl
theorem Rws.none {r : Str} (y : Ln [] 100 r) : Rws [r] [] := by
  refine ⟨fun r' hr => by rw [List.mem_singleton.mp hr]; exact ⟨[], y⟩, ?_⟩
  simp only [List.map_cons, List.map_nil, y.w]
  rfl
theorem Rws.blanks {r : Str} (y : Ln [] 100 r) : ∀ k : Nat, Rws (List.replicate k r) []
  | 0 => Rws.nil
  | k + 1 => by
    have := (Rws.none y).app (Rws.blanks y k)
    exact this
theorem Rws.lines {R : List Str} {ls : List (List Str)} (x : Rws R ls) : linesT (Txt.join "\n" R) = ls := by
  refine linesT_of ?_
  rw [tl_joinT, tl_end, lines_join fun r hr => ?_, List.map_map]
  · exact x.w
  · obtain ⟨z, hz, rfl⟩ := List.mem_map.mp hr
    obtain ⟨ts, y⟩ := x.ln z hz
    exact y.nl
theorem Rws.len {R : List Str} {ls : List (List Str)} (x : Rws R ls) : (Txt.join "\n" R).length ≤ R.length * 101 := by
  rw [TL.len_tl, tl_joinT, tl_end]
  have := len_joinL (S := [10]) (b := 100) (ts := R.map TL.tl) fun t ht => by
    obtain ⟨z, hz, rfl⟩ := List.mem_map.mp ht
    obtain ⟨ts, y⟩ := x.ln z hz
    exact y.few
  simpa using this
theorem Rws.due {ps : List Str} {ms : List Nm} (nm : ∀ p ∈ ps, NmOk p) (mok : ∀ m ∈ ms, Nm.Ok ps m) (h4 : ps.length ≤ 4) : Rws ((rowsOf ps ms).map rowT) (rowsOf ps ms) := by
  have tk := toks_rows nm mok
  refine ⟨fun r hr => ?_, ?_⟩
  · obtain ⟨z, hz, rfl⟩ := List.mem_map.mp hr
    refine ⟨z, row_words (tk z hz).2, row_nl (tk z hz).2, Nat.le_trans (row_len (tk z hz).2 ?_) (by decide)⟩
    unfold rowsOf at hz
    rcases List.mem_cons.mp hz with rfl | hz
    · simp; omega
    · obtain ⟨m, _, rfl⟩ := List.mem_map.mp hz
      exact Nat.le_refl 5
  · rw [List.map_map, ← filter_rows fun r hr => (tk r hr).1]
    congr 1
    refine List.map_congr_left fun r hr => ?_
    exact row_words (tk r hr).2
theorem lines_two {z : Str} : linesT (z ++ "\n\n") = linesT z := by
  refine linesT_of ?_
  have e : TL.tl ("\n\n" : Str) = 10 :: (10 :: []) := by decide +kernel
  rw [TL.tl_append, e, lines_app, linesT_tl]
  have : linesL (10 :: ([] : List Nat)) = [] := by decide +kernel
  rw [this, List.append_nil]
end Fw
namespace Fw
open PySem PySem.Spec L2
theorem Is.s1 {op : Str → O1} {mo ma : EM} {ss : SS} {h : SH} {P : SV → SH → Prop} (x : Is (mo ss h) fun o h1 => ∃ z, o = .str z ∧ Is (ma ss h1) fun v h2 => ∃ w h3, op z v h2 = some (w, h3) ∧ P w h3) : Is (mS1 op mo ma ss h) P := Is.bind (x.mono fun o h1 ⟨z, e, y⟩ => by
  subst e
  exact Is.bind (y.mono fun v h2 z => Is.lift z))
theorem split_is {z y : Str} {h : SH} {P : SV → SH → Prop} (hy : (y.length == 0) = false) (hz : z.length + 2 ≤ big) (p : P (.ref h.length) (h ++ [.lst ((Txt.split z y).map SV.str)])) : ∃ w h3, opSplit z (.str y) h = some (w, h3) ∧ P w h3 :=
  ⟨_, _, by unfold opSplit; simp only; rw [if_pos ⟨hy, hz⟩]; rfl, p⟩
theorem spl_len {c : Nat} : ∀ (l acc p : List Nat), p ∈ TL.spl [c] 0 acc l → p.length ≤ acc.length + l.length
  | [], acc, p, h => by
    rw [TL.spl_nil] at h
    rw [List.mem_singleton.mp h]; simp
  | x :: l, acc, p, h => by
    by_cases e : x = c
    · rw [TL.spl_hit (by rw [pre_one]; simp [e])] at h
      rcases List.mem_cons.mp h with rfl | h
      · omega
      · have := spl_len l [] p h
        simp only [List.length_nil] at this
        simp only [List.length_cons]; omega
    · rw [TL.spl_miss (by rw [pre_one]; simp [e])] at h
      have := spl_len l _ p h
      simp only [List.length_append, List.length_cons, List.length_nil] at this
      simp only [List.length_cons]; omega
theorem split_mem {z y p : Str} {c : Nat} (hy : TL.tl y = [c]) (hk : y.cps.all (· < 256) = true) (h : p ∈ Txt.split z y) : p.length ≤ z.length := by
  have : TL.tl p ∈ (Txt.split z y).map TL.tl := List.mem_map_of_mem h
  rw [split_tl hy hk] at this
  have := spl_len _ _ _ this
  rw [TL.len_tl, TL.len_tl]
  simpa using this
theorem tru_str {p : Str} {h : SH} {P : Bool → SH → Prop} (hp : p.length ≤ big) (x : P (decide (p.length ≠ 0)) h) : Is (opTru (.str p) h) P := by
  unfold opTru
  simp only [if_pos hp]
  have : ((p.length : Int) != 0) = decide (p.length ≠ 0) := by
    cases p.length with
    | zero => rfl
    | succ n =>
      rw [decide_eq_true (by omega)]
      exact bne_iff_ne.mpr (by omega)
  rw [this]
  exact x
theorem take_app {α : Type} {l : List α} {k : Nat} {x : α} (e : l[k]? = some x) : l.take (k + 1) = l.take k ++ [x] := by
  rw [List.take_add_one, e]; rfl
def wordsM (i j : Nat) : EM := mLc (mWalk (mS1 opSplit (mVar i) (mC (.str " ")))) (gVar j) (mTru (mVar j)) (mVar j) [j]
theorem words_is {i j : Nat} {z : Str} {ss : SS} {h : SH} {P : SV → SH → Prop} (hz : z.length ≤ 1000000) (s2 : ss[i]? = some (some (.str z))) (hj : j < ss.length)
    (p : ∀ h' D, Le h h' → h.length ≤ D → h'[D]? = some (.lst ((wordsT z).map SV.str)) → P (.ref D) h') : Is (wordsM i j ss h) P := by
  unfold wordsM
  have hb : z.length + 2 ≤ big := by unfold big; omega
  refine Is.lc (Is.walkL (Is.s1 (Is.var s2 ⟨z, rfl, Is.c (split_is (by decide +kernel) hb ?_)⟩)))
  have n1 := new_at h (.lst ((Txt.split z " ").map SV.str))
  have l1 := Le.push h (.lst ((Txt.split z " ").map SV.str))
  have hl1 : (h ++ [SO.lst ((Txt.split z " ").map SV.str)]).length = h.length + 1 := by simp
  have hlen := PyProof.Rows.split_le z " "
  have hmem : ∀ q ∈ Txt.split z " ", q.length ≤ z.length := fun q hq => split_mem tl_blank (by decide +kernel) hq
  have hw : wordsT z = (Txt.split z " ").filter fun p => decide (p.length ≠ 0) := rfl
  generalize Txt.split z " " = qs at n1 l1 hl1 hlen hmem hw ⊢
  generalize hr : h.length = r at n1 hl1 ⊢
  generalize h ++ [SO.lst (qs.map SV.str)] = h1 at n1 l1 hl1 ⊢
  refine ⟨r, _, rfl, n1, qs.length, fun k acc h' => Le h1 h' ∧ acc = ((qs.take k).filter fun p => decide (p.length ≠ 0)).map SV.str, by unfold many; omega, ⟨Le.push _ _, rfl⟩, ?_, ?_⟩
  · rintro k acc h' hk hD ⟨le, ea⟩
    have ek : qs[k]? = some qs[k] := List.getElem?_eq_getElem hk
    have w4 : ((wipeS ss [j]).set j (some (SV.str qs[k])))[j]? = some (some (.str qs[k])) := gx (n := ss.length) (by simp [wipeS]) hj
    refine ⟨_, _, _, wkL_at (le _ _ n1) (by rw [List.getElem?_map, ek]; rfl), rfl, ?_⟩
    generalize (wipeS ss [j]).set j (some (SV.str qs[k])) = s at w4 ⊢
    have hq := hmem _ (List.getElem_mem hk)
    refine Is.tru (Is.var w4 (tru_str (by omega) ?_))
    have et := take_app ek
    by_cases c : qs[k].length = 0
    · rw [if_neg (by simp [c])]
      refine ⟨hD, le, ?_⟩
      rw [et, List.filter_append, ea]
      simp [c]
    · rw [if_pos (by simp [c])]
      have ha : acc.length ≤ qs.length := by
        rw [ea, List.length_map]
        exact Nat.le_trans (List.length_filter_le _ _) (by simp; omega)
      refine Is.var w4 ⟨hD, by unfold big; omega, fun i o e => ?_, ?_⟩
      · have : h1.length ≠ i := by have := lt_of e; omega
        rw [set_ne this]; exact le _ _ e
      · rw [et, List.filter_append, ea]
        simp [c]
  · rintro acc h' hD ⟨le, ea⟩
    have w := wkL_end (le _ _ n1)
    rw [List.length_map] at w
    refine ⟨w, p _ _ (l1.trans le) (by omega) ?_⟩
    rw [hD, ea, List.take_length, hw]
end Fw
namespace Fw
open PySem PySem.Spec L2
/-- lists at us hold the texts of ls, none of them at D -/
def Lr (h : SH) (D : Nat) (us : List Nat) (ls : List (List Str)) : Prop := us.length = ls.length ∧ ∀ (i t : Nat), us[i]? = some t → t ≠ D ∧ ∃ r, ls[i]? = some r ∧ h[t]? = some (.lst (r.map SV.str))
theorem Lr.le {h h' : SH} {D : Nat} {us : List Nat} {ls : List (List Str)} (x : Lr h D us ls) (l : Le h h') : Lr h' D us ls := ⟨x.1, fun i t e => let ⟨n, r, a, b⟩ := x.2 i t e; ⟨n, r, a, l _ _ b⟩⟩
theorem Lr.set {h : SH} {D : Nat} {us : List Nat} {ls : List (List Str)} {o : SO} (x : Lr h D us ls) : Lr (h.set D o) D us ls := ⟨x.1, fun i t e => let ⟨n, r, a, b⟩ := x.2 i t e; ⟨n, r, a, by rw [set_ne n.symm]; exact b⟩⟩
theorem Lr.nil {h : SH} {D : Nat} : Lr h D [] [] := ⟨rfl, fun i t e => by simp at e⟩
theorem Lr.app {h : SH} {D t : Nat} {us : List Nat} {ls : List (List Str)} {r : List Str} (x : Lr h D us ls) (n : t ≠ D) (e : h[t]? = some (.lst (r.map SV.str))) : Lr h D (us ++ [t]) (ls ++ [r]) := ⟨by simp [x.1], fun i u eu => by
  by_cases c : i < us.length
  · rw [List.getElem?_append_left c] at eu
    obtain ⟨n', r', a, b⟩ := x.2 i u eu
    exact ⟨n', r', by rw [List.getElem?_append_left (by rw [← x.1]; exact c)]; exact a, b⟩
  · have hi : i = us.length := by have := (List.getElem?_eq_some_iff.mp eu).1; simp at this; omega
    subst hi
    rw [List.getElem?_append_right (Nat.le_refl _)] at eu
    simp at eu
    subst eu
    exact ⟨n, r, by rw [x.1, List.getElem?_append_right (Nat.le_refl _)]; simp, e⟩⟩
structure Lns (h : SH) (A : Nat) (ls : List (List Str)) : Prop where
  ex : ∃ us : List Nat, h[A]? = some (.lst (us.map SV.ref)) ∧ Lr h A us ls
theorem Lns.le {h h' : SH} {A : Nat} {ls : List (List Str)} (x : Lns h A ls) (l : Le h h') : Lns h' A ls := let ⟨us, a, b⟩ := x.ex; ⟨us, l _ _ a, b.le l⟩
def linesM : SM := (mSeq (mSet 1 (mLc (mWalk (mS1 opSplit (mVar 0) (mC (.str "\n")))) (gVar 2) bYes (wordsM 2 4) [2])) (mRet (mLc (mWalk (mVar 1)) (gVar 3) (mTru (mVar 3)) (mVar 3) [3])))
theorem rowsAll_is {z : Str} {ss : SS} {h : SH} {P : SV → SH → Prop} (hz : z.length ≤ 1000000) (hl : ss.length = 5) (s0 : ss[0]? = some (some (.str z)))
    (p : ∀ h' D, Le h h' → Lns h' D ((Txt.split z "\n").map wordsT) → P (.ref D) h') : Is (mLc (mWalk (mS1 opSplit (mVar 0) (mC (.str "\n")))) (gVar 2) bYes (wordsM 2 4) [2] ss h) P := by
  have hb : z.length + 2 ≤ big := by unfold big; omega
  refine Is.lc (Is.walkL (Is.s1 (Is.var s0 ⟨z, rfl, Is.c (split_is (by decide +kernel) hb ?_)⟩)))
  have n1 := new_at h (.lst ((Txt.split z "\n").map SV.str))
  have l1 := Le.push h (.lst ((Txt.split z "\n").map SV.str))
  have hlen := PyProof.Rows.split_le z "\n"
  have hmem : ∀ q ∈ Txt.split z "\n", q.length ≤ z.length := fun q hq => split_mem tl_end (by decide +kernel) hq
  generalize Txt.split z "\n" = qs at n1 l1 hlen hmem p ⊢
  generalize h.length = r at n1 ⊢
  generalize h ++ [SO.lst (qs.map SV.str)] = h1 at n1 l1 ⊢
  refine ⟨r, _, rfl, n1, qs.length, fun k acc h' => Le h1 h' ∧ ∃ us : List Nat, acc = us.map SV.ref ∧ us.length = k ∧ Lr h' h1.length us ((qs.take k).map wordsT), by unfold many; omega, ⟨Le.push _ _, [], rfl, rfl, Lr.nil⟩, ?_, ?_⟩
  · rintro k acc h' hk hD ⟨le, us, ea, hu, lr⟩
    have ek : qs[k]? = some qs[k] := List.getElem?_eq_getElem hk
    have w2 : ((wipeS ss [2]).set 2 (some (SV.str qs[k])))[2]? = some (some (.str qs[k])) := gx (n := ss.length) (by simp [wipeS]) (by omega)
    have wl : ((wipeS ss [2]).set 2 (some (SV.str qs[k]))).length = 5 := by simp [wipeS, hl]
    refine ⟨_, _, _, wkL_at (le _ _ n1) (by rw [List.getElem?_map, ek]; rfl), rfl, ?_⟩
    generalize (wipeS ss [2]).set 2 (some (SV.str qs[k])) = s at w2 wl ⊢
    show Is (Res.ok true h') _
    refine is_ok ?_
    rw [if_pos rfl]
    have hq := hmem _ (List.getElem_mem hk)
    have hlt := lt_of hD
    refine words_is (by omega) w2 (by omega) fun h2 t l2 ht et => ⟨l2 _ _ hD, ?_, fun i o e => ?_, us ++ [t], by rw [ea]; simp, by simp [hu], ?_⟩
    · rw [ea, List.length_map, hu]; unfold big; omega
    · have : h1.length ≠ i := by have := lt_of e; omega
      rw [set_ne this]; exact l2 _ _ (le _ _ e)
    · rw [take_app ek, List.map_append]
      exact ((lr.le l2).app (by omega) et).set
  · rintro acc h' hD ⟨le, us, ea, hu, lr⟩
    have w := wkL_end (le _ _ n1)
    rw [List.length_map] at w
    refine ⟨w, p _ _ (l1.trans le) ⟨us, by rw [hD, ea], ?_⟩⟩
    rw [List.take_length] at lr
    exact lr
theorem full_is {ls : List (List Str)} {A : Nat} {ss : SS} {h : SH} {P : SV → SH → Prop} (few : ls.length ≤ 1000002) (hl : ss.length = 5) (s1 : ss[1]? = some (some (.ref A))) (x : Lns h A ls)
    (p : ∀ h' D, Le h h' → Lns h' D (ls.filter fun p => !p.isEmpty) → P (.ref D) h') : Is (mLc (mWalk (mVar 1)) (gVar 3) (mTru (mVar 3)) (mVar 3) [3] ss h) P := by
  obtain ⟨us, e1, lr⟩ := x.ex
  have hA := lt_of e1
  have hu := lr.1
  refine Is.lc (Is.walkL (Is.var s1 ⟨A, _, rfl, e1, us.length, fun k acc h' => Le h h' ∧ ∃ vs : List Nat, acc = vs.map SV.ref ∧ vs.length ≤ k ∧ Lr h' h.length vs ((ls.take k).filter fun p => !p.isEmpty), by unfold many; omega, ⟨Le.push _ _, [], rfl, Nat.le_refl _, Lr.nil⟩, ?_, ?_⟩))
  · rintro k acc h' hk hD ⟨le, vs, ea, hv, lr'⟩
    have ek : us[k]? = some us[k] := List.getElem?_eq_getElem hk
    obtain ⟨n, r, er, et⟩ := lr.2 k _ ek
    have hlt := lt_of hD
    have htl := lt_of et
    generalize us[k] = t at ek n er et htl
    have w3 : ((wipeS ss [3]).set 3 (some (SV.ref t)))[3]? = some (some (.ref t)) := gx (n := ss.length) (by simp [wipeS]) (by omega)
    refine ⟨_, _, _, wkL_at (le _ _ e1) (by rw [List.getElem?_map, ek]; rfl), rfl, ?_⟩
    generalize (wipeS ss [3]).set 3 (some (SV.ref t)) = s at w3 ⊢
    have et' := le _ _ et
    refine Is.tru (Is.var w3 ?_)
    have eo : opTru (.ref t) h' = .ok (!(r.map SV.str).isEmpty) h' := by unfold opTru; simp only [et']
    rw [eo]
    refine is_ok ?_
    have etk := take_app er
    cases r with
    | nil =>
      rw [if_neg (by simp)]
      refine ⟨hD, le, vs, ea, by omega, ?_⟩
      rw [etk, List.filter_append]
      simp only [List.filter_cons, List.isEmpty_nil, List.filter_nil]
      simpa using lr'
    | cons y r =>
      rw [if_pos (by simp)]
      refine Is.var w3 ⟨hD, ?_, fun i o e => ?_, vs ++ [t], by rw [ea]; simp, by simp; omega, ?_⟩
      · rw [ea, List.length_map]; unfold big; omega
      · have : h.length ≠ i := by have := lt_of e; omega
        rw [set_ne this]; exact le _ _ e
      · rw [etk, List.filter_append]
        exact (lr'.app (by omega) et').set
  · rintro acc h' hD ⟨le, vs, ea, hv, lr'⟩
    have w := wkL_end (le _ _ e1)
    rw [List.length_map] at w
    refine ⟨w, p _ _ le ⟨vs, by rw [hD, ea], ?_⟩⟩
    rw [hu, List.take_length] at lr'
    exact lr'
theorem lines_is {z : Str} {h : SH} {P : SV → SH → Prop} (hz : z.length ≤ 1000000) (p : ∀ h' D, Le h h' → Lns h' D (linesT z) → P (.ref D) h') : Is (mFn 1 5 linesM [.str z] h) P := by
  refine Is.fn rfl ?_
  unfold linesM
  have hlen := PyProof.Rows.split_le z "\n"
  refine Ist.seq (Ist.set (rowsAll_is hz rfl rfl fun h1 D l1 x => ?_))
  refine Ist.ret (full_is (A := D) (by rw [List.length_map]; omega) rfl rfl x fun h2 E l2 y => p _ _ (l1.trans l2) y)
end Fw
namespace Fw
open PySem PySem.Spec L2
/-! ### are these the lines of a program? -/
def leastB (z : Str) : Bool := match z.cps.toList with
  | [c] => decide (c ∈ ("012345678" : Str).cps.toList)
  | _ => false
def changeB (z : Str) : Bool := match z.cps.toList with
  | [a, b] => decide (a ∈ ("+-" : Str).cps.toList) && (decide (b ∈ ("01234" : Str).cps.toList) && !decide (z = "-0"))
  | _ => false
def lineB : List Str → Bool
  | [a, b, c, d, e] => decide (a = "move") && (leastB c && changeB d)
  | _ => false
theorem line5 {a b c d e : Str} : lineB [a, b, c, d, e] = (decide (a = "move") && (leastB c && changeB d)) := rfl
def leastM : SM := (mRet (mAnd (mO2 (eqD false) (mOA (un1 opLen) (aCons (mVar 0) aNil)) (mC (.int 1))) (mO2 (opInX false) (mVar 0) (mC (.str "012345678")))))
def changeM : SM := (mRet (mAnd (mO2 (eqD false) (mOA (un1 opLen) (aCons (mVar 0) aNil)) (mC (.int 2))) (mAnd (mO2 (opInX false) (mO2 opIx (mVar 0) (mC (.int 0))) (mC (.str "+-"))) (mAnd (mO2 (opInX false) (mO2 opIx (mVar 0) (mC (.int 1))) (mC (.str "01234"))) (mO2 (eqD true) (mVar 0) (mC (.str "-0")))))))
def lineM : SM := (mRet (mAnd (mO2 (eqD false) (mOA (un1 opLen) (aCons (mVar 0) aNil)) (mC (.int 5))) (mAnd (mO2 (eqD false) (mO2 opIx (mVar 0) (mC (.int 0))) (mC (.str "move"))) (mAnd (mCall (mFn 1 1 leastM) (aCons (mO2 opIx (mVar 0) (mC (.int 2))) aNil)) (mCall (mFn 1 1 changeM) (aCons (mO2 opIx (mVar 0) (mC (.int 3))) aNil))))))
def areM : SM := (mSeq (mIfS (bOr (bNot (mTru (mVar 0))) (mB (mO2 (eqD true) (mO2 opIx (mO2 opIx (mVar 0) (mC (.int 0))) (mC (.int 0))) (mC (.str "places"))))) (mRet (mC (.bl false))) mNil) (mRet (mOA (un1 opAll) (aCons (mLc (mWalk (mCut (mVar 0) (pSome (mC (.int 1))) pNone)) (gVar 1) bYes (mCall (mFn 1 1 lineM) (aCons (mVar 1) aNil)) [1]) aNil))))
section
variable {h : SH} {P : SV → SH → Prop}
theorem len_str {z : Str} (hz : z.length ≤ big) (p : P (.int (z.length : Nat)) h) : ∃ v h3, un1 opLen [.str z] h = some (v, h3) ∧ P v h3 := ⟨_, _, by show opLen (.str z) h = _; unfold opLen; exact if_pos hz, p⟩
theorem in_is {c : Nat} {y z : Str} (e : y.cps.toList = [c]) (p : P (.bl (decide (c ∈ z.cps.toList))) h) : ∃ v h3, opInX false (.str y) (.str z) h = some (v, h3) ∧ P v h3 := ⟨_, _, by unfold opInX; simp only [e]; rfl, p⟩
theorem ix_str {z : Str} {k : Int} {c : Nat} (hz : z.length ≤ big) (e : L2.atI z.cps.toList k = some c) (p : P (.str ⟨#[c]⟩) h) : ∃ v h3, opIx (.str z) (.int k) h = some (v, h3) ∧ P v h3 := ⟨_, _, by unfold opIx; simp only [if_pos hz, e], p⟩
theorem least_is {z : Str} (hz : z.length ≤ 1000) : Is (mFn 1 1 leastM [.str z] h) fun v h2 => v = .bl (leastB z) ∧ h2 = h := by
  refine Is.fn rfl ?_
  unfold leastM
  refine Ist.ret (Is.andV (Is.o2 (Is.oa (Is.acons (Is.var (v := .str z) rfl (Is.anil (len_str (small_big hz) (Is.c (eqI ?_)))))))))
  by_cases c1 : z.length = 1
  · refine .inl ⟨by rw [decide_eq_true (by omega)], Is.o2 (Is.var (v := .str z) rfl (Is.c ?_))⟩
    rw [TL.len_tl] at c1
    obtain ⟨c, ec⟩ := List.length_eq_one_iff.mp c1
    refine in_is ec ⟨?_, rfl⟩
    unfold leastB
    rw [show z.cps.toList = [c] from ec]
  · refine .inr ⟨by rw [decide_eq_false (by omega)], ?_, rfl⟩
    rw [TL.len_tl] at c1
    unfold leastB
    split
    · rename_i e; exact absurd (by rw [show TL.tl z = _ from e]; rfl) c1
    · rfl
theorem change_is {z : Str} (hz : z.length ≤ 1000) (ok : PyData.strOk z = true) : Is (mFn 1 1 changeM [.str z] h) fun v h2 => v = .bl (changeB z) ∧ h2 = h := by
  refine Is.fn rfl ?_
  unfold changeM
  refine Ist.ret (Is.andV (Is.o2 (Is.oa (Is.acons (Is.var (v := .str z) rfl (Is.anil (len_str (small_big hz) (Is.c (eqI ?_)))))))))
  by_cases c1 : z.length = 2
  · have c1' := c1
    rw [TL.len_tl] at c1'
    obtain ⟨a, b, ec⟩ : ∃ a b, TL.tl z = [a, b] := by
      generalize TL.tl z = l at c1'
      match l, c1' with
      | [a, b], _ => exact ⟨a, b, rfl⟩
    have ec' : z.cps.toList = [a, b] := ec
    have eb : changeB z = (decide (a ∈ ("+-" : Str).cps.toList) && (decide (b ∈ ("01234" : Str).cps.toList) && !decide (z = "-0"))) := by unfold changeB; rw [ec']
    rw [eb]
    refine .inl ⟨by rw [decide_eq_true (by omega)], Is.andV (Is.o2 (Is.o2 (Is.var (v := .str z) rfl (Is.c (ix_str (c := a) (small_big hz) (by rw [ec']; rfl) (Is.c (in_is (c := a) rfl ?_)))))))⟩
    by_cases q1 : a ∈ ("+-" : Str).cps.toList
    · refine .inl ⟨by rw [decide_eq_true q1], Is.andV (Is.o2 (Is.o2 (Is.var (v := .str z) rfl (Is.c (ix_str (c := b) (small_big hz) (by rw [ec']; rfl) (Is.c (in_is (c := b) rfl ?_)))))))⟩
      by_cases q2 : b ∈ ("01234" : Str).cps.toList
      · refine .inl ⟨by rw [decide_eq_true q2], Is.o2 (Is.var (v := .str z) rfl (Is.c (eqStr (neg := true) ok (by decide +kernel) ⟨?_, rfl⟩)))⟩
        rw [decide_eq_true q1, decide_eq_true q2]; rfl
      · refine .inr ⟨by rw [decide_eq_false q2], ?_, rfl⟩
        rw [decide_eq_true q1, decide_eq_false q2]; rfl
    · refine .inr ⟨by rw [decide_eq_false q1], ?_, rfl⟩
      rw [decide_eq_false q1]; rfl
  · refine .inr ⟨by rw [decide_eq_false (by omega)], ?_, rfl⟩
    rw [TL.len_tl] at c1
    unfold changeB
    split
    · rename_i e; exact absurd (by rw [show TL.tl z = _ from e]; rfl) c1
    · rfl
/-- a row of texts that may be compared -/
def Rok (r : List Str) : Prop := ∀ y ∈ r, y.length ≤ 1000 ∧ PyData.strOk y = true
theorem line_is {r : List Str} {A : Nat} (e : h[A]? = some (.lst (r.map SV.str))) (ok : Rok r) : Is (mFn 1 1 lineM [.ref A] h) fun v h2 => v = .bl (lineB r) ∧ h2 = h := by
  refine Is.fn rfl ?_
  unfold lineM
  refine Ist.ret (Is.andV (Is.o2 (Is.oa (Is.acons (Is.var (v := .ref A) rfl (Is.anil (len_is e (Is.c (eqI ?_)))))))))
  by_cases c1 : r.length = 5
  · refine .inl ⟨by rw [decide_eq_true (by simp [c1])], ?_⟩
    match r, c1 with
    | [a, b, c, d, f], _ =>
      refine Is.andV (Is.o2 (Is.o2 (Is.var (v := .ref A) rfl (Is.c (ix_is e (x := .str a) rfl (Is.c (eqStr (neg := false) (ok a (by simp)).2 (by decide +kernel) ?_)))))))
      by_cases q : a = "move"
      · refine .inl ⟨by rw [if_neg (by decide), decide_eq_true q], Is.andV (Is.call (Is.acons (Is.o2 (Is.var (v := .ref A) rfl (Is.c (ix_is e (x := .str c) rfl (Is.anil ((least_is (ok c (by simp)).1).mono fun w h2 ⟨ew, eh⟩ => ?_))))))))⟩
        subst ew; subst eh
        show _ ∨ _
        cases lb : leastB c with
        | true =>
          refine .inl ⟨rfl, Is.call (Is.acons (Is.o2 (Is.var (v := .ref A) rfl (Is.c (ix_is e (x := .str d) rfl (Is.anil ((change_is (ok d (by simp)).1 (ok d (by simp)).2).mono fun w h3 ⟨ew, eh⟩ => ⟨?_, eh⟩)))))))⟩
          rw [ew]
          rw [line5, decide_eq_true q, lb]; rfl
        | false =>
          refine .inr ⟨rfl, ?_, rfl⟩
          rw [line5, decide_eq_true q, lb]; rfl
      · refine .inr ⟨by rw [if_neg (by decide), decide_eq_false q], ?_, rfl⟩
        rw [line5, decide_eq_false q]; rfl
  · refine .inr ⟨by rw [decide_eq_false (by simp; omega)], ?_, rfl⟩
    unfold lineB
    split
    · exact absurd rfl c1
    · rfl
end
end Fw
namespace Fw
open PySem PySem.Spec L2
/-- all([.. for x in m]), m a new list -/
theorem allC_is {m e : EM} {g : GM} {is : List Nat} {ss : SS} {h : SH} {P : SV → SH → Prop} (hm : Is (m ss h) fun v h1 => ∃ (A : Nat) (xs : List SV) (bs : List Bool), v = .ref A ∧ h1[A]? = some (.lst xs) ∧ bs.length = xs.length ∧ xs.length ≤ 2000000 ∧
      (∀ (k : Nat) (x : SV) (h' : SH), Le h1 h' → xs[k]? = some x → ∃ s1, g x (wipeS ss is) h' = some s1 ∧ Is (e s1 h') fun v h2 => (∃ b, bs[k]? = some b ∧ v = .bl b) ∧ Le h' h2) ∧ ∀ h', Le h1 h' → P (.bl (bs.all id)) h') :
    Is (mOA (un1 opAll) (aCons (mLc (mWalk m) g bYes e is) aNil) ss h) P := by
  refine Is.oa (Is.acons (Is.lc (Is.walkL (hm.mono fun v h1 ⟨A, xs, bs, ev, eA, hb, hl, step, p⟩ => ?_))))
  subst ev
  refine ⟨A, xs, rfl, eA, xs.length, fun k acc h' => Le h1 h' ∧ acc = (bs.take k).map SV.bl, by unfold many; omega, ⟨Le.push _ _, rfl⟩, ?_, ?_⟩
  · rintro k acc h' hk hD ⟨le, rfl⟩
    have ek : xs[k]? = some xs[k] := List.getElem?_eq_getElem hk
    obtain ⟨s1, eg, st⟩ := step k _ h' le ek
    refine ⟨_, _, s1, wkL_at (le _ _ eA) ek, eg, ?_⟩
    show Is (Res.ok true h') _
    refine is_ok ?_
    rw [if_pos rfl]
    refine st.mono fun v h2 ⟨⟨b, eb, ev⟩, l2⟩ => ?_
    subst ev
    refine ⟨l2 _ _ hD, by simp; unfold big; omega, fun j o ej => ?_, ?_⟩
    · have hj : h1.length ≠ j := by have := lt_of ej; omega
      rw [set_ne hj]; exact l2 _ _ (le _ _ ej)
    · have hk' : k < bs.length := by omega
      have : bs[k] = b := by rw [List.getElem?_eq_getElem hk'] at eb; exact Option.some.inj eb
      rw [List.take_succ_eq_append_getElem hk', List.map_append, this]; rfl
  · rintro acc h' hD ⟨le, rfl⟩
    have hk : bs.take xs.length = bs := List.take_of_length_le (by omega)
    rw [hk] at hD
    refine ⟨wkL_end (le _ _ eA), Is.anil ⟨.bl (bs.all id), h', ?_, p h' le⟩⟩
    show opAll (.ref h1.length) h' = _
    unfold opAll
    simp only [hD, boolsOf_map]
theorem atI_zero {α : Type} {x : α} {xs : List α} : L2.atI (x :: xs) 0 = some x := by
  unfold L2.atI L2.ixN
  rw [if_pos (by omega), if_pos (by simp)]
  rfl
def areB : List (List Str) → Bool
  | (x :: _) :: rest => decide (x = "places") && rest.all lineB
  | _ => false
theorem areB_c {x : Str} {r : List Str} {rest : List (List Str)} : areB ((x :: r) :: rest) = (decide (x = "places") && rest.all lineB) := rfl
theorem are_is {ls : List (List Str)} {A : Nat} {h : SH} {P : SV → SH → Prop} (x : Lns h A ls) (ok : ∀ r ∈ ls, Rok r ∧ r ≠ []) (few : ls.length ≤ 1000002) (p : ∀ h', Le h h' → P (.bl (areB ls)) h') : Is (mFn 1 2 areM [.ref A] h) P := by
  refine Is.fn rfl ?_
  unfold areM
  obtain ⟨us, e1, lr⟩ := x.ex
  have hu := lr.1
  have eo : opTru (.ref A) h = .ok (!(us.map SV.ref).isEmpty) h := by unfold opTru; simp only [e1]
  refine Ist.seq (Ist.ite (Is.bor (Is.bnot (Is.tru (Is.var (v := .ref A) rfl ?_)))))
  rw [eo]
  refine is_ok ?_
  cases ls with
  | nil =>
    have : us = [] := List.length_eq_zero_iff.mp hu
    subst this
    rw [if_pos (by rfl), if_pos rfl]
    exact Ist.ret (Is.c (p _ (Le.refl _)))
  | cons r rest =>
    cases us with
    | nil => simp at hu
    | cons u us =>
      rw [if_neg (by simp)]
      obtain ⟨_, r', er', eu⟩ := lr.2 0 u rfl
      cases er'
      obtain ⟨rk, rn⟩ := ok r (by simp)
      cases r with
      | nil => exact absurd rfl rn
      | cons y r =>
        refine Is.bm (Is.o2 (Is.o2 (Is.o2 (Is.var (v := .ref A) rfl (Is.c (ix_is e1 (x := .ref u) atI_zero (Is.c (ix_is eu (x := .str y) atI_zero (Is.c (eqStr (neg := true) (rk y (by simp)).2 (by decide +kernel) ⟨_, rfl, ?_⟩))))))))))
        by_cases q : y = "places"
        · rw [if_neg (by simp [q])]
          refine Ist.nil (Ist.ret (allC_is (Is.cut (Is.var (v := .ref A) rfl (Is.pS (Is.c ⟨1, rfl, Is.pN ⟨A, _, rfl, e1, ?_⟩⟩))))))
          have ec : cutS ((u :: us).map SV.ref) (some (1 : Int)) none = us.map SV.ref := by
            rw [show (1 : Int) = ((1 : Nat) : Int) from rfl, cut_drop _ 1 (by simp)]; rfl
          rw [ec]
          have l1 := Le.push h (.lst (us.map SV.ref))
          refine ⟨h.length, us.map SV.ref, rest.map lineB, rfl, new_at _ _, by simp at hu ⊢; omega, by simp at hu few ⊢; omega, fun k x h' l ex => ⟨_, rfl, ?_⟩, fun h' l => ?_⟩
          · rw [List.getElem?_map] at ex
            cases et : us[k]? with
            | none => rw [et] at ex; cases ex
            | some t =>
              rw [et] at ex; cases ex
              obtain ⟨_, r2, er2, e2⟩ := lr.2 (k + 1) t (by simpa using et)
              have er3 : rest[k]? = some r2 := by simpa using er2
              refine Is.call (Is.acons (Is.var (v := .ref t) (gx (n := 2) (by simp [wipeS]) (by decide)) (Is.anil ((line_is ((l1.trans l) _ _ e2) (ok r2 (by have := List.mem_of_getElem? er3; simp [this])).1).mono fun v h2 ⟨ev, eh⟩ => ⟨⟨lineB r2, by rw [List.getElem?_map, er3]; rfl, ev⟩, by rw [eh]; exact Le.refl _⟩))))
          · have := p h' (l1.trans l)
            rw [areB_c, decide_eq_true q, Bool.true_and] at this
            have e : (rest.map lineB).all id = rest.all lineB := by rw [List.all_map]; rfl
            rw [e]; exact this
        · rw [if_pos (by simp [q])]
          have := p h (Le.refl _)
          rw [areB_c, decide_eq_false q] at this
          exact Ist.ret (Is.c this)
end Fw
namespace Fw
open PySem PySem.Spec L2
/-! ### the program of the lines -/
structure Bd (m : Nm) : Prop where
  l0 : 0 ≤ m.l
  l8 : m.l ≤ 8
  c0 : -4 ≤ m.c
  c4 : m.c ≤ 4
theorem Nm.Ok.bd {ps : List Str} {m : Nm} (x : Nm.Ok ps m) : Bd m := ⟨x.l0, x.l8, x.c0, x.c4⟩
theorem text_num {l : Int} (h0 : 0 ≤ l) (h8 : l ≤ 8) : PySem.intText? (numT l) = some l ∧ (numT l).length ≤ 640 := by
  rcases nine_of h0 h8 with rfl | rfl | rfl | rfl | rfl | rfl | rfl | rfl | rfl <;> decide +kernel
theorem text_plus {a : Int} (h0 : -4 ≤ a) (h8 : a ≤ 4) : PySem.intText? (plusText a) = some a ∧ (plusText a).length ≤ 640 := by
  rcases fours_of h0 h8 with rfl | rfl | rfl | rfl | rfl | rfl | rfl | rfl | rfl <;> decide +kernel
theorem intX_is {z : Str} {i : Int} {h : SH} {P : SV → SH → Prop} (e : PySem.intText? z = some i ∧ z.length ≤ 640) (p : P (.int i) h) : ∃ v h3, un1 opIntX [.str z] h = some (v, h3) ∧ P v h3 :=
  ⟨_, _, by show opIntX (.str z) h = _; unfold opIntX; simp only [e.1, if_pos e.2], p⟩
theorem g5_is {i j k l n t : Nat} {a b c d f : SV} {s : SS} {h : SH} (e : h[t]? = some (.lst [a, b, c, d, f])) : gTupM 5 (gsCons (gVar i) (gsCons (gVar j) (gsCons (gVar k) (gsCons (gVar l) (gsCons (gVar n) gsNil))))) (.ref t) s h = some (((((s.set i (some a)).set j (some b)).set k (some c)).set l (some d)).set n (some f)) := by
  unfold gTupM
  simp only [e]
  rfl
def moveTup : EM := (mOA opTup (aCons (mVar 3) (aCons (mOA (un1 opIntX) (aCons (mVar 4) aNil)) (aCons (mOA (un1 opIntX) (aCons (mVar 5) aNil)) (aCons (mVar 6) aNil)))))
def movesOfM : EM := (mLc (mWalk (mCut (mVar 0) (pSome (mC (.int 1))) pNone)) (gTupM 5 (gsCons (gVar 2) (gsCons (gVar 3) (gsCons (gVar 4) (gsCons (gVar 5) (gsCons (gVar 6) gsNil)))))) bYes moveTup [2, 3, 4, 5, 6])
theorem movesOf_is {ms : List Nm} {r0 : List Str} {A : Nat} {ss : SS} {h : SH} {P : SV → SH → Prop} (hl : ss.length = 7) (s0 : ss[0]? = some (some (.ref A))) (x : Lns h A (r0 :: ms.map mvT)) (bd : ∀ m ∈ ms, Bd m) (few : ms.length ≤ 1000002)
    (p : ∀ h' D, Le h h' → Mvn h' D ms → P (.ref D) h') : Is (movesOfM ss h) P := by
  unfold movesOfM
  obtain ⟨us, e1, lr⟩ := x.ex
  have hu := lr.1
  simp only [List.length_cons, List.length_map] at hu
  cases us with
  | nil => simp at hu
  | cons u us =>
    refine Is.lc (Is.walkL (Is.cut (Is.var s0 (Is.pS (Is.c ⟨1, rfl, Is.pN ⟨A, _, rfl, e1, ?_⟩⟩)))))
    have ec : cutS ((u :: us).map SV.ref) (some (1 : Int)) none = us.map SV.ref := by
      rw [show (1 : Int) = ((1 : Nat) : Int) from rfl, cut_drop _ 1 (by simp)]; rfl
    rw [ec]
    have l1 := Le.push h (.lst (us.map SV.ref))
    have n1 := new_at h (.lst (us.map SV.ref))
    generalize h.length = r at n1 ⊢
    generalize h ++ [SO.lst (us.map SV.ref)] = h1 at l1 n1 ⊢
    have hu' : us.length = ms.length := by simpa using hu
    refine ⟨r, _, rfl, n1, us.length, fun k acc h' => Le h1 h' ∧ ∃ ts : List Nat, acc = ts.map SV.ref ∧ ts.length = k ∧ ∀ (i t : Nat), ts[i]? = some t → t ≠ h1.length ∧ ∃ m, ms[i]? = some m ∧ h'[t]? = some (Nm.so m), by unfold many; omega, ⟨Le.push _ _, [], rfl, rfl, fun i t e => by simp at e⟩, ?_, ?_⟩
    · rintro k acc h' hk hD ⟨le, ts, ea, ht, zz⟩
      have ek : us[k]? = some us[k] := List.getElem?_eq_getElem hk
      obtain ⟨_, r2, er2, e2⟩ := lr.2 (k + 1) us[k] (by simpa using ek)
      have hkm : k < ms.length := by omega
      have em : ms[k]? = some ms[k] := List.getElem?_eq_getElem hkm
      have er3 : r2 = mvT ms[k] := by
        have : (ms.map mvT)[k]? = some r2 := by simpa using er2
        rw [List.getElem?_map, em] at this
        exact (Option.some.inj this).symm
      subst er3
      have b := bd _ (List.getElem_mem hkm)
      generalize ms[k] = m at em e2 b
      have e2' := (l1.trans le) _ _ e2
      refine ⟨_, _, _, wkL_at (le _ _ n1) (by rw [List.getElem?_map, ek]; rfl), g5_is e2', ?_⟩
      have wl : (wipeS ss [2, 3, 4, 5, 6]).length = 7 := by simp [wipeS, hl]
      generalize wipeS ss [2, 3, 4, 5, 6] = s at wl ⊢
      have q3 : (((((s.set 2 (some (SV.str "move"))).set 3 (some (.str m.p))).set 4 (some (.str (numT m.l)))).set 5 (some (.str (plusText m.c)))).set 6 (some (.str m.o)))[3]? = some (some (.str m.p)) := gs (gs (gs (gx (n := 7) (by simp [wl]) (by decide)) (by decide)) (by decide)) (by decide)
      have q4 : (((((s.set 2 (some (SV.str "move"))).set 3 (some (.str m.p))).set 4 (some (.str (numT m.l)))).set 5 (some (.str (plusText m.c)))).set 6 (some (.str m.o)))[4]? = some (some (.str (numT m.l))) := gs (gs (gx (n := 7) (by simp [wl]) (by decide)) (by decide)) (by decide)
      have q5 : (((((s.set 2 (some (SV.str "move"))).set 3 (some (.str m.p))).set 4 (some (.str (numT m.l)))).set 5 (some (.str (plusText m.c)))).set 6 (some (.str m.o)))[5]? = some (some (.str (plusText m.c))) := gs (gx (n := 7) (by simp [wl]) (by decide)) (by decide)
      have q6 : (((((s.set 2 (some (SV.str "move"))).set 3 (some (.str m.p))).set 4 (some (.str (numT m.l)))).set 5 (some (.str (plusText m.c)))).set 6 (some (.str m.o)))[6]? = some (some (.str m.o)) := gx (n := 7) (by simp [wl]) (by decide)
      generalize ((((s.set 2 (some (SV.str "move"))).set 3 (some (.str m.p))).set 4 (some (.str (numT m.l)))).set 5 (some (.str (plusText m.c)))).set 6 (some (.str m.o)) = s' at q3 q4 q5 q6
      show Is (Res.ok true h') _
      refine is_ok ?_
      rw [if_pos rfl]
      have hlt := lt_of hD
      unfold moveTup
      refine Is.oa (Is.acons (Is.var q3 (Is.acons (Is.oa (Is.acons (Is.var q4 (Is.anil (intX_is (text_num b.l0 b.l8) (Is.acons (Is.oa (Is.acons (Is.var q5 (Is.anil (intX_is (text_plus b.c0 b.c4) (Is.acons (Is.var q6 (Is.anil (tup_is (small_big (by simp)) ?_))))))))))))))))))
      have l2 := Le.push h' (.tup [.str m.p, .int m.l, .int m.c, .str m.o])
      have n2 := new_at h' (.tup [.str m.p, .int m.l, .int m.c, .str m.o])
      refine ⟨l2 _ _ hD, ?_, fun i o e => ?_, ts ++ [h'.length], by rw [ea]; simp, by simp [ht], fun i t e => ?_⟩
      · rw [ea, List.length_map, ht]; unfold big; omega
      · have : h1.length ≠ i := by have := lt_of e; omega
        rw [set_ne this]; exact l2 _ _ (le _ _ e)
      · by_cases c : i < ts.length
        · rw [List.getElem?_append_left c] at e
          obtain ⟨n, m', a1, a2⟩ := zz i t e
          exact ⟨n, m', a1, by rw [set_ne n.symm]; exact l2 _ _ a2⟩
        · have hi : i = ts.length := by have := (List.getElem?_eq_some_iff.mp e).1; simp at this; omega
          subst hi
          rw [List.getElem?_append_right (Nat.le_refl _)] at e
          simp at e
          subst e
          exact ⟨by omega, m, by rw [ht]; exact em, by rw [set_ne (by omega)]; exact n2⟩
    · rintro acc h' hD ⟨le, ts, ea, ht, zz⟩
      have w := wkL_end (le _ _ n1)
      rw [List.length_map] at w
      exact ⟨w, p _ _ (l1.trans le) ⟨ts, by rw [hD, ea], by omega, fun i t e => (zz i t e).2⟩⟩
theorem Ist.thru {N B C : SS → SH → Prop} {R : SV → SH → Prop} {mb : SM} {ss : SS} {h : SH} (x : Ist (mb ss h) N R B C) : Ist (mThru mb ss h) N R B C := by
  unfold mThru
  cases e : mb ss h with
  | nx s h => rw [e] at x; exact x
  | rt v h => rw [e] at x; exact x
  | bk s h => rw [e] at x; exact x
  | ct s h => rw [e] at x; exact x
  | stuck => rw [e] at x; exact x
  | ex c xs s h => rw [e] at x; exact x.elim
end Fw
namespace Fw
open PySem PySem.Spec L2
theorem rows_ok {ps : List Str} {ms : List Nm} (nm : ∀ p ∈ ps, NmOk p) (mok : ∀ m ∈ ms, Nm.Ok ps m) : ∀ r ∈ rowsOf ps ms, Rok r ∧ r ≠ [] := by
  intro r hr
  refine ⟨fun y hy => ⟨?_, ?_⟩, (toks_rows nm mok r hr).1⟩
  · rw [TL.len_tl]
    exact Nat.le_trans ((toks_rows nm mok r hr).2 y hy).few (by decide)
  · unfold rowsOf at hr
    rcases List.mem_cons.mp hr with rfl | hr
    · rcases List.mem_cons.mp hy with rfl | hy
      · decide +kernel
      · exact (nm y hy).ok
    · obtain ⟨m, hm, rfl⟩ := List.mem_map.mp hr
      have mo := mok m hm
      unfold mvT at hy
      simp only [List.mem_cons, List.not_mem_nil, or_false] at hy
      rcases hy with rfl | rfl | rfl | rfl | rfl
      · decide +kernel
      · exact (nm _ mo.hp).ok
      · rcases nine_of mo.l0 mo.l8 with e | e | e | e | e | e | e | e | e <;> rw [e] <;> decide +kernel
      · rcases fours_of mo.c0 mo.c4 with e | e | e | e | e | e | e | e | e <;> rw [e] <;> decide +kernel
      · exact (nm _ mo.ho).ok
theorem least_num {l : Int} (h0 : 0 ≤ l) (h8 : l ≤ 8) : leastB (numT l) = true := by
  rcases nine_of h0 h8 with rfl | rfl | rfl | rfl | rfl | rfl | rfl | rfl | rfl <;> decide +kernel
theorem change_plus {a : Int} (h0 : -4 ≤ a) (h8 : a ≤ 4) : changeB (plusText a) = true := by
  rcases fours_of h0 h8 with rfl | rfl | rfl | rfl | rfl | rfl | rfl | rfl | rfl <;> decide +kernel
theorem line_mv {m : Nm} (b : Bd m) : lineB (mvT m) = true := by
  unfold mvT
  rw [line5, decide_eq_true rfl, least_num b.l0 b.l8, change_plus b.c0 b.c4]; rfl
theorem are_rows {ps : List Str} {ms : List Nm} (bd : ∀ m ∈ ms, Bd m) : areB (rowsOf ps ms) = true := by
  unfold rowsOf
  rw [areB_c, decide_eq_true rfl, Bool.true_and, List.all_map]
  exact List.all_eq_true.mpr fun m hm => line_mv (bd m hm)
theorem len_rows {ps : List Str} {ms : List Nm} : (rowsOf ps ms).length = ms.length + 1 := by unfold rowsOf; simp
section
variable {rL rE eT : Nat} {iL iT iS iI iB iP : Tag → Option Bool} {xA xW xT xC xP xM xK : List (Option Nat)} {cW c : Nat} {h : SH} {P : SV → SH → Prop}
def progOfM (rL rE : Nat) (iL iT iS iI iB : Tag → Option Bool) (xA xW xT xC xP xM xK : List (Option Nat)) (cW c : Nat) : SM := (mSeq (mSet 1 movesOfM) (mRet (mMake c (mFn 3 3 (programM rL rE iL iT iS iI iB xA xW xT xC xP xM xK cW)) (aCons (mCut (mO2 opIx (mVar 0) (mC (.int 0))) (pSome (mC (.int 1))) pNone) (aCons (mVar 1) aNil)))))
def readM (rL rE eT : Nat) (iL iT iS iI iB : Tag → Option Bool) (xA xW xT xC xP xM xK : List (Option Nat)) (cW c : Nat) : SM := (mSeq (mIfS (bNot (mB (mO1 (opIsi iS) (mVar 0)))) (mRaise eT 1 (aCons (mVar 0) aNil)) mNil) (mSeq (mSet 1 (mCall (mFn 1 5 linesM) (aCons (mVar 0) aNil))) (mSeq (mIfS (bNot (mTru (mCall (mFn 1 2 areM) (aCons (mVar 1) aNil)))) (mRaise eT 1 (aCons (mVar 0) aNil)) mNil) (mThru (mRet (mCall (mFn 1 7 (progOfM rL rE iL iT iS iI iB xA xW xT xC xP xM xK cW c)) (aCons (mVar 1) aNil)))))))
theorem progOf_is (es : Isis iL iT iS iI iB) (xs : Ixs xA xW xT xC xP xM xK cW c) {A : Nat} {ps : List Str} {ms : List Nm} (x : Lns h A (rowsOf ps ms)) (ok : PsOk ps) (nm : ∀ p ∈ ps, NmOk p) (mok : ∀ m ∈ ms, Nm.Ok ps m) (few : ms.length ≤ 10)
    (p : ∀ h' a lo, Le h h' → Prog h' c a lo ps ms → P (.ref a) h') : Is (mFn 1 7 (progOfM rL rE iL iT iS iI iB xA xW xT xC xP xM xK cW c) [.ref A] h) P := by
  refine Is.fn rfl ?_
  unfold progOfM
  refine Ist.seq (Ist.set (movesOf_is rfl rfl x (fun m hm => (mok m hm).bd) (by omega) fun h1 D l1 mv => ?_))
  obtain ⟨us, e1, lr⟩ := (x.le l1).ex
  have hu := lr.1
  rw [len_rows] at hu
  cases us with
  | nil => simp at hu
  | cons u us =>
    obtain ⟨_, r, er, eu⟩ := lr.2 0 u rfl
    cases er
    refine Ist.ret (make_is es xs (Is.acons (Is.cut (Is.o2 (Is.var (v := .ref A) rfl (Is.c (ix_is e1 (x := .ref u) atI_zero (Is.pS (Is.c ⟨1, rfl, Is.pN ⟨u, _, rfl, eu, ?_⟩⟩)))))))))
    have ec : cutS ((("places" : Str) :: ps).map SV.str) (some (1 : Int)) none = ps.map SV.str := by
      rw [show (1 : Int) = ((1 : Nat) : Int) from rfl, cut_drop _ 1 (by simp)]; rfl
    rw [ec]
    have l2 := Le.push h1 (.lst (ps.map SV.str))
    exact Is.acons (Is.var (v := .ref D) rfl (Is.anil ⟨h1.length, D, ps, ms, rfl, l2, ⟨new_at _ _⟩, mv.le l2, ok, nm, mok, few, fun h3 a l3 pr => p _ _ _ ((l1.trans l2).trans l3) pr⟩))
theorem read_is (es : Isis iL iT iS iI iB) (xs : Ixs xA xW xT xC xP xM xK cW c) {z : Str} {ps : List Str} {ms : List Nm} (hz : z.length ≤ 1000000) (e : linesT z = rowsOf ps ms) (ok : PsOk ps) (nm : ∀ p ∈ ps, NmOk p) (mok : ∀ m ∈ ms, Nm.Ok ps m) (few : ms.length ≤ 10)
    (p : ∀ h' a lo, Le h h' → Prog h' c a lo ps ms → P (.ref a) h') : Is (mFn 1 2 (readM rL rE eT iL iT iS iI iB xA xW xT xC xP xM xK cW c) [.str z] h) P := by
  refine Is.fn rfl ?_
  unfold readM
  refine Ist.seq (Ist.ite (Is.bnot (Is.bm (Is.o1 (Is.var (v := .str z) rfl (isi_t (t := .str) (b := true) rfl es.S ⟨true, rfl, ?_⟩))))))
  rw [if_neg (by decide)]
  refine Ist.nil (Ist.seq (Ist.set (Is.call (Is.acons (Is.var (v := .str z) rfl (Is.anil (lines_is hz fun h1 D l1 x => ?_)))))))
  rw [e] at x
  refine Ist.seq (Ist.ite (Is.bnot (Is.tru (Is.call (Is.acons (Is.var (v := .ref D) rfl (Is.anil (are_is x (rows_ok nm mok) (by rw [len_rows]; omega) fun h2 l2 => ?_))))))))
  rw [are_rows fun m hm => (mok m hm).bd]
  refine tru_is ?_
  rw [if_neg (by decide)]
  exact Ist.nil (Ist.thru (Ist.ret (Is.call (Is.acons (Is.var (v := .ref D) rfl (Is.anil (progOf_is es xs (x.le l2) ok nm mok few fun h3 a lo l3 pr => p _ _ _ ((l1.trans l2).trans l3) pr)))))))
end
end Fw
namespace Fw
open PySem PySem.Spec L2
/-! ### the lines built, and put together -/
theorem str_num {l : Int} (h0 : 0 ≤ l) (h8 : l ≤ 8) {h : SH} {P : SV → SH → Prop} (p : P (.str (numT l)) h) : ∃ v h3, un1 opStr [.int l] h = some (v, h3) ∧ P v h3 :=
  ⟨_, _, by
    show opStr (.int l) h = _
    unfold opStr
    have : l.natAbs.log2 < 1920 := by rcases nine_of h0 h8 with rfl | rfl | rfl | rfl | rfl | rfl | rfl | rfl | rfl <;> decide
    exact if_pos this, p⟩
def lineE (X : EM) : EM := (mOA opLst (aCons (mC (.str "move")) (aCons (mVar 2) (aCons (mOA (un1 opStr) (aCons (mVar 3) aNil)) (aCons X (aCons (mVar 5) aNil))))))
def buildM (e X : EM) : SM := (mFor (mWalk e) (gTupM 4 (gsCons (gVar 2) (gsCons (gVar 3) (gsCons (gVar 4) (gsCons (gVar 5) gsNil))))) (mDrop (mBm opAppend (mVar 1) (aCons (lineE X) aNil))))
theorem build_is {n L R : Nat} {e X : EM} {ps : List Str} {ms : List Nm} {ss : SS} {h : SH} {x0 : Option SV} (hn : 6 ≤ n) (hl : ss.length = n) (s0 : ss[0]? = some x0) (s1 : ss[1]? = some (some (.ref L)))
    (eL : h[L]? = some (.lst [.ref R])) (nR : R ≠ L) (eR : h[R]? = some (.lst ((("places" : Str) :: ps).map SV.str))) (bd : ∀ m ∈ ms, Bd m) (few : ms.length ≤ 10)
    (he : Is (e ss h) fun v h1 => ∃ M, v = .ref M ∧ M ≠ L ∧ Le h h1 ∧ Mvn h1 M ms)
    (hX : ∀ (s : SS) (h' : SH) (c : Int) (P : SV → SH → Prop), s.length = n → s[4]? = some (some (.int c)) → -4 ≤ c → c ≤ 4 → P (.str (plusText c)) h' → Is (X s h') P)
    {N B C : SS → SH → Prop} {Rr : SV → SH → Prop} (p : ∀ s' h', s'.length = n → s'[0]? = some x0 → s'[1]? = some (some (.ref L)) → Kp L h h' → h.length ≤ h'.length → Lns h' L (rowsOf ps ms) → N s' h') : Ist (buildM e X ss h) N Rr B C := by
  unfold buildM
  refine Ist.for (Is.walkL (he.mono fun v h1 ⟨M, ev, nM, l1, mv⟩ => ?_))
  subst ev
  obtain ⟨ts, eM, hts, z⟩ := mv.ex
  have eL1 := l1 _ _ eL
  refine ⟨M, _, rfl, eM, ms.length, fun k s h' => s.length = n ∧ s[0]? = some x0 ∧ s[1]? = some (some (.ref L)) ∧ Kp L h1 h' ∧ h1.length ≤ h'.length ∧ ∃ us : List Nat, h'[L]? = some (.lst (us.map SV.ref)) ∧ us.length = k + 1 ∧ Lr h' L us (("places" :: ps) :: (ms.take k).map mvT), by unfold many; omega, ⟨hl, s0, s1, fun _ _ _ e => e, Nat.le_refl _, [R], eL1, rfl, Lr.app Lr.nil nR (l1 _ _ eR)⟩, ?_, ?_⟩
  · rintro k s h' hk ⟨q, q0, q1, kp, hlen, us, eU, hu, lr⟩
    have hkt : k < ts.length := by omega
    have ek : ts[k]? = some ts[k] := List.getElem?_eq_getElem hkt
    obtain ⟨m, em, et⟩ := z k _ ek
    generalize ts[k] = t at ek et
    have nt : t ≠ L := fun w => by rw [w, eL1] at et; cases et
    have et' := kp _ _ nt et
    have b := bd m (List.mem_of_getElem? em)
    refine ⟨_, _, _, wkL_at (kp _ _ nM eM) (by rw [List.getElem?_map, ek]; rfl), g4_is et', ?_⟩
    have q2' : ((((s.set 2 (some (SV.str m.p))).set 3 (some (.int m.l))).set 4 (some (.int m.c))).set 5 (some (.str m.o)))[2]? = some (some (.str m.p)) := gs (gs (gs (gx (n := n) (by simp [q]) (by omega)) (by decide)) (by decide)) (by decide)
    have q3' : ((((s.set 2 (some (SV.str m.p))).set 3 (some (.int m.l))).set 4 (some (.int m.c))).set 5 (some (.str m.o)))[3]? = some (some (.int m.l)) := gs (gs (gx (n := n) (by simp [q]) (by omega)) (by decide)) (by decide)
    have q4' : ((((s.set 2 (some (SV.str m.p))).set 3 (some (.int m.l))).set 4 (some (.int m.c))).set 5 (some (.str m.o)))[4]? = some (some (.int m.c)) := gs (gx (n := n) (by simp [q]) (by omega)) (by decide)
    have q5' : ((((s.set 2 (some (SV.str m.p))).set 3 (some (.int m.l))).set 4 (some (.int m.c))).set 5 (some (.str m.o)))[5]? = some (some (.str m.o)) := gx (n := n) (by simp [q]) (by omega)
    have q1' : ((((s.set 2 (some (SV.str m.p))).set 3 (some (.int m.l))).set 4 (some (.int m.c))).set 5 (some (.str m.o)))[1]? = some (some (.ref L)) := gs (gs (gs (gs q1 (by decide)) (by decide)) (by decide)) (by decide)
    have q0' : ((((s.set 2 (some (SV.str m.p))).set 3 (some (.int m.l))).set 4 (some (.int m.c))).set 5 (some (.str m.o)))[0]? = some x0 := gs (gs (gs (gs q0 (by decide)) (by decide)) (by decide)) (by decide)
    have ql : ((((s.set 2 (some (SV.str m.p))).set 3 (some (.int m.l))).set 4 (some (.int m.c))).set 5 (some (.str m.o))).length = n := by simp [q]
    generalize (((s.set 2 (some (SV.str m.p))).set 3 (some (.int m.l))).set 4 (some (.int m.c))).set 5 (some (.str m.o)) = s' at q0' q1' q2' q3' q4' q5' ql ⊢
    refine Ist.drop (Is.bmL (Is.var q1' ⟨lstB eU, ?_⟩))
    unfold lineE
    refine Is.acons (Is.oa (Is.acons (Is.c (Is.acons (Is.var q2' (Is.acons (Is.oa (Is.acons (Is.var q3' (Is.anil (str_num b.l0 b.l8 (Is.acons (hX _ _ _ _ ql q4' b.c0 b.c4 (Is.acons (Is.var q5' (Is.anil (lst_is (small_big (by simp)) ?_)))))))))))))))))
    have l2 := Le.push h' (.lst ((mvT m).map SV.str))
    have n2 := new_at h' (.lst ((mvT m).map SV.str))
    have eU2 := l2 _ _ eU
    have hL := lt_of eU
    refine Is.anil (app_is eU2 (small_lt (by simp; omega)) ⟨ql, q0', q1', fun i o ni ei => ?_, by simp; omega, us ++ [h'.length], ?_, by simp [hu], ?_⟩)
    · rw [set_ne (fun w => ni w.symm)]
      exact l2 _ _ (kp i o ni ei)
    · rw [List.map_append]; exact set_at eU2
    · rw [take_app em, List.map_append]
      exact ((lr.le l2).app (by omega) n2).set
  · rintro s h' ⟨q, q0, q1, kp, hlen, us, eU, hu, lr⟩
    have w := wkL_end (kp _ _ nM eM)
    rw [List.length_map, hts] at w
    rw [List.take_length] at lr
    exact ⟨w, p s h' q q0 q1 (fun i o ni ei => kp i o ni (l1 _ _ ei)) (Nat.le_trans l1.len hlen) ⟨us, eU, lr⟩⟩
theorem sum_le {b : Nat} : ∀ {ys : List Nat}, (∀ y ∈ ys, y ≤ b) → ys.sum ≤ ys.length * b
  | [], _ => by simp
  | y :: ys, h => by
    have h1 := h y (by simp)
    have ih := sum_le (ys := ys) fun z hz => h z (List.mem_cons_of_mem _ hz)
    rw [List.sum_cons, List.length_cons, Nat.add_mul]
    omega
theorem join_is {z : Str} {A b : Nat} {ys : List Str} {h : SH} {P : SV → SH → Prop} (e : h[A]? = some (.lst (ys.map SV.str))) (hb : ∀ y ∈ ys, y.length ≤ b) (hz : z.length ≤ 10) (hl : ys.length ≤ 100) (hbb : b ≤ 10000) (p : P (.str (Txt.join z ys)) h) : ∃ w h3, opJoin z (.ref A) h = some (w, h3) ∧ P w h3 :=
  ⟨_, _, by
    unfold opJoin
    simp only [e, strsOf_map]
    have h1 := sum_le (ys := ys.map (·.length)) (b := b) fun y hy => by
      obtain ⟨x, hx, rfl⟩ := List.mem_map.mp hy
      exact hb x hx
    rw [List.length_map] at h1
    have h2 := Nat.mul_le_mul hl hbb
    have h3 := Nat.mul_le_mul hl hz
    exact if_pos (by omega), p⟩
def joinAllM (i j : Nat) : EM := (mS1 opJoin (mC (.str "\n")) (mLc (mWalk (mVar i)) (gVar j) bYes (mS1 opJoin (mC (.str " ")) (mVar j)) [j]))
theorem joinAll_is {i j A : Nat} {ls : List (List Str)} {ss : SS} {h : SH} {P : SV → SH → Prop} (x : Lns h A ls) (tk : ∀ r ∈ ls, r.length ≤ 5 ∧ ∀ t ∈ r, Tok t) (few : ls.length ≤ 20) (si : ss[i]? = some (some (.ref A))) (hj : j < ss.length)
    (p : ∀ h', Le h h' → P (.str (Txt.join "\n" (ls.map rowT))) h') : Is (joinAllM i j ss h) P := by
  unfold joinAllM
  obtain ⟨us, e1, lr⟩ := x.ex
  have hu := lr.1
  refine Is.s1 (Is.c ⟨_, rfl, Is.lc (Is.walkL (Is.var si ⟨A, _, rfl, e1, us.length, fun k acc h' => Le h h' ∧ acc = ((ls.take k).map rowT).map SV.str, by unfold many; omega, ⟨Le.push _ _, rfl⟩, ?_, ?_⟩))⟩)
  · rintro k acc h' hk hD ⟨le, ea⟩
    have ek : us[k]? = some us[k] := List.getElem?_eq_getElem hk
    obtain ⟨_, r, er, et⟩ := lr.2 k _ ek
    have wj : ((wipeS ss [j]).set j (some (SV.ref us[k])))[j]? = some (some (.ref us[k])) := gx (n := ss.length) (by simp [wipeS]) hj
    refine ⟨_, _, _, wkL_at (le _ _ e1) (by rw [List.getElem?_map, ek]; rfl), rfl, ?_⟩
    generalize (wipeS ss [j]).set j (some (SV.ref us[k])) = s at wj ⊢
    show Is (Res.ok true h') _
    refine is_ok ?_
    rw [if_pos rfl]
    have hr := tk r (List.mem_of_getElem? er)
    refine Is.s1 (Is.c ⟨_, rfl, Is.var wj (join_is (b := 8) (le _ _ et) (fun y hy => by rw [TL.len_tl]; exact (hr.2 y hy).few) (by decide +kernel) (by omega) (by decide) ⟨hD, ?_, fun i o e => ?_, ?_⟩)⟩)
    · rw [ea]; simp; unfold big; omega
    · have : h.length ≠ i := by have := lt_of e; omega
      rw [set_ne this]; exact le _ _ e
    · rw [take_app er, List.map_append, List.map_append, ea]; rfl
  · rintro acc h' hD ⟨le, ea⟩
    have w := wkL_end (le _ _ e1)
    rw [List.length_map] at w
    refine ⟨w, ?_⟩
    rw [hu, List.take_length] at ea
    rw [ea] at hD
    refine join_is (b := 45) hD (fun y hy => ?_) (by decide +kernel) (by simp; omega) (by decide) (p h' le)
    obtain ⟨r, hr, rfl⟩ := List.mem_map.mp hy
    rw [TL.len_tl]
    exact row_len (tk r hr).2 (tk r hr).1
end Fw
namespace Fw
open PySem PySem.Spec L2
theorem le_kp {h h1 h' : SH} {L : Nat} (l : Le h h1) (kp : Kp L h1 h') (hL : h.length ≤ L) : Le h h' := fun i o e => by
  have := lt_of e
  exact kp i o (by omega) (l _ _ e)
def plusE : EM := (mO2 opAdd (mIf (mB (mO2 opGe (mVar 4) (mC (.int 0)))) (mC (.str "+")) (mC (.str ""))) (mOA (un1 opStr) (aCons (mVar 4) aNil)))
theorem plusE_is {s : SS} {h : SH} {c : Int} {P : SV → SH → Prop} (e : s[4]? = some (some (.int c))) (h0 : -4 ≤ c) (h4 : c ≤ 4) (p : P (.str (plusText c)) h) : Is (plusE s h) P := by
  unfold plusE
  have nd : c.natAbs.log2 < 1920 := by rcases fours_of h0 h4 with rfl | rfl | rfl | rfl | rfl | rfl | rfl | rfl | rfl <;> decide
  have e1 : un1 opStr [.int c] h = some (.str (Str.ofString (toString c)), h) := by
    show opStr (.int c) h = _
    unfold opStr
    exact if_pos nd
  have fin : ∀ x : Str, x = (if decide (c ≥ 0) = true then ("+" : Str) else "") → x.length + (Str.ofString (toString c)).length ≤ big ∧ x ++ Str.ofString (toString c) = plusText c := fun x ex => by
    subst ex
    refine ⟨?_, plus_eq h0 h4⟩
    rcases fours_of h0 h4 with rfl | rfl | rfl | rfl | rfl | rfl | rfl | rfl | rfl <;> decide +kernel
  have add : ∀ x : Str, x = (if decide (c ≥ 0) = true then ("+" : Str) else "") → ∃ v h3, opAdd (.str x) (.str (Str.ofString (toString c))) h = some (v, h3) ∧ P v h3 := fun x ex => by
    obtain ⟨q1, q2⟩ := fin x ex
    refine ⟨_, _, ?_, p⟩
    rw [← q2]
    show (if x.length + (Str.ofString (toString c)).length ≤ big then _ else _) = _
    rw [if_pos q1]
  refine Is.o2 (Is.ifx (Is.bm (Is.o2 (Is.var e (Is.c ⟨_, _, rfl, _, rfl, ?_⟩)))))
  by_cases k : c ≥ 0
  · rw [if_pos (decide_eq_true k)]
    exact Is.c (Is.oa (Is.acons (Is.var e (Is.anil ⟨_, _, e1, add _ (by rw [if_pos (decide_eq_true k)])⟩))))
  · rw [if_neg (by simpa using k)]
    exact Is.c (Is.oa (Is.acons (Is.var e (Is.anil ⟨_, _, e1, add _ (by rw [if_neg (by simpa using k)])⟩))))
theorem plusO_is {s : SS} {h : SH} {c : Int} {P : SV → SH → Prop} (e : s[4]? = some (some (.int c))) (h0 : -4 ≤ c) (h4 : c ≤ 4) (p : P (.str (plusText c)) h) : Is (mO1 opPlus (mVar 4) s h) P :=
  Is.o1 (Is.var e ⟨_, _, by unfold opPlus; exact if_pos ⟨h0, h4⟩, p⟩)
def headE (e : EM) : EM := (mOA opLst (aCons (mO2 opAdd (mOA opLst (aCons (mC (.str "places")) aNil)) e) aNil))
theorem head_is {e : EM} {ps : List Str} {ss : SS} {h : SH} {P : SV → SH → Prop} (h4 : ps.length ≤ 5) (he : ∀ h1, Le h h1 → Is (e ss h1) fun v h2 => ∃ A, v = .ref A ∧ Le h1 h2 ∧ Pls h2 A ps)
    (p : ∀ h' L R, Le h h' → h.length ≤ L → R ≠ L → h'[L]? = some (.lst [.ref R]) → h'[R]? = some (.lst ((("places" : Str) :: ps).map SV.str)) → P (.ref L) h') : Is (headE e ss h) P := by
  unfold headE
  refine Is.oa (Is.acons (Is.o2 (Is.oa (Is.acons (Is.c (Is.anil (lst_is (small_big (by simp)) ((he _ (Le.push _ _)).mono fun v h2 ⟨A, ev, l2, pl⟩ => ?_))))))))
  subst ev
  have n1 := l2 _ _ (new_at h (.lst [.str "places"]))
  refine add_is n1 pl.at_ (small_big (by simp; omega)) (Is.anil (lst_is (small_big (by simp)) ?_))
  have l3 := Le.push h2 (.lst ([.str "places"] ++ ps.map SV.str))
  have l4 := Le.push (h2 ++ [.lst ([.str "places"] ++ ps.map SV.str)]) (.lst [.ref h2.length])
  have hh := (Le.push h (.lst [.str "places"])).len
  have h2l := l2.len
  refine p _ (List.length (h2 ++ [_])) h2.length ((((Le.push _ _).trans l2).trans l3).trans l4) ?_ ?_ (new_at _ _) ?_
  · simp at hh h2l ⊢; omega
  · simp
  · exact l4 _ _ (new_at h2 _)
def lawLinesM : SM := (mSeq (mSet 1 (headE (mO2 opIx (mVar 0) (mC (.int 0))))) (mSeq (buildM (mO2 opIx (mVar 0) (mC (.int 1))) plusE) (mRet (mVar 1))))
theorem lawLines_is {t lo : Nat} {ps : List Str} {ms : List Nm} {h : SH} {P : SV → SH → Prop} (pt : Parts0 h t lo ps ms) (p : ∀ h' L, Le h h' → Lns h' L (rowsOf ps ms) → P (.ref L) h') : Is (mFn 1 6 lawLinesM [.ref t] h) P := by
  refine Is.fn rfl ?_
  unfold lawLinesM
  obtain ⟨A, M, e, _, _, _, pl, mv⟩ := pt.ex
  have f4 := pt.ok.four
  refine Ist.seq (Ist.set (head_is (ps := ps) (by omega) (fun h1 l1 => Is.o2 (Is.var (v := .ref t) rfl (Is.c (ix_is (l1 _ _ e) (x := .ref A) rfl ⟨A, rfl, Le.refl _, pl.le l1⟩)))) fun h2 L R l2 hL nR eL eR => ?_))
  have hM := lt_of (mv.ex.choose_spec.1)
  refine Ist.seq (build_is (n := 6) (L := L) (R := R) (ms := ms) (by decide) rfl rfl rfl eL nR eR (fun m hm => (pt.mok m hm).bd) pt.few (Is.o2 (Is.var (v := .ref t) rfl (Is.c (ix_is (l2 _ _ e) (x := .ref M) rfl ⟨M, rfl, by omega, Le.refl _, mv.le l2⟩)))) (fun s h' c P _ e4 c0 c4 pp => plusE_is e4 c0 c4 pp) fun s' h3 _ _ s1 kp _ x => ?_)
  exact Ist.ret (Is.var s1 (p _ _ (le_kp l2 kp hL) x))
section
variable {iP : Tag → Option Bool} {xP xM : List (Option Nat)} {c eP : Nat} {h : SH} {P : SV → SH → Prop}
def textM (iP : Tag → Option Bool) (xP xM : List (Option Nat)) (c eP : Nat) : SM := (mSeq (mDrop (mCall (mFn 1 1 (checkProgM iP eP)) (aCons (mVar 0) aNil))) (mSeq (mSet 1 (headE (mMeth c (mFn 1 1 (placesM xP)) (mVar 0) aNil))) (mSeq (buildM (mMeth c (mFn 1 1 (movesM xM)) (mVar 0) aNil) (mO1 opPlus (mVar 4))) (mRet (joinAllM 1 6)))))
theorem row5 {ps : List Str} {ms : List Nm} (nm : ∀ p ∈ ps, NmOk p) (mok : ∀ m ∈ ms, Nm.Ok ps m) (h4 : ps.length ≤ 4) : ∀ r ∈ rowsOf ps ms, r.length ≤ 5 ∧ ∀ t ∈ r, Tok t := fun r hr => ⟨by
  unfold rowsOf at hr
  rcases List.mem_cons.mp hr with rfl | hr
  · simp; omega
  · obtain ⟨m, _, rfl⟩ := List.mem_map.mp hr
    exact Nat.le_refl 5, (toks_rows nm mok r hr).2⟩
theorem text_is (ip : iP (.ins c) = some true) (xp : xP[c]? = some (some 0)) (xm : xM[c]? = some (some 1)) {a lo : Nat} {ps : List Str} {ms : List Nm} (pr : Prog h c a lo ps ms) (ok : PsOk ps) (nm : ∀ p ∈ ps, NmOk p) (mok : ∀ m ∈ ms, Nm.Ok ps m) (few : ms.length ≤ 10)
    (p : ∀ h', Le h h' → P (.str (dueT ps ms)) h') : Is (mFn 1 7 (textM iP xP xM c eP) [.ref a] h) P := by
  refine Is.fn rfl ?_
  unfold textM
  have f4 := ok.four
  refine Ist.seq (Ist.drop (Is.call (Is.acons (Is.var (v := .ref a) rfl (Is.anil (checkProg_is ip pr ?_))))))
  refine Ist.seq (Ist.set (head_is (ps := ps) (by omega) (fun h1 l1 => meth_placesF xp (i := 0) (a := a) rfl (pr.le l1) fun h2 A l2 _ pl => ⟨A, rfl, l2, pl⟩) fun h2 L R l2 hL nR eL eR => ?_))
  refine Ist.seq (build_is (n := 7) (L := L) (R := R) (ms := ms) (by decide) rfl rfl rfl eL nR eR (fun m hm => (mok m hm).bd) few (meth_movesF xm (i := 0) (a := a) rfl (pr.le l2) fun h3 M l3 hM mv => ⟨M, rfl, by have := lt_of eL; omega, l3, mv⟩) (fun s h' c P _ e4 c0 c4 pp => plusO_is e4 c0 c4 pp) fun s' h3 hl s0 s1 kp _ x => ?_)
  exact Ist.ret (joinAll_is x (row5 nm mok f4) (by rw [len_rows]; omega) s1 (by omega) fun h4 l4 => p _ ((le_kp l2 kp hL).trans l4))
end
end Fw
namespace Fw
open PySem PySem.Spec L2
/-! ### lines with drawn blanks -/
def rnd (n : Int) : EM := mCall (mFn 2 4 randM) (aCons (mVar 0) (aCons (mC (.int n)) aNil))
def blanksV : List Str := ["", " ", "  ", "    "]
def blanksE : EM := (mOA opLst (aCons (mC (.str "")) (aCons (mC (.str " ")) (aCons (mC (.str "  ")) (aCons (mC (.str "    ")) aNil)))))
theorem blank_at {r : Int} (h0 : 0 ≤ r) (h4 : r < 4) : ∃ z, L2.atI (blanksV.map SV.str) r = some (.str z) ∧ Bk 0 z ∧ (1 ≤ r → Bk 1 z) ∧ z.length ≤ 4 := by
  have : r = 0 ∨ r = 1 ∨ r = 2 ∨ r = 3 := by omega
  rcases this with rfl | rfl | rfl | rfl
  · exact ⟨_, rfl, ⟨0, by decide, by decide, by decide +kernel⟩, fun h => absurd h (by decide), by decide +kernel⟩
  · exact ⟨_, rfl, ⟨1, by decide, by decide, by decide +kernel⟩, fun _ => ⟨1, by decide, by decide, by decide +kernel⟩, by decide +kernel⟩
  · exact ⟨_, rfl, ⟨2, by decide, by decide, by decide +kernel⟩, fun _ => ⟨2, by decide, by decide, by decide +kernel⟩, by decide +kernel⟩
  · exact ⟨_, rfl, ⟨4, by decide, by decide, by decide +kernel⟩, fun _ => ⟨4, by decide, by decide, by decide +kernel⟩, by decide +kernel⟩
section
variable {g Bl : Nat} {B : Int} {ss : SS} {h : SH} {P : SV → SH → Prop}
theorem rnd_is {n : Int} (G : GenOk h g B) (hB : B ≤ 1000000000) (h0 : 0 < n) (h1 : n ≤ 100) (s0 : ss[0]? = some (some (.ref g))) (p : ∀ r h', 0 ≤ r → r < n → Kp g h h' → h'.length = h.length → GenOk h' g (B + 4000) → P (.int r) h') : Is (rnd n ss h) P :=
  Is.call (Is.acons (Is.var s0 (Is.acons (Is.c (Is.anil (draw100 G hB h0 h1 p))))))
theorem blank_is {n : Int} (G : GenOk h g B) (hB : B ≤ 1000000000) (h0 : 0 < n) (h1 : n ≤ 4) (s0 : ss[0]? = some (some (.ref g))) (s3 : ss[3]? = some (some (.ref Bl))) (eB : h[Bl]? = some (.lst (blanksV.map SV.str))) (nB : Bl ≠ g)
    (p : ∀ z h', Bk 0 z → z.length ≤ 4 → Kp g h h' → h'.length = h.length → GenOk h' g (B + 4000) → P (.str z) h') : Is (mO2 opIx (mVar 3) (rnd n) ss h) P := by
  refine Is.o2 (Is.var s3 (rnd_is G hB h0 (by omega) s0 fun r h' r0 r1 kp hl G' => ?_))
  obtain ⟨z, ez, b0, _, lz⟩ := blank_at r0 (by omega)
  exact ix_is (kp _ _ nB eB) ez (p z h' b0 lz kp hl G')
theorem blank1_is (G : GenOk h g B) (hB : B ≤ 1000000000) (s0 : ss[0]? = some (some (.ref g))) (s3 : ss[3]? = some (some (.ref Bl))) (eB : h[Bl]? = some (.lst (blanksV.map SV.str))) (nB : Bl ≠ g)
    (p : ∀ z h', Bk 1 z → z.length ≤ 4 → Kp g h h' → h'.length = h.length → GenOk h' g (B + 4000) → P (.str z) h') : Is (mO2 opIx (mVar 3) (mO2 opAdd (mC (.int 1)) (rnd 3)) ss h) P := by
  refine Is.o2 (Is.var s3 (Is.o2 (Is.c (rnd_is G hB (by decide) (by decide) s0 fun r h' r0 r1 kp hl G' => ⟨.int (1 + r), h', rfl, ?_⟩))))
  obtain ⟨z, ez, _, b1, lz⟩ := blank_at (r := 1 + r) (by omega) (by omega)
  exact ix_is (kp _ _ nB eB) ez (p z h' (b1 (by omega)) lz kp hl G')
theorem adds_is {x y : Str} (hx : x.length + y.length ≤ 10000) (p : P (.str (x ++ y)) h) : ∃ v h3, opAdd (.str x) (.str y) h = some (v, h3) ∧ P v h3 :=
  ⟨_, _, by
    show (if x.length + y.length ≤ big then _ else _) = _
    rw [if_pos (by unfold big; omega)], p⟩
/-- one line -/
structure Sp (g A Bl F : Nat) (s : SS) : Prop where
  len : s.length = 7
  s0 : s[0]? = some (some (.ref g))
  s1 : s[1]? = some (some (.ref A))
  s3 : s[3]? = some (some (.ref Bl))
  s4 : s[4]? = some (some (.ref F))
theorem Sp.set {A F : Nat} {s : SS} (x : Sp g A Bl F s) {j : Nat} {v : Option SV} (h : j = 2 ∨ j = 5 ∨ j = 6) : Sp g A Bl F (s.set j v) := ⟨by simp [x.len], gs x.s0 (by omega), gs x.s1 (by omega), gs x.s3 (by omega), gs x.s4 (by omega)⟩
def tokLoop : SM := (mFor (mWalk (mCut (mVar 2) (pSome (mC (.int 1))) pNone)) (gVar 6) (mSet 5 (mO2 opAdd (mO2 opAdd (mVar 5) (mO2 opIx (mVar 3) (mO2 opAdd (mC (.int 1)) (rnd 3)))) (mVar 6))))
theorem tokLoop_is {A F u : Nat} {t0 : Str} {ts : List Str} {L : Str} (G : GenOk h g B) (hB : B ≤ 900000000) (sp : Sp g A Bl F ss) (s2 : ss[2]? = some (some (.ref u))) (s5 : ss[5]? = some (some (.str L))) (eu : h[u]? = some (.lst ((t0 :: ts).map SV.str))) (nu : u ≠ g)
    (eB : h[Bl]? = some (.lst (blanksV.map SV.str))) (nB : Bl ≠ g) (ln : Ln [t0] 12 L) (tk : ∀ t ∈ ts, Tok t) (few : ts.length ≤ 4) {N B' C : SS → SH → Prop} {R : SV → SH → Prop}
    (p : ∀ s' h' L', Sp g A Bl F s' → s'[5]? = some (some (.str L')) → Ln (t0 :: ts) 60 L' → Kp g h h' → h.length ≤ h'.length → GenOk h' g (B + 16000) → N s' h') : Ist (tokLoop ss h) N R B' C := by
  unfold tokLoop
  refine Ist.for (Is.walkL (Is.cut (Is.var s2 (Is.pS (Is.c ⟨1, rfl, Is.pN ⟨u, _, rfl, eu, ?_⟩⟩)))))
  have ec : cutS ((t0 :: ts).map SV.str) (some (1 : Int)) none = ts.map SV.str := by
    rw [show (1 : Int) = ((1 : Nat) : Int) from rfl, cut_drop _ 1 (by simp)]; rfl
  rw [ec]
  have l1 := Le.push h (.lst (ts.map SV.str))
  have n1 := new_at h (.lst (ts.map SV.str))
  have hx : (h ++ [SO.lst (ts.map SV.str)]).length = h.length + 1 := by simp
  have G1 := G.le l1 (Int.le_refl _)
  obtain ⟨gl, eg⟩ := G.at
  have hg := lt_of eg
  have eB1 := l1 _ _ eB
  generalize hC : h.length = Cc at n1 hx
  generalize h ++ [SO.lst (ts.map SV.str)] = h1 at l1 n1 hx G1 eB1 ⊢
  have nC : Cc ≠ g := by omega
  refine ⟨Cc, _, rfl, n1, ts.length, fun k s h' => Sp g A Bl F s ∧ Kp g h1 h' ∧ h'.length = h1.length ∧ GenOk h' g (B + 4000 * k) ∧ ∃ L', s[5]? = some (some (.str L')) ∧ Ln (t0 :: ts.take k) (12 + 12 * k) L', by unfold many; omega, ⟨sp, fun _ _ _ e => e, rfl, by simpa using G1, L, s5, ln⟩, ?_, ?_⟩
  · rintro k s h' hk ⟨sp, kp, hl, GG, L', q5, ln'⟩
    have ek : ts[k]? = some ts[k] := List.getElem?_eq_getElem hk
    have tkk := tk _ (List.getElem_mem hk)
    generalize ts[k] = t at ek tkk
    refine ⟨_, _, _, wkL_at (kp _ _ nC n1) (by rw [List.getElem?_map, ek]; rfl), rfl, ?_⟩
    have sp' := sp.set (j := 6) (v := some (.str t)) (by decide)
    have q5' := gs (i := 6) (x := some (SV.str t)) q5 (by decide)
    have q6' := gx (i := 6) (x := some (SV.str t)) sp.len (by decide)
    generalize s.set 6 (some (SV.str t)) = s1 at sp' q5' q6' ⊢
    have hL := ln'.few
    refine Ist.set (Is.o2 (Is.o2 (Is.var q5' (blank1_is GG (by omega) sp'.s0 sp'.s3 (kp _ _ nB eB1) nB fun z h2 bz lz kp2 hl2 G2 => adds_is ?_ (Is.var q6' (adds_is ?_ ⟨sp'.set (by decide), kp.trans kp2, by omega, ?_, _, gx sp'.len (by decide), ?_⟩))))))
    · rw [TL.len_tl L']; omega
    · rw [TL.len_tl, TL.tl_append, List.length_append, ← TL.len_tl z, TL.len_tl t]
      have := tkk.few
      omega
    · refine G2.le (Le.refl _) (by omega)
    · have := ln'.step bz tkk
      rw [take_app ek]
      exact this.up (by omega)
  · rintro s h' ⟨sp, kp, hl, GG, L', q5, ln'⟩
    have w := wkL_end (kp _ _ nC n1)
    rw [List.length_map] at w
    rw [List.take_length] at ln'
    refine ⟨w, p s h' L' sp q5 (ln'.up (by omega)) ((Le.kp l1).trans kp) (by omega) (GG.le (Le.refl _) (by omega))⟩
end
end Fw
namespace Fw
open PySem PySem.Spec L2
section
variable {g Bl : Nat} {B : Int} {ss : SS} {h : SH} {P : SV → SH → Prop}
theorem gen_ne {u : Nat} {r : List Str} (G : GenOk h g B) (e : h[u]? = some (.lst (r.map SV.str))) (hr : r ≠ []) : u ≠ g := fun w => by
  obtain ⟨a, b, c, eg, _⟩ := G
  rw [w, eg] at e
  cases r with
  | nil => exact hr rfl
  | cons y r => injection e with e; injection e with e; injection e with e1 e2; cases e1
theorem gen_ne2 {u : Nat} {us : List Nat} (G : GenOk h g B) (e : h[u]? = some (.lst (us.map SV.ref))) (hr : us ≠ []) : u ≠ g := fun w => by
  obtain ⟨a, b, c, eg, _⟩ := G
  rw [w, eg] at e
  cases us with
  | nil => exact hr rfl
  | cons y r => injection e with e; injection e with e; injection e with e1 e2; cases e1
def lineBody : SM := mSeq (mSet 5 (mO2 opAdd (mO2 opIx (mVar 3) (rnd 4)) (mO2 opIx (mVar 2) (mC (.int 0))))) (mSeq tokLoop (mSeq (mDrop (mBm opAppend (mVar 4) (aCons (mO2 opAdd (mVar 5) (mO2 opIx (mVar 3) (rnd 4))) aNil))) (mIfS (mB (mO2 (eqD false) (rnd 3) (mC (.int 0)))) (mDrop (mBm opAppend (mVar 4) (aCons (mO2 opIx (mVar 3) (rnd 3)) aNil))) mNil)))
theorem lineBody_is {A F u : Nat} {r R : List Str} {ls : List (List Str)} (G : GenOk h g B) (hB : B ≤ 800000000) (sp : Sp g A Bl F ss) (s2 : ss[2]? = some (some (.ref u))) (eu : h[u]? = some (.lst (r.map SV.str))) (nF : F ≠ g) (nuF : u ≠ F)
    (eB : h[Bl]? = some (.lst (blanksV.map SV.str))) (nB : Bl ≠ g) (nBF : Bl ≠ F) (rn : r ≠ []) (tk : ∀ t ∈ r, Tok t) (few : r.length ≤ 5) (eF : h[F]? = some (.lst (R.map SV.str))) (rw_ : Rws R ls) (hR : R.length ≤ 900) {N B' C : SS → SH → Prop} {Rr : SV → SH → Prop}
    (p : ∀ s' h' R', Sp g A Bl F s' → KpS (fun j => j = g ∨ j = F) h h' → h.length ≤ h'.length → GenOk h' g (B + 40000) → h'[F]? = some (.lst (R'.map SV.str)) → Rws R' (ls ++ [r]) → R'.length ≤ R.length + 2 → N s' h') : Ist (lineBody ss h) N Rr B' C := by
  unfold lineBody
  have nu := gen_ne G eu rn
  cases r with
  | nil => exact absurd rfl rn
  | cons t0 ts =>
    have tk0 := tk t0 (by simp)
    have tks : ∀ t ∈ ts, Tok t := fun t ht => tk t (by simp [ht])
    simp only [List.length_cons] at few
    refine Ist.seq (Ist.set (Is.o2 (blank_is G (by omega) (by decide) (by decide) sp.s0 sp.s3 eB nB fun z h1 bz lz kp1 hl1 G1 => Is.o2 (Is.var s2 (Is.c (ix_is (kp1 _ _ nu eu) (x := .str t0) atI_zero (adds_is ?_ ?_)))))))
    · rw [TL.len_tl t0]; have := tk0.few; omega
    have sp1 := sp.set (j := 5) (v := some (.str (z ++ t0))) (by decide)
    have s21 := gs (i := 5) (x := some (SV.str (z ++ t0))) s2 (by decide)
    have s51 := gx (i := 5) (x := some (SV.str (z ++ t0))) sp.len (by decide)
    generalize ss.set 5 (some (SV.str (z ++ t0))) = s1 at sp1 s21 s51 ⊢
    refine Ist.seq (tokLoop_is G1 (by omega) sp1 s21 s51 (kp1 _ _ nu eu) nu (kp1 _ _ nB eB) nB (Ln.start bz tk0) tks (by omega) fun s2' h2 L' sp2 s52 ln2 kp2 hl2 G2 => ?_)
    have kp12 := kp1.trans kp2
    have eF2 := kp12 _ _ nF eF
    have eB2 := kp12 _ _ nB eB
    refine Ist.seq (Ist.drop (Is.bmL (Is.var sp2.s4 ⟨lstB eF2, Is.acons (Is.o2 (Is.var s52 (blank_is G2 (by omega) (by decide) (by decide) sp2.s0 sp2.s3 eB2 nB fun z2 h3 bz2 lz2 kp3 hl3 G3 => adds_is ?_ ?_)))⟩)))
    · rw [TL.len_tl L']; have := ln2.few; omega
    have eF3 := kp3 _ _ nF eF2
    have rw1 := rw_.app (Rws.one ((ln2.fin bz2).up (by omega)) (by simp))
    refine Is.anil (app_is eF3 (small_lt (by simp; omega)) ?_)
    have kpS : KpS (fun j => j = g ∨ j = F) h (h3.set F (.lst (R.map SV.str ++ [.str (L' ++ z2)]))) := ((kp12.trans kp3).kpS (.inl rfl)).trans (KpS.set (.inr rfl))
    have eF4 : (h3.set F (.lst (R.map SV.str ++ [.str (L' ++ z2)])))[F]? = some (.lst ((R ++ [L' ++ z2]).map SV.str)) := by rw [List.map_append]; exact set_at eF3
    have G4 : GenOk (h3.set F (.lst (R.map SV.str ++ [.str (L' ++ z2)]))) g (B + 28000) := by
      obtain ⟨a, b, c, e, c1, c2, c3⟩ := G3
      exact ⟨a, b, c, by rw [set_ne nF]; exact e, c1, c2, by omega⟩
    have hl4 : (h3.set F (.lst (R.map SV.str ++ [.str (L' ++ z2)]))).length = h3.length := by simp
    have eB4 : (h3.set F (.lst (R.map SV.str ++ [.str (L' ++ z2)])))[Bl]? = some (.lst (blanksV.map SV.str)) := by rw [set_ne nBF.symm]; exact kp3 _ _ nB eB2
    generalize h3.set F (.lst (R.map SV.str ++ [.str (L' ++ z2)])) = h4 at kpS eF4 G4 hl4 eB4 ⊢
    refine Ist.ite (Is.bm (Is.o2 (rnd_is G4 (by omega) (by decide) (by decide) sp2.s0 fun q h5 q0 q1 kp5 hl5 G5 => Is.c (eqI ⟨_, rfl, ?_⟩))))
    have kpS5 := kpS.trans (kp5.kpS (S := fun j => j = g ∨ j = F) (.inl rfl))
    have eF5 := kp5 _ _ nF eF4
    by_cases c : q = 0
    · rw [if_pos (decide_eq_true c)]
      refine Ist.drop (Is.bmL (Is.var sp2.s4 ⟨lstB eF5, Is.acons (blank_is G5 (by omega) (by decide) (by decide) sp2.s0 sp2.s3 (kp5 _ _ nB eB4) nB fun z3 h6 bz3 lz3 kp6 hl6 G6 => ?_)⟩))
      have eF6 := kp6 _ _ nF eF5
      refine Is.anil (app_is eF6 (small_lt (by simp; omega)) (p _ _ (R ++ [L' ++ z2] ++ [z3]) sp2 ((kpS5.trans (kp6.kpS (.inl rfl))).trans (KpS.set (.inr rfl))) (by simp; omega) ?_ ?_ ?_ (by simp)))
      · obtain ⟨a, b, c, e, c1, c2, c3⟩ := G6
        exact ⟨a, b, c, by rw [set_ne nF]; exact e, c1, c2, by omega⟩
      · rw [List.map_append (l₁ := R ++ [L' ++ z2])]; exact set_at eF6
      · have := rw1.app (Rws.none ((Ln.blank bz3).up (by decide)))
        rwa [List.append_nil] at this
    · rw [if_neg (by simpa using c)]
      exact Ist.nil (p _ _ (R ++ [L' ++ z2]) sp2 kpS5 (by omega) (G5.le (Le.refl _) (by omega)) eF5 rw1 (by simp))
def repE (z : Str) : EM := mO2 opMul (mOA opLst (aCons (mC (.str z)) aNil)) (rnd 2)
theorem rep_is {z : Str} (G : GenOk h g B) (hB : B ≤ 900000000) (s0 : ss[0]? = some (some (.ref g))) (p : ∀ h' E k, Kp g h h' → h.length ≤ h'.length → GenOk h' g (B + 4000) → k ≤ 1 → h'[E]? = some (.lst ((List.replicate k z).map SV.str)) → E ≠ g → P (.ref E) h') : Is (repE z ss h) P := by
  unfold repE
  obtain ⟨gl, eg⟩ := G.at
  have hg := lt_of eg
  refine Is.o2 (Is.oa (Is.acons (Is.c (Is.anil (lst_is (small_big (by simp)) ?_)))))
  have l1 := Le.push h (.lst [.str z])
  have n1 := new_at h (.lst [.str z])
  have hx : (h ++ [SO.lst [.str z]]).length = h.length + 1 := by simp
  have nJ : h.length ≠ g := by omega
  generalize hJ : h.length = J at n1 hx nJ hg ⊢
  refine rnd_is (G.le l1 (Int.le_refl _)) (by omega) (by decide) (by decide) s0 fun r h2 r0 r1 kp hl G2 => ?_
  have n2 := kp _ _ nJ n1
  obtain ⟨k, rfl⟩ := Int.eq_ofNat_of_zero_le r0
  refine ⟨.ref h2.length, h2 ++ [.lst (repS k [.str z])], ?_, ?_⟩
  · unfold opMul
    simp only [n2]
    rw [if_pos ⟨by omega, by omega, by show 1 * ((k : Int)).toNat ≤ big; rw [Int.toNat_natCast]; exact small_big (by omega)⟩]
    rfl
  · have l3 := Le.push h2 (.lst (repS k [SV.str z]))
    refine p _ _ k (((Le.kp l1).trans kp).trans (Le.kp l3)) (by simp; omega) (G2.le l3 (Int.le_refl _)) (by omega) ?_ (by omega)
    rw [new_at, rep_one, List.map_replicate]
end
end Fw
namespace Fw
open PySem PySem.Spec L2
def spacedM : SM := (mSeq (mPar 3 4 (aCons blanksE (aCons (mOA opLst aNil) aNil))) (mSeq (mFor (mWalk (mVar 1)) (gVar 2) lineBody) (mRet (mS1 opJoin (mC (.str "\n")) (mO2 opAdd (mO2 opAdd (repE "") (mVar 4)) (repE " "))))))
theorem Rws.mem {R : List Str} {ls : List (List Str)} (x : Rws R ls) : ∀ y ∈ R, y.length ≤ 100 := fun y hy => by
  obtain ⟨ts, ln⟩ := x.ln y hy
  rw [TL.len_tl]; exact ln.few
theorem spaced_is {g A : Nat} {B : Int} {h : SH} {P : SV → SH → Prop} {ls : List (List Str)} (G : GenOk h g B) (hB : B ≤ 300000000) (x : Lns h A ls) (ne : ls ≠ []) (few : ls.length ≤ 12) (tk : ∀ r ∈ ls, r ≠ [] ∧ r.length ≤ 5 ∧ ∀ t ∈ r, Tok t)
    (p : ∀ h' z, Kp g h h' → h.length ≤ h'.length → GenOk h' g (B + 500000) → linesT z = ls → z.length ≤ 20000 → P (.str z) h') : Is (mFn 2 7 spacedM [.ref g, .ref A] h) P := by
  refine Is.fn rfl ?_
  unfold spacedM
  obtain ⟨gl, eg⟩ := G.at
  have hg := lt_of eg
  obtain ⟨us, eA, lr⟩ := x.ex
  have hA := lt_of eA
  have hu := lr.1
  have nA : A ≠ g := gen_ne2 G eA (fun w => ne (List.length_eq_zero_iff.mp (by rw [← hu, w]; rfl)))
  refine Ist.seq (Ist.par ?_)
  unfold blanksE
  refine Is.acons (Is.oa (Is.acons (Is.c (Is.acons (Is.c (Is.acons (Is.c (Is.acons (Is.c (Is.anil (lst_is (small_big (by simp)) (Is.acons (Is.oa (Is.anil (lst_is (small_big (by simp)) (Is.anil ⟨_, _, rfl, ?_⟩))))))))))))))))
  have l1 := Le.push h (.lst (blanksV.map SV.str))
  have n1 := new_at h (.lst (blanksV.map SV.str))
  have l2 := Le.push (h ++ [.lst (blanksV.map SV.str)]) (.lst [])
  have n2 := new_at (h ++ [.lst (blanksV.map SV.str)]) (.lst [])
  have hx : (h ++ [SO.lst (blanksV.map SV.str)]).length = h.length + 1 := by simp
  show Ist (mSeq _ _ (([SV.ref g, .ref A].map some ++ List.replicate (7 - [SV.ref g, .ref A].length) none |>.set 3 (some (.ref h.length))) |>.set 4 (some (.ref (h ++ [SO.lst (blanksV.map SV.str)]).length))) ((h ++ [.lst (blanksV.map SV.str)]) ++ [.lst []])) _ _ _ _
  have sp0 : Sp g A h.length (h ++ [SO.lst (blanksV.map SV.str)]).length (([SV.ref g, .ref A].map some ++ List.replicate (7 - [SV.ref g, .ref A].length) none |>.set 3 (some (.ref h.length))) |>.set 4 (some (.ref (h ++ [SO.lst (blanksV.map SV.str)]).length))) := ⟨rfl, rfl, rfl, rfl, rfl⟩
  generalize (([SV.ref g, .ref A].map some ++ List.replicate (7 - [SV.ref g, .ref A].length) none |>.set 3 (some (.ref h.length))) |>.set 4 (some (.ref (h ++ [SO.lst (blanksV.map SV.str)]).length))) = s0 at sp0 ⊢
  have hy : ((h ++ [SO.lst (blanksV.map SV.str)]) ++ [SO.lst []]).length = h.length + 2 := by simp
  have n1' := l2 _ _ n1
  have l12 := l1.trans l2
  have G2 := G.le l12 (Int.le_refl _)
  rw [hx] at n2 sp0
  generalize (h ++ [SO.lst (blanksV.map SV.str)]) ++ [SO.lst []] = h2 at n1' n2 hy l12 G2 ⊢
  have eA2 := l12 _ _ eA
  have lr2 := lr.le l12
  refine Ist.seq (Ist.for (Is.walkL (Is.var sp0.s1 ⟨A, _, rfl, eA2, us.length, fun k s h' => Sp g A h.length (h.length + 1) s ∧ KpS (fun j => j = g ∨ j = h.length + 1) h2 h' ∧ h2.length ≤ h'.length ∧ GenOk h' g (B + 40000 * k) ∧ ∃ R : List Str, h'[h.length + 1]? = some (.lst (R.map SV.str)) ∧ Rws R (ls.take k) ∧ R.length ≤ 2 * k, by unfold many; omega, ⟨sp0, KpS.refl, Nat.le_refl _, by simpa using G2, [], n2, Rws.nil, Nat.le_refl _⟩, ?_, ?_⟩)))
  · rintro k s h' hk ⟨sp, kp, hl, GG, R, eF, rw_, hR⟩
    have ek : us[k]? = some us[k] := List.getElem?_eq_getElem hk
    obtain ⟨_, r, er, et⟩ := lr.2 k _ ek
    obtain ⟨rn, r5, rt⟩ := tk r (List.mem_of_getElem? er)
    have hut := lt_of et
    have nut := gen_ne G et rn
    generalize us[k] = u at ek et hut nut
    refine ⟨_, _, _, wkL_at (kp _ _ (by omega) eA2) (by rw [List.getElem?_map, ek]; rfl), rfl, ?_⟩
    have sp' := sp.set (j := 2) (v := some (.ref u)) (by decide)
    have s2 := gx (i := 2) (x := some (SV.ref u)) sp.len (by decide)
    generalize s.set 2 (some (SV.ref u)) = s1 at sp' s2 ⊢
    refine lineBody_is GG (by omega) sp' s2 (kp _ _ (by omega) (l12 _ _ et)) (by omega) (by omega) (kp _ _ (by omega) n1') (by omega) (by omega) rn rt r5 eF rw_ (by omega) fun s' h3 R' sp3 kp3 hl3 G3 eF3 rw3 hR3 => ⟨sp3, kp.trans kp3, by omega, G3.le (Le.refl _) (by omega), R', eF3, ?_, by omega⟩
    rw [take_app er]; exact rw3
  · rintro s h' ⟨sp, kp, hl, GG, R, eF, rw_, hR⟩
    have w := wkL_end (kp _ _ (by omega) eA2)
    rw [List.length_map] at w
    rw [hu, List.take_length] at rw_
    refine ⟨w, ?_⟩
    have kp0 : Kp g h h' := fun i o ni ei => kp i o (by have := lt_of ei; omega) (l12 _ _ ei)
    refine Ist.ret (Is.s1 (Is.c ⟨_, rfl, Is.o2 (Is.o2 (rep_is GG (by omega) sp.s0 fun h3 E k1 kp3 hl3 G3 hk1 eE nE => Is.var sp.s4 (add_is eE (kp3 _ _ (by omega) eF) (small_big (by simp; omega)) ?_)))⟩))
    have l4 := Le.push h3 (.lst ((List.replicate k1 ("" : Str)).map SV.str ++ R.map SV.str))
    have n4 := new_at h3 (.lst ((List.replicate k1 ("" : Str)).map SV.str ++ R.map SV.str))
    have G4 := G3.le l4 (Int.le_refl _)
    have hg3 : g < h3.length := by omega
    have hx4 : (h3 ++ [SO.lst ((List.replicate k1 ("" : Str)).map SV.str ++ R.map SV.str)]).length = h3.length + 1 := by simp
    generalize hE4 : h3.length = E4 at n4 hg3 hx4 ⊢
    generalize h3 ++ [SO.lst ((List.replicate k1 ("" : Str)).map SV.str ++ R.map SV.str)] = h4 at l4 n4 G4 hx4 ⊢
    refine rep_is G4 (by omega) sp.s0 fun h5 E5 k2 kp5 hl5 G5 hk2 eE5 nE5 => ?_
    refine add_is (kp5 _ _ (by omega) n4) eE5 (small_big (by simp; omega)) ?_
    have l6 := Le.push h5 (.lst (((List.replicate k1 ("" : Str)).map SV.str ++ R.map SV.str) ++ (List.replicate k2 (" " : Str)).map SV.str))
    have n6 := new_at h5 (.lst (((List.replicate k1 ("" : Str)).map SV.str ++ R.map SV.str) ++ (List.replicate k2 (" " : Str)).map SV.str))
    rw [← List.map_append, ← List.map_append] at l6 n6 ⊢
    have rwa : Rws ((List.replicate k1 ("" : Str) ++ R) ++ List.replicate k2 (" " : Str)) ls := by
      have a := Rws.blanks (r := "") ((Ln.blank (lo := 0) ⟨0, by decide, by decide, by decide +kernel⟩).up (by decide)) k1
      have b := Rws.blanks (r := " ") ((Ln.blank (lo := 0) ⟨1, by decide, by decide, by decide +kernel⟩).up (by decide)) k2
      have := (a.app rw_).app b
      rwa [List.nil_append, List.append_nil] at this
    have hl6 : ((List.replicate k1 ("" : Str) ++ R) ++ List.replicate k2 (" " : Str)).length ≤ 100 := by simp; omega
    have rl := rwa.len
    have rm := rwa.mem
    refine join_is n6 rm (by decide +kernel) hl6 (by decide) (p _ _ ((((kp0.trans kp3).trans (Le.kp l4)).trans kp5).trans (Le.kp l6)) (by simp; omega) (G5.le l6 (by omega)) rwa.lines (by omega))
end Fw
namespace Fw
open PySem PySem.Spec L2
theorem ok_of {z : Str} (h : ∀ c ∈ TL.tl z, c < 0x110000) : PyData.strOk z = true := by
  unfold PyData.strOk
  rw [Array.all_eq_true_iff_forall_mem]
  exact fun c hc => decide_eq_true (h c (by simpa [TL.tl] using hc))
theorem of_ok {z : Str} (h : PyData.strOk z = true) : ∀ c ∈ TL.tl z, c < 0x110000 := fun c hc => by
  unfold PyData.strOk at h
  rw [Array.all_eq_true_iff_forall_mem] at h
  exact of_decide_eq_true (h c (by simpa [TL.tl] using hc))
theorem mem_joinL {S : List Nat} {Q : Nat → Prop} (hS : ∀ c ∈ S, Q c) : ∀ {ts : List (List Nat)}, (∀ t ∈ ts, ∀ c ∈ t, Q c) → ∀ c ∈ TL.joinL S ts, Q c
  | [], _, _, h => by simp [TL.joinL] at h
  | [p], k, c, h => k p (by simp) c h
  | p :: q :: r, k, c, h => by
    have h' : c ∈ p ++ (S ++ TL.joinL S (q :: r)) := h
    simp only [List.mem_append] at h'
    rcases h' with h' | h' | h'
    · exact k p (by simp) c h'
    · exact hS c h'
    · exact mem_joinL hS (fun t ht => k t (List.mem_cons_of_mem _ ht)) c h'
theorem due_ok {ps : List Str} {ms : List Nm} (nm : ∀ p ∈ ps, NmOk p) (mok : ∀ m ∈ ms, Nm.Ok ps m) : PyData.strOk (dueT ps ms) = true := by
  refine ok_of ?_
  unfold dueT
  rw [tl_joinT, tl_end]
  refine mem_joinL (by decide) fun t ht => ?_
  obtain ⟨z, hz, rfl⟩ := List.mem_map.mp ht
  obtain ⟨r, hr, rfl⟩ := List.mem_map.mp hz
  unfold rowT
  rw [tl_joinT, tl_blank]
  refine mem_joinL (by decide) fun t ht => ?_
  obtain ⟨y, hy, rfl⟩ := List.mem_map.mp ht
  exact of_ok ((rows_ok nm mok r hr).1 y hy).2
section
variable {rL rE eP eT : Nat} {iL iT iS iI iB iP : Tag → Option Bool} {xA xW xT xC xP xM xK xv : List (Option Nat)} {cW c : Nat} {sub : Nat → Option Bool} {h : SH}
def textF (iP : Tag → Option Bool) (xP xM : List (Option Nat)) (c eP : Nat) : FM := mFn 1 7 (textM iP xP xM c eP)
def neP (iP : Tag → Option Bool) (xP xM : List (Option Nat)) (c : Nat) : O2 := eqOwns (os1 c (mFn 2 2 (eqPM iP xP xM))) true
def oddM (iP : Tag → Option Bool) (xP xM xv : List (Option Nat)) (c eP : Nat) (sub : Nat → Option Bool) : SM := (mSeq (mSet 11 (mC .non)) (mSeq (mTry 12 sub (mDrop (mCall (textF iP xP xM c eP) (aCons (mVar 7) aNil))) (mSet 11 (mVar 12))) (mIfS (bOr (mB (mO2 opIsN (mVar 11) (mC .non))) (mB (mO2 (neP iP xP xM c) (mOA (un1 opRepr) (aCons (mO1 (opExf xv) (mVar 11)) aNil)) (mOA (un1 opRepr) (aCons (mVar 7) aNil))))) (mRet (mC (.bl false))) mNil)))
theorem textX {v : SV} {t : Tag} (et : tagOf h v = some t) (n : iP t = some false) : Isx (textF iP xP xM c eP [v] h) (Out eP v h) := by
  unfold textF
  refine Isx.fn rfl ?_
  unfold textM
  exact Ise.seq (Ise.dropX (Isx.call (Is.acons (Is.var (v := v) rfl (Is.anil (progX et n))))))
theorem odd_is (ks : sub eP = some true) (kx : xv[eP]? = some (some 0)) {s : SS} {v : SV} {x0 : Option SV} (hl : s.length = 14) (s0 : s[0]? = some x0) (s7 : s[7]? = some (some v)) (q : Val iP h v) {R : SV → SH → Prop} {B C : SS → SH → Prop} :
    Ist (oddM iP xP xM xv c eP sub s h) (fun s' h' => (s'.length = 14 ∧ s'[0]? = some x0) ∧ Le h h') R B C := by
  unfold oddM
  obtain ⟨d, t, tx, ef, z⟩ := q
  obtain ⟨ed, et⟩ := z h (Le.refl _)
  refine Ist.seq (Ist.set (Is.c ?_))
  have a7 := gs (i := 11) (x := some SV.non) s7 (by decide)
  have a0 := gs (i := 11) (x := some SV.non) s0 (by decide)
  have al : (s.set 11 (some SV.non)).length = 14 := by simp [hl]
  generalize s.set 11 (some SV.non) = s1 at a7 a0 al ⊢
  obtain ⟨k, xs, h0, ec, rfl, rfl, le0⟩ := dropX_eq (m := mCall (textF iP xP xM c eP) (aCons (mVar 7) aNil)) (ss := s1) (Isx.call (Is.acons (Is.var a7 (Is.anil (textX et ef)))))
  have le1 := le0.trans (Le.push h0 (.exo k [v]))
  have n1 := new_at h0 (.exo k [v])
  refine Ist.seq (Ist.tryC ec ks (Ist.set (Is.var (gx al (by decide)) ?_)))
  generalize h0.length = j at n1 ⊢
  generalize h0 ++ [SO.exo k [v]] = h1 at le1 n1 ⊢
  have b7 : (((s1.set 12 (some (.ref j))).set 11 (some (.ref j))).set 12 none)[7]? = some (some v) := gs (gs (gs a7 (by decide)) (by decide)) (by decide)
  have b0 : (((s1.set 12 (some (.ref j))).set 11 (some (.ref j))).set 12 none)[0]? = some x0 := gs (gs (gs a0 (by decide)) (by decide)) (by decide)
  have b11 : (((s1.set 12 (some (.ref j))).set 11 (some (.ref j))).set 12 none)[11]? = some (some (.ref j)) := gs (gx (n := 14) (by simp [al]) (by decide)) (by decide)
  have bl : (((s1.set 12 (some (.ref j))).set 11 (some (.ref j))).set 12 none).length = 14 := by simp [al]
  generalize ((s1.set 12 (some (.ref j))).set 11 (some (.ref j))).set 12 none = s2 at b7 b0 b11 bl ⊢
  have ed1 := dataOf_le le1 64 _ _ ed
  refine Ist.ite (Is.bor (Is.bm (Is.o2 (Is.var b11 (Is.c ⟨.bl false, h1, rfl, false, rfl, ?_⟩)))))
  rw [if_neg (by decide)]
  refine Is.bm (Is.o2 (Is.oa (Is.acons (Is.o1 (Is.var b11 ⟨v, h1, by unfold opExf; simp only [n1, kx]; rfl, Is.anil (repr_d ed1 tx (Is.oa (Is.acons (Is.var b7 (Is.anil (repr_d ed1 tx (own_text tx ⟨_, rfl, ?_⟩)))))))⟩)))))
  rw [if_neg (by decide)]
  exact Ist.nil ⟨⟨bl, b0⟩, le1⟩
def badP70 : AM := (aCons (mC .non) (aCons (mC (.int 3)) (aCons (mOA opLst aNil) (aCons (mOA opTup aNil) (aCons mDict0 (aCons (mC (.str "places a")) (aCons (mC (.bl true)) aNil)))))))
theorem badP70_is {f : Tag → Option Bool} (no : NoOwn f) {ss : SS} {h : SH} : IsD (Val f) badP70 ss h 7 := by
  unfold badP70
  refine IsD.c staV (sd_non.val (by decide) tx_none no.non) fun h1 _ => ?_
  refine IsD.c staV (sd_int.val (by decide) (tx_int (by decide)) no.int) fun h2 _ => ?_
  refine IsD.lst0 staV (fun h3 j _ e => (sd_lst0 e).val (by decide) (tx_c (by decide +kernel)) no.lst) fun h3 _ => ?_
  refine IsD.tup0 staV (fun h3 j _ e => (sd_tup0 e).val (by decide) (tx_c (by decide +kernel)) no.tup) fun h4 _ => ?_
  refine IsD.dct0 staV (fun h3 j _ e => (sd_dct0 e).val (by decide) (tx_c (by decide +kernel)) no.dct) fun h5 _ => ?_
  refine IsD.c staV (sd_str.val (by decide) (tx_c (by decide +kernel)) no.str) fun h6 _ => ?_
  refine IsD.c staV (sd_bl.val (by decide) tx_bool no.bl) fun h7 _ => ?_
  exact IsD.nil
end
end Fw
namespace Fw
open PySem PySem.Spec L2
structure L70 (x0 : Option SV) (t a : Nat) (z : Str) (s : SS) : Prop where
  len : s.length = 14
  s0 : s[0]? = some x0
  s3 : s[3]? = some (some (.str z))
  s5 : s[5]? = some (some (.ref t))
  s8 : s[8]? = some (some (.ref a))
theorem L70.set {x0 : Option SV} {t a : Nat} {z : Str} {s : SS} (x : L70 x0 t a z s) {j : Nat} {v : Option SV} (h : j = 6 ∨ j = 7 ∨ 9 ≤ j) : L70 x0 t a z (s.set j v) := ⟨by simp [x.len], gs x.s0 (by omega), gs x.s3 (by omega), gs x.s5 (by omega), gs x.s8 (by omega)⟩
section
variable {rL rE eP eT : Nat} {iL iT iS iI iB iP : Tag → Option Bool} {xA xW xT xC xP xM xK xv : List (Option Nat)} {cW c : Nat} {sub : Nat → Option Bool} {h : SH}
def readF (rL rE eT : Nat) (iL iT iS iI iB : Tag → Option Bool) (xA xW xT xC xP xM xK : List (Option Nat)) (cW c : Nat) : FM := mFn 1 2 (readM rL rE eT iL iT iS iI iB xA xW xT xC xP xM xK cW c)
def readsM (rL rE eP eT : Nat) (iL iT iS iI iB iP : Tag → Option Bool) (xA xW xT xC xP xM xK : List (Option Nat)) (cW c : Nat) : SM := (mSeq (mSet 10 (mCall (readF rL rE eT iL iT iS iI iB xA xW xT xC xP xM xK cW c) (aCons (mVar 6) aNil))) (mSeq (mIfS (bOr (bNot (mB (mO1 (opIsi iP) (mVar 10)))) (bOr (mB (mO2 (neP iP xP xM c) (mVar 10) (mVar 8))) (mB (mO2 (neP iP xP xM c) (mCall (textF iP xP xM c eP) (aCons (mVar 10) aNil)) (mVar 3))))) (mRet (mC (.bl false))) mNil) (mIfS (mB (mO2 (neP iP xP xM c) (mOA (un1 opRepr) (aCons (mOA opLst (aCons (mMeth c (mFn 1 1 (placesM xP)) (mVar 10) aNil) (aCons (mMeth c (mFn 1 1 (movesM xM)) (mVar 10) aNil) aNil))) aNil)) (mOA (un1 opRepr) (aCons (mVar 5) aNil)))) (mRet (mC (.bl false))) mNil)))
theorem neStr_is {x : Str} (ok : PyData.strOk x = true) {P : SV → SH → Prop} (p : P (.bl false) h) : ∃ v h3, neP iP xP xM c (.str x) (.str x) h = some (v, h3) ∧ P v h3 :=
  own_dd rfl rfl (eqStr (neg := true) ok ok (by simpa using p))
theorem reads_is (es : Isis iL iT iS iI iB) (xs : Ixs xA xW xT xC xP xM xK cW c) (ip : iP (.ins c) = some true) (xp : xP[c]? = some (some 0)) (xm : xM[c]? = some (some 1)) {x0 : Option SV} {t a lo lo' : Nat} {z : Str} {ps : List Str} {ms : List Nm} {s : SS}
    (r : L70 x0 t a (dueT ps ms) s) (s6 : s[6]? = some (some (.str z))) (hz : z.length ≤ 1000000) (ez : linesT z = rowsOf ps ms) (pt : Parts0 h t lo ps ms) (pr : Prog h c a lo' ps ms) {R : SV → SH → Prop} {B C : SS → SH → Prop} :
    Ist (readsM rL rE eP eT iL iT iS iI iB iP xA xW xT xC xP xM xK cW c s h) (fun s' h' => L70 x0 t a (dueT ps ms) s' ∧ Le h h') R B C := by
  unfold readsM readF
  have nm := pt.nm
  have mok := pt.mok
  refine Ist.seq (Ist.set (Is.call (Is.acons (Is.var s6 (Is.anil (read_is es xs hz ez pt.ok nm mok pt.few fun h1 b lo1 l1 prb => ?_))))))
  have r1 := r.set (j := 10) (v := some (.ref b)) (by decide)
  have q10 := gx (i := 10) (x := some (SV.ref b)) r.len (by decide)
  generalize s.set 10 (some (SV.ref b)) = s1 at r1 q10 ⊢
  obtain ⟨_, _, _, eb, _⟩ := prb.ex
  have pra := pr.le l1
  obtain ⟨_, _, _, ea, _⟩ := pra.ex
  refine Ist.seq (Ist.ite (Is.bor (Is.bnot (Is.bm (Is.o1 (Is.var q10 (isi_t (tag_ins eb) ip ⟨true, rfl, ?_⟩)))))))
  rw [if_neg (by decide)]
  refine Is.bor (Is.bm (Is.o2 (Is.var q10 (Is.var r1.s8 (own_pp (neg := true) eb ea (eqP_is ip xp xm prb pra nm mok nm mok) ⟨_, rfl, ?_⟩)))))
  rw [if_pos rfl, decide_eq_true ⟨rfl, rfl⟩, if_neg (by decide)]
  refine Is.bm (Is.o2 (Is.call (Is.acons (Is.var q10 (Is.anil (text_is ip xp xm prb pt.ok nm mok pt.few fun h2 l2 => Is.var r1.s3 (neStr_is (due_ok nm mok) ⟨_, rfl, ?_⟩)))))))
  rw [if_neg (by decide)]
  refine Ist.nil (Ist.ite (Is.bm (Is.o2 (Is.oa (Is.acons (Is.oa (Is.acons (meth_placesF xp q10 (prb.le l2) fun h3 A l3 _ pl => Is.acons (meth_movesF xm q10 ((prb.le l2).le l3) fun h4 M l4 _ mv => Is.anil (lst_is (small_big (by simp)) ?_))))))))))
  have l5 := Le.push h4 (.lst [.ref A, .ref M])
  have n5 := new_at h4 (.lst [.ref A, .ref M])
  have f4 := pt.ok.four
  have few := pt.few
  have tx := tx_parts nm mok (by omega) (by omega)
  refine Is.anil (repr_d (data_parts n5 ((pl.le l4).le l5) (mv.le l5)) tx ?_)
  have l15 := (((l1.trans l2).trans l3).trans l4).trans l5
  obtain ⟨A0, M0, e0, _, _, _, pl0, mv0⟩ := pt.ex
  refine Is.oa (Is.acons (Is.var r1.s5 (Is.anil (repr_d (data_parts (l15 _ _ e0) (pl0.le l15) (mv0.le l15)) tx (own_text tx ⟨_, rfl, ?_⟩)))))
  rw [if_neg (by decide)]
  exact Ist.nil ⟨r1, l15⟩
end
end Fw
namespace Fw
open PySem PySem.Spec L2
theorem Lns.kp {h h' : SH} {A g : Nat} {B : Int} {ls : List (List Str)} (x : Lns h A ls) (G : GenOk h g B) (ne : ls ≠ []) (rn : ∀ r ∈ ls, r ≠ []) (k : Kp g h h') : Lns h' A ls := by
  obtain ⟨us, e, lr⟩ := x.ex
  have hu := lr.1
  have nA := gen_ne2 G e (fun w => ne (List.length_eq_zero_iff.mp (by rw [← hu, w]; rfl)))
  refine ⟨us, k _ _ nA e, hu, fun i t et => ?_⟩
  obtain ⟨n, r, er, e2⟩ := lr.2 i t et
  exact ⟨n, r, er, k _ _ (gen_ne G e2 (rn r (List.mem_of_getElem? er))) e2⟩
def spacedE : EM := mCall (mFn 2 7 spacedM) (aCons (mVar 4) (aCons (mVar 9) aNil))
def textsE : EM := mOA opLst (aCons (mVar 3) (aCons spacedE (aCons spacedE (aCons (mO2 opAdd (mVar 3) (mC (.str "\n\n"))) aNil))))
theorem texts_is {g A t a lo lo' c : Nat} {B : Int} {ps : List Str} {ms : List Nm} {ss : SS} {h : SH} {P : SV → SH → Prop} (G : GenOk h g B) (hB : B ≤ 200000000) (pt : Parts h t lo ps ms) (hg : g < lo) (pr : Prog h c a lo' ps ms) (hg' : g < lo') (x : Lns h A (rowsOf ps ms))
    (s3 : ss[3]? = some (some (.str (dueT ps ms)))) (s4 : ss[4]? = some (some (.ref g))) (s9 : ss[9]? = some (some (.ref A)))
    (p : ∀ h' T (zs : List Str), h'[T]? = some (.lst (zs.map SV.str)) → zs.length = 4 → (∀ z ∈ zs, z.length ≤ 1000000 ∧ linesT z = rowsOf ps ms) → Parts h' t lo ps ms → Prog h' c a lo' ps ms → P (.ref T) h') : Is (textsE ss h) P := by
  unfold textsE
  have nm := pt.nm
  have mok := pt.mok
  have f4 := pt.ok.four
  have few := pt.few
  have rok := toks_rows nm mok
  have ne : rowsOf ps ms ≠ [] := by unfold rowsOf; simp
  have tk : ∀ r ∈ rowsOf ps ms, r ≠ [] ∧ r.length ≤ 5 ∧ ∀ t ∈ r, Tok t := fun r hr => ⟨(rok r hr).1, row5 nm mok f4 r hr⟩
  have dl : (dueT ps ms).length ≤ 1200 := by
    have := (Rws.due nm mok f4).len
    rw [List.length_map, len_rows] at this
    have e : dueT ps ms = Txt.join "\n" ((rowsOf ps ms).map rowT) := rfl
    rw [e]; omega
  have el : (rowsOf ps ms).length ≤ 12 := by rw [len_rows]; omega
  obtain ⟨gl, eg⟩ := G.at
  refine Is.oa (Is.acons (Is.var s3 (Is.acons (Is.call (Is.acons (Is.var s4 (Is.acons (Is.var s9 (Is.anil (spaced_is G (by omega) x ne el tk fun h1 z1 kp1 hl1 G1 e1 f1 => ?_))))))))))
  have x1 := x.kp G ne (fun r hr => (rok r hr).1) kp1
  refine Is.acons (Is.call (Is.acons (Is.var s4 (Is.acons (Is.var s9 (Is.anil (spaced_is G1 (by omega) x1 ne el tk fun h2 z2 kp2 hl2 G2 e2 f2 => ?_)))))))
  have kp := kp1.trans kp2
  refine Is.acons (Is.o2 (Is.var s3 (Is.c (adds_is ?_ (Is.anil (lst_is (small_big (by simp)) ?_))))))
  · have : ("\n\n" : Str).length ≤ 2 := by decide +kernel
    omega
  have l3 := Le.push h2 (.lst [.str (dueT ps ms), .str z1, .str z2, .str (dueT ps ms ++ "\n\n")])
  refine p _ _ [dueT ps ms, z1, z2, dueT ps ms ++ "\n\n"] (new_at _ _) rfl (fun z hz => ?_) ((pt.kp kp hg eg).le l3) ((pr.kp kp hg' eg).le l3)
  simp only [List.mem_cons, List.not_mem_nil, or_false] at hz
  rcases hz with rfl | rfl | rfl | rfl
  · exact ⟨by omega, lines_due nm mok⟩
  · exact ⟨by omega, e1⟩
  · exact ⟨by omega, e2⟩
  · refine ⟨?_, by rw [lines_two]; exact lines_due nm mok⟩
    rw [TL.len_tl, TL.tl_append, List.length_append, ← TL.len_tl, ← TL.len_tl]
    have : ("\n\n" : Str).length ≤ 2 := by decide +kernel
    omega
section
variable {rL rE eP eT : Nat} {iL iT iS iI iB iP : Tag → Option Bool} {xA xW xT xC xP xM xK xv : List (Option Nat)} {cW c : Nat} {sub : Nat → Option Bool} {h : SH}
def turn70M (rL rE eP eT : Nat) (iL iT iS iI iB iP : Tag → Option Bool) (xA xW xT xC xP xM xK xv : List (Option Nat)) (cW c : Nat) (sub : Nat → Option Bool) : SM := mSeq (mPar 8 9 (aCons (mCall (mFn 1 1 (lawProgramM rL rE iL iT iS iI iB xA xW xT xC xP xM xK cW c)) (aCons (mVar 5) aNil)) (aCons (mCall (mFn 1 6 lawLinesM) (aCons (mVar 5) aNil)) aNil))) (mSeq (mSet 3 (joinAllM 9 13)) (mSeq (mIfS (bOr (mB (mO2 (neP iP xP xM c) (mCall (textF iP xP xM c eP) (aCons (mVar 8) aNil)) (mVar 3))) (mB (mO2 (neP iP xP xM c) (mCall (textF iP xP xM c eP) (aCons (mCall (mFn 1 1 (lawProgramM rL rE iL iT iS iI iB xA xW xT xC xP xM xK cW c)) (aCons (mVar 5) aNil)) aNil)) (mVar 3)))) (mRet (mC (.bl false))) mNil) (mSeq (mFor (mWalk textsE) (gVar 6) (readsM rL rE eP eT iL iT iS iI iB iP xA xW xT xC xP xM xK cW c)) (mFor (mWalk (mOA opLst badP70)) (gVar 7) (oddM iP xP xM xv c eP sub)))))
theorem turn70_is (es : Isis iL iT iS iI iB) (xs : Ixs xA xW xT xC xP xM xK cW c) (ip : iP (.ins c) = some true) (no : NoOwn iP) (xp : xP[c]? = some (some 0)) (xm : xM[c]? = some (some 1)) (ks : sub eP = some true) (kx : xv[eP]? = some (some 0)) {g t lo : Nat} {B : Int} {x0 : Option SV} {ps : List Str} {ms : List Nm} {s : SS}
    (G : GenOk h g B) (hB : B ≤ 100000000) (hg : g < lo) (pt : Parts h t lo ps ms) (hl : s.length = 14) (s0 : s[0]? = some x0) (s4 : s[4]? = some (some (.ref g))) (s5 : s[5]? = some (some (.ref t))) {R : SV → SH → Prop} :
    Ist (turn70M rL rE eP eT iL iT iS iI iB iP xA xW xT xC xP xM xK xv cW c sub s h) (fun s' h' => s'.length = 14 ∧ s'[0]? = some x0) R (fun _ _ => False) (fun _ _ => False) := by
  unfold turn70M
  have nm := pt.nm
  have mok := pt.mok
  have f4 := pt.ok.four
  have few := pt.few
  obtain ⟨gl, eg⟩ := G.at
  have hgh := lt_of eg
  refine Ist.seq (Ist.par (Is.acons (Is.call (Is.acons (Is.var s5 (Is.anil (lawProgram_is es xs pt fun h1 a l1 ha pr => ?_)))))))
  have pt1 := pt.le l1
  refine Is.acons (Is.call (Is.acons (Is.var s5 (Is.anil (lawLines_is pt1.to0 fun h2 L l2 x => Is.anil ⟨_, _, rfl, ?_⟩)))))
  have r0 : ((s.set 8 (some (SV.ref a))).set 9 (some (.ref L)))[0]? = some x0 := gs (gs s0 (by decide)) (by decide)
  have r4 : ((s.set 8 (some (SV.ref a))).set 9 (some (.ref L)))[4]? = some (some (.ref g)) := gs (gs s4 (by decide)) (by decide)
  have r5 : ((s.set 8 (some (SV.ref a))).set 9 (some (.ref L)))[5]? = some (some (.ref t)) := gs (gs s5 (by decide)) (by decide)
  have r8 : ((s.set 8 (some (SV.ref a))).set 9 (some (.ref L)))[8]? = some (some (.ref a)) := gs (gx hl (by decide)) (by decide)
  have r9 : ((s.set 8 (some (SV.ref a))).set 9 (some (.ref L)))[9]? = some (some (.ref L)) := gx (n := 14) (by simp [hl]) (by decide)
  have rl : ((s.set 8 (some (SV.ref a))).set 9 (some (.ref L))).length = 14 := by simp [hl]
  generalize (s.set 8 (some (SV.ref a))).set 9 (some (.ref L)) = s1 at r0 r4 r5 r8 r9 rl ⊢
  refine Ist.seq (Ist.set (joinAll_is x (row5 nm mok f4) (by rw [len_rows]; omega) r9 (by omega) fun h3 l3 => ?_))
  show Ist _ _ _ _ _
  have q : L70 x0 t a (dueT ps ms) (s1.set 3 (some (.str (dueT ps ms)))) := ⟨by simp [rl], gs r0 (by decide), gx rl (by decide), gs r5 (by decide), gs r8 (by decide)⟩
  have q4 : (s1.set 3 (some (SV.str (dueT ps ms))))[4]? = some (some (.ref g)) := gs r4 (by decide)
  have q9 : (s1.set 3 (some (SV.str (dueT ps ms))))[9]? = some (some (.ref L)) := gs r9 (by decide)
  have ed : Txt.join "\n" ((rowsOf ps ms).map rowT) = dueT ps ms := rfl
  rw [ed]
  generalize s1.set 3 (some (SV.str (dueT ps ms))) = s2 at q q4 q9 ⊢
  have l13 := l2.trans l3
  refine Ist.seq (Ist.ite (Is.bor (Is.bm (Is.o2 (Is.call (Is.acons (Is.var q.s8 (Is.anil (text_is ip xp xm (pr.le l13) pt.ok nm mok few fun h4 l4 => Is.var q.s3 (neStr_is (due_ok nm mok) ⟨_, rfl, ?_⟩))))))))))
  rw [if_neg (by decide)]
  have l14 := l13.trans l4
  refine Is.bm (Is.o2 (Is.call (Is.acons (Is.call (Is.acons (Is.var q.s5 (Is.anil (lawProgram_is es xs (pt1.le l14) fun h5 a5 l5 _ pr5 => Is.anil (text_is ip xp xm pr5 pt.ok nm mok few fun h6 l6 => Is.var q.s3 (neStr_is (due_ok nm mok) ⟨_, rfl, ?_⟩))))))))))
  rw [if_neg (by decide)]
  have l16 := (l14.trans l5).trans l6
  have l06 := l1.trans l16
  refine Ist.nil (Ist.seq (Ist.for (Is.walkL (texts_is (G.le l06 (Int.le_refl _)) (by omega) (pt.le l06) hg (pr.le l16) (by omega) (x.le (((l3.trans l4).trans l5).trans l6)) q.s3 q4 q9 fun h7 T zs eT hz zz pt7 pr7 => ⟨T, _, rfl, eT, zs.length, fun k s h' => L70 x0 t a (dueT ps ms) s ∧ Le h7 h', by unfold many; omega, ⟨q, Le.refl _⟩, ?_, ?_⟩))))
  · rintro k s h' hk ⟨qk, le⟩
    have ek : zs[k]? = some zs[k] := List.getElem?_eq_getElem hk
    obtain ⟨zl, ze⟩ := zz _ (List.getElem_mem hk)
    refine ⟨_, _, _, wkL_at (le _ _ eT) (by rw [List.getElem?_map, ek]; rfl), rfl, ?_⟩
    have qk' := qk.set (j := 6) (v := some (.str zs[k])) (by decide)
    have w6 := gx (i := 6) (x := some (SV.str zs[k])) qk.len (by decide)
    exact (reads_is es xs ip xp xm qk' w6 zl ze (pt7.le le).to0 (pr7.le le) (R := R) (B := fun _ _ => False) (C := fun _ _ => False)).mono (fun s' h' ⟨u, v⟩ => ⟨u, le.trans v⟩) (fun _ _ z => z) (fun _ _ z => z.elim) fun _ _ z => z.elim
  · rintro s h' ⟨qk, le⟩
    have w := wkL_end (le _ _ eT)
    rw [List.length_map] at w
    refine ⟨w, ?_⟩
    refine loopQ (Q := Val iP) (n := 7) (fun s => s.length = 14 ∧ s[0]? = some x0) staV (by decide) ⟨qk.len, qk.s0⟩ (IsD.lst staV (badP70_is no) (by decide) fun h' j vs l e hl q => ⟨j, vs, rfl, l, e, hl, q⟩) ?_ ?_
    · rintro s h8 v ⟨a1, a2⟩ l q8
      exact odd_is ks kx (by simp [a1]) (gs a2 (by decide)) (gx a1 (by decide)) q8
    · rintro s h8 ⟨a1, a2⟩ l
      exact ⟨a1, a2⟩
end
end Fw
namespace Fw
open PySem PySem.Spec L2
def mp : List Str := ["move", "places"]
def mp2 : List Nm := [⟨"move", 8, -4, "places"⟩, ⟨"places", 0, 0, "move"⟩]
def dueC : Str := "places move places\nmove move 8 -4 places\nmove places 0 +0 move"
theorem due_c : dueC = dueT mp mp2 := by decide +kernel
theorem nm_mp : ∀ p ∈ mp, NmOk p := fun p hp => by
  unfold mp at hp
  simp only [List.mem_cons, List.not_mem_nil, or_false] at hp
  rcases hp with rfl | rfl <;> exact ⟨by decide +kernel, by decide +kernel, by decide +kernel⟩
theorem ok_mp : PsOk mp := ⟨by decide, by decide, by decide +kernel⟩
theorem mok_mp : ∀ m ∈ mp2, Nm.Ok mp m := fun m hm => by
  unfold mp2 at hm
  simp only [List.mem_cons, List.not_mem_nil, or_false] at hm
  rcases hm with rfl | rfl <;> exact ⟨by decide +kernel, by decide +kernel, by decide, by decide, by decide, by decide, by decide, by decide⟩
def mp2A : AM := (aCons (mOA opTup (aCons (mC (.str "move")) (aCons (mC (.int 8)) (aCons (mO1 opNeg (mC (.int 4))) (aCons (mC (.str "places")) aNil))))) (aCons (mOA opTup (aCons (mC (.str "places")) (aCons (mC (.int 0)) (aCons (mC (.int 0)) (aCons (mC (.str "move")) aNil))))) aNil))
theorem mp2A_is {ss : SS} : IsM mp2A ss mp2 := ism_cons ex_n (ism_cons ex_c ism_nil)
section
variable {rL rE eP eT : Nat} {iL iT iS iI iB iP : Tag → Option Bool} {xA xW xT xC xP xM xK xv : List (Option Nat)} {cW c : Nat} {sub : Nat → Option Bool} {h : SH}
def eqP2 (iP : Tag → Option Bool) (xP xM : List (Option Nat)) (c : Nat) : O2 := eqOwns (os1 c (mFn 2 2 (eqPM iP xP xM))) false
def tail70M (rL rE eP eT : Nat) (iL iT iS iI iB iP : Tag → Option Bool) (xA xW xT xC xP xM xK : List (Option Nat)) (cW c : Nat) : SM := (mSeq (mSet 2 (mMake c (mFn 3 3 (programM rL rE iL iT iS iI iB xA xW xT xC xP xM xK cW)) (aCons (mOA opLst (aCons (mC (.str "move")) (aCons (mC (.str "places")) aNil))) (aCons (mOA opLst mp2A) aNil)))) (mSeq (mSet 3 (mC (.str dueC))) (mRet (mAnd (mO2 (eqP2 iP xP xM c) (mCall (textF iP xP xM c eP) (aCons (mVar 2) aNil)) (mVar 3)) (mO2 (eqP2 iP xP xM c) (mCall (readF rL rE eT iL iT iS iI iB xA xW xT xC xP xM xK cW c) (aCons (mVar 3) aNil)) (mVar 2))))))
theorem tail70_is (es : Isis iL iT iS iI iB) (xs : Ixs xA xW xT xC xP xM xK cW c) (ip : iP (.ins c) = some true) (xp : xP[c]? = some (some 0)) (xm : xM[c]? = some (some 1)) {s : SS} (hl : s.length = 14) {N B C : SS → SH → Prop} :
    Ist (tail70M rL rE eP eT iL iT iS iI iB iP xA xW xT xC xP xM xK cW c s h) N (fun v _ => v = .bl true) B C := by
  unfold tail70M
  refine Ist.seq (Ist.set (make_is es xs (Is.acons (Is.oa (Is.acons (Is.c (Is.acons (Is.c (Is.anil (lst_is (small_big (by simp)) ?_))))))))))
  have l1 := Le.push h (.lst (mp.map SV.str))
  have pl1 : Pls (h ++ [.lst (mp.map SV.str)]) h.length mp := ⟨new_at _ _⟩
  show Is _ _
  refine Is.acons (Is.oa ((mp2A_is (h ++ [.lst (mp.map SV.str)])).mono fun vs h2 ⟨l2, ts, ev, z⟩ => ?_))
  subst ev
  have hts : ts.length = 2 := z.1
  refine lst_is (small_big (by simp; omega)) ?_
  have l3 := Le.push h2 (.lst (ts.map SV.ref))
  have y := z.le (Le.refl h2)
  refine Is.anil ⟨_, _, mp, mp2, rfl, l1.trans (l2.trans l3), (pl1.le l2).le l3, mv_new y.1 y.2, ok_mp, nm_mp, mok_mp, by decide, fun h4 a l4 pr => ?_⟩
  have q2 := gx (i := 2) (x := some (SV.ref a)) hl (by decide)
  have ql : (s.set 2 (some (SV.ref a))).length = 14 := by simp [hl]
  generalize s.set 2 (some (SV.ref a)) = s1 at q2 ql ⊢
  rw [due_c]
  refine Ist.seq (Ist.set (Is.c ?_))
  have r2 := gs (i := 3) (x := some (SV.str (dueT mp mp2))) q2 (by decide)
  have r3 := gx (i := 3) (x := some (SV.str (dueT mp mp2))) ql (by decide)
  generalize s1.set 3 (some (SV.str (dueT mp mp2))) = s2 at r2 r3 ⊢
  refine Ist.ret (Is.andV (Is.o2 (Is.call (Is.acons (Is.var r2 (Is.anil (text_is ip xp xm pr ok_mp nm_mp mok_mp (by decide) fun h5 l5 => Is.var r3 (own_dd rfl rfl (eqStr (neg := false) (due_ok nm_mp mok_mp) (due_ok nm_mp mok_mp) (.inl ⟨?_, ?_⟩))))))))))
  · simp
  have dl : (dueT mp mp2).length ≤ 1000000 := by rw [← due_c]; decide +kernel
  refine Is.o2 (Is.call (Is.acons (Is.var r3 (Is.anil (read_is es xs dl (lines_due nm_mp mok_mp) ok_mp nm_mp mok_mp (by decide) fun h6 b lo l6 prb => Is.var r2 ?_)))))
  have pra := pr.le (l5.trans l6)
  obtain ⟨_, _, _, ea, _⟩ := pra.ex
  obtain ⟨_, _, _, eb, _⟩ := prb.ex
  refine own_pp (neg := false) eb ea (eqP_is ip xp xm prb pra nm_mp mok_mp nm_mp mok_mp) ?_
  rw [decide_eq_true ⟨rfl, rfl⟩]; rfl
def law70M (rL rE eP eT : Nat) (iL iT iS iI iB iP : Tag → Option Bool) (xA xW xT xC xP xM xK xv : List (Option Nat)) (cW c : Nat) (sub : Nat → Option Bool) : SM :=
  (mSeq (mFor (mRng1 (aCons (mC (.int 5)) aNil)) (gVar 1) (mSeq (mSet 4 (mCall (mFn 2 3 genM) (aCons (mVar 0) (aCons (mVar 1) aNil)))) (mSeq (mSet 5 (mCall (mFn 3 4 drawn5M) (aCons (mVar 4) (aCons (mC (.int 4)) (aCons (mC (.int 10)) aNil))))) (turn70M rL rE eP eT iL iT iS iI iB iP xA xW xT xC xP xM xK xv cW c sub)))) (tail70M rL rE eP eT iL iT iS iI iB iP xA xW xT xC xP xM xK cW c))
theorem law70_is (es : Isis iL iT iS iI iB) (xs : Ixs xA xW xT xC xP xM xK cW c) (ip : iP (.ins c) = some true) (no : NoOwn iP) (xp : xP[c]? = some (some 0)) (xm : xM[c]? = some (some 1)) (ks : sub eP = some true) (kx : xv[eP]? = some (some 0)) (ns : List Int) :
    ∃ h2, Fw.mFn 1 14 (law70M rL rE eP eT iL iT iS iI iB iP xA xW xT xC xP xM xK xv cW c sub) [.scr ns] [] = .ok (.bl true) h2 := by
  have main : Is (Fw.mFn 1 14 (law70M rL rE eP eT iL iT iS iI iB iP xA xW xT xC xP xM xK xv cW c sub) [.scr ns] []) fun v _ => v = .bl true := by
    refine Is.fn rfl ?_
    unfold law70M
    refine Ist.seq (Ist.for (Is.rng1 (Is.acons (Is.c (Is.anil ⟨5, rfl, by decide, 5, fun k s h => s.length = 14 ∧ s[0]? = some (some (.scr ns)), by unfold many; omega, ⟨rfl, rfl⟩, ?_, ?_⟩)))))
    · rintro j s h hj ⟨q1, q2⟩
      refine ⟨_, _, _, wkRng_at hj, rfl, ?_⟩
      have t0 := gs (i := 1) (x := some (SV.int (0 + (j : Int)))) q2 (by decide)
      have t1 := gx (i := 1) (x := some (SV.int (0 + (j : Int)))) q1 (by decide)
      have tl : (s.set 1 (some (SV.int (0 + (j : Int))))).length = 14 := by simp [q1]
      generalize s.set 1 (some (SV.int (0 + (j : Int)))) = s1 at t0 t1 tl ⊢
      rw [show (0 : Int) + (j : Int) = (j : Nat) from by omega] at t1
      refine Ist.seq (Ist.set (Is.call (Is.acons (Is.var t0 (Is.acons (Is.var t1 (Is.anil ?_)))))))
      refine gen_is fun a b a0 b0 b1 => ?_
      have G0 : GenOk (h ++ [.lst [.int a, .int b, .int (1000 * (j : Int))]]) h.length 6000 := ⟨a, b, _, new_at _ _, a0, by omega, by omega⟩
      have hx : h.length < (h ++ [SO.lst [.int a, .int b, .int (1000 * (j : Int))]]).length := by simp
      generalize h.length = g at G0 hx ⊢
      generalize h ++ [SO.lst [.int a, .int b, .int (1000 * (j : Int))]] = h0 at G0 hx ⊢
      have u0 := gs (i := 4) (x := some (SV.ref g)) t0 (by decide)
      have u4 := gx (i := 4) (x := some (SV.ref g)) tl (by decide)
      have ul : (s1.set 4 (some (SV.ref g))).length = 14 := by simp [tl]
      generalize s1.set 4 (some (SV.ref g)) = s2 at u0 u4 ul ⊢
      refine Ist.seq (Ist.set (Is.call (Is.acons (Is.var u4 (Is.acons (Is.c (Is.acons (Is.c (Is.anil ?_)))))))))
      refine drawn5_is G0 (by omega) (by decide) (by decide) (by decide) (by decide) fun h1 t ps ms kp1 l1 G1 pt => ?_
      exact (turn70_is es xs ip no xp xm ks kx G1 (by omega) hx pt (by simp [ul]) (gs u0 (by decide)) (gs u4 (by decide)) (gx ul (by decide)) (R := fun v _ => v = .bl true)).mono (fun _ _ z => z) (fun _ _ z => z) (fun _ _ z => z.elim) fun _ _ z => z.elim
    · rintro s h ⟨q1, q2⟩
      exact ⟨wkRng_end, tail70_is es xs ip xp xm q1⟩
  obtain ⟨v, h2, e, rfl⟩ := main.out
  exact ⟨h2, e⟩
end
end Fw
namespace Gn
open PySem PySem.Spec L2 Fw
theorem isA : IsA is_list is_tuple is_str is_int is_bool := ⟨fun d => by cases d <;> rfl, fun d => by cases d <;> rfl, fun d => by cases d <;> rfl, fun d => by cases d <;> rfl, fun d => by cases d <;> rfl⟩
theorem noOwn : NoOwn is_Program := by constructor <;> rfl
theorem ixs : Ixs x__at x__ways x__tables x__common x__places x__moves x__walks cn_Walks cn_Program := by constructor <;> rfl
theorem law_true : ∀ ns : List Int, ns.length ≤ 63 → (∀ z ∈ ns, PySem.Builtin.Int.intBits z ≤ 1048576) → ∃ h2, Fw.mFn 1 14 Gn.m63 [.scr ns] [] = .ok (.bl true) h2 := by
  intro ns _ _
  exact law70_is (rL := cn_InvalidList) (rE := cn_InvalidItem) (eP := cn_InvalidProgram) (eT := cn_InvalidText) (xv := x_value) (sub := sub_InvalidProgram) isA.es ixs rfl noOwn rfl rfl rfl rfl ns
end Gn
open PySem PySem.W PyProof.Rows in
set_option maxRecDepth 100000 in
set_option maxHeartbeats 0 in
theorem PySem.Challenge.cw_floorwalks_k70_programs_written_and_read_holds : PySem.Challenge.rw_floorwalks_k70_programs_written_and_read.Holds := by
  w_on; o_law; k_head; (case hw => w_witness2)
  k_fill
  refine Fw.walk_ofG (l := PySem.Challenge.rw_floorwalks_k70_programs_written_and_read) (m := Gn.m63) (nn := 14) (k := 10) (x := "_law_script") rfl (by decide) rfl ⟨rfl, by decide, by decide⟩ (by decide +kernel) (fun w h Y => PySem.W.kIn_of Y) ?F Gn.law_true
  case F =>
    intro w mg fa h KX G hmg
    refine' Gn.all_mk KX G hmg ?aC0 ?ga0 ?gg0 ?kC0 ?ex0 ?ty0 ?hd0 ?ic0 ?ha0 ?mo0 ?aC1 ?ga1 ?gg1 ?kC1 ?ex1 ?ty1 ?hd1 ?ic1 ?ha1 ?mo1 ?xL1 ?rv1 ?al1 ?sa1 ?no1 ?iC1 ?tF1 ?ve1 ?mr1 ?lF1 ?cF1 ?lD1 ?hv1 ?hf1 ?lcc1 ?lT1 ?aC2 ?ga2 ?gg2 ?kC2 ?ex2 ?ty2 ?hd2 ?ic2 ?ha2 ?mo2 ?xL2 ?rv2 ?al2 ?sa2 ?no2 ?iC2 ?tF2 ?ve2 ?mr2 ?lF2 ?cF2 ?lD2 ?hv2 ?hf2 ?lcc2 ?lT2 ?aC3 ?ga3 ?gg3 ?kC3 ?ex3 ?ty3 ?hd3 ?ic3 ?ha3 ?mo3 ?xL3 ?rv3 ?al3 ?sa3 ?no3 ?iC3 ?tF3 ?ve3 ?mr3 ?lF3 ?cF3 ?lD3 ?hv3 ?hf3 ?lcc3 ?lT3 ?aC4 ?ga4 ?gg4 ?kC4 ?ex4 ?ty4 ?hd4 ?ic4 ?ha4 ?mo4 ?xL4 ?rv4 ?al4 ?sa4 ?no4 ?iC4 ?tF4 ?ve4 ?mr4 ?lF4 ?cF4 ?lD4 ?hv4 ?hf4 ?lcc4 ?lT4 ?aC6 ?pg6 ?hd6 ?po6 ?sa6 ?mk6 ?kc6 ?ha6 ?mo6 ?no6_0 ?no6_1 ?no6_2 ?no6_3 ?aC7 ?pg7 ?hd7 ?po7 ?sa7 ?mk7 ?kc7 ?ha7 ?mo7 ?no7_0 ?no7_1 ?no7_2 ?ne7 ?mt7_non ?mt7_bl ?mt7_int ?mt7_str ?mt7_lst ?mt7_tup ?mt7_dct ?opq ?sup ?hn ?ht ?htop ?m_gcd ?m_lcm ?b_all ?b_bool ?b_enumerate ?b_int ?b_isinstance ?b_len ?b_list ?b_max ?b_min ?b_range ?b_repr ?b_str ?b_tuple ?k_AMOUNTS ?k_LEASTS ?k_LONGEST_NAME ?k_MOST_CHANGE ?k_MOST_LEAST ?k_MOST_MOVES ?k_MOST_PLACES ?k_MOVE ?k_PLACES ?k_SIGNS ?on_non_Program ?on_bl_Program ?on_int_Program ?on_str_Program ?on_lst_Program ?on_tup_Program ?on_dct_Program ?os6_Program ?os7_Program ?u0_InvalidProgram ?u1_InvalidProgram ?u2_InvalidProgram ?u3_InvalidProgram ?u4_InvalidProgram ?a55d ?l55d ?c55d ?k55d ?a58d ?l58d ?c58d ?k58d ?a54d ?l54d ?c54d ?k54d ?a57d ?l57d ?c57d ?k57d ?a56d ?l56d ?c56d ?k56d ?a59d ?l59d ?c59d ?k59d ?a61d ?l61d ?c61d ?k61d ?a12d ?l12d ?c12d ?k12d ?a35d ?l35d ?c35d ?k35d ?a34d ?l34d ?c34d ?k34d ?a10d ?l10d ?c10d ?k10d ?a11d ?l11d ?c11d ?k11d ?a33d ?l33d ?c33d ?k33d ?a36d ?l36d ?c36d ?k36d ?a16d ?l16d ?c16d ?k16d ?a15d ?l15d ?c15d ?k15d ?a14d ?l14d ?c14d ?k14d ?a_Walks___init__d ?i_Walks___init__d ?l_Walks___init__d ?c_Walks___init__d ?k_Walks___init__d ?a_Program___init__d ?i_Program___init__d ?l_Program___init__d ?c_Program___init__d ?k_Program___init__d ?a60d ?l60d ?c60d ?k60d ?a38d ?l38d ?c38d ?k38d ?a_Program_placesd ?i_Program_placesd ?l_Program_placesd ?c_Program_placesd ?k_Program_placesd ?a_Program_movesd ?i_Program_movesd ?l_Program_movesd ?c_Program_movesd ?k_Program_movesd ?a45d ?l45d ?c45d ?k45d ?a_Program___eq__d ?i_Program___eq__d ?l_Program___eq__d ?c_Program___eq__d ?k_Program___eq__d ?a62d ?l62d ?c62d ?k62d ?a47d ?l47d ?c47d ?k47d ?a50d ?l50d ?c50d ?k50d ?a51d ?l51d ?c51d ?k51d ?a49d ?l49d ?c49d ?k49d ?a48d ?l48d ?c48d ?k48d ?a52d ?l52d ?c52d ?k52d ?a46d ?l46d ?c46d ?k46d ?a63d ?l63d ?c63d ?k63d
    (case aC0 => k_is)
    (case ga0 => k_is)
    (case gg0 => k_is)
    (case kC0 => k_is)
    (case ex0 => k_is)
    (case ty0 => k_is)
    (case hd0 => k_is)
    (case ic0 => k_is)
    (case ha0 => k_is)
    (case mo0 => k_is)
    (case aC1 => k_is)
    (case ga1 => k_is)
    (case gg1 => k_is)
    (case kC1 => k_is)
    (case ex1 => k_is)
    (case ty1 => k_is)
    (case hd1 => k_is)
    (case ic1 => k_is)
    (case ha1 => k_is)
    (case mo1 => k_is)
    (case xL1 => k_is)
    (case rv1 => first | rfl | decide +kernel | k_is)
    (case al1 => ks_is)
    (case sa1 => k_is)
    (case no1 => k_is)
    (case iC1 => k_is)
    (case tF1 => k_is)
    (case ve1 => k_is)
    (case mr1 => k_is)
    (case lF1 => k_is)
    (case cF1 => k_is)
    (case lD1 => k_is)
    (case hv1 => first | rfl | k_is)
    (case hf1 => first | rfl | decide +kernel | k_is)
    (case lcc1 => k_is)
    (case lT1 => k_is)
    (case aC2 => k_is)
    (case ga2 => k_is)
    (case gg2 => k_is)
    (case kC2 => k_is)
    (case ex2 => k_is)
    (case ty2 => k_is)
    (case hd2 => k_is)
    (case ic2 => k_is)
    (case ha2 => k_is)
    (case mo2 => k_is)
    (case xL2 => k_is)
    (case rv2 => first | rfl | decide +kernel | k_is)
    (case al2 => ks_is)
    (case sa2 => k_is)
    (case no2 => k_is)
    (case iC2 => k_is)
    (case tF2 => k_is)
    (case ve2 => k_is)
    (case mr2 => k_is)
    (case lF2 => k_is)
    (case cF2 => k_is)
    (case lD2 => k_is)
    (case hv2 => first | rfl | k_is)
    (case hf2 => first | rfl | decide +kernel | k_is)
    (case lcc2 => k_is)
    (case lT2 => k_is)
    (case aC3 => k_is)
    (case ga3 => k_is)
    (case gg3 => k_is)
    (case kC3 => k_is)
    (case ex3 => k_is)
    (case ty3 => k_is)
    (case hd3 => k_is)
    (case ic3 => k_is)
    (case ha3 => k_is)
    (case mo3 => k_is)
    (case xL3 => k_is)
    (case rv3 => first | rfl | decide +kernel | k_is)
    (case al3 => ks_is)
    (case sa3 => k_is)
    (case no3 => k_is)
    (case iC3 => k_is)
    (case tF3 => k_is)
    (case ve3 => k_is)
    (case mr3 => k_is)
    (case lF3 => k_is)
    (case cF3 => k_is)
    (case lD3 => k_is)
    (case hv3 => first | rfl | k_is)
    (case hf3 => first | rfl | decide +kernel | k_is)
    (case lcc3 => k_is)
    (case lT3 => k_is)
    (case aC4 => k_is)
    (case ga4 => k_is)
    (case gg4 => k_is)
    (case kC4 => k_is)
    (case ex4 => k_is)
    (case ty4 => k_is)
    (case hd4 => k_is)
    (case ic4 => k_is)
    (case ha4 => k_is)
    (case mo4 => k_is)
    (case xL4 => k_is)
    (case rv4 => first | rfl | decide +kernel | k_is)
    (case al4 => ks_is)
    (case sa4 => k_is)
    (case no4 => k_is)
    (case iC4 => k_is)
    (case tF4 => k_is)
    (case ve4 => k_is)
    (case mr4 => k_is)
    (case lF4 => k_is)
    (case cF4 => k_is)
    (case lD4 => k_is)
    (case hv4 => first | rfl | k_is)
    (case hf4 => first | rfl | decide +kernel | k_is)
    (case lcc4 => k_is)
    (case lT4 => k_is)
    (case aC6 => k_is)
    (case pg6 => k_is)
    (case hd6 => k_is)
    (case po6 => k_is)
    (case sa6 => k_is)
    (case mk6 => k_is)
    (case kc6 => k_is)
    (case ha6 => k_is)
    (case mo6 => k_is)
    (case no6_0 => k_is)
    (case no6_1 => k_is)
    (case no6_2 => k_is)
    (case no6_3 => k_is)
    (case aC7 => k_is)
    (case pg7 => k_is)
    (case hd7 => k_is)
    (case po7 => k_is)
    (case sa7 => k_is)
    (case mk7 => k_is)
    (case kc7 => k_is)
    (case ha7 => k_is)
    (case mo7 => k_is)
    (case no7_0 => k_is)
    (case no7_1 => k_is)
    (case no7_2 => k_is)
    (case ne7 => k_is)
    (case mt7_non => k_is)
    (case mt7_bl => k_is)
    (case mt7_int => k_is)
    (case mt7_str => k_is)
    (case mt7_lst => k_is)
    (case mt7_tup => k_is)
    (case mt7_dct => k_is)
    (case opq => k_is)
    (case sup => k_is)
    (case hn => k_is)
    (case ht => k_is)
    (case htop => first | rfl | decide +kernel)
    (case m_gcd => k_is)
    (case m_lcm => k_is)
    (case b_all => k_is)
    (case b_bool => k_is)
    (case b_enumerate => k_is)
    (case b_int => k_is)
    (case b_isinstance => k_is)
    (case b_len => k_is)
    (case b_list => k_is)
    (case b_max => k_is)
    (case b_min => k_is)
    (case b_range => k_is)
    (case b_repr => k_is)
    (case b_str => k_is)
    (case b_tuple => k_is)
    (case k_AMOUNTS => k_is)
    (case k_LEASTS => k_is)
    (case k_LONGEST_NAME => k_is)
    (case k_MOST_CHANGE => k_is)
    (case k_MOST_LEAST => k_is)
    (case k_MOST_MOVES => k_is)
    (case k_MOST_PLACES => k_is)
    (case k_MOVE => k_is)
    (case k_PLACES => k_is)
    (case k_SIGNS => k_is)
    (case on_non_Program => kit_is)
    (case on_bl_Program => kit_is)
    (case on_int_Program => kit_is)
    (case on_str_Program => kit_is)
    (case on_lst_Program => kit_is)
    (case on_tup_Program => kit_is)
    (case on_dct_Program => kit_is)
    (case os6_Program => kit_is)
    (case os7_Program => kit_is)
    (case u0_InvalidProgram => k_is)
    (case u1_InvalidProgram => k_is)
    (case u2_InvalidProgram => k_is)
    (case u3_InvalidProgram => k_is)
    (case u4_InvalidProgram => k_is)
    (case a55d => k_is)
    (case l55d => k_is)
    (case c55d => k_is)
    (case k55d => k_is)
    (case a58d => k_is)
    (case l58d => k_is)
    (case c58d => k_is)
    (case k58d => k_is)
    (case a54d => k_is)
    (case l54d => k_is)
    (case c54d => k_is)
    (case k54d => k_is)
    (case a57d => k_is)
    (case l57d => k_is)
    (case c57d => k_is)
    (case k57d => k_is)
    (case a56d => k_is)
    (case l56d => k_is)
    (case c56d => k_is)
    (case k56d => k_is)
    (case a59d => k_is)
    (case l59d => k_is)
    (case c59d => k_is)
    (case k59d => k_is)
    (case a61d => k_is)
    (case l61d => k_is)
    (case c61d => k_is)
    (case k61d => k_is)
    (case a12d => k_is)
    (case l12d => k_is)
    (case c12d => k_is)
    (case k12d => k_is)
    (case a35d => k_is)
    (case l35d => k_is)
    (case c35d => k_is)
    (case k35d => k_is)
    (case a34d => k_is)
    (case l34d => k_is)
    (case c34d => k_is)
    (case k34d => k_is)
    (case a10d => k_is)
    (case l10d => k_is)
    (case c10d => k_is)
    (case k10d => k_is)
    (case a11d => k_is)
    (case l11d => k_is)
    (case c11d => k_is)
    (case k11d => k_is)
    (case a33d => k_is)
    (case l33d => k_is)
    (case c33d => k_is)
    (case k33d => k_is)
    (case a36d => k_is)
    (case l36d => k_is)
    (case c36d => k_is)
    (case k36d => k_is)
    (case a16d => k_is)
    (case l16d => k_is)
    (case c16d => k_is)
    (case k16d => k_is)
    (case a15d => k_is)
    (case l15d => k_is)
    (case c15d => k_is)
    (case k15d => k_is)
    (case a14d => k_is)
    (case l14d => k_is)
    (case c14d => k_is)
    (case k14d => k_is)
    (case a_Walks___init__d => k_is)
    (case i_Walks___init__d => k_is)
    (case l_Walks___init__d => k_is)
    (case c_Walks___init__d => k_is)
    (case k_Walks___init__d => k_is)
    (case a_Program___init__d => k_is)
    (case i_Program___init__d => k_is)
    (case l_Program___init__d => k_is)
    (case c_Program___init__d => k_is)
    (case k_Program___init__d => k_is)
    (case a60d => k_is)
    (case l60d => k_is)
    (case c60d => k_is)
    (case k60d => k_is)
    (case a38d => k_is)
    (case l38d => k_is)
    (case c38d => k_is)
    (case k38d => k_is)
    (case a_Program_placesd => k_is)
    (case i_Program_placesd => k_is)
    (case l_Program_placesd => k_is)
    (case c_Program_placesd => k_is)
    (case k_Program_placesd => k_is)
    (case a_Program_movesd => k_is)
    (case i_Program_movesd => k_is)
    (case l_Program_movesd => k_is)
    (case c_Program_movesd => k_is)
    (case k_Program_movesd => k_is)
    (case a45d => k_is)
    (case l45d => k_is)
    (case c45d => k_is)
    (case k45d => k_is)
    (case a_Program___eq__d => k_is)
    (case i_Program___eq__d => k_is)
    (case l_Program___eq__d => k_is)
    (case c_Program___eq__d => k_is)
    (case k_Program___eq__d => k_is)
    (case a62d => k_is)
    (case l62d => k_is)
    (case c62d => k_is)
    (case k62d => k_is)
    (case a47d => k_is)
    (case l47d => k_is)
    (case c47d => k_is)
    (case k47d => k_is)
    (case a50d => k_is)
    (case l50d => k_is)
    (case c50d => k_is)
    (case k50d => k_is)
    (case a51d => k_is)
    (case l51d => k_is)
    (case c51d => k_is)
    (case k51d => k_is)
    (case a49d => k_is)
    (case l49d => k_is)
    (case c49d => k_is)
    (case k49d => k_is)
    (case a48d => k_is)
    (case l48d => k_is)
    (case c48d => k_is)
    (case k48d => k_is)
    (case a52d => k_is)
    (case l52d => k_is)
    (case c52d => k_is)
    (case k52d => k_is)
    (case a46d => k_is)
    (case l46d => k_is)
    (case c46d => k_is)
    (case k46d => k_is)
    (case a63d => k_is)
    (case l63d => k_is)
    (case c63d => k_is)
    (case k63d => k_is)
