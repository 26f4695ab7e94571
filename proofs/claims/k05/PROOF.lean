import PyProof.Rows.All
import Wide.All
import OpenK.AllK
import Wide.FinOn
import Lean
import PyProof.EqAt
import PyProof.EqKinds
import PyProof.TupleCall
import PyProof.Rows.SortBase
import KE.KSortTup
import PySem.Challenge.RW_chasefloor_k05_whole_chased_by_plan
import KE.KRevSl
import KE.KTryMore
import PyProof.ExcArgsOwn
import PyProof.Rows.RegFStrParts
set_option linter.all false
namespace L2
theorem em1_1 {τ0 τ1 : Sort _} {A0 : τ0 → Prop} {B : τ0 → τ1 → Prop} {v0 : τ0} (h0 : A0 v0) (x0 : τ1) (h : B v0 x0) : ∃ v0, A0 v0 ∧ ∃ x0, B v0 x0 := ⟨v0, h0, x0, h⟩
theorem em1_2 {τ0 τ1 τ2 : Sort _} {A0 : τ0 → Prop} {B : τ0 → τ1 → τ2 → Prop} {v0 : τ0} (h0 : A0 v0) (x0 : τ1) (x1 : τ2) (h : B v0 x0 x1) : ∃ v0, A0 v0 ∧ ∃ x0 x1, B v0 x0 x1 := ⟨v0, h0, x0, x1, h⟩
theorem em1_3 {τ0 τ1 τ2 τ3 : Sort _} {A0 : τ0 → Prop} {B : τ0 → τ1 → τ2 → τ3 → Prop} {v0 : τ0} (h0 : A0 v0) (x0 : τ1) (x1 : τ2) (x2 : τ3) (h : B v0 x0 x1 x2) : ∃ v0, A0 v0 ∧ ∃ x0 x1 x2, B v0 x0 x1 x2 := ⟨v0, h0, x0, x1, x2, h⟩
theorem em1_4 {τ0 τ1 τ2 τ3 τ4 : Sort _} {A0 : τ0 → Prop} {B : τ0 → τ1 → τ2 → τ3 → τ4 → Prop} {v0 : τ0} (h0 : A0 v0) (x0 : τ1) (x1 : τ2) (x2 : τ3) (x3 : τ4) (h : B v0 x0 x1 x2 x3) : ∃ v0, A0 v0 ∧ ∃ x0 x1 x2 x3, B v0 x0 x1 x2 x3 := ⟨v0, h0, x0, x1, x2, x3, h⟩
theorem em1_5 {τ0 τ1 τ2 τ3 τ4 τ5 : Sort _} {A0 : τ0 → Prop} {B : τ0 → τ1 → τ2 → τ3 → τ4 → τ5 → Prop} {v0 : τ0} (h0 : A0 v0) (x0 : τ1) (x1 : τ2) (x2 : τ3) (x3 : τ4) (x4 : τ5) (h : B v0 x0 x1 x2 x3 x4) : ∃ v0, A0 v0 ∧ ∃ x0 x1 x2 x3 x4, B v0 x0 x1 x2 x3 x4 := ⟨v0, h0, x0, x1, x2, x3, x4, h⟩
theorem em1_6 {τ0 τ1 τ2 τ3 τ4 τ5 τ6 : Sort _} {A0 : τ0 → Prop} {B : τ0 → τ1 → τ2 → τ3 → τ4 → τ5 → τ6 → Prop} {v0 : τ0} (h0 : A0 v0) (x0 : τ1) (x1 : τ2) (x2 : τ3) (x3 : τ4) (x4 : τ5) (x5 : τ6) (h : B v0 x0 x1 x2 x3 x4 x5) : ∃ v0, A0 v0 ∧ ∃ x0 x1 x2 x3 x4 x5, B v0 x0 x1 x2 x3 x4 x5 := ⟨v0, h0, x0, x1, x2, x3, x4, x5, h⟩
theorem em2_2 {τ0 τ1 τ2 τ3 : Sort _} {A0 : τ0 → Prop} {A1 : τ0 → τ1 → Prop} {B : τ0 → τ1 → τ2 → τ3 → Prop} {v0 : τ0} {v1 : τ1} (h0 : A0 v0) (h1 : A1 v0 v1) (x0 : τ2) (x1 : τ3) (h : B v0 v1 x0 x1) : ∃ v0, A0 v0 ∧ ∃ v1, A1 v0 v1 ∧ ∃ x0 x1, B v0 v1 x0 x1 := ⟨v0, h0, v1, h1, x0, x1, h⟩
theorem em2_3 {τ0 τ1 τ2 τ3 τ4 : Sort _} {A0 : τ0 → Prop} {A1 : τ0 → τ1 → Prop} {B : τ0 → τ1 → τ2 → τ3 → τ4 → Prop} {v0 : τ0} {v1 : τ1} (h0 : A0 v0) (h1 : A1 v0 v1) (x0 : τ2) (x1 : τ3) (x2 : τ4) (h : B v0 v1 x0 x1 x2) : ∃ v0, A0 v0 ∧ ∃ v1, A1 v0 v1 ∧ ∃ x0 x1 x2, B v0 v1 x0 x1 x2 := ⟨v0, h0, v1, h1, x0, x1, x2, h⟩
theorem em2_4 {τ0 τ1 τ2 τ3 τ4 τ5 : Sort _} {A0 : τ0 → Prop} {A1 : τ0 → τ1 → Prop} {B : τ0 → τ1 → τ2 → τ3 → τ4 → τ5 → Prop} {v0 : τ0} {v1 : τ1} (h0 : A0 v0) (h1 : A1 v0 v1) (x0 : τ2) (x1 : τ3) (x2 : τ4) (x3 : τ5) (h : B v0 v1 x0 x1 x2 x3) : ∃ v0, A0 v0 ∧ ∃ v1, A1 v0 v1 ∧ ∃ x0 x1 x2 x3, B v0 v1 x0 x1 x2 x3 := ⟨v0, h0, v1, h1, x0, x1, x2, x3, h⟩
theorem em2_5 {τ0 τ1 τ2 τ3 τ4 τ5 τ6 : Sort _} {A0 : τ0 → Prop} {A1 : τ0 → τ1 → Prop} {B : τ0 → τ1 → τ2 → τ3 → τ4 → τ5 → τ6 → Prop} {v0 : τ0} {v1 : τ1} (h0 : A0 v0) (h1 : A1 v0 v1) (x0 : τ2) (x1 : τ3) (x2 : τ4) (x3 : τ5) (x4 : τ6) (h : B v0 v1 x0 x1 x2 x3 x4) : ∃ v0, A0 v0 ∧ ∃ v1, A1 v0 v1 ∧ ∃ x0 x1 x2 x3 x4, B v0 v1 x0 x1 x2 x3 x4 := ⟨v0, h0, v1, h1, x0, x1, x2, x3, x4, h⟩
theorem em3_2 {τ0 τ1 τ2 τ3 τ4 : Sort _} {A0 : τ0 → Prop} {A1 : τ0 → τ1 → Prop} {A2 : τ0 → τ1 → τ2 → Prop} {B : τ0 → τ1 → τ2 → τ3 → τ4 → Prop} {v0 : τ0} {v1 : τ1} {v2 : τ2} (h0 : A0 v0) (h1 : A1 v0 v1) (h2 : A2 v0 v1 v2) (x0 : τ3) (x1 : τ4) (h : B v0 v1 v2 x0 x1) : ∃ v0, A0 v0 ∧ ∃ v1, A1 v0 v1 ∧ ∃ v2, A2 v0 v1 v2 ∧ ∃ x0 x1, B v0 v1 v2 x0 x1 := ⟨v0, h0, v1, h1, v2, h2, x0, x1, h⟩
theorem em3_3 {τ0 τ1 τ2 τ3 τ4 τ5 : Sort _} {A0 : τ0 → Prop} {A1 : τ0 → τ1 → Prop} {A2 : τ0 → τ1 → τ2 → Prop} {B : τ0 → τ1 → τ2 → τ3 → τ4 → τ5 → Prop} {v0 : τ0} {v1 : τ1} {v2 : τ2} (h0 : A0 v0) (h1 : A1 v0 v1) (h2 : A2 v0 v1 v2) (x0 : τ3) (x1 : τ4) (x2 : τ5) (h : B v0 v1 v2 x0 x1 x2) : ∃ v0, A0 v0 ∧ ∃ v1, A1 v0 v1 ∧ ∃ v2, A2 v0 v1 v2 ∧ ∃ x0 x1 x2, B v0 v1 v2 x0 x1 x2 := ⟨v0, h0, v1, h1, v2, h2, x0, x1, x2, h⟩
theorem em3_4 {τ0 τ1 τ2 τ3 τ4 τ5 τ6 : Sort _} {A0 : τ0 → Prop} {A1 : τ0 → τ1 → Prop} {A2 : τ0 → τ1 → τ2 → Prop} {B : τ0 → τ1 → τ2 → τ3 → τ4 → τ5 → τ6 → Prop} {v0 : τ0} {v1 : τ1} {v2 : τ2} (h0 : A0 v0) (h1 : A1 v0 v1) (h2 : A2 v0 v1 v2) (x0 : τ3) (x1 : τ4) (x2 : τ5) (x3 : τ6) (h : B v0 v1 v2 x0 x1 x2 x3) : ∃ v0, A0 v0 ∧ ∃ v1, A1 v0 v1 ∧ ∃ v2, A2 v0 v1 v2 ∧ ∃ x0 x1 x2 x3, B v0 v1 v2 x0 x1 x2 x3 := ⟨v0, h0, v1, h1, v2, h2, x0, x1, x2, x3, h⟩
theorem em3_5 {τ0 τ1 τ2 τ3 τ4 τ5 τ6 τ7 : Sort _} {A0 : τ0 → Prop} {A1 : τ0 → τ1 → Prop} {A2 : τ0 → τ1 → τ2 → Prop} {B : τ0 → τ1 → τ2 → τ3 → τ4 → τ5 → τ6 → τ7 → Prop} {v0 : τ0} {v1 : τ1} {v2 : τ2} (h0 : A0 v0) (h1 : A1 v0 v1) (h2 : A2 v0 v1 v2) (x0 : τ3) (x1 : τ4) (x2 : τ5) (x3 : τ6) (x4 : τ7) (h : B v0 v1 v2 x0 x1 x2 x3 x4) : ∃ v0, A0 v0 ∧ ∃ v1, A1 v0 v1 ∧ ∃ v2, A2 v0 v1 v2 ∧ ∃ x0 x1 x2 x3 x4, B v0 v1 v2 x0 x1 x2 x3 x4 := ⟨v0, h0, v1, h1, v2, h2, x0, x1, x2, x3, x4, h⟩
theorem em3_6 {τ0 τ1 τ2 τ3 τ4 τ5 τ6 τ7 τ8 : Sort _} {A0 : τ0 → Prop} {A1 : τ0 → τ1 → Prop} {A2 : τ0 → τ1 → τ2 → Prop} {B : τ0 → τ1 → τ2 → τ3 → τ4 → τ5 → τ6 → τ7 → τ8 → Prop} {v0 : τ0} {v1 : τ1} {v2 : τ2} (h0 : A0 v0) (h1 : A1 v0 v1) (h2 : A2 v0 v1 v2) (x0 : τ3) (x1 : τ4) (x2 : τ5) (x3 : τ6) (x4 : τ7) (x5 : τ8) (h : B v0 v1 v2 x0 x1 x2 x3 x4 x5) : ∃ v0, A0 v0 ∧ ∃ v1, A1 v0 v1 ∧ ∃ v2, A2 v0 v1 v2 ∧ ∃ x0 x1 x2 x3 x4 x5, B v0 v1 v2 x0 x1 x2 x3 x4 x5 := ⟨v0, h0, v1, h1, v2, h2, x0, x1, x2, x3, x4, x5, h⟩
theorem em4_4 {τ0 τ1 τ2 τ3 τ4 τ5 τ6 τ7 : Sort _} {A0 : τ0 → Prop} {A1 : τ0 → τ1 → Prop} {A2 : τ0 → τ1 → τ2 → Prop} {A3 : τ0 → τ1 → τ2 → τ3 → Prop} {B : τ0 → τ1 → τ2 → τ3 → τ4 → τ5 → τ6 → τ7 → Prop} {v0 : τ0} {v1 : τ1} {v2 : τ2} {v3 : τ3} (h0 : A0 v0) (h1 : A1 v0 v1) (h2 : A2 v0 v1 v2) (h3 : A3 v0 v1 v2 v3) (x0 : τ4) (x1 : τ5) (x2 : τ6) (x3 : τ7) (h : B v0 v1 v2 v3 x0 x1 x2 x3) : ∃ v0, A0 v0 ∧ ∃ v1, A1 v0 v1 ∧ ∃ v2, A2 v0 v1 v2 ∧ ∃ v3, A3 v0 v1 v2 v3 ∧ ∃ x0 x1 x2 x3, B v0 v1 v2 v3 x0 x1 x2 x3 := ⟨v0, h0, v1, h1, v2, h2, v3, h3, x0, x1, x2, x3, h⟩
end L2
set_option linter.all false
namespace L2
theorem ea {α : Sort _} {A B : α → Prop} {w : α} (h1 : A w) (h2 : B w) : ∃ v, A v ∧ B v := ⟨w, h1, h2⟩
theorem ea2 {α β : Sort _} {A : α → Prop} {B C : α → β → Prop} {w : α} {x : β} (h1 : A w) (h2 : B w x) (h3 : C w x) : ∃ v, A v ∧ ∃ y, B v y ∧ C v y := ⟨w, h1, x, h2, h3⟩
theorem ea3 {α β γ : Sort _} {A : α → Prop} {B : α → β → Prop} {C D : α → β → γ → Prop} {w : α} {x : β} {y : γ} (h1 : A w) (h2 : B w x) (h3 : C w x y) (h4 : D w x y) : ∃ a, A a ∧ ∃ b, B a b ∧ ∃ c, C a b c ∧ D a b c := ⟨w, h1, x, h2, y, h3, h4⟩
theorem ea4 {α β γ δ : Sort _} {A : α → Prop} {B : α → β → Prop} {C : α → β → γ → Prop} {D E : α → β → γ → δ → Prop} {w : α} {x : β} {y : γ} {z : δ} (h1 : A w) (h2 : B w x) (h3 : C w x y) (h4 : D w x y z) (h5 : E w x y z) : ∃ a, A a ∧ ∃ b, B a b ∧ ∃ c, C a b c ∧ ∃ d, D a b c d ∧ E a b c d := ⟨w, h1, x, h2, y, h3, z, h4, h5⟩
end L2
namespace L2
theorem eb {α β : Sort _} {A B C : α → β → Prop} {w : α} {x : β} (h1 : A w x) (h2 : B w x) (h3 : C w x) : ∃ v y, A v y ∧ B v y ∧ C v y := ⟨w, x, h1, h2, h3⟩
theorem ex2 {α β : Sort _} {A : α → β → Prop} (a : α) (b : β) (h : A a b) : ∃ a b, A a b := ⟨a, b, h⟩
theorem ex3 {α β γ : Sort _} {A : α → β → γ → Prop} (a : α) (b : β) (c : γ) (h : A a b c) : ∃ a b c, A a b c := ⟨a, b, c, h⟩
theorem ex4 {α β γ δ : Sort _} {A : α → β → γ → δ → Prop} (a : α) (b : β) (c : γ) (d : δ) (h : A a b c d) : ∃ a b c d, A a b c d := ⟨a, b, c, d, h⟩
theorem ex5 {α β γ δ ε : Sort _} {A : α → β → γ → δ → ε → Prop} (a : α) (b : β) (c : γ) (d : δ) (e : ε) (h : A a b c d e) : ∃ a b c d e, A a b c d e := ⟨a, b, c, d, e, h⟩
theorem ex6 {α β γ δ ε ζ : Sort _} {A : α → β → γ → δ → ε → ζ → Prop} (a : α) (b : β) (c : γ) (d : δ) (e : ε) (f : ζ) (h : A a b c d e f) : ∃ a b c d e f, A a b c d e f := ⟨a, b, c, d, e, f, h⟩
end L2
set_option Elab.async false
set_option linter.all false
set_option maxRecDepth 100000
namespace L2
open PySem PySem.Spec PyProof.Rows

noncomputable abbrev Key := Sum Int Str
noncomputable def keyIs : Key → Value → Bool
  | .inl k, v => Value.isInt k v
  | .inr x, v => Value.isStrOf x v
noncomputable def keyH (w : World) : Key → Int
  | .inl k => hashInt k
  | .inr x => hashStr w x
theorem keyIs_shape : ∀ {k : Key} {v : Value}, keyIs k v = true → (∃ i t, k = Sum.inl i ∧ v = Value.int i t) ∨ (∃ x t, k = Sum.inr x ∧ v = Value.str x t)
  | .inl i, v, h => by
    obtain ⟨t, e⟩ := Value.isInt_shape (k := i) (v := v) h
    exact .inl (L2.ex2 i t ⟨rfl, e⟩)
  | .inr x, v, h => by
    obtain ⟨t, e⟩ := Value.isStrOf_shape (x := x) (v := v) h
    exact .inr (L2.ex2 x t ⟨rfl, e⟩)
theorem keyIs_int (i : Int) (t : Tok) : keyIs (.inl i) (.int i t) = true := by simp [keyIs, Value.isInt]
theorem keyIs_str (x : Str) (t : Tok) : keyIs (.inr x) (.str x t) = true := by simp [keyIs, Value.isStrOf]
theorem key_ll (a b : Int) : decide ((Sum.inl a : Key) = Sum.inl b) = (a == b) := by
  by_cases e : a = b
  · subst e; simp
  · have h : ¬ (Sum.inl a : Key) = Sum.inl b := fun q => e (Sum.inl.inj q)
    rw [decide_eq_false h]
    exact (beq_eq_false_iff_ne.mpr e).symm
theorem key_rr (a b : Str) : decide ((Sum.inr a : Key) = Sum.inr b) = decide (a = b) := by
  by_cases e : a = b
  · subst e; simp
  · have h : ¬ (Sum.inr a : Key) = Sum.inr b := fun q => e (Sum.inr.inj q)
    rw [decide_eq_false h, decide_eq_false e]
theorem key_lr (a : Int) (b : Str) : decide ((Sum.inl a : Key) = Sum.inr b) = false := decide_eq_false (fun q => nomatch q)
theorem key_rl (a : Str) (b : Int) : decide ((Sum.inr a : Key) = Sum.inl b) = false := decide_eq_false (fun q => nomatch q)

noncomputable def mixKind (prog : Program) (w : World) : PySem.KeyKind prog w Key where
  is := keyIs
  hash := keyH w
  inj := fun v a b ha hb => by
    rcases keyIs_shape ha with ⟨i, t, rfl, rfl⟩ | ⟨x, t, rfl, rfl⟩
    · rcases keyIs_shape hb with ⟨j, u, rfl, e⟩ | ⟨y, u, rfl, e⟩
      · injection e with e1 _; rw [e1]
      · exact nomatch e
    · rcases keyIs_shape hb with ⟨j, u, rfl, e⟩ | ⟨y, u, rfl, e⟩
      · exact nomatch e
      · injection e with e1 _; rw [e1]
  byValue := fun k v h => by
    rcases keyIs_shape h with ⟨i, t, rfl, rfl⟩ | ⟨x, t, rfl, rfl⟩ <;> rfl
  pyHash := fun hv h => by
    rcases keyIs_shape hv with ⟨i, t, rfl, rfl⟩ | ⟨x, t, rfl, rfl⟩
    · exact wpAny_pyHash_int h
    · exact wpAny_pyHash_str h
  eqBool := fun hu hv h => by
    rcases keyIs_shape hu with ⟨i, t, rfl, rfl⟩ | ⟨x, t, rfl, rfl⟩
    · rcases keyIs_shape hv with ⟨j, u, rfl, rfl⟩ | ⟨y, u, rfl, rfl⟩
      · rw [key_ll] at h; exact wpAny_eqBool_int h
      · rw [key_lr] at h; exact SeqAt.EqAt.int_str i t y u _ _ _ _ h
    · rcases keyIs_shape hv with ⟨j, u, rfl, rfl⟩ | ⟨y, u, rfl, rfl⟩
      · rw [key_rl] at h; exact SeqAt.EqAt.str_int x t j u _ _ _ _ h
      · rw [key_rr] at h; exact wpAny_eqBool_str h
  «strs» := fun k x t v h => by
    rcases keyIs_shape h with ⟨i, u, rfl, e⟩ | ⟨y, u, rfl, e⟩
    · exact nomatch e
    · injection e with e1 _
      subst e1
      cases v <;> rfl

theorem mixKind_int (prog : Program) (w : World) (i : Int) (t : Tok) : (mixKind prog w).is (.inl i) (.int i t) = true := keyIs_int i t
theorem mixKind_str (prog : Program) (w : World) (x : Str) (t : Tok) : (mixKind prog w).is (.inr x) (.str x t) = true := keyIs_str x t
end L2

namespace L2
open PySem PySem.Spec PyProof.Rows

inductive V where
  | non | bl (b : Bool) | int (i : Int) | str (x : Str) | byt (b : Array UInt8) | flt (b : UInt64) | ref (a : Addr) | ty (n : String)
  deriving DecidableEq

noncomputable def RelV : V → Value → Prop
  | .non, u => u = Value.none
  | .bl b, u => u = Value.bool b
  | .int i, u => ∃ t, u = Value.int i t
  | .str x, u => ∃ t, u = Value.str x t
  | .byt b, u => ∃ t, u = Value.bytes b t
  | .flt b, u => ∃ t, u = Value.float b t
  | .ref a, u => u = Value.ref a
  | .ty n, u => u = Value.type n

noncomputable abbrev Vals : List V → List Value → Prop := Paired RelV
theorem Vals.length {xs : List V} {us : List Value} (r : Vals xs us) : xs.length = us.length := Paired.length r
theorem Vals.get : ∀ {xs : List V} {us : List Value} {i : Nat} {x : V}, Vals xs us → xs[i]? = some x → ∃ u, us[i]? = some u ∧ RelV x u
  | _, _, _, _, .nil, e => by simp at e
  | _, _, 0, _, .cons r _, e => by simp at e; subst e; exact ⟨_, rfl, r⟩
  | _, _, i + 1, x, .cons _ t, e => by
    obtain ⟨u, h1, h2⟩ := Vals.get (i := i) (x := x) t (by simpa using e)
    exact ⟨u, by simpa using h1, h2⟩
theorem Vals.append : ∀ {xs ys : List V} {us ws : List Value}, Vals xs us → Vals ys ws → Vals (xs ++ ys) (us ++ ws)
  | _, _, _, _, .nil, s => s
  | _, _, _, _, .cons r t, s => .cons r (Vals.append t s)
noncomputable def RelO : Option V → Option Value → Prop
  | some v, some u => RelV v u
  | none, none => True
  | _, _ => False
noncomputable def KV {κ : Type} : List (κ × V) → List (κ × Value) → Prop := Paired fun (p : κ × V) (q : κ × Value) => p.1 = q.1 ∧ RelV p.2 q.2

noncomputable def kV : Key → V
  | .inl i => .int i
  | .inr x => .str x

inductive HO where
  /-- a list -/
  | lst (xs : List V)
  /-- a tuple (never changes) -/
  | tup (xs : List V)
  /-- a dict whose keys are ints and texts; one whose keys are tuples of ints and texts (the empty one is both) -/
  | dK (kvs : List (Key × V)) | dT (kvs : List (List Key × V))
  /-- a set of ints: its members, its size -/
  | set (S : Int → Bool) (n : Nat)
  /-- an instance of the class at C, its dict at dx, its attributes -/
  | ins (C dx : Addr) (fs : List (Str × V))
  /-- the dict of the instance at x -/
  | own (x : Addr)
  /-- the dict of an exception -/
  | xd (fs : List (Str × V))
  /-- a bound method, f of x -/
  | met (f x : Addr)
  /-- a range object lo, lo + 1, .. below hi -/
  | rng (lo hi : Int)
  /-- a thing that is known to the object (the script; a dict while a loop walks it): read, never written while it is so -/
  | frz (o : Obj) (u : HO)
  /-- a code object's table -/
  | tbl (ps : Array Value)
  /-- any other thing, by what is true of its one object (a def of one's own: SetO a S n := HO.ext fun h => ..) -/
  | ext (φ : Heap → Prop)

noncomputable abbrev Hp := Addr → Option HO
noncomputable def upd (H : Hp) (a : Addr) (o : HO) : Hp := fun b => if b = a then some o else H b
theorem upd_same {H : Hp} {a : Addr} {o : HO} : upd H a o a = some o := by unfold upd; rw [if_pos rfl]
theorem upd_ne {H : Hp} {a b : Addr} {o : HO} (h : b ≠ a) : upd H a o b = H b := by unfold upd; rw [if_neg h]
theorem upd_upd {H : Hp} {a : Addr} {o u : HO} : upd (upd H a o) a u = upd H a u := by
  funext b; unfold upd; split <;> rfl
theorem ne_of {H : Hp} {a b : Addr} {o u : HO} (h : H a = some o) (h' : H b = some u) (d : o ≠ u) : a ≠ b := by
  intro e; subst e; rw [h] at h'; exact d (Option.some.inj h')
theorem ne_of_none {H : Hp} {a b : Addr} {o : HO} (h : H a = some o) (h' : H b = none) : a ≠ b := by
  intro e; subst e; rw [h] at h'; cases h'

section
variable (P : Program) (w : World)
noncomputable def ObjOk (H : Hp) (h : Heap) (a : Addr) : HO → Prop
  | .lst xs => xs.length ≤ sizeLine ∧ ∃ (its : List Value) (n : Nat), Vals xs its ∧ h.get? a = some { cls := .type "list", data := .seq its.toArray n }
  | .tup xs => xs.length ≤ sizeLine ∧ ∃ its : List Value, Vals xs its ∧ IsTup h a its.toArray
  | .dK kvs => kvs.length ≤ sizeLine ∧ (a == sysModules) = false ∧ ∃ vs, KV kvs vs ∧ h.DictOf (mixKind P w) a vs
  | .dT kvs => kvs.length ≤ sizeLine ∧ (a == sysModules) = false ∧ ∃ xs : List (List Key × Addr × Value),
      Paired (fun (p : List Key × V) (q : List Key × Addr × Value) => p.1 = q.1 ∧ H q.2.1 = some (.tup (p.1.map kV)) ∧ RelV p.2 q.2.2) kvs xs ∧
      ∃ o es ep, h.get? a = some o ∧ o.ExactDict ∧ o.data = .dict es ep ∧ es.toList = xs.map (entryOfKey (tupleKind (mixKind P w))) ∧ (xs.map (·.1)).Nodup
  | .set S n => h.SetOf (intKind P w) a S n
  | .ins C dx fs => H dx = some (.own a) ∧ fs.length ≤ 1000 ∧ dx ≠ a ∧ h.get? a = some (PySem.W.instObj C dx) ∧
      ∃ mA, h.Ns1 dx mA ∧ (∀ f, RelO (fs.lookup f) (mA f)) ∧ PySem.Within mA (fs.map (·.1))
  | .own _ => ∃ o, h.get? a = some o
  | .xd fs => ∃ mA, h.Ns1 a mA ∧ ∀ f, RelO (fs.lookup f) (mA f)
  | .rng lo hi => ∃ t u v, h.get? a = some { cls := .type "range", data := .fields #[.int lo t, .int hi u, .int 1 v] }
  | .frz o u => h.get? a = some o ∧ ObjOk H h a u
  | .tbl ps => h.get? a = some { cls := .none, data := .fields ps }
  | .met f x => h.get? a = some (PySem.W.methodObj (.ref f) (.ref x))
  | .ext φ => φ h ∧ (∃ o, h.get? a = some o) ∧ ∀ h1 h2 : Heap, φ h1 → (∀ o, h1.get? a = some o → h2.get? a = some o) → φ h2
noncomputable def HOk (H : Hp) (h : Heap) : Prop := ∀ a o, H a = some o → ObjOk P w H h a o
end

section
variable {P : Program} {w : World} {H H' : Hp} {h h' : Heap} {a : Addr} {o : HO}
theorem ObjOk.lt (x : ObjOk P w H h a o) : a < h.objs.size := by
  cases o with
  | lst xs => obtain ⟨_, _, _, _, e⟩ := x; exact Heap.lt_size e
  | tup xs => obtain ⟨_, _, _, p⟩ := x; exact p.lt
  | dK kvs => obtain ⟨_, _, _, _, o, _, _, e, _⟩ := x; exact Heap.lt_size e
  | dT kvs => obtain ⟨_, _, _, _, o, _, _, e, _⟩ := x; exact Heap.lt_size e
  | set S n => obtain ⟨o, _, _, _, e, _⟩ := x; exact Heap.lt_size e
  | ins C dx fs => obtain ⟨_, _, _, e, _⟩ := x; exact Heap.lt_size e
  | own y => obtain ⟨_, e⟩ := x; exact Heap.lt_size e
  | xd fs => obtain ⟨_, ⟨_, _, _, e, _⟩, _⟩ := x; exact Heap.lt_size e
  | rng lo hi => obtain ⟨_, _, _, e⟩ := x; exact Heap.lt_size e
  | frz ob u => obtain ⟨e, _⟩ := x; exact Heap.lt_size e
  | tbl ps => exact Heap.lt_size (show h.get? a = some _ from x)
  | met f y => exact Heap.lt_size (show h.get? a = some _ from x)
  | ext φ => obtain ⟨_, ⟨_, e⟩, _⟩ := x; exact Heap.lt_size e
theorem Paired.mapP {α β : Type} {F G : α → β → Prop} : ∀ {l₁ : List α} {l₂ : List β}, Paired F l₁ l₂ → (∀ a b, F a b → G a b) → Paired G l₁ l₂
  | _, _, .nil, _ => .nil
  | _, _, .cons r t, f => .cons (f _ _ r) (Paired.mapP t f)
theorem ObjOk.stay (x : ObjOk P w H h a o) (k : ∀ b u, (b = a ∨ H b = some (.own a)) → h.get? b = some u → h'.get? b = some u)
    (ho : ∀ b, H b = some (.own a) → H' b = some (.own a)) (ht : ∀ b xs, H b = some (.tup xs) → H' b = some (.tup xs)) : ObjOk P w H' h' a o := by
  induction o with
  | lst xs => obtain ⟨z, its, n, r, e⟩ := x; exact ⟨z, its, n, r, k _ _ (.inl rfl) e⟩
  | tup xs => obtain ⟨z, its, r, ob, e, c⟩ := x; exact ⟨z, its, r, ob, k _ _ (.inl rfl) e, c⟩
  | dK kvs => obtain ⟨z, y, vs, r, ob, es, ep, e, c⟩ := x; exact ⟨z, y, vs, r, ob, es, ep, k _ _ (.inl rfl) e, c⟩
  | dT kvs =>
    obtain ⟨z, y, xs, r, ob, es, ep, e, c⟩ := x
    exact ⟨z, y, xs, Paired.mapP r fun p q z => ⟨z.1, ht _ _ z.2.1, z.2.2⟩, ob, es, ep, k _ _ (.inl rfl) e, c⟩
  | set S n => obtain ⟨ob, es, ep, t, e, c⟩ := x; exact ⟨ob, es, ep, t, k _ _ (.inl rfl) e, c⟩
  | ins C dx fs =>
    obtain ⟨d, z, ne, e, mA, ⟨od, es, ep, e2, c⟩, r⟩ := x
    exact ⟨ho _ d, z, ne, k _ _ (.inl rfl) e, mA, ⟨od, es, ep, k _ _ (.inr d) e2, c⟩, r⟩
  | own y => obtain ⟨ob, e⟩ := x; exact ⟨ob, k _ _ (.inl rfl) e⟩
  | xd fs => obtain ⟨mA, ⟨od, es, ep, e, c⟩, r⟩ := x; exact ⟨mA, ⟨od, es, ep, k _ _ (.inl rfl) e, c⟩, r⟩
  | rng lo hi => obtain ⟨t, u, v, e⟩ := x; exact ⟨t, u, v, k _ _ (.inl rfl) e⟩
  | frz ob u ih => obtain ⟨e, q⟩ := x; exact ⟨k _ _ (.inl rfl) e, ih q⟩
  | tbl ps =>
    have e : h.get? a = some { cls := .none, data := .fields ps } := x
    show h'.get? a = some { cls := .none, data := .fields ps }
    exact k a _ (.inl rfl) e
  | met f y =>
    have e : h.get? a = some (PySem.W.methodObj (.ref f) (.ref y)) := x
    show h'.get? a = some (PySem.W.methodObj (.ref f) (.ref y))
    exact k a _ (.inl rfl) e
  | ext φ => obtain ⟨p, ⟨o, e⟩, st⟩ := x; exact ⟨st _ _ p fun o q => k _ _ (.inl rfl) q, ⟨o, k _ _ (.inl rfl) e⟩, st⟩
theorem HOk.lt (x : HOk P w H h) (e : H a = some o) : a < h.objs.size := (x a o e).lt
theorem HOk.fresh (x : HOk P w H h) (e : h.objs.size ≤ a) : H a = none := by
  cases q : H a with
  | none => rfl
  | some u => exact absurd (Nat.lt_of_lt_of_le (x.lt q) e) (Nat.lt_irrefl _)
theorem HOk.kept (x : HOk P w H h) (k : ∀ b u, h.get? b = some u → h'.get? b = some u) : HOk P w H h' := fun a o e =>
  (x a o e).stay (fun b u _ q => k b u q) (fun _ q => q) fun _ _ q => q
theorem HOk.laid (x : HOk P w H h) (k : ∀ b u, h.get? b = some u → h'.get? b = some u) (hp : h.objs.size ≤ a) (new : ObjOk P w (upd H a o) h' a o) : HOk P w (upd H a o) h' := fun b u e => by
  have hn := x.fresh hp
  by_cases hb : b = a
  · subst hb; rw [upd_same] at e; cases e; exact new
  · rw [upd_ne hb] at e
    exact (x b u e).stay (fun c v _ q => k c v q) (fun c q => by rw [upd_ne (ne_of_none q hn)]; exact q) fun c xs q => by rw [upd_ne (ne_of_none q hn)]; exact q
end

noncomputable def Rd (H : Hp) (a : Addr) (u : HO) : Prop := H a = some u ∨ ∃ o, H a = some (.frz o u)
theorem Rd.ok {P : Program} {w : World} {H : Hp} {h : Heap} {a : Addr} {u : HO} (r : Rd H a u) (x : HOk P w H h) : ObjOk P w H h a u := by
  rcases r with r | ⟨o, r⟩
  · exact x a u r
  · obtain ⟨_, q⟩ := x a _ r
    exact q
noncomputable def Mut : Option HO → Prop
  | some (.lst _) => True
  | some (.dK _) => True
  | some (.dT _) => True
  | some (.set _ _) => True
  | some (.ins _ _ _) => True
  | some (.ext _) => True
  | _ => False
section
variable {P : Program} {w : World} {H : Hp} {h h' : Heap} {x e : Addr} {o' : HO}
theorem HOk.write (ok : HOk P w H h) (mu : Mut (H x)) (he : e = x ∨ H e = some (.own x)) (k : ∀ b u, b ≠ e → h.get? b = some u → h'.get? b = some u) (heo : ∃ u, h'.get? e = some u)
    (new : ObjOk P w (upd H x o') h' x o') : HOk P w (upd H x o') h' := fun b u q => by
  have nown : ∀ c y, H c = some (.own y) → c ≠ x := fun c y r z => by subst z; rw [r] at mu; exact mu
  have ntup : ∀ c xs, H c = some (.tup xs) → c ≠ x := fun c xs r z => by subst z; rw [r] at mu; exact mu
  by_cases hb : b = x
  · subst hb; rw [upd_same] at q; cases q; exact new
  · rw [upd_ne hb] at q
    by_cases hbe : b = e
    · have q' : H b = some (.own x) := by
        rcases he with z | z
        · exact absurd (hbe.trans z) hb
        · rw [hbe]; exact z
      rw [q] at q'; cases q'
      obtain ⟨v, hv⟩ := heo
      exact ⟨v, by rw [hbe]; exact hv⟩
    · refine (ok b u q).stay (fun c v hc r => k c v ?_ r) (fun c r => by rw [upd_ne (nown c b r)]; exact r) fun c xs r => by rw [upd_ne (ntup c xs r)]; exact r
      rcases hc with rfl | hc
      · exact hbe
      · rintro rfl
        rcases he with z | z
        · exact nown c b hc z
        · rw [hc] at z; cases z; exact hb rfl
end

structure Un (fs ex : List Addr) (H H' : Hp) (h h' : Heap) : Prop where
  keep : ∀ b o, h.get? b = some o → H b = none → b ∉ fs → b ∉ ex → h'.get? b = some o
  slot : ∀ b o, h.get? b = some o → H b = none → b ∈ fs → b ∉ ex → ∃ sl, h'.get? b = some { o with slots := sl }
  free : ∀ b o, h.get? b = some o → H b = none → b ∉ ex → H' b = none
  there : ∀ b o, h.get? b = some o → b ∉ ex → ∃ o', h'.get? b = some o'
  tups : ∀ b xs, H b = some (.tup xs) → H' b = some (.tup xs)
  frzs : ∀ b o u, H b = some (.frz o u) → H' b = some (.frz o u)
  tbls : ∀ b ps, H b = some (.tbl ps) → ∃ more, H' b = some (.tbl (ps ++ more))
section
variable {fs fs' ex ex' : List Addr} {H H1 H2 : Hp} {h h1 h2 h' : Heap} {a x e : Addr} {o : HO}
theorem Un.any (u : Un fs ex H H1 h h1) {b : Addr} {ob : Obj} (q : h.get? b = some ob) (n : H b = none) (hx : b ∉ ex) : ∃ sl, h1.get? b = some { ob with slots := sl } := by
  by_cases hb : b ∈ fs
  · exact u.slot b ob q n hb hx
  · exact ⟨ob.slots, u.keep b ob q n hb hx⟩
theorem Un.kept (k : ∀ b u, h.get? b = some u → h'.get? b = some u) : Un fs ex H H h h' :=
  ⟨fun b ob q _ _ _ => k b ob q, fun b ob q _ _ _ => ⟨ob.slots, k b ob q⟩, fun _ _ _ n _ => n, fun b ob q _ => ⟨ob, k b ob q⟩, fun _ _ q => q, fun _ _ _ q => q, fun _ ps q => ⟨#[], by rw [q]; simp⟩⟩
theorem Un.refl : Un fs ex H H h h := Un.kept fun _ _ q => q
theorem Un.laid (k : ∀ b u, h.get? b = some u → h'.get? b = some u) (hp : h.objs.size ≤ a) (hn : H a = none) : Un fs ex H (upd H a o) h h' where
  keep := fun b u q _ _ _ => k b u q
  slot := fun b u q _ _ _ => ⟨u.slots, k b u q⟩
  free := fun b u q n _ => by rw [upd_ne (Nat.ne_of_lt (Nat.lt_of_lt_of_le (Heap.lt_size q) hp))]; exact n
  there := fun b u q _ => ⟨u, k b u q⟩
  tups := fun b xs q => by rw [upd_ne (ne_of_none q hn)]; exact q
  frzs := fun b u xs q => by rw [upd_ne (ne_of_none q hn)]; exact q
  tbls := fun b ps q => ⟨#[], by rw [upd_ne (ne_of_none q hn), q]; simp⟩
theorem Un.write (mu : Mut (H x)) (he : e = x ∨ H e = some (.own x)) (k : ∀ b u, b ≠ e → h.get? b = some u → h'.get? b = some u) (heo : ∃ u, h'.get? e = some u) : Un fs ex H (upd H x o) h h' := by
  have hx : ∀ b, H b = none → b ≠ x := fun b n z => by subst z; rw [n] at mu; exact mu
  have hb : ∀ b, H b = none → b ≠ e := fun b n z => by
    subst z
    rcases he with r | r
    · exact hx b n r
    · rw [n] at r; cases r
  have hm : ∀ b u, H b = some u → ¬ Mut (some u) → b ≠ x := fun b u q nm z => by subst z; rw [q] at mu; exact nm mu
  refine ⟨fun b u q n _ _ => k b u (hb b n) q, fun b u q n _ _ => ⟨u.slots, k b u (hb b n) q⟩, fun b u q n _ => by rw [upd_ne (hx b n)]; exact n, fun b u q _ => ?_,
    fun b xs q => by rw [upd_ne (hm b _ q fun z => z)]; exact q, fun b u xs q => by rw [upd_ne (hm b _ q fun z => z)]; exact q, fun b ps q => ⟨#[], by rw [upd_ne (hm b _ q fun z => z), q]; simp⟩⟩
  by_cases hbe : b = e
  · subst hbe; exact heo
  · exact ⟨u, k b u hbe q⟩
end

noncomputable def trk (h : Heap) (H : Hp) : List Addr := (List.range h.objs.size).filter fun a => (H a).isSome
noncomputable def hidT (h : Heap) (H : Hp) : Heap := PySem.W.hideAll h (trk h H)
theorem hidT_size (h : Heap) (H : Hp) : (hidT h H).objs.size = h.objs.size := PySem.W.hideAll_size _ _
theorem hidT_get {h : Heap} {H : Hp} {b : Addr} {o : Obj} (e : h.get? b = some o) (n : H b = none) : (hidT h H).get? b = some o :=
  PySem.W.hideAll_get _ e fun hm => by
    have q : (H b).isSome = true := (List.mem_filter.mp hm).2
    rw [n] at q; simp at q
theorem of_hidT {h : Heap} {H : Hp} {b : Addr} {o : Obj} (e : (hidT h H).get? b = some o) : h.get? b = some o ∧ H b = none := by
  have e' : h.get? b = some o := PySem.W.of_hideAll (trk h H) e
  refine ⟨e', ?_⟩
  cases q : H b with
  | none => rfl
  | some x =>
    have hm : b ∈ trk h H := List.mem_filter.mpr ⟨List.mem_range.mpr (Heap.lt_size e'), by simp [q]⟩
    have z : (hidT h H).get? b = none := PySem.W.hideAll_none (trk h H) hm
    rw [z] at e; cases e

noncomputable def allNews (g h : Heap) (L : Addr) : List (Addr × Obj) := (List.range h.objs.size).filterMap fun a => if a = L ∨ (g.get? a).isSome = true then none else (h.get? a).map fun o => (a, o)
theorem mem_allNews {g h : Heap} {L a : Addr} {o : Obj} (h1 : a ≠ L) (h2 : g.get? a = none) (h3 : h.get? a = some o) : (a, o) ∈ allNews g h L :=
  List.mem_filterMap.mpr ⟨a, List.mem_range.mpr (Heap.lt_size h3), by simp [h1, h2, h3]⟩
theorem of_mem_allNews {g h : Heap} {L : Addr} {p : Addr × Obj} (hp : p ∈ allNews g h L) : p.1 ≠ L ∧ g.get? p.1 = none ∧ h.get? p.1 = some p.2 := by
  obtain ⟨b, _, e⟩ := List.mem_filterMap.mp hp
  split at e
  · cases e
  · rename_i hn
    cases q : h.get? b with
    | none => rw [q] at e; simp at e
    | some u =>
      rw [q] at e
      simp only [Option.map_some, Option.some.injEq] at e
      subst e
      refine ⟨fun z => hn (.inl z), ?_, q⟩
      show g.get? b = none
      cases r : g.get? b with
      | none => rfl
      | some v => exact (hn (.inr (by simp [r]))).elim
noncomputable def rest (g h : Heap) (L d : Addr) : List (Addr × Obj) := (allNews g h L).filter fun p => decide (p.1 ≠ d)
theorem news_all {g h : Heap} {L : Addr} : News g L h (allNews g h L) := fun p hp => let ⟨a, b, c⟩ := of_mem_allNews hp; ⟨c, a, b⟩
end L2

namespace L2
open PySem PySem.Spec PyProof.Rows

structure Mod (K : PySem.W.Frag) (mg : Str → Option Value) (base : Heap) : Prop where
  kin : K.In base
  glob : base.Ns mainGlobals mg
  blt : ∃ mb, base.Ns builtinsNs mb ∧ ∀ x : Str, x ≠ "__name__" → mb x = bootBuiltins x
  nolimit : base.NoLimit

structure Cx where
  prog : Program
  w : World
  K : PySem.W.Frag
  mg : Str → Option Value
  base : Heap
  A : Around
  N : List Str
  s₀ : Shared
  H₀ : Hp
  env : Env
  outer : List Env
  stack : List Env
  ex : List Addr
  fn : Str → Bool
  calm : Bool
  pn : List (Addr × Obj)
  xe : Value → Shared → Prop
noncomputable def frs (l : List Env) : List Addr := l.filterMap (·.frame)
noncomputable abbrev Cx.fs (X : Cx) : List Addr := frs X.outer

noncomputable def Vis (sc : Scope) (x : Str) : Prop := sc.names.lookup x = some .local ∨ sc.names.lookup x = some .cell ∨ sc.names.lookup x = some .free
noncomputable def Loc (sc : Scope) (x : Str) : Prop := sc.names.lookup x = some .local ∨ sc.names.lookup x = some .cell
noncomputable def Look (env : Env) (h : Heap) (m : Str → Option Value) (x : Str) (u : Value) : Prop :=
  (env.kindOf x = some .local ∧ m x = some u) ∨ ((env.kindOf x = some .cell ∨ env.kindOf x = some .free) ∧ ∃ c, env.cells.lookup x = some c ∧ h.IsCell c (some u))

structure Cx.Ok (X : Cx) : Prop where
  mod : Mod X.K X.mg X.base
  kind : X.env.scope.kind = .function
  glob : X.env.globals = mainGlobals
  blt : X.env.builtins = builtinsNs
  above : X.s₀.heap.objs.size ≤ X.env.locals
  inj : ∀ x y c, X.env.cells.lookup x = some c → X.env.cells.lookup y = some c → x = y
  has : ∀ x, (X.env.kindOf x = some .cell ∨ X.env.kindOf x = some .free) → ∃ c, X.env.cells.lookup x = some c
  cab : ∀ x c, X.fn x = true → X.env.cells.lookup x = some c → X.s₀.heap.objs.size ≤ c
  hd : X.calm = true → X.A.handled = none
  frames : X.A.frames = some X.stack
  stk : X.stack = X.outer ∨ (X.stack = X.env :: X.outer ∧ X.env.frame = some X.env.locals)
  exf : ∀ b ∈ X.ex, b ≠ X.env.locals ∧ ∀ x c, X.env.cells.lookup x = some c → c ≠ b
  bs : ∀ b o, X.base.get? b = some o → X.s₀.heap.get? b = some o ∧ X.H₀ b = none
  bsz : X.base.objs.size ≤ X.s₀.heap.objs.size
  noex : ∀ b o, X.base.get? b = some o → b ∉ X.ex
  exfs : ∀ b ∈ X.ex, b ∉ X.fs
  funs : X.s₀.heap.FunFrames X.base X.outer
  frf : ∀ b ∈ X.fs, X.H₀ b = none

structure Inv (X : Cx) (pins : List (Addr × Obj)) (σ : List (Option V)) (H : Hp) (s : Shared) : Prop where
  ok : X.Ok
  os : s.os = X.s₀.os
  bare : AllBare s.gens
  base : Un X.fs X.ex X.H₀ H X.s₀.heap s.heap
  loc : ∃ m, s.heap.Ns X.env.locals m ∧ ∀ (i : Nat) (x : Str) (v : V), X.N[i]? = some x → σ[i]? = some (some v) → Vis X.env.scope x → ∃ u, RelV v u ∧ Look X.env s.heap m x u
  cell : ∀ x c, X.env.cells.lookup x = some c → ∃ v, s.heap.IsCell c v
  free : H X.env.locals = none
  freeC : ∀ x c, X.env.cells.lookup x = some c → H c = none
  pin : ∀ p ∈ X.pn ++ pins, s.heap.get? p.1 = some p.2 ∧ H p.1 = none ∧ p.1 ≠ X.env.locals ∧ p.1 ∉ X.fs ∧ ∀ v, p.2.data ≠ .cell v
  hok : HOk X.prog X.w H s.heap
  len : σ.length = X.N.length

section
variable {X : Cx} {pins : List (Addr × Obj)} {σ : List (Option V)} {H H' : Hp} {s : Shared} {h' : Heap}

theorem Cx.Ok.nofr (ok : X.Ok) {b : Addr} {o : Obj} (e : X.base.get? b = some o) : b ∉ X.fs := fun hb => by
  have := (ok.funs.mem hb).1
  rw [e] at this; cases this
theorem Inv.bs (I : Inv X pins σ H s) : ∀ b o, X.base.get? b = some o → s.heap.get? b = some o ∧ H b = none := fun b o e =>
  ⟨I.base.keep b o (I.ok.bs b o e).1 (I.ok.bs b o e).2 (I.ok.nofr e) (I.ok.noex b o e), I.base.free b o (I.ok.bs b o e).1 (I.ok.bs b o e).2 (I.ok.noex b o e)⟩
theorem Inv.bk (I : Inv X pins σ H s) : ∀ b o, X.base.get? b = some o → s.heap.get? b = some o := fun b o e => (I.bs b o e).1
theorem Inv.mod (I : Inv X pins σ H s) : Mod X.K X.mg X.base := I.ok.mod
theorem Inv.kIn (I : Inv X pins σ H s) : X.K.In s.heap := I.ok.mod.kin.keeps I.bk
theorem Inv.fr (I : Inv X pins σ H s) : ∃ m, Fr X.base X.env.locals s.heap m :=
  let ⟨m, hn, _⟩ := I.loc
  ⟨m, hn, I.bk, Nat.le_trans I.ok.bsz I.ok.above⟩
theorem Inv.lt (I : Inv X pins σ H s) : X.env.locals < s.heap.objs.size := let ⟨_, hn, _⟩ := I.loc; hn.lt
theorem Inv.sz (I : Inv X pins σ H s) : X.s₀.heap.objs.size ≤ s.heap.objs.size := Nat.le_trans I.ok.above (Nat.le_of_lt I.lt)
theorem Inv.nofs (I : Inv X pins σ H s) {a : Addr} (h : s.heap.objs.size ≤ a) : a ∉ X.fs := fun hb => by
  obtain ⟨_, o, ho, _⟩ := I.ok.funs.mem hb
  exact absurd (Nat.lt_of_lt_of_le (Heap.lt_size ho) (Nat.le_trans I.sz h)) (Nat.lt_irrefl _)
theorem Inv.cne (I : Inv X pins σ H s) : ∀ x c, X.env.cells.lookup x = some c → c ≠ X.env.locals := fun x c e z => by
  obtain ⟨v, o, ho, hd⟩ := I.cell x c e
  obtain ⟨m, ⟨o', es, ep, ho', hd', _⟩, _⟩ := I.loc
  rw [z, ho'] at ho; cases ho; rw [hd'] at hd; cases hd
theorem Inv.funs (I : Inv X pins σ H s) : s.heap.FunFrames X.base X.outer := by
  have all : ∀ (l : List Env), (∀ b ∈ frs l, b ∈ X.fs) → X.s₀.heap.FunFrames X.base l → s.heap.FunFrames X.base l := by
    intro l
    induction l with
    | nil => intro _ _; trivial
    | cons env r ih =>
      intro hs hl
      obtain ⟨hk, ⟨L, o, hf, hn, ho, hd⟩, hr⟩ := hl
      have hL : L ∈ X.fs := hs L (by unfold frs; rw [List.filterMap_cons, hf]; exact List.mem_cons_self)
      obtain ⟨sl, e⟩ := I.base.slot L o ho (I.ok.frf L hL) hL fun z => I.ok.exfs L z hL
      exact ⟨hk, ⟨L, _, hf, hn, e, hd⟩, ih (fun b hb => hs b (by unfold frs; rw [List.filterMap_cons, hf]; exact List.mem_cons_of_mem _ hb)) hr⟩
  exact all X.outer (fun _ hb => hb) I.ok.funs

theorem Inv.stack (I : Inv X pins σ H s) : s.heap.FunFrames X.base X.stack := by
  rcases I.ok.stk with e | ⟨e, hf⟩
  · rw [e]; exact I.funs
  · rw [e]
    obtain ⟨m, hn, _⟩ := I.loc
    refine .cons (by rw [I.ok.kind]; decide) hf hn ?_ I.funs
    exact Heap.get?_none_of_le (Nat.le_trans I.ok.bsz I.ok.above)
theorem Inv.stkSub (I : Inv X pins σ H s) : ∀ b ∈ frs X.stack, b ∈ X.env.locals :: X.fs := fun b hb => by
  rcases I.ok.stk with e | ⟨e, hf⟩
  · rw [e] at hb; exact List.mem_cons_of_mem _ hb
  · rw [e] at hb
    unfold frs at hb
    rw [List.filterMap_cons, hf] at hb
    exact hb
theorem Inv.stkFree (I : Inv X pins σ H s) : ∀ b ∈ frs X.stack, H b = none := fun b hb => by
  rcases List.mem_cons.mp (I.stkSub b hb) with e | hb
  · rw [e]; exact I.free
  · obtain ⟨_, o, ho, _⟩ := I.ok.funs.mem hb
    exact I.base.free b o ho (I.ok.frf b hb) fun z => I.ok.exfs b z hb

theorem Inv.step {g' : Array GenState} {t' : Nat} {d' : Drawn} {ch : List Addr} (I : Inv X pins σ H s)
    (hch : ∀ b ∈ ch, (b ∈ X.ex ∨ X.s₀.heap.objs.size ≤ b) ∧ b ≠ X.env.locals ∧ (∀ x c, X.env.cells.lookup x = some c → c ≠ b) ∧ ∀ p ∈ X.pn ++ pins, p.1 ≠ b)
    (keep : ∀ b o, b ≠ X.env.locals → b ∉ X.fs → b ∉ ch → s.heap.get? b = some o → H b = none → h'.get? b = some o)
    (slot : ∀ b o, b ≠ X.env.locals → b ∈ X.fs → b ∉ ch → s.heap.get? b = some o → H b = none → ∃ sl, h'.get? b = some { o with slots := sl }) (free : ∀ b o, b ∉ ch → s.heap.get? b = some o → H b = none → H' b = none)
    (there : ∀ b o, b ∉ ch → s.heap.get? b = some o → ∃ o', h'.get? b = some o')
    (tups : ∀ b xs, H b = some (.tup xs) → H' b = some (.tup xs)) (frzs : ∀ b o u, H b = some (.frz o u) → H' b = some (.frz o u)) (tbls : ∀ b ps, H b = some (.tbl ps) → ∃ more, H' b = some (.tbl (ps ++ more)))
    (ns : ∀ m, s.heap.Ns X.env.locals m → h'.Ns X.env.locals m) (hok : HOk X.prog X.w H' h') (hg : AllBare g') :
    Inv X pins σ H' { s with heap := h', gens := g', drawn := d', toks := t' } := by
  have neL : ∀ b o, X.s₀.heap.get? b = some o → b ≠ X.env.locals := fun b o e => Nat.ne_of_lt (Nat.lt_of_lt_of_le (Heap.lt_size e) I.ok.above)
  have neC : ∀ b o, X.s₀.heap.get? b = some o → b ∉ X.ex → b ∉ ch := fun b o e hx hb => by
    rcases (hch b hb).1 with z | z
    · exact hx z
    · exact absurd (Nat.lt_of_lt_of_le (Heap.lt_size e) z) (Nat.lt_irrefl _)
  have cellK : ∀ x c, X.env.cells.lookup x = some c → ∀ v, s.heap.IsCell c v → h'.IsCell c v := fun x c e v ⟨o, ho, hd⟩ => by
    have nch : c ∉ ch := fun z => (hch c z).2.2.1 x c e rfl
    by_cases hc : c ∈ X.fs
    · obtain ⟨sl, q⟩ := slot c o (I.cne x c e) hc nch ho (I.freeC x c e)
      exact ⟨_, q, hd⟩
    · exact ⟨o, keep c o (I.cne x c e) hc nch ho (I.freeC x c e), hd⟩
  refine ⟨I.ok, I.os, hg, ⟨fun b o e n hb hx => ?_, fun b o e n hb hx => ?_, fun b o e n hx => ?_, fun b o e hx => ?_, fun b xs e => tups b xs (I.base.tups b xs e), fun b o xs e => frzs b o xs (I.base.frzs b o xs e), fun b ps e => ?_⟩, ?_, fun x c e => ?_, ?_, fun x c e => ?_, fun p hp => ?_, hok, I.len⟩
  · exact keep b o (neL b o e) hb (neC b o e hx) (I.base.keep b o e n hb hx) (I.base.free b o e n hx)
  · obtain ⟨sl, e1⟩ := I.base.slot b o e n hb hx
    obtain ⟨sl', e2⟩ := slot b _ (neL b o e) hb (neC b o e hx) e1 (I.base.free b o e n hx)
    exact ⟨sl', e2⟩
  · obtain ⟨o', e1⟩ := I.base.there b o e hx
    exact free b o' (neC b o e hx) e1 (I.base.free b o e n hx)
  · obtain ⟨o', e1⟩ := I.base.there b o e hx
    exact there b o' (neC b o e hx) e1
  · obtain ⟨m1, e1⟩ := I.base.tbls b ps e
    obtain ⟨m2, e2⟩ := tbls b _ e1
    exact ⟨m1 ++ m2, by rw [e2, Array.append_assoc]⟩
  · obtain ⟨m, hn, hl⟩ := I.loc
    refine ⟨m, ns m hn, fun i x v e1 e2 e3 => ?_⟩
    obtain ⟨u, r, l⟩ := hl i x v e1 e2 e3
    refine ⟨u, r, ?_⟩
    rcases l with l | ⟨k, c, e, z⟩
    · exact .inl l
    · exact .inr ⟨k, c, e, cellK x c e _ z⟩
  · obtain ⟨v, z⟩ := I.cell x c e
    exact ⟨v, cellK x c e v z⟩
  · obtain ⟨m, ⟨o, _, _, ho, _⟩, _⟩ := I.loc
    exact free _ o (fun z => (hch _ z).2.1 rfl) ho I.free
  · obtain ⟨v, o, ho, hd⟩ := I.cell x c e
    exact free c o (fun z => (hch c z).2.2.1 x c e rfl) ho (I.freeC x c e)
  · obtain ⟨e, n, ne, nf, d⟩ := I.pin p hp
    have nch : p.1 ∉ ch := fun z => (hch p.1 z).2.2.2 p hp rfl
    exact ⟨keep p.1 p.2 ne nf nch e n, free p.1 p.2 nch e n, ne, nf, d⟩
theorem Inv.un {t' : Nat} (I : Inv X pins σ H s) (u : Un X.fs [] H H' s.heap h') (hok : HOk X.prog X.w H' h') : Inv X pins σ H' { s with heap := h', toks := t' } := by
  obtain ⟨m, ⟨o, es, ep, ho, r⟩, _⟩ := id I.loc
  obtain ⟨sl, hL⟩ := u.any ho I.free (by simp)
  exact I.step (g' := s.gens) (d' := s.drawn) (ch := []) (fun _ z => nomatch z) (fun b o _ hb _ e n => u.keep b o e n hb (by simp)) (fun b o _ hb _ e n => u.slot b o e n hb (by simp)) (fun b o _ e n => u.free b o e n (by simp)) (fun b o _ e => u.there b o e (by simp)) u.tups u.frzs u.tbls (fun m' hm => by
    obtain ⟨o', es', ep', ho', r'⟩ := hm
    rw [ho] at ho'; cases ho'
    exact ⟨_, es', ep', hL, r'⟩) hok I.bare
theorem Inv.call {g' : Array GenState} {t' : Nat} {d' : Drawn} {ch : List Addr} (I : Inv X pins σ H s) (u : Un (frs X.stack) ch H H' s.heap h') (hok : HOk X.prog X.w H' h') (hg : AllBare g')
    (hch : ∀ b ∈ ch, (b ∈ X.ex ∨ X.s₀.heap.objs.size ≤ b) ∧ b ≠ X.env.locals ∧ (∀ x c, X.env.cells.lookup x = some c → c ≠ b) ∧ ∀ p ∈ X.pn ++ pins, p.1 ≠ b) :
    Inv X pins σ H' { s with heap := h', gens := g', drawn := d', toks := t' } := by
  obtain ⟨m, ⟨o, es, ep, ho, r⟩, _⟩ := id I.loc
  obtain ⟨sl, hL⟩ := u.any ho I.free fun z => (hch _ z).2.1 rfl
  exact I.step (ch := ch) hch (fun b o hL hb hc e n => u.keep b o e n (fun z => (List.mem_cons.mp (I.stkSub b z)).elim hL hb) hc) (fun b o _ _ hc e n => u.any e n hc) (fun b o hc e n => u.free b o e n hc) (fun b o hc e => u.there b o e hc) u.tups u.frzs u.tbls (fun m' hm => by
    obtain ⟨o', es', ep', ho', r'⟩ := hm
    rw [ho] at ho'; cases ho'
    exact ⟨_, es', ep', hL, r'⟩) hok hg
theorem Inv.turned {t' : Nat} {it : Addr} (I : Inv X pins σ H s) (k : ∀ b o, b ≠ it → s.heap.get? b = some o → h'.get? b = some o) (hn : H it = none) (hL : it ≠ X.env.locals)
    (h1 : it ∈ X.ex ∨ X.s₀.heap.objs.size ≤ it) (h2 : ∀ x c, X.env.cells.lookup x = some c → c ≠ it) (h3 : ∀ p ∈ X.pn ++ pins, p.1 ≠ it) : Inv X pins σ H { s with heap := h', toks := t' } := by
  have nit : ∀ b u, H b = some u → b ≠ it := fun b u e z => by rw [z, hn] at e; cases e
  refine I.step (g' := s.gens) (d' := s.drawn) (ch := [it]) (fun b hb => ?_) (fun b o _ _ hc e _ => k b o (fun z => hc (by simp [z])) e) (fun b o _ _ hc e _ => ⟨o.slots, k b o (fun z => hc (by simp [z])) e⟩) (fun _ _ _ _ n => n)
    (fun b o hc e => ⟨o, k b o (fun z => hc (by simp [z])) e⟩) (fun _ _ e => e) (fun _ _ _ e => e) (fun b ps e => ⟨#[], by rw [e]; simp⟩) (fun m hm => ?_) (fun b u e => ?_) I.bare
  · have e : b = it := by simpa using hb
    subst e
    exact ⟨h1, hL, h2, h3⟩
  · obtain ⟨o, es, ep, ho, r⟩ := hm
    exact ⟨o, es, ep, k _ o (Ne.symm hL) ho, r⟩
  · refine (I.hok b u e).stay (fun c v hc q => k c v ?_ q) (fun _ q => q) fun _ _ q => q
    rcases hc with z | z
    · rw [z]; exact nit b u e
    · exact nit c _ z
theorem Inv.tok (I : Inv X pins σ H s) (t : Nat) : Inv X pins σ H { s with toks := t } := I.un (h' := s.heap) (t' := t) Un.refl I.hok
theorem Inv.kept {t' : Nat} (I : Inv X pins σ H s) (k : ∀ b u, s.heap.get? b = some u → h'.get? b = some u) : Inv X pins σ H { s with heap := h', toks := t' } := I.un (Un.kept k) (I.hok.kept k)
theorem Inv.laid {a : Addr} {o : HO} {t' : Nat} (I : Inv X pins σ H s) (k : ∀ b u, s.heap.get? b = some u → h'.get? b = some u) (hp : s.heap.objs.size ≤ a) (new : ObjOk X.prog X.w (upd H a o) h' a o) :
    Inv X pins σ (upd H a o) { s with heap := h', toks := t' } := I.un (Un.laid k hp (I.hok.fresh hp)) (I.hok.laid k hp new)
theorem Inv.write {x e : Addr} {o : HO} {t' : Nat} (I : Inv X pins σ H s) (mu : Mut (H x)) (he : e = x ∨ H e = some (.own x)) (k : ∀ b u, b ≠ e → s.heap.get? b = some u → h'.get? b = some u) (heo : ∃ u, h'.get? e = some u)
    (new : ObjOk X.prog X.w (upd H x o) h' x o) : Inv X pins σ (upd H x o) { s with heap := h', toks := t' } := I.un (Un.write mu he k heo) (I.hok.write mu he k heo new)
theorem Inv.weak {σ' : List (Option V)} (I : Inv X pins σ H s) (hl : σ'.length = σ.length) (w : ∀ (i : Nat) v, σ'[i]? = some (some v) → σ[i]? = some (some v)) : Inv X pins σ' H s :=
  ⟨I.ok, I.os, I.bare, I.base, let ⟨m, hn, hl'⟩ := I.loc; ⟨m, hn, fun i x v e1 e2 e3 => hl' i x v e1 (w i v e2) e3⟩, I.cell, I.free, I.freeC, I.pin, I.hok, hl.trans I.len⟩
theorem Inv.pins_of {pins' : List (Addr × Obj)} (I : Inv X pins σ H s) (h : ∀ p ∈ pins', s.heap.get? p.1 = some p.2 ∧ H p.1 = none ∧ p.1 ≠ X.env.locals ∧ p.1 ∉ X.fs ∧ ∀ v, p.2.data ≠ .cell v) : Inv X pins' σ H s :=
  ⟨I.ok, I.os, I.bare, I.base, I.loc, I.cell, I.free, I.freeC, fun p hp => (List.mem_append.mp hp).elim (fun z => I.pin p (List.mem_append_left _ z)) (h p), I.hok, I.len⟩

theorem nodup_ix {N : List Str} (hN : N.Nodup) {i j : Nat} {x : Str} (a : N[i]? = some x) (b : N[j]? = some x) : i = j := by
  obtain ⟨h1, e1⟩ := List.getElem?_eq_some_iff.mp a
  obtain ⟨h2, e2⟩ := List.getElem?_eq_some_iff.mp b
  exact (List.getElem_inj hN).mp (e1.trans e2.symm)

theorem store_ok2 {M : Model} {A : Around} {E : Value → Shared → Prop} {i : Nat} {x : Str} {v : V} {u : Value} {Q : Unit → Shared → Prop} (I : Inv X pins σ H s) (hN : X.N.Nodup) (hi : X.N[i]? = some x) (hx : Loc X.env.scope x) (r : RelV v u)
    (h : ∀ s', Inv X pins (σ.set i (some v)) H s' → (∃ a, Heap.SameBut a s.heap s'.heap ∧ (a = X.env.locals ∨ X.env.cells.lookup x = some a)) → Q () s') (hf : X.fn x = true ∨ X.env.scope.names.lookup x = some .local := by first | exact .inl rfl | exact .inr rfl | assumption) : wpAny M A (storeName X.env x u) Q E s := by
  obtain ⟨m, hn, hl⟩ := id I.loc
  have hcls : (X.env.scope.kind == .class || (X.env.scope.kind == .module && X.env.locals != X.env.globals)) = false := by rw [I.ok.kind]; rfl
  have hiσ : i < σ.length := by rw [I.len]; exact (List.getElem?_eq_some_iff.mp hi).1
  have cne := I.cne
  have tracked : ∀ {a : Addr} {h' : Heap}, (∃ o, s.heap.get? a = some o ∧ H a = none) → Heap.SameBut a s.heap h' → HOk X.prog X.w H h' := fun {a h'} ha hs b ob e => by
    obtain ⟨_, _, hfree⟩ := ha
    refine (I.hok b ob e).stay (fun c w' hc q => (hs.2 c ?_).trans q) (fun _ q => q) fun _ _ q => q
    rintro rfl
    rcases hc with rfl | hc
    · rw [hfree] at e; cases e
    · rw [hfree] at hc; cases hc
  rcases hx with hk | hk
  · refine wpAny_storeName_local hk hn (fun h' hn' hs => ?_) hcls
    obtain ⟨oL, _, _, hoL, _⟩ := id hn
    refine h _ ⟨I.ok, I.os, I.bare, ⟨fun b o e n hb hx => ?_, fun b o e n hb hx => ?_, I.base.free, fun b o e hx => ?_, I.base.tups, I.base.frzs, I.base.tbls⟩, ⟨_, hn', fun j y v' e1 e2 e3 => ?_⟩, fun y c e => ?_, I.free, I.freeC, fun p hp => ?_, tracked ⟨oL, hoL, I.free⟩ hs, by simpa using I.len⟩ ⟨_, hs, .inl rfl⟩
    · exact (hs.2 b (Nat.ne_of_lt (Nat.lt_of_lt_of_le (Heap.lt_size e) I.ok.above))).trans (I.base.keep b o e n hb hx)
    · obtain ⟨sl, e1⟩ := I.base.slot b o e n hb hx
      exact ⟨sl, (hs.2 b (Nat.ne_of_lt (Nat.lt_of_lt_of_le (Heap.lt_size e) I.ok.above))).trans e1⟩
    · obtain ⟨o', e1⟩ := I.base.there b o e hx
      exact ⟨o', (hs.2 b (Nat.ne_of_lt (Nat.lt_of_lt_of_le (Heap.lt_size e) I.ok.above))).trans e1⟩
    · by_cases hj : j = i
      · subst hj
        rw [hi] at e1; cases e1
        rw [List.getElem?_set_self hiσ] at e2
        cases e2
        exact ⟨u, r, .inl ⟨hk, by simp⟩⟩
      · rw [List.getElem?_set_ne (Ne.symm hj)] at e2
        obtain ⟨u', r', q⟩ := hl j y v' e1 e2 e3
        refine ⟨u', r', ?_⟩
        rcases q with ⟨k, e⟩ | ⟨k, c, e, z⟩
        · refine .inl ⟨k, ?_⟩
          have : y ≠ x := fun e => hj (nodup_ix hN e1 (e ▸ hi))
          simp [this, e]
        · exact .inr ⟨k, c, e, z.sameBut hs (cne y c e)⟩
    · obtain ⟨w', z⟩ := I.cell y c e
      exact ⟨w', z.sameBut hs (cne y c e)⟩
    · obtain ⟨e, n, ne, nf, d⟩ := I.pin p hp
      exact ⟨(hs.2 p.1 ne).trans e, n, ne, nf, d⟩
  · have hfn : X.fn x = true := by
      rcases hf with z | z
      · exact z
      · rw [z] at hk; cases hk
    obtain ⟨c, hc⟩ := I.ok.has x (.inl hk)
    obtain ⟨w', z⟩ := I.cell x c hc
    refine wpAny_storeName_cell I.ok.kind hk hc z (fun h' hc' hs => ?_)
    obtain ⟨oc, hoc, hocd⟩ := id z
    refine h { s with heap := h' } ⟨I.ok, I.os, I.bare, ⟨fun b o e n hb hx => ?_, fun b o e n hb hx => ?_, I.base.free, fun b o e hx => ?_, I.base.tups, I.base.frzs, I.base.tbls⟩, ⟨m, hn.sameBut hs (Ne.symm (cne x c hc)), fun j y v' e1 e2 e3 => ?_⟩, fun y c' e => ?_, I.free, I.freeC, fun p hp => ?_, tracked ⟨oc, hoc, I.freeC x c hc⟩ hs, by simpa using I.len⟩ ⟨c, hs, .inr hc⟩
    · exact (hs.2 b (Nat.ne_of_lt (Nat.lt_of_lt_of_le (Heap.lt_size e) (I.ok.cab x c hfn hc)))).trans (I.base.keep b o e n hb hx)
    · obtain ⟨sl, e1⟩ := I.base.slot b o e n hb hx
      exact ⟨sl, (hs.2 b (Nat.ne_of_lt (Nat.lt_of_lt_of_le (Heap.lt_size e) (I.ok.cab x c hfn hc)))).trans e1⟩
    · obtain ⟨o', e1⟩ := I.base.there b o e hx
      exact ⟨o', (hs.2 b (Nat.ne_of_lt (Nat.lt_of_lt_of_le (Heap.lt_size e) (I.ok.cab x c hfn hc)))).trans e1⟩
    · by_cases hj : j = i
      · subst hj
        rw [hi] at e1; cases e1
        rw [List.getElem?_set_self hiσ] at e2
        cases e2
        exact ⟨u, r, .inr ⟨.inl hk, c, hc, hc'⟩⟩
      · rw [List.getElem?_set_ne (Ne.symm hj)] at e2
        obtain ⟨u', r', q⟩ := hl j y v' e1 e2 e3
        refine ⟨u', r', ?_⟩
        rcases q with q | ⟨k, c', e, z'⟩
        · exact .inl q
        · refine .inr ⟨k, c', e, z'.sameBut hs ?_⟩
          rintro rfl
          exact hj (nodup_ix hN e1 (I.ok.inj _ _ _ e hc ▸ hi))
    · by_cases hcc : c' = c
      · subst hcc; exact ⟨_, hc'⟩
      · obtain ⟨w2, z2⟩ := I.cell y c' e
        exact ⟨w2, z2.sameBut hs hcc⟩
    · obtain ⟨e, n, ne, nf, d⟩ := I.pin p hp
      refine ⟨(hs.2 p.1 ?_).trans e, n, ne, nf, d⟩
      intro q
      rw [q, hoc] at e
      have q' : oc = p.2 := Option.some.inj e
      exact d w' (by rw [← q']; exact hocd)
theorem store_ok {M : Model} {A : Around} {E : Value → Shared → Prop} {i : Nat} {x : Str} {v : V} {u : Value} {Q : Unit → Shared → Prop} (I : Inv X pins σ H s) (hN : X.N.Nodup) (hi : X.N[i]? = some x) (hx : Loc X.env.scope x) (r : RelV v u)
    (h : ∀ s', Inv X pins (σ.set i (some v)) H s' → Q () s') (hf : X.fn x = true ∨ X.env.scope.names.lookup x = some .local := by first | exact .inl rfl | exact .inr rfl | assumption) : wpAny M A (storeName X.env x u) Q E s :=
  store_ok2 I hN hi hx r (fun s' I' _ => h s' I') hf
theorem Inv.call' {s' : Shared} {ch : List Addr} (I : Inv X pins σ H s) (ho : s'.os = s.os) (u : Un (frs X.stack) ch H H' s.heap s'.heap) (hok : HOk X.prog X.w H' s'.heap) (hg : AllBare s'.gens)
    (hch : ∀ b ∈ ch, (b ∈ X.ex ∨ X.s₀.heap.objs.size ≤ b) ∧ b ≠ X.env.locals ∧ (∀ x c, X.env.cells.lookup x = some c → c ≠ b) ∧ ∀ p ∈ X.pn ++ pins, p.1 ≠ b) : Inv X pins σ H' s' := by
  obtain ⟨h', g', d', t', o'⟩ := s'
  have e : o' = s.os := ho
  subst e
  exact I.call (g' := g') (t' := t') (d' := d') u hok hg hch
end

noncomputable abbrev XK := Value → Option Addr → Hp → Prop
noncomputable abbrev St := List (Option V)
noncomputable abbrev VK := V → Hp → Prop
noncomputable abbrev TE := St → Hp → VK → Prop
noncomputable abbrev TT := St → Hp → (Bool → Hp → Prop) → Prop
noncomputable abbrev TA := St → Hp → (List V → Hp → Prop) → Prop
structure Ends where
  nx : St → Hp → Prop
  rt : VK
  bk : St → Hp → Prop := fun _ _ => False
  ct : St → Hp → Prop := fun _ _ => False
noncomputable abbrev TS := Ends → St → Hp → Prop

noncomputable def EP (X : Cx) (pins : List (Addr × Obj)) (σ : St) (Q : VK) (u : Value) (s' : Shared) : Prop := ∃ v H', Inv X pins σ H' s' ∧ RelV v u ∧ Q v H'
noncomputable def TP (X : Cx) (pins : List (Addr × Obj)) (σ : St) (Q : Bool → Hp → Prop) (b : Bool) (s' : Shared) : Prop := ∃ H', Inv X pins σ H' s' ∧ Q b H'
noncomputable def AP (X : Cx) (pins : List (Addr × Obj)) (σ : St) (Q : List V → Hp → Prop) (us : List Value) (s' : Shared) : Prop := ∃ vs H', Inv X pins σ H' s' ∧ Vals vs us ∧ Q vs H'
noncomputable def SP (X : Cx) (pins : List (Addr × Obj)) (D : Ends) (f : Flow) (s' : Shared) : Prop :=
  match f with
  | .next => ∃ σ' H', Inv X pins σ' H' s' ∧ D.nx σ' H'
  | .brk => ∃ σ' H', Inv X pins σ' H' s' ∧ D.bk σ' H'
  | .cont => ∃ σ' H', Inv X pins σ' H' s' ∧ D.ct σ' H'
  | .ret u => ∃ v σ' H', Inv X pins σ' H' s' ∧ RelV v u ∧ D.rt v H'

noncomputable def PE (X : Cx) (e : Expr) (t : TE) : Prop :=
  ∀ (pins : List (Addr × Obj)) (s : Shared) (σ : St) (H : Hp) (Q : VK), Inv X pins σ H s → t σ H Q → wpAny (model X.prog X.w) X.A (eval e X.env) (EP X pins σ Q) X.xe s
noncomputable def PT (X : Cx) (e : Expr) (t : TT) : Prop :=
  ∀ (pins : List (Addr × Obj)) (s : Shared) (σ : St) (H : Hp) (Q : Bool → Hp → Prop), Inv X pins σ H s → t σ H Q → wpAny (model X.prog X.w) X.A (isTrue e X.env (eval e X.env)) (TP X pins σ Q) X.xe s
noncomputable def PW (X : Cx) (e : Expr) (t : TT) : Prop :=
  ∀ (whole : Sem Value) (pins : List (Addr × Obj)) (s : Shared) (σ : St) (H : Hp) (Q : Bool → Hp → Prop), Inv X pins σ H s → t σ H Q → wpAny (model X.prog X.w) X.A (isTrue e X.env whole) (TP X pins σ Q) X.xe s
theorem PW.pt {X : Cx} {e : Expr} {t : TT} (h : PW X e t) : PT X e t := h _
noncomputable def PA (X : Cx) (es : List Expr) (t : TA) : Prop :=
  ∀ (pos : Pos) (pins : List (Addr × Obj)) (s : Shared) (σ : St) (H : Hp) (Q : List V → Hp → Prop), Inv X pins σ H s → t σ H Q → wpAny (model X.prog X.w) X.A (spliced (backTo pos (starEach es X.env))) (AP X pins σ Q) X.xe s
noncomputable def PS (X : Cx) (st : Stmt) (t : TS) : Prop :=
  ∀ (pins : List (Addr × Obj)) (s : Shared) (σ : St) (H : Hp) (D : Ends), Inv X pins σ H s → t D σ H → wpAny (model X.prog X.w) X.A (exec st X.env) (SP X pins D) X.xe s
noncomputable def PSs (X : Cx) (st : List Stmt) (t : TS) : Prop :=
  ∀ (pins : List (Addr × Obj)) (s : Shared) (σ : St) (H : Hp) (D : Ends), Inv X pins σ H s → t D σ H → wpAny (model X.prog X.w) X.A (execs st X.env) (SP X pins D) X.xe s
theorem thn {α : Type} {t : Sem α} {Q Q' : α → Shared → Prop} {M : Model} {A : Around} {E : Value → Shared → Prop} {s : Shared} (h : wpAny M A t Q E s) (hQ : ∀ a s, Q a s → Q' a s) : wpAny M A t Q' E s := wpAny_mono h hQ fun _ _ x => x
end L2

namespace L2
open PySem PySem.Spec PyProof.Rows
section
variable {X : Cx}

noncomputable def tVar (i : Nat) : TE := fun σ H Q => ∃ v, σ[i]? = some (some v) ∧ Q v H
noncomputable def tC (v : V) : TE := fun _ H Q => Q v H
theorem pe_var {i : Nat} {x : Str} {pos : Pos} (hN : X.N[i]? = some x) (hv : Vis X.env.scope x) (hd : (x == ("__debug__" : Str)) = false := by decide) (hcd : (x == ("__classdict__" : Str)) = false := by decide) : PE X (.Name x pos) (tVar i) := by
  intro pins s σ H Q I h
  obtain ⟨v, e, h⟩ := h
  obtain ⟨m, hn, hl⟩ := I.loc
  obtain ⟨u, r, l⟩ := hl i x v hN e hv
  have fin : EP X pins σ Q u s := ⟨v, H, I, r, h⟩
  rcases l with ⟨hk, hm⟩ | ⟨hk, c, hc, hcell⟩
  · exact wpAny_Name (wpAny_loadName_local I.ok.kind hk hn hm fin) hd
  · rcases hk with hk | hk
    · exact wpAny_Name (wpAny_loadName_cell I.ok.kind hk hc hcell fin) hd
    · exact wpAny_Name (wpAny_loadName_free I.ok.kind hk hc hcell fin hcd) hd
theorem pe_int {i j pos} : PE X (.Constant (.int i) j pos) (tC (.int i)) := fun _ _ _ H _ I h => wpAny_Constant_int ⟨.int i, H, I.tok _, ⟨_, rfl⟩, h⟩
theorem pe_bl {b j pos} : PE X (.Constant (.bool b) j pos) (tC (.bl b)) := fun _ _ _ H _ I h => Constant_bool ⟨.bl b, H, I, rfl, h⟩
theorem pe_non {j pos} : PE X (.Constant .none j pos) (tC .non) := fun _ _ _ H _ I h => Constant_none ⟨.non, H, I, rfl, h⟩
theorem pe_str {x j pos} : PE X (.Constant (.str x) j pos) (tC (.str x)) := fun _ _ _ H _ I h => Calls.Constant_str ⟨.str x, H, I.tok _, ⟨_, rfl⟩, h⟩

noncomputable def Gl (X : Cx) (x : Str) : Prop := X.env.kindOf x = some .globalImplicit
theorem ld_glob {E : Value → Shared → Prop} {pins : List (Addr × Obj)} {s : Shared} {σ : St} {H : Hp} {x : Str} {u : Value} {pos : Pos} {Q : Value → Shared → Prop} (I : Inv X pins σ H s) (hg : Gl X x) (hm : X.mg x = some u) (h : Q u s)
    (hd : (x == ("__debug__" : Str)) = false := by decide) : wpAny (model X.prog X.w) X.A (eval (.Name x pos) X.env) Q E s :=
  Calls.Name_function_global I.ok.kind hg (Calls.loadGlobal_global (by rw [I.ok.glob]; exact I.mod.glob.keeps I.bk) hm h) hd
theorem ld_blt {E : Value → Shared → Prop} {pins : List (Addr × Obj)} {s : Shared} {σ : St} {H : Hp} {x : Str} {u : Value} {pos : Pos} {Q : Value → Shared → Prop} (I : Inv X pins σ H s) (hg : Gl X x) (hm : X.mg x = none) (hv : bootBuiltins x = some u) (h : Q u s)
    (hn : x ≠ "__name__" := by decide) (hd : (x == ("__debug__" : Str)) = false := by decide) : wpAny (model X.prog X.w) X.A (eval (.Name x pos) X.env) Q E s := by
  obtain ⟨mb, h1, h2⟩ := I.mod.blt
  exact Calls.Name_function_global I.ok.kind hg (Calls.loadGlobal_builtin (by rw [I.ok.glob]; exact I.mod.glob.keeps I.bk) hm (by rw [I.ok.blt]; exact h1.keeps I.bk) ((h2 x hn).trans hv) h) hd
theorem pe_glob {x : Str} {v : V} {u : Value} {pos : Pos} (hg : Gl X x) (hm : X.mg x = some u) (r : RelV v u) (hd : (x == ("__debug__" : Str)) = false := by decide) : PE X (.Name x pos) (tC v) :=
  fun _ _ _ H _ I h => ld_glob I hg hm ⟨v, H, I, r, h⟩ hd
theorem pe_bltn {x : Str} {v : V} {u : Value} {pos : Pos} (hg : Gl X x) (hm : X.mg x = none) (hv : bootBuiltins x = some u) (r : RelV v u) (hn : x ≠ "__name__" := by decide) (hd : (x == ("__debug__" : Str)) = false := by decide) : PE X (.Name x pos) (tC v) :=
  fun _ _ _ H _ I h => ld_blt I hg hm hv ⟨v, H, I, r, h⟩ hn hd

noncomputable def t2I (ta tb : TE) (k : Int → Int → Hp → Prop) : St → Hp → Prop := fun σ H => ta σ H fun x H1 => tb σ H1 fun y H2 => ∃ i j, x = .int i ∧ y = .int j ∧ k i j H2
noncomputable def tAdd (ta tb : TE) : TE := fun σ H Q => t2I ta tb (fun i j H2 => Q (.int (i + j)) H2) σ H
noncomputable def tSub (ta tb : TE) : TE := fun σ H Q => t2I ta tb (fun i j H2 => Q (.int (i - j)) H2) σ H
noncomputable def tMul (ta tb : TE) : TE := fun σ H Q => t2I ta tb (fun i j H2 => (-(2 ^ 64) < i ∧ i < 2 ^ 64) ∧ Q (.int (i * j)) H2) σ H
variable {a b : Expr} {ta tb : TE} {pos : Pos}
noncomputable def PC (X : Cx) (op : CmpOp) (a b : Expr) (t : TE) : Prop :=
  ∀ (pins : List (Addr × Obj)) (s : Shared) (σ : St) (H : Hp) (Q : VK), Inv X pins σ H s → t σ H Q →
    wpAny (model X.prog X.w) X.A (eval a X.env) (fun v s₁ => wpAny (model X.prog X.w) X.A (eval b X.env) (fun u s₂ => wpAny (model X.prog X.w) X.A (compareOp op v u) (EP X pins σ Q) X.xe s₂) X.xe s₁) X.xe s
noncomputable def tCmp (p : Int → Int → Bool) (ta tb : TE) : TE := fun σ H Q => t2I ta tb (fun i j H2 => Q (.bl (p i j)) H2) σ H
noncomputable abbrev tLt : TE → TE → TE := tCmp fun i j => decide (i < j)
noncomputable abbrev tLe : TE → TE → TE := tCmp fun i j => decide (i ≤ j)
noncomputable abbrev tGt : TE → TE → TE := tCmp fun i j => decide (j < i)
noncomputable abbrev tGe : TE → TE → TE := tCmp fun i j => decide (j ≤ i)
noncomputable abbrev tEqI : TE → TE → TE := tCmp fun i j => decide (i = j)
noncomputable abbrev tNeI : TE → TE → TE := tCmp fun i j => !decide (i = j)
noncomputable def tIsN (ta : TE) : TE := fun σ H Q => ta σ H fun x H1 => Q (.bl (decide (x = .non))) H1
noncomputable def tNotN (ta : TE) : TE := fun σ H Q => ta σ H fun x H1 => Q (.bl (!decide (x = .non))) H1
noncomputable def tB (t : TE) : TT := fun σ H Q => t σ H fun x H1 => ∃ c, x = .bl c ∧ Q c H1
theorem pt_val {e : Expr} {t : TE} (h : PE X e t) (he : ∀ whole, isTrue e X.env whole = (do let v ← whole; standAt e.pos; holding [v] (truthy v)) := by intro _; rfl) : PT X e (tB t) := by
  intro pins s σ H Q I hw
  refine isTrue_plain (thn (h pins s σ H _ I hw) fun v s1 hq_ => ?_) (he _)
  obtain ⟨x, H1, I1, r1, q1⟩ := hq_
  obtain ⟨d, rfl, q⟩ := q1
  cases r1
  exact wpAny_truthy_bool ⟨H1, I1, q⟩

variable {tA tB' : TT} {rest : List Expr}
noncomputable def tAnd (t u : TT) : TT := fun σ H Q => t σ H fun c H1 => if c = true then u σ H1 Q else Q false H1
noncomputable def tOr (t u : TT) : TT := fun σ H Q => t σ H fun c H1 => if c = true then Q true H1 else u σ H1 Q
noncomputable def tNot (t : TT) : TT := fun σ H Q => t σ H fun c H1 => Q (!c) H1
theorem pw_and1 (ha : PT X a tA) : PW X (.BoolOp .And [a] pos) tA := by
  intro wh pins s σ H Q I h
  refine isTrue_and (thn (ha pins s σ H Q I h) fun c s1 e => ?_)
  cases c with
  | true => exact isTrue_and_nil e
  | false => exact e
theorem pw_or1 (ha : PT X a tA) : PW X (.BoolOp .Or [a] pos) tA := by
  intro wh pins s σ H Q I h
  refine isTrue_or (thn (ha pins s σ H Q I h) fun c s1 e => ?_)
  cases c with
  | false => exact isTrue_or_nil e
  | true => exact e
theorem pw_and (ha : PT X a tA) (hb : PW X (.BoolOp .And (b :: rest) pos) tB') : PW X (.BoolOp .And (a :: b :: rest) pos) (tAnd tA tB') := by
  intro wh pins s σ H Q I h
  refine isTrue_and (thn (ha pins s σ H _ I h) fun c s1 hq_ => ?_)
  obtain ⟨H1, I1, q1⟩ := hq_
  cases c with
  | true => exact hb wh pins s1 σ H1 Q I1 q1
  | false => exact ⟨H1, I1, q1⟩
theorem pw_or (ha : PT X a tA) (hb : PW X (.BoolOp .Or (b :: rest) pos) tB') : PW X (.BoolOp .Or (a :: b :: rest) pos) (tOr tA tB') := by
  intro wh pins s σ H Q I h
  refine isTrue_or (thn (ha pins s σ H _ I h) fun c s1 hq_ => ?_)
  obtain ⟨H1, I1, q1⟩ := hq_
  cases c with
  | true => exact ⟨H1, I1, q1⟩
  | false => exact hb wh pins s1 σ H1 Q I1 q1
theorem pt_not (ha : PT X a tA) : PT X (.UnaryOp .Not a pos) (tNot tA) := by
  intro pins s σ H Q I h
  exact isTrue_not (ha pins s σ H (fun c H1 => Q (!c) H1) I h)
noncomputable def tAndV (ta tb : TE) : TE := fun σ H Q => ta σ H fun x H1 => ∃ c, x = .bl c ∧ if c = true then tb σ H1 Q else Q (.bl false) H1
noncomputable def tOrV (ta tb : TE) : TE := fun σ H Q => ta σ H fun x H1 => ∃ c, x = .bl c ∧ if c = true then Q (.bl true) H1 else tb σ H1 Q
noncomputable def tNotV (ta : TE) : TE := fun σ H Q => ta σ H fun x H1 => ∃ c, x = .bl c ∧ Q (.bl (!c)) H1
theorem pe_one {op} {t : TE} (h : PE X a t) : PE X (.BoolOp op [a] pos) t := fun pins s σ H Q I hw => BoolOp_one (h pins s σ H Q I hw)
theorem pe_and (ha : PE X a ta) (hb : PE X (.BoolOp .And (b :: rest) pos) tb) : PE X (.BoolOp .And (a :: b :: rest) pos) (tAndV ta tb) := by
  intro pins s σ H Q I h
  refine BoolOp_and (thn (ha pins s σ H _ I h) fun v s1 hq_ => ?_)
  obtain ⟨x, H1, I1, r1, q1⟩ := hq_
  obtain ⟨c, rfl, q1⟩ := q1
  cases r1
  refine wpAny_truthy_bool ?_
  cases c with
  | true => exact hb pins s1 σ H1 Q I1 q1
  | false => exact ⟨.bl false, H1, I1, rfl, q1⟩
theorem pe_or (ha : PE X a ta) (hb : PE X (.BoolOp .Or (b :: rest) pos) tb) : PE X (.BoolOp .Or (a :: b :: rest) pos) (tOrV ta tb) := by
  intro pins s σ H Q I h
  refine BoolOp_or (thn (ha pins s σ H _ I h) fun v s1 hq_ => ?_)
  obtain ⟨x, H1, I1, r1, q1⟩ := hq_
  obtain ⟨c, rfl, q1⟩ := q1
  cases r1
  refine wpAny_truthy_bool ?_
  cases c with
  | false => exact hb pins s1 σ H1 Q I1 q1
  | true => exact ⟨.bl true, H1, I1, rfl, q1⟩
theorem pe_not (ha : PE X a ta) : PE X (.UnaryOp .Not a pos) (tNotV ta) := by
  intro pins s σ H Q I h
  refine UnaryOp_ (thn (ha pins s σ H _ I h) fun v s1 hq_ => ?_)
  obtain ⟨x, H1, I1, r1, q1⟩ := hq_
  obtain ⟨c, rfl, q1⟩ := q1
  cases r1
  exact not_of (wpAny_truthy_bool ⟨.bl (!c), H1, I1, rfl, q1⟩)
noncomputable def tIf (t : TT) (ta tb : TE) : TE := fun σ H Q => t σ H fun c H1 => if c = true then ta σ H1 Q else tb σ H1 Q
theorem pe_ifExp {c : Expr} (hc : PT X c tA) (ha : PE X a ta) (hb : PE X b tb) : PE X (.IfExp c a b pos) (tIf tA ta tb) := by
  intro pins s σ H Q I h
  refine wpAny_IfExp (thn (hc pins s σ H _ I h) fun d s1 hq_ => ?_)
  obtain ⟨H1, I1, q1⟩ := hq_
  cases d with
  | true => exact ha pins s1 σ H1 Q I1 q1
  | false => exact hb pins s1 σ H1 Q I1 q1
end
end L2

namespace L2
open PySem PySem.Spec PyProof.Rows

noncomputable def SqL (K : PySem.W.Frag) (H : Hp) (a : Addr) (xs : List V) : Prop :=
  Rd H a (.lst xs) ∨
    ∃ (o : Obj) (its : Array Value) (n : Nat), K.lookup a = some o ∧ o.cls = .type "list" ∧ o.dict = none ∧ o.data = .seq its n ∧ its.size ≤ sizeLine ∧ Vals xs its.toList
noncomputable def SqT (K : PySem.W.Frag) (H : Hp) (a : Addr) (xs : List V) : Prop :=
  Rd H a (.tup xs) ∨
    ∃ (o : Obj) (its : Array Value) (n : Nat), K.lookup a = some o ∧ o.cls = .type "tuple" ∧ o.data = .seq its n ∧ its.size ≤ sizeLine ∧ Vals xs its.toList
noncomputable def absV : Value → Option V
  | .none => some .non
  | .bool b => some (.bl b)
  | .int i _ => some (.int i)
  | .str x _ => some (.str x)
  | .bytes b _ => some (.byt b)
  | .float b _ => some (.flt b)
  | .ref a => some (.ref a)
  | .type n => some (.ty n)
  | _ => none
theorem RelV.abs {x : V} {u : Value} (r : RelV x u) : absV u = some x := by
  cases x with
  | non => cases r; rfl
  | bl _ => cases r; rfl
  | int _ => obtain ⟨t, rfl⟩ := r; rfl
  | str _ => obtain ⟨t, rfl⟩ := r; rfl
  | byt _ => obtain ⟨t, rfl⟩ := r; rfl
  | flt _ => obtain ⟨t, rfl⟩ := r; rfl
  | ref _ => cases r; rfl
  | ty _ => cases r; rfl
theorem RelV.inj {x y : V} {u : Value} (r : RelV x u) (q : RelV y u) : x = y := Option.some.inj (r.abs.symm.trans q.abs)
theorem Vals.inj : ∀ {xs ys : List V} {us : List Value}, Vals xs us → Vals ys us → xs = ys
  | _, _, _, .nil, .nil => rfl
  | _, _, _, .cons r t, .cons r' t' => by rw [r.inj r', Vals.inj t t']
section
variable {X : Cx} {pins : List (Addr × Obj)} {σ : St} {H : Hp} {s : Shared} {a : Addr} {xs ys : List V}
theorem SqL.of {K : PySem.W.Frag} (h : H a = some (.lst xs)) : SqL K H a xs := .inl (.inl h)
theorem SqT.of {K : PySem.W.Frag} (h : H a = some (.tup xs)) : SqT K H a xs := .inl (.inl h)
theorem Inv.list (I : Inv X pins σ H s) (h : SqL X.K H a xs) : ∃ its : List Value, Vals xs its ∧ PlainL s.heap a its.toArray ∧ xs.length ≤ sizeLine := by
  rcases h with h | ⟨o, its, n, hk, hc, hd, hs, hz, r⟩
  · obtain ⟨z, its, n, r, e⟩ := h.ok I.hok
    exact ⟨its, r, ⟨_, n, e, rfl, rfl, rfl⟩, z⟩
  · refine ⟨its.toList, r, ⟨o, n, I.kIn a o hk, hc, hd, by simpa using hs⟩, ?_⟩
    have e := r.length
    simp only [Array.length_toList] at e
    omega
theorem Inv.tuple (I : Inv X pins σ H s) (h : SqT X.K H a xs) : ∃ its : List Value, Vals xs its ∧ IsTup s.heap a its.toArray ∧ xs.length ≤ sizeLine := by
  rcases h with h | ⟨o, its, n, hk, hc, hs, hz, r⟩
  · obtain ⟨z, its, r, p⟩ := h.ok I.hok
    exact ⟨its, r, p, z⟩
  · refine ⟨its.toList, r, ⟨o, I.kIn a o hk, hc, n, by simpa using hs⟩, ?_⟩
    have e := r.length
    simp only [Array.length_toList] at e
    omega
theorem Inv.list_inj (I : Inv X pins σ H s) (h : SqL X.K H a xs) (h' : SqL X.K H a ys) : xs = ys := by
  obtain ⟨its, r, ⟨o, n, e, _, _, d⟩, _⟩ := I.list h
  obtain ⟨its', r', ⟨o', n', e', _, _, d'⟩, _⟩ := I.list h'
  rw [e] at e'; cases e'
  rw [d] at d'
  injection d' with d1 _
  have : its = its' := by simpa using congrArg Array.toList d1
  subst this
  exact r.inj r'
theorem Inv.tuple_inj (I : Inv X pins σ H s) (h : SqT X.K H a xs) (h' : SqT X.K H a ys) : xs = ys := by
  obtain ⟨its, r, ⟨o, e, _, n, d⟩, _⟩ := I.tuple h
  obtain ⟨its', r', ⟨o', e', _, n', d'⟩, _⟩ := I.tuple h'
  rw [e] at e'; cases e'
  rw [d] at d'
  injection d' with d1 _
  have : its = its' := by simpa using congrArg Array.toList d1
  subst this
  exact r.inj r'
end

noncomputable abbrev Cx.wish (X : Cx) (E : Value → Shared → Prop) : Cx := { X with xe := E }
noncomputable abbrev Cx.nox (X : Cx) : Cx := X.wish fun _ _ => False
theorem Cx.Ok.wish {X : Cx} (ok : X.Ok) (E : Value → Shared → Prop) : (X.wish E).Ok :=
  ⟨ok.mod, ok.kind, ok.glob, ok.blt, ok.above, ok.inj, ok.has, ok.cab, ok.hd, ok.frames, ok.stk, ok.exf, ok.bs, ok.bsz, ok.noex, ok.exfs, ok.funs, ok.frf⟩
theorem Cx.Ok.unwish {X : Cx} {E : Value → Shared → Prop} (ok : (X.wish E).Ok) : X.Ok :=
  ⟨ok.mod, ok.kind, ok.glob, ok.blt, ok.above, ok.inj, ok.has, ok.cab, ok.hd, ok.frames, ok.stk, ok.exf, ok.bs, ok.bsz, ok.noex, ok.exfs, ok.funs, ok.frf⟩
section
variable {X : Cx} {pins : List (Addr × Obj)} {σ : St} {H : Hp} {s : Shared} {E : Value → Shared → Prop}
theorem Inv.wish (I : Inv X pins σ H s) (E : Value → Shared → Prop) : Inv (X.wish E) pins σ H s := ⟨I.ok.wish E, I.os, I.bare, I.base, I.loc, I.cell, I.free, I.freeC, I.pin, I.hok, I.len⟩
theorem Inv.unwish (I : Inv (X.wish E) pins σ H s) : Inv X pins σ H s := ⟨I.ok.unwish, I.os, I.bare, I.base, I.loc, I.cell, I.free, I.freeC, I.pin, I.hok, I.len⟩
theorem SP.unwish {D : Ends} {f : Flow} {s' : Shared} (h : SP (X.wish E) pins D f s') : SP X pins D f s' := by
  cases f with
  | next => obtain ⟨σ', H', I, q⟩ := h; exact ⟨σ', H', I.unwish, q⟩
  | brk => obtain ⟨σ', H', I, q⟩ := h; exact ⟨σ', H', I.unwish, q⟩
  | cont => obtain ⟨σ', H', I, q⟩ := h; exact ⟨σ', H', I.unwish, q⟩
  | ret u => obtain ⟨v, σ', H', I, r, q⟩ := h; exact ⟨v, σ', H', I.unwish, r, q⟩
theorem PSs.nox {st : List Stmt} {t : TS} (h : PSs X.nox st t) : PSs X st t := fun pins s σ H D I hw =>
  wpAny_mono (h pins s σ H D (I.wish _) hw) (fun _ _ q => q.unwish) fun _ _ z => False.elim z
end

section
variable {X : Cx} {st : Stmt} {rest : List Stmt} {t u : TS} {e : Expr} {te : TE} {pos : Pos}
noncomputable def tNext : TS := fun D σ H => D.nx σ H
noncomputable def tSeq (t u : TS) : TS := fun D σ H => t { D with nx := u D } σ H
theorem pss_nil : PSs X [] tNext := fun _ _ σ H _ I h => wpAny_execs_nil ⟨σ, H, I, h⟩
theorem pss_cons (h1 : PS X st t) (h2 : PSs X rest u) : PSs X (st :: rest) (tSeq t u) := by
  intro pins s σ H D I h
  refine wpAny_execs_cons (thn (h1 pins s σ H { D with nx := u D } I h) fun f s1 q => ?_)
  cases f with
  | next =>
    obtain ⟨σ', H', I', q⟩ := q
    exact h2 pins s1 σ' H' D I' q
  | ret v => exact q
  | brk => exact q
  | cont => exact q
theorem pss_one (h1 : PS X st t) : PSs X [st] t := by
  intro pins s σ H D I h
  refine wpAny_execs_cons (thn (h1 pins s σ H D I h) fun f s1 q => ?_)
  cases f with
  | next => exact wpAny_execs_nil q
  | ret v => exact q
  | brk => exact q
  | cont => exact q
noncomputable def tBreak : TS := fun D σ H => D.bk σ H
noncomputable def tCont : TS := fun D σ H => D.ct σ H
theorem Inv.quiet {pins : List (Addr × Obj)} {σ : St} {H : Hp} {s : Shared} (I : Inv X pins σ H s) : interactive X.env = false := by simp [interactive, I.ok.kind]
noncomputable def tDrop (te : TE) : TS := fun D σ H => te σ H fun _ H1 => D.nx σ H1
theorem ps_expr (he : PE X e te) (hs : swapsWith e none pos.line X.env = pure false := by rfl) : PS X (.Expr e pos) (tDrop te) := by
  intro pins s σ H D I h
  exact wpAny_Expr_any (thn (he pins s σ H _ I h) fun v s1 ⟨x, H1, I1, r1, q1⟩ => ⟨σ, H1, I1, q1⟩) I.quiet hs
noncomputable def tRet (te : TE) : TS := fun D σ H => te σ H D.rt
theorem ps_ret (he : PE X e te) : PS X (.Return (some e) pos) (tRet te) := by
  intro pins s σ H D I h
  exact wpAny_Return_some (thn (he pins s σ H _ I h) fun v s1 ⟨x, H1, I1, r1, q1⟩ => ⟨x, σ, H1, I1, r1, q1⟩)
noncomputable def tRetN : TS := fun D _ H => D.rt .non H
noncomputable def tIfS (c : TT) (t u : TS) : TS := fun D σ H => c σ H fun b H1 => if b = true then t D σ H1 else u D σ H1
theorem ps_if {c : Expr} {a b : List Stmt} {tc : TT} (hc : PT X c tc) (ha : PSs X a t) (hb : PSs X b u) : PS X (.If c a b pos) (tIfS tc t u) := by
  intro pins s σ H D I h
  refine wpAny_If (thn (hc pins s σ H _ I h) fun d s1 hq_ => ?_)
  obtain ⟨H1, I1, q1⟩ := hq_
  cases d with
  | true => exact ha pins s1 σ H1 D I1 q1
  | false => exact hb pins s1 σ H1 D I1 q1
noncomputable def tNever : TS := fun _ _ _ => False
theorem pss_never {sts : List Stmt} : PSs X sts tNever := fun _ _ _ _ _ _ h => h.elim
end

noncomputable abbrev TG := V → St → Hp → (St → Hp → Prop) → Prop
noncomputable abbrev TGs := List V → St → Hp → (St → Hp → Prop) → Prop
noncomputable def PG (X : Cx) (target : Expr) (t : TG) : Prop :=
  ∀ (pins : List (Addr × Obj)) (s : Shared) (σ : St) (H : Hp) (v : V) (u : Value) (Q : St → Hp → Prop), Inv X pins σ H s → RelV v u → t v σ H Q →
    wpAny (model X.prog X.w) X.A (assign target X.env u) (fun _ s' => ∃ σ' H', Inv X pins σ' H' s' ∧ Q σ' H') X.xe s
noncomputable def PGs (X : Cx) (ts : List Expr) (t : TGs) : Prop :=
  ∀ (pins : List (Addr × Obj)) (s : Shared) (σ : St) (H : Hp) (vs : List V) (us : List Value) (Q : St → Hp → Prop), Inv X pins σ H s → Vals vs us → t vs σ H Q →
    wpAny (model X.prog X.w) X.A (assignInOrder ((assignEach ts X.env).map (·.2)) us) (fun _ s' => ∃ σ' H', Inv X pins σ' H' s' ∧ Q σ' H') X.xe s
noncomputable abbrev TSet := V → V → V → Hp → (Hp → Prop) → Prop
noncomputable def PSet (X : Cx) (t : TSet) : Prop :=
  ∀ (pins : List (Addr × Obj)) (s : Shared) (σ : St) (H : Hp) (o i v : V) (ov iv u : Value) (Q : Hp → Prop), Inv X pins σ H s → RelV o ov → RelV i iv → RelV v u → t o i v H Q →
    wpAny (model X.prog X.w) X.A (setItem ov iv u) (fun _ s' => ∃ H', Inv X pins σ H' s' ∧ Q H') X.xe s
noncomputable abbrev TIp := V → V → Hp → VK → Prop
noncomputable def PIp (X : Cx) (op : Operator) (t : TIp) : Prop :=
  ∀ (pins : List (Addr × Obj)) (s : Shared) (σ : St) (H : Hp) (x y : V) (v u : Value) (Q : VK), Inv X pins σ H s → RelV x v → RelV y u → t x y H Q →
    wpAny (model X.prog X.w) X.A (inplaceOp op v u) (EP X pins σ Q) X.xe s
section
variable {X : Cx} {pos : Pos}
noncomputable def gName (i : Nat) : TG := fun v σ H Q => Q (σ.set i (some v)) H
theorem pg_name {i : Nat} {x : Str} (hN : X.N.Nodup) (hi : X.N[i]? = some x) (hx : Loc X.env.scope x) (hf : X.fn x = true ∨ X.env.scope.names.lookup x = some .local := by first | exact .inl rfl | exact .inr rfl | assumption) : PG X (.Name x pos) (gName i) := by
  intro pins s σ H v u Q I r h
  exact wpAny_assign_Name (store_ok I hN hi hx r (fun s' I' => ⟨_, H, I', h⟩) hf)
noncomputable def gNil : TGs := fun vs σ H Q => vs = [] ∧ Q σ H
noncomputable def gCons (t : TG) (u : TGs) : TGs := fun vs σ H Q => ∃ v r, vs = v :: r ∧ t v σ H fun σ' H' => u r σ' H' Q
theorem pgs_nil : PGs X [] gNil := by
  intro pins s σ H vs us Q I r h
  obtain ⟨e, h⟩ := h
  subst e
  cases r
  exact assignInOrder_nil ⟨σ, H, I, h⟩
theorem pgs_cons {e : Expr} {es : List Expr} {t : TG} {u : TGs} (h1 : PG X e t) (h2 : PGs X es u)
    (hs : (assignEach (e :: es) X.env).map (·.2) = assign e X.env :: (assignEach es X.env).map (·.2) := by rfl) : PGs X (e :: es) (gCons t u) := by
  intro pins s σ H vs us Q I r h
  obtain ⟨v, vr, e1, h⟩ := h
  subst e1
  cases r with
  | cons r rr =>
    rw [hs]
    refine assignInOrder_cons (thn (h1 pins s σ H _ _ _ I r h) fun _ s1 hq_ => ?_)
    obtain ⟨σ1, H1, I1, q1⟩ := hq_
    exact h2 pins s1 σ1 H1 _ _ Q I1 rr q1
noncomputable def gTup (K : PySem.W.Frag) (n : Nat) (t : TGs) : TG := fun v σ H Q => ∃ a xs, v = .ref a ∧ SqT K H a xs ∧ xs.length = n ∧ t xs σ H Q
theorem pg_tup {es : List Expr} {k : Nat} {t : TGs} {n : Nat} (hc : X.calm = true) (h : PGs X es t)
    (hn : (assignEach es X.env).length = n := by rfl) (hst : (assignEach es X.env).findIdx? (·.1) = none := by rfl) : PG X (.Tuple es k pos) (gTup X.K n t) := by
  intro pins s σ H v u Q I r hw
  obtain ⟨a, xs, e1, hq, hl, hw⟩ := hw
  subst e1
  cases r
  obtain ⟨its, rv, ht, hz⟩ := I.tuple hq
  refine assign_Tuple_tuple (I.ok.hd hc) ht (by simp [hn, ← hl, rv.length]) hst fun h' hx => ?_
  have I1 : Inv X pins σ H { s with heap := h' } := I.kept (t' := s.toks) fun b o e => hx b o (Nat.ne_of_lt (Heap.lt_size e)) e
  exact h pins _ σ H xs _ Q I1 (by simpa using rv) hw
noncomputable def gSub (to ti : TE) (t : TSet) : TG := fun v σ H Q => to σ H fun o H1 => ti σ H1 fun i H2 => t o i v H2 fun H3 => Q σ H3
noncomputable def tAsg (te : TE) (g : TG) : TS := fun D σ H => te σ H fun x H1 => g x σ H1 D.nx
theorem ps_asg {tg e : Expr} {te : TE} {g : TG} (he : PE X e te) (hg : PG X tg g) (hs : swapsWithSole [tg] e pos.line X.env = pure false := by rfl) (hw : swappedStores [tg] e X.env = pure none := by rfl)
    (h1 : (assignEach [tg] X.env).map (·.2) = [assign tg X.env] := by rfl) : PS X (.Assign [tg] e pos) (tAsg te g) := by
  intro pins s σ H D I h
  refine wpAny_Assign_stores (thn (he pins s σ H _ I h) fun v s1 hq_ => ?_) hs hw
  obtain ⟨x, H1, I1, r1, q1⟩ := hq_
  rw [h1]
  exact thn (hg pins s1 σ H1 x v _ I1 r1 q1) fun _ s2 q => q
theorem ps_set {i : Nat} {x : Str} {e : Expr} {te : TE} {pos' : Pos} (hN : X.N.Nodup) (hi : X.N[i]? = some x) (hx : Loc X.env.scope x) (he : PE X e te) (hs : swapsWith e (some (.Name x pos')) pos.line X.env = pure false := by rfl) (hf : X.fn x = true ∨ X.env.scope.names.lookup x = some .local := by first | exact .inl rfl | exact .inr rfl | assumption) :
    PS X (.Assign [.Name x pos'] e pos) (tAsg te (gName i)) := by
  intro pins s σ H D I h
  refine wpAny_Assign_Name (thn (he pins s σ H _ I h) fun v s1 hq_ => ?_) hs
  obtain ⟨y, H1, I1, r1, q1⟩ := hq_
  exact store_ok I1 hN hi hx r1 (fun s2 I2 => ⟨_, H1, I2, q1⟩) hf
noncomputable def tPar (i j : Nat) (ta : TA) : TS := fun D σ H => ta σ H fun vs H1 => ∃ v w, vs = [v, w] ∧ D.nx ((σ.set i (some v)).set j (some w)) H1
noncomputable def tAug (i : Nat) (te : TE) (ti : TIp) : TS := fun D σ H => ∃ x, σ[i]? = some (some x) ∧ te σ H fun y H1 => ti x y H1 fun z H2 => D.nx (σ.set i (some z)) H2
noncomputable def tAugS (to ti te : TE) (tget : V → V → Hp → VK → Prop) (tip : TIp) (tset : TSet) : TS := fun D σ H => to σ H fun o H1 => ti σ H1 fun i H2 => tget o i H2 fun x H3 => te σ H3 fun y H4 => tip x y H4 fun z H5 => tset o i z H5 fun H6 => D.nx σ H6
noncomputable def PGet (X : Cx) (t : V → V → Hp → VK → Prop) : Prop :=
  ∀ (pins : List (Addr × Obj)) (s : Shared) (σ : St) (H : Hp) (o i : V) (ov iv : Value) (Q : VK), Inv X pins σ H s → RelV o ov → RelV i iv → t o i H Q →
    wpAny (model X.prog X.w) X.A (getItem ov iv) (EP X pins σ Q) X.xe s
noncomputable def ipI (f : Int → Int → Int) : TIp := fun x y H Q => ∃ i j, x = .int i ∧ y = .int j ∧ Q (.int (f i j)) H
end

section
variable {X : Cx} {pos : Pos}
noncomputable def tWhile (c : TT) (tb : TS) : TS := fun D σ H => ∃ W : Nat → St → Hp → Prop, (∃ m, W m σ H) ∧ ∀ m σ H, W m σ H →
  c σ H fun b H1 => if b = true then ∃ N : St → Hp → Prop, (∀ σ' H', N σ' H' → ∃ m', m' < m ∧ W m' σ' H') ∧ tb { D with nx := N, ct := N, bk := D.nx } σ H1 else D.nx σ H1
theorem ps_while {c : Expr} {body : List Stmt} {tc : TT} {tb : TS} (hp : PassesOwn (model X.prog X.w) X.A X.env X.xe) (hc : PT X c tc) (hb : PSs X body tb) : PS X (.While c body [] pos) (tWhile tc tb) := by
  intro pins s σ H D I h
  obtain ⟨W, ⟨m0, w0⟩, turn⟩ := h
  refine wpAny_While (codeAny_whileLoop (fun n s' => ∃ σ' H', Inv X pins σ' H' s' ∧ W n σ' H') ?_ m0 ⟨σ, H, I, w0⟩)
  rintro n s1 ⟨σ1, H1, I1, w1⟩
  refine wpAny_passesOwn hp (thn (hc pins s1 σ1 H1 _ I1 (turn n σ1 H1 w1)) fun b s2 hq_ => ?_)
  obtain ⟨H2, I2, q2⟩ := hq_
  cases b with
  | true =>
    obtain ⟨N, hN, q2⟩ := q2
    rw [if_pos rfl]
    refine wpAny_passesOwn hp (thn (hb pins s2 σ1 H2 _ I2 q2) fun f s3 q3 => ?_)
    cases f with
    | next =>
      obtain ⟨σ3, H3, I3, n3⟩ := q3
      obtain ⟨m', hm, w3⟩ := hN σ3 H3 n3
      exact ⟨m', hm, σ3, H3, I3, w3⟩
    | cont =>
      obtain ⟨σ3, H3, I3, n3⟩ := q3
      obtain ⟨m', hm, w3⟩ := hN σ3 H3 n3
      exact ⟨m', hm, σ3, H3, I3, w3⟩
    | brk => exact q3
    | ret v => exact q3
  | false =>
    rw [if_neg Bool.false_ne_true]
    exact wpAny_execs_nil ⟨σ1, H2, I2, q2⟩
end

structure It where
  go : Nat → Hp → Prop
  yld : Nat → Hp → V → Hp → Prop
  stop : Nat → Hp → Prop
noncomputable def FpOk (X : Cx) (pins : List (Addr × Obj)) (H : Hp) (b : Addr) : Prop :=
  H b = none ∧ b ≠ X.env.locals ∧ b ∉ X.fs ∧ (b ∈ X.ex ∨ X.s₀.heap.objs.size ≤ b) ∧ (∀ x c, X.env.cells.lookup x = some c → c ≠ b) ∧ ∀ p ∈ X.pn ++ pins, p.1 ≠ b
theorem Inv.fpOk {X : Cx} {pins : List (Addr × Obj)} {σ : St} {H H' : Hp} {s : Shared} {b : Addr} (I : Inv X pins σ H s) (hb : s.heap.objs.size ≤ b) (hn : H' b = none) : FpOk X pins H' b := by
  refine ⟨hn, Nat.ne_of_gt (Nat.lt_of_lt_of_le I.lt hb), I.nofs hb, .inr (Nat.le_trans I.sz hb), fun x c e z => ?_, fun p hp z => ?_⟩
  · obtain ⟨v, q⟩ := I.cell x c e
    exact absurd (Nat.lt_of_lt_of_le q.lt (by rw [z]; exact hb)) (Nat.lt_irrefl _)
  · exact absurd (Nat.lt_of_lt_of_le (Heap.lt_size (I.pin p hp).1) (by rw [z]; exact hb)) (Nat.lt_irrefl _)
structure Turn (P : Program) (w : World) (K : PySem.W.Frag) (tg : Expr) (J : It) (fp : List Addr) (it : Addr) (tn : Nat → Heap → Prop) : Prop where
  mem : it ∈ fp
  obj : ∀ i h, tn i h → ∀ b ∈ fp, ∃ o, h.get? b = some o ∧ ∀ v, o.data ≠ .cell v
  keep : ∀ i h h', tn i h → (∀ b ∈ fp, ∀ o, h.get? b = some o → h'.get? b = some o) → tn i h'
  item : ∀ (X : Cx), X.prog = P → X.w = w → X.K = K → X.calm = true → ∀ (i : Nat) (pins : List (Addr × Obj)) (s : Shared) (σ : St) (H : Hp) (E : Value → Shared → Prop), Inv X pins σ H s → (∀ b ∈ fp, FpOk X pins H b) → tn i s.heap → J.go i H →
    wpAny (model P w) X.A (pyNext (.ref it)) (fun r s1 => ∃ u, r = some u ∧
      wpAny (model P w) X.A (letOwnedTupleGo tg (.ref it) u) (fun _ s2 => ∃ x H', Inv X pins σ H' s2 ∧ RelV x u ∧ J.yld i H x H' ∧ tn (i + 1) s2.heap ∧ ∀ b ∈ fp, H' b = none) E s1) E s
  done : ∀ (X : Cx), X.prog = P → X.w = w → X.K = K → X.calm = true → ∀ (i : Nat) (pins : List (Addr × Obj)) (s : Shared) (σ : St) (H : Hp) (E : Value → Shared → Prop), Inv X pins σ H s → (∀ b ∈ fp, FpOk X pins H b) → tn i s.heap → J.stop i H →
    wpAny (model P w) X.A (pyNext (.ref it)) (fun r s1 => r = none ∧ Inv X pins σ H s1) E s
  self : ∀ (A : Around) (i : Nat) (s : Shared) (Q : Value → Shared → Prop) (E : Value → Shared → Prop), tn i s.heap → Q (.ref it) s → wpAny (model P w) A (pyIter (.ref it)) Q E s
noncomputable abbrev TI := St → Hp → (It → Hp → Prop) → Prop
noncomputable def PIE (X : Cx) (pins : List (Addr × Obj)) (σ : St) (tg : Expr) (R : It → Hp → Prop) (itv : Value) (s2 : Shared) : Prop :=
  ∃ (it : Addr) (fp : List Addr) (tn : Nat → Heap → Prop) (J : It) (H' : Hp), itv = .ref it ∧ Inv X pins σ H' s2 ∧ Turn X.prog X.w X.K tg J fp it tn ∧ tn 0 s2.heap ∧ (∀ b ∈ fp, FpOk X pins H' b) ∧ R J H'
noncomputable def PI (X : Cx) (tg iter : Expr) (wi : TI) : Prop :=
  ∀ (pins : List (Addr × Obj)) (s : Shared) (σ : St) (H : Hp) (R : It → Hp → Prop), Inv X pins σ H s → wi σ H R →
    wpAny (model X.prog X.w) X.A (eval iter X.env) (fun v s1 => wpAny (model X.prog X.w) X.A (pyIter v) (PIE X pins σ tg R) X.xe s1) X.xe s

theorem go_of {M : Model} {A : Around} {E : Value → Shared → Prop} {s : Shared} {tg : Expr} {it : Addr} {u : Value} {o : Obj} {n : String} {vs : Array Value} {Q : Unit → Shared → Prop} (ho : s.heap.get? it = some o) (hc : o.cls = .type n) (hd : o.data = .fields vs)
    (hn : ["enumerate", "zip", "dict_itemiterator", "dict_reverseitemiterator", "odict_iterator", "itertools.zip_longest", "itertools.pairwise"].contains n = false) (hQ : Q () s) : wpAny M A (letOwnedTupleGo tg (.ref it) u) Q E s := by
  unfold letOwnedTupleGo
  cases tg <;> first
    | exact wpAny_pure hQ
    | (cases u <;> first
        | exact wpAny_pure hQ
        | (refine wpAny_bind (wpAny_load ho ?_)
           rw [hc, hd]
           show wpAny M A (if (["enumerate", "zip", "dict_itemiterator", "dict_reverseitemiterator", "odict_iterator", "itertools.zip_longest", "itertools.pairwise"].contains n && vs[0]? == some (rawInt _)) = true then _ else _) Q E s
           rw [if_neg (by intro h; rw [hn, Bool.false_and] at h; cases h)]
           exact wpAny_pure hQ))

noncomputable def Itl (K : PySem.W.Frag) (a : Addr) : It :=
  ⟨fun i H => ∃ xs x, SqL K H a xs ∧ xs[i]? = some x, fun i H x H' => H' = H ∧ ∀ xs, SqL K H a xs → xs[i]? = some x, fun i H => ∃ xs, SqL K H a xs ∧ xs.length ≤ i⟩
noncomputable def Itt (K : PySem.W.Frag) (a : Addr) : It :=
  ⟨fun i H => ∃ xs x, SqT K H a xs ∧ xs[i]? = some x, fun i H x H' => H' = H ∧ ∀ xs, SqT K H a xs → xs[i]? = some x, fun i H => ∃ xs, SqT K H a xs ∧ xs.length ≤ i⟩
noncomputable def Itr (lo : Int) (n : Nat) : It := ⟨fun i _ => i < n, fun i H x H' => H' = H ∧ x = .int (lo + i), fun i _ => n ≤ i⟩
theorem turn_list {P : Program} {w : World} {K : PySem.W.Frag} {tg : Expr} (a it : Addr) : Turn P w K tg (Itl K a) [it] it (fun i h => h.IsListIter it a i) where
  mem := by simp
  obj := fun i h st b hb => by
    have e : b = it := by simpa using hb
    subst e
    obtain ⟨o, e, c, d⟩ := st
    exact ⟨o, e, fun v z => by rw [d] at z; cases z⟩
  keep := fun i h h' st k => st.at fun o e => k it (by simp) o e
  item := by
    intro X hP hw hK hc i pins s σ H E I hf st hg
    subst hP hw hK
    obtain ⟨xs, x, hq, hx⟩ := hg
    obtain ⟨its, rv, p, hz⟩ := I.list hq
    obtain ⟨u, hu, ru⟩ := rv.get hx
    obtain ⟨f0, f1, f2, f3, f4, f5⟩ := hf it (by simp)
    refine wpAny_pyNext_list_item st p.isList (x := u) (by simpa using hu) fun h' st' sb => ?_
    have I1 : Inv X pins σ H { s with heap := h' } := I.turned (t' := s.toks) (fun b o hb e => (sb.2 b hb).trans e) f0 f1 f3 f4 f5
    obtain ⟨o, e, c, d⟩ := id st'
    exact ⟨u, rfl, go_of (s := { s with heap := h' }) e c d (by decide) ⟨x, H, I1, ru, ⟨rfl, fun ys hy => by rw [I.list_inj hy hq]; exact hx⟩, st', fun b hb => (hf b hb).1⟩⟩
  done := by
    intro X hP hw hK hc i pins s σ H E I hf st hg
    subst hP hw hK
    obtain ⟨xs, hq, hx⟩ := hg
    obtain ⟨its, rv, p, hz⟩ := I.list hq
    obtain ⟨f0, f1, f2, f3, f4, f5⟩ := hf it (by simp)
    have hl := rv.length
    exact wpAny_pyNext_list_end (I.ok.hd hc) st p.isList (by simp; omega) fun h' eb => ⟨rfl, I.turned (t' := s.toks) (fun b o hb e => eb b o hb e) f0 f1 f3 f4 f5⟩
  self := fun _ _ _ _ _ st h => wpAny_pyIter_listiter st h
theorem turn_tuple {P : Program} {w : World} {K : PySem.W.Frag} {tg : Expr} (a it : Addr) : Turn P w K tg (Itt K a) [it] it (fun i h => h.IsTupleIter it a i) where
  mem := by simp
  obj := fun i h st b hb => by
    have e : b = it := by simpa using hb
    subst e
    obtain ⟨o, e, c, d⟩ := st
    exact ⟨o, e, fun v z => by rw [d] at z; cases z⟩
  keep := fun i h h' st k => st.at fun o e => k it (by simp) o e
  item := by
    intro X hP hw hK hc i pins s σ H E I hf st hg
    subst hP hw hK
    obtain ⟨xs, x, hq, hx⟩ := hg
    obtain ⟨its, rv, p, hz⟩ := I.tuple hq
    obtain ⟨u, hu, ru⟩ := rv.get hx
    obtain ⟨f0, f1, f2, f3, f4, f5⟩ := hf it (by simp)
    refine wpAny_pyNext_tuple_item st (show s.heap.IsTuple a its.toArray from p) (x := u) (by simpa using hu) fun h' st' sb => ?_
    have I1 : Inv X pins σ H { s with heap := h' } := I.turned (t' := s.toks) (fun b o hb e => (sb.2 b hb).trans e) f0 f1 f3 f4 f5
    obtain ⟨o, e, c, d⟩ := id st'
    exact ⟨u, rfl, go_of (s := { s with heap := h' }) e c d (by decide) ⟨x, H, I1, ru, ⟨rfl, fun ys hy => by rw [I.tuple_inj hy hq]; exact hx⟩, st', fun b hb => (hf b hb).1⟩⟩
  done := by
    intro X hP hw hK hc i pins s σ H E I hf st hg
    subst hP hw hK
    obtain ⟨xs, hq, hx⟩ := hg
    obtain ⟨its, rv, p, hz⟩ := I.tuple hq
    obtain ⟨f0, f1, f2, f3, f4, f5⟩ := hf it (by simp)
    have hl := rv.length
    exact wpAny_pyNext_tuple_end (I.ok.hd hc) st (show s.heap.IsTuple a its.toArray from p) (by simp; omega) fun h' eb => ⟨rfl, I.turned (t' := s.toks) (fun b o hb e => eb b o hb e) f0 f1 f3 f4 f5⟩
  self := fun _ _ _ _ _ st h => wpAny_pyIter_tupleiter st h
theorem turn_range {P : Program} {w : World} {K : PySem.W.Frag} {tg : Expr} (it : Addr) (lo : Int) (n : Nat) : Turn P w K tg (Itr lo n) [it] it (fun i h => IsRangeIter h it (lo + (i : Nat) * 1) ((n : Int) - (i : Nat)) 1) where
  mem := by simp
  obj := fun i h st b hb => by
    have e : b = it := by simpa using hb
    subst e
    exact ⟨_, st, fun v z => by
      have z' : Data.fields _ = Data.cell v := z
      cases z'⟩
  keep := fun i h h' st k => k it (by simp) _ st
  item := by
    intro X hP hw hK hc i pins s σ H E I hf st hg
    subst hP hw hK
    obtain ⟨f0, f1, f2, f3, f4, f5⟩ := hf it (by simp)
    have W := Walks.range (prog := X.prog) (w := X.w) (I.ok.hd hc) it lo 1 n
    refine W.item i s _ _ hg st fun v h' tk hv st' kk => ?_
    obtain ⟨t, rfl⟩ := hv
    have I1 : Inv X pins σ H { s with heap := h', toks := tk } := I.turned (fun b o hb e => kk b o (by simpa using hb) e) f0 f1 f3 f4 f5
    refine (L2.ea rfl (go_of (s := { s with heap := h', toks := tk }) (n := "range_iterator") st' rfl rfl (by decide) ⟨.int (lo + i), H, I1, ⟨t, ?_⟩, ⟨rfl, rfl⟩, st', fun b hb => (hf b hb).1⟩))
    rw [Int.mul_one]
  done := by
    intro X hP hw hK hc i pins s σ H E I hf st hg
    subst hP hw hK
    obtain ⟨f0, f1, f2, f3, f4, f5⟩ := hf it (by simp)
    exact wpAny_pyNext_range_end (I.ok.hd hc) st (by have : n ≤ i := hg; omega) fun h' eb => ⟨rfl, I.turned (t' := s.toks) (fun b o hb e => eb b o hb e) f0 f1 f3 f4 f5⟩
  self := fun _ _ _ _ _ st h => wpAny_pyIter_rangeiter st h
end L2

namespace L2
open PySem PySem.Spec PyProof.Rows
section
variable {X : Cx} {tg : Expr}
noncomputable def iList (K : PySem.W.Frag) (tl : TE) : TI := fun σ H R => tl σ H fun x H1 => ∃ a, x = .ref a ∧ (∃ xs, SqL K H1 a xs) ∧ R (Itl K a) H1
noncomputable def iTup (K : PySem.W.Frag) (tl : TE) : TI := fun σ H R => tl σ H fun x H1 => ∃ a, x = .ref a ∧ (∃ xs, SqT K H1 a xs) ∧ R (Itt K a) H1
theorem pi_list {l : Expr} {tl : TE} (hl : PE X l tl) : PI X tg l (iList X.K tl) := by
  intro pins s σ H R I h
  refine thn (hl pins s σ H _ I h) fun v s1 hq_ => ?_
  obtain ⟨x, H1, I1, r1, q1⟩ := hq_
  obtain ⟨a, e, ⟨xs, hq⟩, q⟩ := q1
  subst e
  cases r1
  obtain ⟨its, rv, p, hz⟩ := I1.list hq
  refine wpAny_pyIter_list p.isList ?_
  refine ⟨s1.heap.objs.size, [s1.heap.objs.size], _, _, H1, rfl, I1.kept (t' := s1.toks) fun b o e => Heap.get?_push_of_some _ e, turn_list a _, ⟨_, Heap.get?_push_size _ rfl, rfl, rfl⟩, fun b hb => ?_, q⟩
  have e : b = s1.heap.objs.size := by simpa using hb
  subst e
  exact I1.fpOk (Nat.le_refl _) (I1.hok.fresh (Nat.le_refl _))
theorem pi_tup {l : Expr} {tl : TE} (hl : PE X l tl) : PI X tg l (iTup X.K tl) := by
  intro pins s σ H R I h
  refine thn (hl pins s σ H _ I h) fun v s1 hq_ => ?_
  obtain ⟨x, H1, I1, r1, q1⟩ := hq_
  obtain ⟨a, e, ⟨xs, hq⟩, q⟩ := q1
  subst e
  cases r1
  obtain ⟨its, rv, p, hz⟩ := I1.tuple hq
  refine wpAny_pyIter_tuple (show s1.heap.IsTuple a its.toArray from p) ?_
  refine ⟨s1.heap.objs.size, [s1.heap.objs.size], _, _, H1, rfl, I1.kept (t' := s1.toks) fun b o e => Heap.get?_push_of_some _ e, turn_tuple a _, ⟨_, Heap.get?_push_size _ rfl, rfl, rfl⟩, fun b hb => ?_, q⟩
  have e : b = s1.heap.objs.size := by simpa using hb
  subst e
  exact I1.fpOk (Nat.le_refl _) (I1.hok.fresh (Nat.le_refl _))
theorem range_it {pins : List (Addr × Obj)} {σ : St} {H : Hp} {s : Shared} {R : It → Hp → Prop} {E : Value → Shared → Prop} {lo hi : Int} {t u v : Tok} {tk : Nat} (I : Inv X pins σ H s) (h1 : -(2 ^ 62) ≤ lo) (h2 : lo < 2 ^ 62) (h3 : -(2 ^ 62) ≤ hi) (h4 : hi < 2 ^ 62)
    (q : R (Itr lo (hi - lo).toNat) H) : wpAny (model X.prog X.w) X.A (pyIter (.ref s.heap.objs.size)) (PIE X pins σ tg R) E { s with heap := s.heap.push { cls := .type "range", data := .fields #[.int lo t, .int hi u, .int 1 v] }, toks := tk } := by
  refine wpAny_pyIter_range (IsRange.new ..) (small_one h1 h2 h3 h4) ?_
  have I1 : Inv X pins σ H { s with heap := s.heap.push { cls := .type "range", data := .fields #[.int lo t, .int hi u, .int 1 v] }, toks := tk } := I.kept fun b o e => Heap.get?_push_of_some _ e
  refine ⟨(s.heap.push { cls := .type "range", data := .fields #[.int lo t, .int hi u, .int 1 v] }).objs.size, [(s.heap.push { cls := .type "range", data := .fields #[.int lo t, .int hi u, .int 1 v] }).objs.size], _, _, H, rfl,
    I1.kept (t' := tk) fun b o e => Heap.get?_push_of_some _ e, turn_range _ lo (hi - lo).toNat, ?_, fun b hb => ?_, q⟩
  · have e1 : lo + ((0 : Nat) : Int) * 1 = lo := by simp
    have e2 : (((hi - lo).toNat : Nat) : Int) - ((0 : Nat) : Int) = Builtin.Range.rangeSize lo hi 1 := by rw [rangeSize_one]; split <;> omega
    show IsRangeIter _ _ (lo + ((0 : Nat) : Int) * 1) ((((hi - lo).toNat : Nat) : Int) - ((0 : Nat) : Int)) 1
    rw [e1, e2]
    exact Heap.get?_push_size _ rfl
  · have e : b = (s.heap.push { cls := .type "range", data := .fields #[.int lo t, .int hi u, .int 1 v] }).objs.size := by simpa using hb
    subst e
    exact I1.fpOk (Nat.le_refl _) (I1.hok.fresh (Nat.le_refl _))
noncomputable def iRng1 (ta : TA) : TI := fun σ H R => ta σ H fun vs H1 => ∃ j : Int, vs = [.int j] ∧ -(2 ^ 62) ≤ j ∧ j < 2 ^ 62 ∧ R (Itr 0 j.toNat) H1
noncomputable def iRng2 (ta : TA) : TI := fun σ H R => ta σ H fun vs H1 => ∃ i j : Int, vs = [.int i, .int j] ∧ (-(2 ^ 62) ≤ i ∧ i < 2 ^ 62 ∧ -(2 ^ 62) ≤ j ∧ j < 2 ^ 62) ∧ R (Itr i (j - i).toNat) H1
theorem pi_range1 {a : Expr} {ta : TA} {p pos : Pos} (hg : Gl X "range") (hm : X.mg "range" = none) (ha : PA X [a] ta) (hs : starEach [a] X.env = [(false, eval a X.env)] := by rfl) : PI X tg (.Call (.Name "range" p) [a] [] pos) (iRng1 ta) := by
  intro pins s σ H R I h
  refine Call_ (ld_blt I hg hm boot_range (PyProof.Rows.callWith_type1 (thn (ha pos pins s σ H _ I h) fun us s1 hq_ => ?_) hs rfl))
  obtain ⟨vs, H1, I1, r1, q1⟩ := hq_
  obtain ⟨j, e, q1, q2, q⟩ := q1
  subst e
  cases r1 with
  | cons r rr =>
    cases rr
    obtain ⟨t, rfl⟩ := r
    exact call_range_1 (range_it I1 (by omega) (by omega) q1 q2 (by simpa using q))
theorem pi_range2 {a b : Expr} {ta : TA} {p pos : Pos} (hg : Gl X "range") (hm : X.mg "range" = none) (ha : PA X [a, b] ta) (hs : starEach [a, b] X.env = [(false, eval a X.env), (false, eval b X.env)] := by rfl) (hs2 : starEach [b] X.env = [(false, eval b X.env)] := by rfl) :
    PI X tg (.Call (.Name "range" p) [a, b] [] pos) (iRng2 ta) := by
  intro pins s σ H R I h
  refine Call_ (ld_blt I hg hm boot_range (PyProof.Rows.callWith_type1 (thn (ha pos pins s σ H _ I h) fun us s1 hq_ => ?_) (by rw [hs, hs2]) (by rw [hs2]; rfl)))
  obtain ⟨vs, H1, I1, r1, q1⟩ := hq_
  obtain ⟨i, j, e, ⟨q1, q2, q3, q4⟩, q⟩ := q1
  subst e
  cases r1 with
  | cons r rr =>
    cases rr with
    | cons r' rr =>
      cases rr
      obtain ⟨t, rfl⟩ := r
      obtain ⟨t', rfl⟩ := r'
      exact call_range_2 (range_it I1 q1 q2 q3 q4 q)

noncomputable def tFor (wi : TI) (g : TG) (tb : TS) : TS := fun D σ H => wi σ H fun J H1 => ∃ W : Nat → Nat → St → Hp → Prop, (∃ m, W 0 m σ H1) ∧ ∀ i m σ H, W i m σ H →
  (J.stop i H ∧ D.nx σ H) ∨ (J.go i H ∧ ∃ N : St → Hp → Prop, (∀ σ' H', N σ' H' → ∃ m', m' < m ∧ W (i + 1) m' σ' H') ∧ ∀ x H', J.yld i H x H' → g x σ H' fun σ2 H2 => tb { D with nx := N, ct := N, bk := D.nx } σ2 H2)
noncomputable def pinsAt (fp : List Addr) (h : Heap) : List (Addr × Obj) := fp.filterMap fun b => (h.get? b).map fun o => (b, o)
theorem mem_pinsAt {fp : List Addr} {h : Heap} {b : Addr} {o : Obj} (hb : b ∈ fp) (e : h.get? b = some o) : (b, o) ∈ pinsAt fp h := List.mem_filterMap.mpr ⟨b, hb, by rw [e]; rfl⟩
theorem of_pinsAt {fp : List Addr} {h : Heap} {p : Addr × Obj} (hp : p ∈ pinsAt fp h) : p.1 ∈ fp ∧ h.get? p.1 = some p.2 := by
  obtain ⟨b, hb, e⟩ := List.mem_filterMap.mp hp
  cases q : h.get? b with
  | none => rw [q] at e; cases e
  | some o =>
    rw [q] at e
    have e' : (b, o) = p := Option.some.inj e
    subst e'
    exact ⟨hb, q⟩
theorem Inv.pinned {pins : List (Addr × Obj)} {σ : St} {H : Hp} {s : Shared} {fp : List Addr} (I : Inv X pins σ H s) (hf : ∀ b ∈ fp, FpOk X pins H b) (ho : ∀ b ∈ fp, ∃ o, s.heap.get? b = some o ∧ ∀ v, o.data ≠ .cell v) : Inv X (pins ++ pinsAt fp s.heap) σ H s :=
  I.pins_of fun p hp => (List.mem_append.mp hp).elim (fun z => I.pin p (List.mem_append_right _ z)) fun z => by
    obtain ⟨hb, e⟩ := of_pinsAt z
    obtain ⟨f0, f1, f2, _⟩ := hf p.1 hb
    obtain ⟨o, e', d⟩ := ho p.1 hb
    rw [e] at e'; cases e'
    exact ⟨e, f0, f1, f2, d⟩
theorem Inv.unpinned {pins pl : List (Addr × Obj)} {σ : St} {H : Hp} {s : Shared} (I : Inv X (pins ++ pl) σ H s) : Inv X pins σ H s := I.pins_of fun p hp => I.pin p (List.mem_append_right _ (List.mem_append_left _ hp))
theorem ps_for {iter : Expr} {body : List Stmt} {wi : TI} {g : TG} {tb : TS} {pos : Pos} (hp : PassesOwn (model X.prog X.w) X.A X.env X.xe) (hc : X.calm = true) (hi : PI X tg iter wi) (hg : PG X tg g) (hb : PSs X body tb)
    (hs : ∀ x, foldedSetIterable iter X.env x = pure x := by intro _; rfl) : PS X (.For tg iter body [] pos) (tFor wi g tb) := by
  intro pins s σ H D I h
  refine wpAny_For (thn (hi pins s σ H _ I h) fun v s1 h1 => thn h1 fun itv s2 h2 => ?_) hs
  obtain ⟨it, fp, tn, J, H2, e, I2, T, st2, f2, W, ⟨m0, w0⟩, turn⟩ := h2
  subst e
  have stat : ∀ {H' : Hp}, (∀ b ∈ fp, H' b = none) → ∀ b ∈ fp, FpOk X pins H' b := fun hn b hb => ⟨hn b hb, (f2 b hb).2⟩
  refine codeAny_forLoop_any (fun n s' => ∃ i σ' H', Inv X pins σ' H' s' ∧ tn i s'.heap ∧ (∀ b ∈ fp, H' b = none) ∧ W i n σ' H') ?_ m0 ⟨0, σ, H2, I2, st2, fun b hb => (f2 b hb).1, w0⟩
  rintro n s3 ⟨i, σ3, H3, I3, st3, fr3, w3⟩
  rcases turn i n σ3 H3 w3 with ⟨stop, qn⟩ | ⟨go, N, hN, step⟩
  · refine wpAny_passesOwn hp (thn (T.done X rfl rfl rfl hc i pins s3 σ3 H3 X.xe I3 (stat fr3) st3 stop) fun r s4 hq_ => ?_)
    obtain ⟨hr, I4⟩ := hq_
    subst hr
    exact wpAny_execs_nil ⟨σ3, H3, I4, qn⟩
  · refine wpAny_passesOwn hp (thn (T.item X rfl rfl rfl hc i pins s3 σ3 H3 X.xe I3 (stat fr3) st3 go) fun r s4 hq_ => ?_)
    obtain ⟨u, hr, h4⟩ := hq_
    subst hr
    refine wpAny_passesOwn hp (thn h4 fun _ s5 hq_ => ?_)
    obtain ⟨x, H5, I5, r5, y5, st5, fr5⟩ := hq_
    have I5' := I5.pinned (stat fr5) (T.obj _ _ st5)
    refine wpAny_passesOwn hp (thn (hg _ s5 σ3 H5 x u _ I5' r5 (step x H5 y5)) fun _ s6 hq_ => ?_)
    obtain ⟨σ6, H6, I6, q6⟩ := hq_
    refine wpAny_passesOwn hp (thn (hb _ s6 σ6 H6 _ I6 q6) fun f s7 q7 => ?_)
    have again : ∀ {σ7 : St} {H7 : Hp}, Inv X (pins ++ pinsAt fp s5.heap) σ7 H7 s7 → N σ7 H7 → ∃ m, m < n ∧ ∃ i σ' H', Inv X pins σ' H' s7 ∧ tn i s7.heap ∧ (∀ b ∈ fp, H' b = none) ∧ W i m σ' H' := fun {σ7 H7} I7 n7 => by
      obtain ⟨m', hm, w7⟩ := hN σ7 H7 n7
      refine ⟨m', hm, i + 1, σ7, H7, I7.unpinned, T.keep _ _ _ st5 fun b hb o e => (I7.pin (b, o) (List.mem_append_right _ (List.mem_append_right _ (mem_pinsAt hb e)))).1, fun b hb => ?_, w7⟩
      obtain ⟨o, e, d⟩ := T.obj _ _ st5 b hb
      exact (I7.pin (b, o) (List.mem_append_right _ (List.mem_append_right _ (mem_pinsAt hb e)))).2.1
    cases f with
    | next => obtain ⟨σ7, H7, I7, n7⟩ := q7; exact again I7 n7
    | cont => obtain ⟨σ7, H7, I7, n7⟩ := q7; exact again I7 n7
    | brk => obtain ⟨σ7, H7, I7, q7⟩ := q7; exact ⟨σ7, H7, I7.unpinned, q7⟩
    | ret v => obtain ⟨x7, σ7, H7, I7, r7, q7⟩ := q7; exact ⟨x7, σ7, H7, I7.unpinned, r7, q7⟩
end

theorem for_list {K : PySem.W.Frag} {a : Addr} {xs : List V} {g : TG} {tb : TS} {D : Ends} {σ : St} {H : Hp} (Pv : Nat → St → Hp → Prop) (h0 : Pv 0 σ H) (hl : ∀ i σ H, i ≤ xs.length → Pv i σ H → SqL K H a xs)
    (hs : ∀ i x σ H, xs[i]? = some x → Pv i σ H → g x σ H fun σ2 H2 => tb { D with nx := Pv (i + 1), ct := Pv (i + 1), bk := D.nx } σ2 H2) (hd : ∀ σ H, Pv xs.length σ H → D.nx σ H) :
    ∃ W : Nat → Nat → St → Hp → Prop, (∃ m, W 0 m σ H) ∧ ∀ i m σ H, W i m σ H →
      ((Itl K a).stop i H ∧ D.nx σ H) ∨ ((Itl K a).go i H ∧ ∃ N : St → Hp → Prop, (∀ σ' H', N σ' H' → ∃ m', m' < m ∧ W (i + 1) m' σ' H') ∧ ∀ x H', (Itl K a).yld i H x H' → g x σ H' fun σ2 H2 => tb { D with nx := N, ct := N, bk := D.nx } σ2 H2) := by
  refine ⟨fun i m σ H => m = xs.length - i ∧ i ≤ xs.length ∧ Pv i σ H, ⟨xs.length, by simp, Nat.zero_le _, h0⟩, ?_⟩
  rintro i m σ H ⟨rfl, hi, p⟩
  have q := hl i σ H hi p
  by_cases hlt : i < xs.length
  · refine .inr ⟨⟨xs, xs[i], q, by simp [hlt]⟩, Pv (i + 1), fun σ' H' p' => ⟨xs.length - (i + 1), Nat.sub_lt_sub_left hlt (Nat.lt_succ_self i), rfl, hlt, p'⟩, fun x H' y => ?_⟩
    obtain ⟨e, y⟩ := y
    subst e
    exact hs i x σ _ (y xs q) p
  · have e : i = xs.length := by omega
    subst e
    exact .inl ⟨⟨xs, q, Nat.le_refl _⟩, hd σ H p⟩
theorem for_range {lo : Int} {n : Nat} {g : TG} {tb : TS} {D : Ends} {σ : St} {H : Hp} (Pv : Nat → St → Hp → Prop) (h0 : Pv 0 σ H)
    (hs : ∀ i σ H, i < n → Pv i σ H → g (.int (lo + i)) σ H fun σ2 H2 => tb { D with nx := Pv (i + 1), ct := Pv (i + 1), bk := D.nx } σ2 H2) (hd : ∀ σ H, Pv n σ H → D.nx σ H) :
    ∃ W : Nat → Nat → St → Hp → Prop, (∃ m, W 0 m σ H) ∧ ∀ i m σ H, W i m σ H →
      ((Itr lo n).stop i H ∧ D.nx σ H) ∨ ((Itr lo n).go i H ∧ ∃ N : St → Hp → Prop, (∀ σ' H', N σ' H' → ∃ m', m' < m ∧ W (i + 1) m' σ' H') ∧ ∀ x H', (Itr lo n).yld i H x H' → g x σ H' fun σ2 H2 => tb { D with nx := N, ct := N, bk := D.nx } σ2 H2) := by
  refine ⟨fun i m σ H => m = n - i ∧ i ≤ n ∧ Pv i σ H, ⟨n, by simp, Nat.zero_le _, h0⟩, ?_⟩
  rintro i m σ H ⟨rfl, hi, p⟩
  by_cases hlt : i < n
  · refine .inr ⟨hlt, Pv (i + 1), fun σ' H' p' => ⟨n - (i + 1), Nat.sub_lt_sub_left hlt (Nat.lt_succ_self i), rfl, hlt, p'⟩, fun x H' y => ?_⟩
    obtain ⟨e, y⟩ := y
    subst e y
    exact hs i σ _ hlt p
  · have e : i = n := by omega
    subst e
    exact .inl ⟨Nat.le_refl _, hd σ H p⟩
end L2

namespace L2
open PySem PySem.Spec PyProof.Rows

noncomputable abbrev R2 := V → V → Hp → VK → Prop
noncomputable def OpR (X : Cx) (f : Value → Value → Sem Value) (r : R2) : Prop :=
  ∀ (pins : List (Addr × Obj)) (s : Shared) (σ : St) (H : Hp) (x y : V) (v u : Value) (Q : VK), Inv X pins σ H s → RelV x v → RelV y u → r x y H Q →
    wpAny (model X.prog X.w) X.A (f v u) (EP X pins σ Q) X.xe s
noncomputable def UnR (X : Cx) (f : Value → Sem Value) (r : V → Hp → VK → Prop) : Prop :=
  ∀ (pins : List (Addr × Obj)) (s : Shared) (σ : St) (H : Hp) (x : V) (v : Value) (Q : VK), Inv X pins σ H s → RelV x v → r x H Q →
    wpAny (model X.prog X.w) X.A (f v) (EP X pins σ Q) X.xe s
noncomputable def CallR (X : Cx) (f : Value) (r : List V → Hp → VK → Prop) : Prop :=
  ∀ (pins : List (Addr × Obj)) (s : Shared) (σ : St) (H : Hp) (xs : List V) (us : List Value) (Q : VK), Inv X pins σ H s → Vals xs us → r xs H Q →
    wpAny (model X.prog X.w) X.A (call f us) (EP X pins σ Q) X.xe s
noncomputable def TruR (X : Cx) (r : V → Hp → (Bool → Hp → Prop) → Prop) : Prop :=
  ∀ (pins : List (Addr × Obj)) (s : Shared) (σ : St) (H : Hp) (x : V) (v : Value) (Q : Bool → Hp → Prop), Inv X pins σ H s → RelV x v → r x H Q →
    wpAny (model X.prog X.w) X.A (truthy v) (TP X pins σ Q) X.xe s

noncomputable def tOp (r : R2) (ta tb : TE) : TE := fun σ H Q => ta σ H fun x H1 => tb σ H1 fun y H2 => r x y H2 Q
noncomputable def tUn (r : V → Hp → VK → Prop) (ta : TE) : TE := fun σ H Q => ta σ H fun x H1 => r x H1 Q
noncomputable def rI (C : Int → Int → Prop) (g : Int → Int → V) : R2 := fun x y H Q => ∃ i j, x = .int i ∧ y = .int j ∧ C i j ∧ Q (g i j) H
noncomputable def rI0 (g : Int → Int → V) : R2 := fun x y H Q => ∃ i j, x = .int i ∧ y = .int j ∧ Q (g i j) H
noncomputable def rU (g : Int → V) : V → Hp → VK → Prop := fun x H Q => ∃ i, x = .int i ∧ Q (g i) H

section
variable {X : Cx} {a b c : Expr} {ta tb tc : TE} {pos : Pos}

theorem binT (ha : PE X a ta) (hb : PE X b tb) {pins : List (Addr × Obj)} {s : Shared} {σ : St} {H : Hp} {R : V → V → Hp → Prop} (I : Inv X pins σ H s)
    (h : ta σ H fun x H1 => tb σ H1 fun y H2 => R x y H2) {Q : Value → Shared → Prop} {f : Value → Value → Sem Value}
    (hf : ∀ v u s2 x y H2, Inv X pins σ H2 s2 → RelV x v → RelV y u → R x y H2 → wpAny (model X.prog X.w) X.A (f v u) Q X.xe s2) :
    wpAny (model X.prog X.w) X.A (eval a X.env) (fun v s₁ => wpAny (model X.prog X.w) X.A (eval b X.env) (fun u s₂ => wpAny (model X.prog X.w) X.A (f v u) Q X.xe s₂) X.xe s₁) X.xe s := by
  refine thn (ha pins s σ H _ I h) fun v s1 hq_ => ?_
  obtain ⟨x, H1, I1, r1, q1⟩ := hq_
  refine thn (hb pins s1 σ H1 _ I1 q1) fun u s2 hq_ => ?_
  obtain ⟨y, H2, I2, r2, q2⟩ := hq_
  exact hf v u s2 x y H2 I2 r1 r2 q2

theorem pe_op {op : Operator} {r : R2} (ho : OpR X (binaryOp op) r) (ha : PE X a ta) (hb : PE X b tb) : PE X (.BinOp a op b pos) (tOp r ta tb) := by
  intro pins s σ H Q I h
  exact wpAny_BinOp (binT ha hb I h fun v u s2 x y H2 I2 rx ry q => ho pins s2 σ H2 x y v u Q I2 rx ry q)
theorem opI {f : Value → Value → Sem Value} {C : Int → Int → Prop} {g : Int → Int → Int}
    (rule : ∀ (i j : Int) (t u : Tok) (s : Shared) (Q : Value → Shared → Prop) (E : Value → Shared → Prop), C i j → Q (.int (g i j) s.toks) { s with toks := s.toks + 1 } → wpAny (model X.prog X.w) X.A (f (.int i t) (.int j u)) Q E s) :
    OpR X f (rI C fun i j => .int (g i j)) := by
  intro pins s σ H x y v u Q I rx ry h
  obtain ⟨i, j, rfl, rfl, hc, q⟩ := h
  obtain ⟨t, rfl⟩ := rx
  obtain ⟨t', rfl⟩ := ry
  exact rule i j t t' s _ _ hc ⟨.int (g i j), H, I.tok _, ⟨_, rfl⟩, q⟩
theorem opI0 {f : Value → Value → Sem Value} {g : Int → Int → Int}
    (rule : ∀ (i j : Int) (t u : Tok) (s : Shared) (Q : Value → Shared → Prop) (E : Value → Shared → Prop), Q (.int (g i j) s.toks) { s with toks := s.toks + 1 } → wpAny (model X.prog X.w) X.A (f (.int i t) (.int j u)) Q E s) :
    OpR X f (rI0 fun i j => .int (g i j)) := by
  intro pins s σ H x y v u Q I rx ry h
  obtain ⟨i, j, rfl, rfl, q⟩ := h
  obtain ⟨t, rfl⟩ := rx
  obtain ⟨t', rfl⟩ := ry
  exact rule i j t t' s _ _ ⟨.int (g i j), H, I.tok _, ⟨_, rfl⟩, q⟩
theorem opB0 {f : Value → Value → Sem Value} {g : Int → Int → Bool}
    (rule : ∀ (i j : Int) (t u : Tok) (s : Shared) (Q : Value → Shared → Prop) (E : Value → Shared → Prop), Q (.bool (g i j)) s → wpAny (model X.prog X.w) X.A (f (.int i t) (.int j u)) Q E s) :
    OpR X f (rI0 fun i j => .bl (g i j)) := by
  intro pins s σ H x y v u Q I rx ry h
  obtain ⟨i, j, rfl, rfl, q⟩ := h
  obtain ⟨t, rfl⟩ := rx
  obtain ⟨t', rfl⟩ := ry
  exact rule i j t t' s _ _ ⟨.bl (g i j), H, I, rfl, q⟩

noncomputable def CDiv (i j : Int) : Prop := 0 < j ∧ j < 1073741824
noncomputable def CDivN (i j : Int) : Prop := j ≠ 0 ∧ j.natAbs < 1073741824
noncomputable def CPow (i j : Int) : Prop := 0 ≤ j ∧ j ≤ 1000000 ∧ i.natAbs < 2 ^ 64
noncomputable def CMul (i j : Int) : Prop := (-(2 ^ 64) < i ∧ i < 2 ^ 64) ∨ (-(2 ^ 64) < j ∧ j < 2 ^ 64)
theorem CMul.ok {i j : Int} (h : CMul i j) : IntMulOk i j := by
  rcases h with ⟨h1, h2⟩ | ⟨h1, h2⟩
  · exact .of_left (intBits_le_64 h1 h2)
  · exact .of_right (intBits_le_64 h1 h2)
theorem op_add : OpR X (binaryOp .Add) (rI0 fun i j => .int (i + j)) := opI0 fun _ _ _ _ _ _ _ q => add_int q
theorem op_sub : OpR X (binaryOp .Sub) (rI0 fun i j => .int (i - j)) := opI0 fun _ _ _ _ _ _ _ q => sub_int q
theorem op_mul : OpR X (binaryOp .Mult) (rI CMul fun i j => .int (i * j)) := opI fun _ _ _ _ _ _ _ hc q => mul_int q hc.ok
theorem op_fdiv : OpR X (binaryOp .FloorDiv) (rI CDiv fun i j => .int (i / j)) := opI fun i j _ _ _ _ _ hc q => by
  have h1 : (0 : Int) < j := hc.1
  have h2 : j < 1073741824 := hc.2
  exact floordiv_int (by omega) (by rw [Int.fdiv_eq_ediv_of_nonneg i (by omega)]; exact q) (.inl (PyProof.noPylong_small (by omega)))
theorem op_mod : OpR X (binaryOp .Mod) (rI (fun _ j => 0 < j) fun i j => .int (i % j)) := opI fun i j _ _ _ _ _ hc q => by
  have h1 : (0 : Int) < j := hc
  exact mod_int' (by omega) (by rw [Int.fmod_eq_emod_of_nonneg i (by omega)]; exact q)
end

noncomputable def scal : V → V → Bool
  | .non, .non => true | .non, .int _ => true | .int _, .non => true | .non, .bl _ => true | .bl _, .non => true | .non, .str _ => true | .str _, .non => true
  | .int _, .int _ => true | .bl _, .bl _ => true | .str _, .str _ => true | .byt _, .byt _ => true
  | .int _, .str _ => true | .str _, .int _ => true | .bl _, .str _ => true | .str _, .bl _ => true
  | _, _ => false
noncomputable def rEq : R2 := fun x y H Q => scal x y = true ∧ Q (.bl (decide (x = y))) H
noncomputable def rNe : R2 := fun x y H Q => scal x y = true ∧ Q (.bl (!decide (x = y))) H

theorem dec_int {i j : Int} : decide (V.int i = V.int j) = (i == j) := by
  rw [Bool.eq_iff_iff]
  simp
theorem dec_bl {i j : Bool} : decide (V.bl i = V.bl j) = (i == j) := by
  rw [Bool.eq_iff_iff]
  simp
theorem dec_str {i j : Str} : decide (V.str i = V.str j) = (i == j) := by
  rw [Bool.eq_iff_iff]
  simp
theorem dec_byt {i j : Array UInt8} : decide (V.byt i = V.byt j) = (i.toList == j.toList) := by
  rw [Bool.eq_iff_iff]
  cases i
  cases j
  simp

section
variable {X : Cx} {a b c : Expr} {ta tb tc : TE} {pos : Pos}
theorem fin_bl {pins : List (Addr × Obj)} {σ : St} {H : Hp} {s : Shared} {Q : VK} {k k' : Bool} (I : Inv X pins σ H s) (q : Q (.bl k) H) (e : k = k') : EP X pins σ Q (.bool k') s := by
  subst e
  exact ⟨.bl k, H, I, rfl, q⟩
theorem op_eq : OpR X (compareOp .Eq) rEq := by
  intro pins s σ H x y v u Q I rx ry h
  obtain ⟨hs, q⟩ := h
  cases x with
  | non =>
    cases rx
    cases y with
    | non => cases ry; exact PySem.EqNone.eq_none_none (fin_bl I q (by simp))
    | bl j => cases ry; exact PySem.EqNone.eq_none_bool (fin_bl I q (by simp))
    | int j => obtain ⟨t', rfl⟩ := ry; exact PySem.EqNone.eq_none_int (fin_bl I q (by simp))
    | str j => obtain ⟨t', rfl⟩ := ry; exact PySem.EqNone.eq_none_str (fin_bl I q (by simp))
    | _ => exact absurd (show false = true from hs) Bool.false_ne_true
  | bl i =>
    cases rx
    cases y with
    | non => cases ry; exact PySem.EqNone.eq_bool_none (fin_bl I q (by simp))
    | bl j => cases ry; exact eq_bool (fin_bl I q dec_bl)
    | str j => obtain ⟨t', rfl⟩ := ry; exact PySem.EqMixed.eq_bool_str (fin_bl I q (by simp))
    | _ => exact absurd (show false = true from hs) Bool.false_ne_true
  | int i =>
    obtain ⟨t, rfl⟩ := rx
    cases y with
    | non => cases ry; exact PySem.EqNone.eq_int_none (fin_bl I q (by simp))
    | int j => obtain ⟨t', rfl⟩ := ry; exact eq_int (fin_bl I q dec_int)
    | str j => obtain ⟨t', rfl⟩ := ry; exact PySem.EqMixed.eq_int_str (fin_bl I q (by simp))
    | _ => exact absurd (show false = true from hs) Bool.false_ne_true
  | str i =>
    obtain ⟨t, rfl⟩ := rx
    cases y with
    | non => cases ry; exact PySem.EqNone.eq_str_none (fin_bl I q (by simp))
    | bl j => cases ry; exact PySem.EqMixed.eq_str_bool (fin_bl I q (by simp))
    | int j => obtain ⟨t', rfl⟩ := ry; exact PySem.EqMixed.eq_str_int (fin_bl I q (by simp))
    | str j => obtain ⟨t', rfl⟩ := ry; exact eq_str (fin_bl I q dec_str)
    | _ => exact absurd (show false = true from hs) Bool.false_ne_true
  | byt i =>
    obtain ⟨t, rfl⟩ := rx
    cases y with
    | byt j => obtain ⟨t', rfl⟩ := ry; exact PySem.W.eq_bytes (fin_bl I q dec_byt)
    | _ => exact absurd (show false = true from hs) Bool.false_ne_true
  | _ => cases y <;> exact absurd (show false = true from hs) Bool.false_ne_true
theorem op_ne : OpR X (compareOp .NotEq) rNe := by
  intro pins s σ H x y v u Q I rx ry h
  obtain ⟨hs, q⟩ := h
  cases x with
  | non =>
    cases rx
    cases y with
    | non => cases ry; exact PySem.EqNone.ne_none_none (fin_bl I q (by simp))
    | bl j => cases ry; exact PySem.EqNone.ne_none_bool (fin_bl I q (by simp))
    | int j => obtain ⟨t', rfl⟩ := ry; exact PySem.EqNone.ne_none_int (fin_bl I q (by simp))
    | str j => obtain ⟨t', rfl⟩ := ry; exact PySem.EqNone.ne_none_str (fin_bl I q (by simp))
    | _ => exact absurd (show false = true from hs) Bool.false_ne_true
  | bl i =>
    cases rx
    cases y with
    | non => cases ry; exact PySem.EqNone.ne_bool_none (fin_bl I q (by simp))
    | bl j => cases ry; exact ne_bool (fin_bl I q (congrArg not dec_bl))
    | str j => obtain ⟨t', rfl⟩ := ry; exact PySem.EqMixed.ne_bool_str (fin_bl I q (by simp))
    | _ => exact absurd (show false = true from hs) Bool.false_ne_true
  | int i =>
    obtain ⟨t, rfl⟩ := rx
    cases y with
    | non => cases ry; exact PySem.EqNone.ne_int_none (fin_bl I q (by simp))
    | int j => obtain ⟨t', rfl⟩ := ry; exact ne_int (fin_bl I q (congrArg not dec_int))
    | str j => obtain ⟨t', rfl⟩ := ry; exact PySem.EqMixed.ne_int_str (fin_bl I q (by simp))
    | _ => exact absurd (show false = true from hs) Bool.false_ne_true
  | str i =>
    obtain ⟨t, rfl⟩ := rx
    cases y with
    | non => cases ry; exact PySem.EqNone.ne_str_none (fin_bl I q (by simp))
    | bl j => cases ry; exact PySem.EqMixed.ne_str_bool (fin_bl I q (by simp))
    | int j => obtain ⟨t', rfl⟩ := ry; exact PySem.EqMixed.ne_str_int (fin_bl I q (by simp))
    | str j => obtain ⟨t', rfl⟩ := ry; exact ne_str (fin_bl I q (congrArg not dec_str))
    | _ => exact absurd (show false = true from hs) Bool.false_ne_true
  | byt i =>
    obtain ⟨t, rfl⟩ := rx
    cases y with
    | byt j => obtain ⟨t', rfl⟩ := ry; exact PySem.W.ne_bytes (fin_bl I q (congrArg not dec_byt))
    | _ => exact absurd (show false = true from hs) Bool.false_ne_true
  | _ => cases y <;> exact absurd (show false = true from hs) Bool.false_ne_true

theorem op_lt : OpR X (compareOp .Lt) (rI0 fun i j => .bl (decide (i < j))) := opB0 fun _ _ _ _ _ _ _ q => lt_int q
theorem op_le : OpR X (compareOp .LtE) (rI0 fun i j => .bl (decide (i ≤ j))) := opB0 fun _ _ _ _ _ _ _ q => le_int q
theorem op_gt : OpR X (compareOp .Gt) (rI0 fun i j => .bl (decide (j < i))) := opB0 fun _ _ _ _ _ _ _ q => gt_int q
theorem op_isN : OpR X (compareOp .Is) (fun x y H Q => y = .non ∧ Q (.bl (decide (x = .non))) H) := by
  intro pins s σ H x y v u Q I rx ry h
  obtain ⟨rfl, q⟩ := h
  cases ry
  refine is_none_gen (fin_bl I q ?_)
  cases x <;> first
    | (cases rx; rfl)
    | (obtain ⟨t, rfl⟩ := rx; rfl)
theorem op_notN : OpR X (compareOp .IsNot) (fun x y H Q => y = .non ∧ Q (.bl (!decide (x = .non))) H) := by
  intro pins s σ H x y v u Q I rx ry h
  obtain ⟨rfl, q⟩ := h
  cases ry
  refine isnot_none_gen (fin_bl I q ?_)
  cases x <;> first
    | (cases rx; rfl)
    | (obtain ⟨t, rfl⟩ := rx; rfl)

noncomputable def isObj : HO → Bool
  | .lst _ => true
  | .ins _ _ _ => true
  | _ => false
theorem OpR.or {f : Value → Value → Sem Value} {r r' : R2} (h : OpR X f r) (h' : OpR X f r') : OpR X f (fun x y H Q => r x y H Q ∨ r' x y H Q) := by
  intro pins s σ H x y v u Q I rx ry q
  rcases q with q | q
  · exact h pins s σ H x y v u Q I rx ry q
  · exact h' pins s σ H x y v u Q I rx ry q

theorem nomark (b : Expr) {op : CmpOp} (h : op ≠ .In := by decide) (h2 : op ≠ .NotIn := by decide) : behindInMarks op b = false := by
  have e1 : (op == CmpOp.In) = false := by cases op <;> first | rfl | exact absurd rfl h
  have e2 : (op == CmpOp.NotIn) = false := by cases op <;> first | rfl | exact absurd rfl h2
  cases b <;> simp [behindInMarks, e1, e2]
theorem pe_cmpR {op : CmpOp} {r : R2} (ho : OpR X (compareOp op) r) (ha : PE X a ta) (hb : PE X b tb) (hm : behindInMarks op b = false) : PE X (.Compare a [op] [b] pos) (tOp r ta tb) := by
  intro pins s σ H Q I h
  exact wpAny_Compare1 (binT ha hb I h fun v u s2 x y H2 I2 rx ry q => ho pins s2 σ H2 x y v u Q I2 rx ry q) hm
noncomputable def tTest (t : TE) : TT := fun σ H Q => t σ H fun x H' => ∃ k, x = .bl k ∧ Q k H'
theorem pt_cmpR {op : CmpOp} {r : R2} (ho : OpR X (compareOp op) r) (ha : PE X a ta) (hb : PE X b tb) (hm : behindInMarks op b = false) : PT X (.Compare a [op] [b] pos) (tTest (tOp r ta tb)) := by
  intro pins s σ H Q I h
  refine wpAny_isTrue_Compare1 (thn (ha pins s σ H _ I h) fun v s1 ⟨x, H1, I1, r1, q1⟩ => thn (hb pins s1 σ H1 _ I1 q1) fun u s2 ⟨y, H2, I2, r2, q2⟩ =>
    thn (ho pins s2 σ H2 x y v u _ I2 r1 r2 q2) fun c s3 ⟨z, H3, I3, r3, k, e, q3⟩ => ?_) hm
  subst e
  cases r3
  exact wpAny_truthy_bool ⟨H3, I3, q3⟩
noncomputable def tChain (r r' : R2) (ta tb tc : TE) : TE := fun σ H Q => ta σ H fun x H1 => tb σ H1 fun y H2 => r x y H2 fun z H3 => ∃ k, z = .bl k ∧
  (if k = true then tc σ H3 fun w' H4 => r' y w' H4 Q else Q (.bl false) H3)
theorem pe_chain {op op' : CmpOp} {r r' : R2} (ho : OpR X (compareOp op) r) (ho' : OpR X (compareOp op') r') (ha : PE X a ta) (hb : PE X b tb) (hc : PE X c tc)
    (hm : lastMarks [op, op'] [b, c] = false := by with_unfolding_all rfl) : PE X (.Compare a [op, op'] [b, c] pos) (tChain r r' ta tb tc) := by
  intro pins s σ H Q I h
  refine Compare_chain (thn (ha pins s σ H _ I h) fun v s1 ⟨x, H1, I1, r1, q1⟩ => chain_link (thn (hb pins s1 σ H1 _ I1 q1) fun u s2 ⟨y, H2, I2, r2, q2⟩ =>
    thn (ho pins s2 σ H2 x y v u _ I2 r1 r2 q2) fun d s3 ⟨z, H3, I3, r3, k, e, q3⟩ => ?_)) hm
  subst e
  cases r3
  refine wpAny_truthy_bool ?_
  cases k with
  | false => exact ite_ff ⟨.bl false, H3, I3, rfl, q3⟩
  | true => exact ite_tt (chain_last (thn (hc pins s3 σ H3 _ I3 q3) fun w' s4 ⟨z', H4, I4, r4, q4⟩ => ho' pins s4 σ H4 y z' u w' Q I4 r2 r4 q4))
noncomputable def TruV (K : PySem.W.Frag) (x : V) (H : Hp) (k : Bool) : Prop :=
  match x with
  | .non => k = false
  | .bl b => k = b
  | .int i => k = (i != 0)
  | .str y => y.length ≤ sizeLine ∧ k = ((y.length : Int) != 0)
  | .byt y => y.size ≤ sizeLine ∧ k = ((y.size : Int) != 0)
  | .ref p => (∃ xs, SqL K H p xs ∧ k = !xs.isEmpty) ∨ (∃ xs, SqT K H p xs ∧ k = !xs.isEmpty) ∨ ∃ kvs, H p = some (.dK kvs) ∧ k = !kvs.isEmpty
  | _ => False
theorem line63 : (sizeLine : Nat) < 2 ^ 63 := by rw [sizeLine_eq]; decide
noncomputable def PlainIxT (b : Expr) : Prop := ∀ o i, subscripted b false o i = operate [o, i] (getItem o i)
theorem vals1 {x : V} {us : List Value} (r : Vals [x] us) : ∃ u, us = [u] ∧ RelV x u := by
  cases r with
  | cons r1 r2 => cases r2; exact ⟨_, rfl, r1⟩
theorem vals2 {x y : V} {us : List Value} (r : Vals [x, y] us) : ∃ u w', us = [u, w'] ∧ RelV x u ∧ RelV y w' := by
  cases r with
  | cons r1 r2 =>
    cases r2 with
    | cons r3 r4 => cases r4; exact ⟨_, _, rfl, r1, r3⟩
theorem call_max2 (hc : X.calm = true) : CallR X (.builtin "max") (fun xs H Q => ∃ i j, xs = [.int i, .int j] ∧ Q (.int (if j > i then j else i)) H) := by
  intro pins s σ H xs us Q I r h
  obtain ⟨i, j, rfl, q⟩ := h
  obtain ⟨u, w', rfl, ⟨t, rfl⟩, ⟨t', rfl⟩⟩ := vals2 r
  refine max_two_ints (I.ok.hd hc) fun h' tk k => ⟨_, H, I.kept k, ?_, q⟩
  by_cases hj : j > i
  · rw [if_pos hj, if_pos hj]; exact ⟨_, rfl⟩
  · rw [if_neg hj, if_neg hj]; exact ⟨_, rfl⟩
theorem call_min2 (hc : X.calm = true) : CallR X (.builtin "min") (fun xs H Q => ∃ i j, xs = [.int i, .int j] ∧ Q (.int (if j < i then j else i)) H) := by
  intro pins s σ H xs us Q I r h
  obtain ⟨i, j, rfl, q⟩ := h
  obtain ⟨u, w', rfl, ⟨t, rfl⟩, ⟨t', rfl⟩⟩ := vals2 r
  refine min_two_ints (I.ok.hd hc) fun h' tk k => ⟨_, H, I.kept k, ?_, q⟩
  by_cases hj : j < i
  · rw [if_pos hj, if_pos hj]; exact ⟨_, rfl⟩
  · rw [if_neg hj, if_neg hj]; exact ⟨_, rfl⟩
theorem call_int1 : CallR X (.type "int") (fun xs H Q => (∃ i, xs = [.int i] ∧ Q (.int i) H) ∨ ∃ k, xs = [.bl k] ∧ Q (.int (if k then 1 else 0)) H) := by
  intro pins s σ H xs us Q I r h
  rcases h with ⟨i, rfl, q⟩ | ⟨k, rfl, q⟩
  · obtain ⟨u, rfl, t, rfl⟩ := vals1 r
    exact call_int_int ⟨.int i, H, I, ⟨_, rfl⟩, q⟩
  · obtain ⟨u, rfl, r1⟩ := vals1 r
    cases r1
    exact call_int_bool ⟨.int (if k then 1 else 0), H, I.tok _, ⟨_, rfl⟩, q⟩
noncomputable def LenV (K : PySem.W.Frag) (x : V) (H : Hp) (n : Nat) : Prop :=
  match x with
  | .str y => y.length ≤ sizeLine ∧ n = y.length
  | .byt y => y.size ≤ sizeLine ∧ n = y.size
  | .ref p => (∃ xs, SqL K H p xs ∧ n = xs.length) ∨ ∃ xs, SqT K H p xs ∧ n = xs.length
  | _ => False
end
end L2

namespace L2
open PySem PySem.Spec PyProof.Rows

structure ObjM (h : Heap) (x dx C : Addr) (mA : Str → Option Value) : Prop where
  obj : h.get? x = some (PySem.W.instObj C dx)
  ns : h.Ns1 dx mA
  ne : dx ≠ x

theorem lookIn_ns {h : Heap} {dx : Addr} {mA : Str → Option Value} (n : h.Ns1 dx mA) : ∃ od, h.get? dx = some od ∧ ∀ name, PySem.W.lookIn name od = some (mA name) := by
  obtain ⟨o, es, ep, ho, hd, hk, _, hm⟩ := n
  refine ⟨o, ho, fun name => ?_⟩
  have e := hm name
  unfold nsFind findBy at e
  rw [← Array.find?_toList] at e
  unfold PySem.W.lookIn
  rw [hd]
  dsimp only
  split
  · rename_i y q
    rw [q] at e
    exact congrArg some e
  · rename_i q
    rw [q] at e
    have a : es.toList.any (·.refKey) = false := by
      rw [List.any_eq_false]
      intro y hy
      obtain ⟨z, t, hkey⟩ := hk y (Array.mem_toList_iff.mp hy)
      simp [DictEntry.refKey, hkey]
    have a' : ¬ es.toList.any (·.refKey) = true := by rw [a]; exact Bool.false_ne_true
    rw [if_neg a']
    exact congrArg some e

theorem ObjM.look {h : Heap} {x dx C : Addr} {mA : Str → Option Value} (I : ObjM h x dx C mA) : ∃ od, PySem.W.InstAt h x (PySem.W.instObj C dx) C (some od) ∧ ∀ name, PySem.W.lookIn name od = some (mA name) :=
  let ⟨od, ho, hl⟩ := lookIn_ns I.ns
  ⟨od, ⟨I.obj, rfl, rfl, ho⟩, hl⟩

section
variable {prog : Program} {w : World} {A : Around} {E : Value → Shared → Prop} {s : Shared} {K : PySem.W.Frag} {x dx C f : Addr} {mA : Str → Option Value} {name : Str} {v : Value}

theorem get_map {expr : Bool} {Q : Value → Shared → Prop} (X : K.In s.heap) (I : ObjM s.heap x dx C mA) (hg : PySem.W.plainGet K C name = true) (hh : PySem.W.hasDictIn K C = true)
    (ha : PySem.W.findIn K (.ref C) name = some none) (hv : mA name = some v) (hv' : PySem.W.handedIn v = true) (h : Q v { s with toks := s.toks + 1 }) :
    wpAny (model prog w) A (getAttr (.ref x) name expr) Q E s := by
  obtain ⟨od, J, hl⟩ := I.look
  exact PySem.W.get_value X J (PySem.W.plainGet_of hg).1 (PySem.W.findObj_own hh ha rfl (by rw [hl, hv])) hv' h

theorem get_meth {pl : Sem Bool} {Q : Value × List Value → Shared → Prop} (X : K.In s.heap) (I : ObjM s.heap x dx C mA) (hg : PySem.W.plainGet K C name = true)
    (hf : PySem.W.findIn K (.ref C) name = some (some (.ref f))) (ht : PySem.W.isFn K (.ref f) = true) (hv : mA name = none) (h : Q (.ref f, [.ref x]) s) :
    wpAny (model prog w) A (getMethod (.ref x) name pl) Q E s := by
  obtain ⟨od, J, hl⟩ := I.look
  exact PySem.W.method_fn X J (PySem.W.plainGet_of hg).1 (PySem.W.plainGet_of hg).2 hf (beq_iff_eq.mp ht) (by show (PySem.W.lookIn name od).map (·.isSome) = some false; rw [hl, hv]; rfl) h

theorem set_map {ns : List Str} {Q : Unit → Shared → Prop} (X : K.In s.heap) (I : ObjM s.heap x dx C mA)
    (hs : PySem.W.findIn K (.ref C) "__setattr__" = some (some (.builtin "object.__setattr__"))) (hp : PySem.W.plainOver K C = true) (ht : PySem.W.takerIn K C name = some none) (hh : PySem.W.hasDictIn K C = true)
    (hw : PySem.Within mA ns) (hsz : ns.length ≤ sizeLine)
    (h : ∀ h', ObjM h' x dx C (fun y => if y = name then some v else mA y) → Heap.SameBut dx s.heap h' → Q () { s with heap := h', toks := s.toks + 2 }) :
    wpAny (model prog w) A (setAttr (.ref x) name v) Q E s := by
  obtain ⟨od, J, hl⟩ := I.look
  refine PySem.W.set_plain X J hs (PySem.W.osa_open (s := { s with toks := s.toks + 1 }) (r := none) X J hp ht fun b => ?_)
  obtain ⟨cd, hc, hd'⟩ := PySem.W.any_some hh
  have hx : s.heap.get? x = some ⟨.ref C, some dx, .plain, #[]⟩ := I.obj
  refine wpAny_bind (wpAny_pure (wpAny_bind (wpAny_bind (wpAny_loadPart hx (wpAny_bind (PySem.W.Looks.here (s := { s with toks := s.toks + 1 }) (PySem.W.looks_clsIn X hc) ?_))))))
  rw [hd']
  refine wpAny_pure (a := some dx) (wpAny_bind (wpAny_pure (wpAny_bind ?_)))
  refine wpAny_nsSet1 (s := { s with toks := s.toks + 1 }) I.ns fun h' hn2 hs2 => ?_
  obtain ⟨oD, esD, epD, hoD, hdD, hcD⟩ := hn2.count (PySem.Within.cons name v hw)
  refine wpAny_bind (wpAny_lookBehind hoD (by rw [hdD]; exact pastItsLine_dict (Nat.le_trans hcD (by rw [List.length_cons]; omega))) ?_)
  exact wpAny_pure (h _ ⟨(hs2.2 _ (Ne.symm I.ne)).trans I.obj, hn2, I.ne⟩ hs2)

theorem make_map {R : Result → Shared → Prop} {vs : List Value} {kw : List (Str × Value)} (X : K.In s.heap) (hm : PySem.W.makesIn K C = true)
    (hi : PySem.W.findIn K (.ref C) "__init__" = some (some (.ref f))) (hf : PySem.W.typeIn K (.ref f) = some (.type "function"))
    (h : codeAny (model prog w) (A.under (.builtin "type.__call__" ⟨.ref C :: vs, kw⟩)) (.call (.ref f) ⟨.ref (s.heap.objs.size + 1) :: vs, kw⟩) (PySem.W.InitBack (s.heap.objs.size + 1) R)
      { s with heap := (s.heap.push PySem.W.emptyDict).push (PySem.W.instObj C s.heap.objs.size) }) :
    codeAny (model prog w) A (.call (.ref C) ⟨vs, kw⟩) R s := by
  obtain ⟨hh, g, d, t, os⟩ := s
  exact PySem.W.make_core (PySem.W.makes_of X hm) (PySem.W.looks_findIn X hi) (fun self => PySem.W.bind_fn X self hf) (.inl rfl) h
end

noncomputable def putF (f : Str) (v : V) : List (Str × V) → List (Str × V)
  | [] => [(f, v)]
  | (g, x) :: r => if g = f then (g, v) :: r else (g, x) :: putF f v r
theorem lookup_putF (f g : Str) (v : V) : ∀ fs : List (Str × V), (putF f v fs).lookup g = if g = f then some v else fs.lookup g
  | [] => by
    show List.lookup g [(f, v)] = _
    by_cases h : g = f
    · have hb : (g == f) = true := beq_iff_eq.mpr h
      simp only [List.lookup, hb, if_pos h]
    · have hb : (g == f) = false := beq_eq_false_iff_ne.mpr h
      simp only [List.lookup, hb, if_neg h]
  | (k, x) :: r => by
    have ih := lookup_putF f g v r
    rw [show putF f v ((k, x) :: r) = (if k = f then (k, v) :: r else (k, x) :: putF f v r) from rfl]
    by_cases hk : k = f
    · rw [if_pos hk]
      by_cases h : g = k
      · have hb : (g == k) = true := beq_iff_eq.mpr h
        simp only [List.lookup, hb, if_pos (h.trans hk)]
      · have hb : (g == k) = false := beq_eq_false_iff_ne.mpr h
        simp only [List.lookup, hb, if_neg (fun e : g = f => h (e.trans hk.symm))]
    · rw [if_neg hk]
      by_cases h : g = k
      · have hb : (g == k) = true := beq_iff_eq.mpr h
        simp only [List.lookup, hb, if_neg (fun e : g = f => hk (h.symm.trans e))]
      · have hb : (g == k) = false := beq_eq_false_iff_ne.mpr h
        simp only [List.lookup, hb]
        exact ih
theorem keys_putF (f : Str) (v : V) : ∀ fs : List (Str × V), f ∈ (putF f v fs).map (·.1) ∧ ∀ g, g ∈ fs.map (·.1) → g ∈ (putF f v fs).map (·.1)
  | [] => ⟨by simp [putF], fun g h => by simp at h⟩
  | (k, x) :: r => by
    obtain ⟨i1, i2⟩ := keys_putF f v r
    rw [show putF f v ((k, x) :: r) = (if k = f then (k, v) :: r else (k, x) :: putF f v r) from rfl]
    by_cases hk : k = f
    · rw [if_pos hk]
      subst hk
      exact ⟨by simp, fun g h => by simpa using h⟩
    · rw [if_neg hk]
      refine ⟨?_, fun g h => ?_⟩
      · rw [List.map_cons]
        exact List.mem_cons_of_mem _ i1
      · rw [List.map_cons] at h ⊢
        rcases List.mem_cons.mp h with e | e
        · exact List.mem_cons.mpr (.inl e)
        · exact List.mem_cons_of_mem _ (i2 g e)
theorem length_putF (f : Str) (v : V) : ∀ fs : List (Str × V), (putF f v fs).length ≤ fs.length + 1
  | [] => by simp [putF]
  | (k, x) :: r => by
    have ih := length_putF f v r
    rw [show putF f v ((k, x) :: r) = (if k = f then (k, v) :: r else (k, x) :: putF f v r) from rfl]
    by_cases hk : k = f
    · rw [if_pos hk, List.length_cons, List.length_cons]; omega
    · rw [if_neg hk, List.length_cons, List.length_cons]; omega

theorem RelO.some_of {v : V} {o : Option Value} (r : RelO (some v) o) : ∃ u, o = some u ∧ RelV v u := by
  cases o with
  | none => exact (show False from r).elim
  | some u => exact ⟨u, rfl, r⟩
theorem RelO.none_of {o : Option Value} (r : RelO none o) : o = none := by
  cases o with
  | none => rfl
  | some u => exact (show False from r).elim
theorem handed_of {v : V} {u : Value} (r : RelV v u) : PySem.W.handedIn u = true := by
  cases v with
  | non => cases (show u = Value.none from r); rfl
  | bl b => cases (show u = Value.bool b from r); rfl
  | int i => obtain ⟨t, e⟩ := (show ∃ t, u = Value.int i t from r); cases e; rfl
  | str x => obtain ⟨t, e⟩ := (show ∃ t, u = Value.str x t from r); cases e; rfl
  | byt b => obtain ⟨t, e⟩ := (show ∃ t, u = Value.bytes b t from r); cases e; rfl
  | flt b => obtain ⟨t, e⟩ := (show ∃ t, u = Value.float b t from r); cases e; rfl
  | ref a => cases (show u = Value.ref a from r); rfl
  | ty n => cases (show u = Value.type n from r); rfl

section
variable {P : Program} {w : World} {H H' : Hp} {h h' : Heap} {a C dx : Addr} {fs fs' : List (Str × V)}
theorem ins_get (hok : HOk P w H h) (e : H a = some (.ins C dx fs)) : ∃ mA, ObjM h a dx C mA ∧ (∀ f, RelO (fs.lookup f) (mA f)) ∧ PySem.Within mA (fs.map (·.1)) ∧ fs.length ≤ 1000 ∧ H dx = some (.own a) := by
  obtain ⟨d, z, ne, ob, mA, n, r, q⟩ := (show ObjOk P w H h a (.ins C dx fs) from hok a _ e)
  exact ⟨mA, ⟨ob, n, ne⟩, r, q, z, d⟩
end

structure Cls (K : PySem.W.Frag) (C : Addr) : Prop where
  pg : PySem.W.plainGet K C Str.empty = true
  hd : PySem.W.hasDictIn K C = true
  po : PySem.W.plainOver K C = true
  sa : PySem.W.findIn K (.ref C) "__setattr__" = some (some (.builtin "object.__setattr__"))
theorem Cls.get {K : PySem.W.Frag} {C : Addr} (c : Cls K C) (f : Str) : PySem.W.plainGet K C f = true := c.pg
noncomputable def NoAttr (K : PySem.W.Frag) (C : Addr) (f : Str) : Prop := PySem.W.findIn K (.ref C) f = some none
theorem NoAttr.taker {K : PySem.W.Frag} {C : Addr} {f : Str} (n : NoAttr K C f) : PySem.W.takerIn K C f = some none := by
  unfold PySem.W.takerIn
  rw [show PySem.W.findIn K (.ref C) f = some none from n]
  rfl
structure Con (K : PySem.W.Frag) (C : Addr) (f : Str) (v : V) (u : Value) : Prop where
  at_ : PySem.W.findIn K (.ref C) f = some (some u)
  rel : RelV v u
  get : PySem.W.specialIn K u "__get__" = some none
  cp : PySem.W.copiedNames.contains f = false
structure Meth (K : PySem.W.Frag) (C : Addr) (m : Str) (f : Addr) : Prop where
  at_ : PySem.W.findIn K (.ref C) m = some (some (.ref f))
  fn : PySem.W.isFn K (.ref f) = true
  kp : PySem.W.keepIn K (.ref f) = true

section
variable {X : Cx} {pins : List (Addr × Obj)} {σ : St} {H : Hp} {s : Shared} {a C dx : Addr} {fs : List (Str × V)} {f : Str} {v : V} {A : Around} {E : Value → Shared → Prop}

theorem getattr_ok {b : Bool} {Q : Value → Shared → Prop} (I : Inv X pins σ H s) (e : H a = some (.ins C dx fs)) (c : Cls X.K C) (n : NoAttr X.K C f) (l : fs.lookup f = some v)
    (h : ∀ u s', Inv X pins σ H s' → RelV v u → Q u s') : wpAny (model X.prog X.w) A (getAttr (.ref a) f b) Q E s := by
  obtain ⟨mA, O, r, _, _, _⟩ := ins_get I.hok e
  obtain ⟨u, hu, ru⟩ := RelO.some_of (v := v) (o := mA f) (by rw [← l]; exact r f)
  exact get_map I.kIn O (c.get f) c.hd n hu (handed_of ru) (h u _ (I.tok _) ru)

theorem getmeth_ok {m : Str} {g : Addr} {pl : Sem Bool} {Q : Value × List Value → Shared → Prop} (I : Inv X pins σ H s) (e : H a = some (.ins C dx fs)) (c : Cls X.K C) (k : Meth X.K C m g) (l : fs.lookup m = none)
    (h : Q (.ref g, [.ref a]) s) : wpAny (model X.prog X.w) A (getMethod (.ref a) m pl) Q E s := by
  obtain ⟨mA, O, r, _, _, _⟩ := ins_get I.hok e
  have hn : mA m = none := RelO.none_of (by rw [← l]; exact r m)
  exact get_meth I.kIn O (c.get m) k.at_ k.fn hn h

theorem setattr_ok {y : V} {u : Value} {Q : Unit → Shared → Prop} (I : Inv X pins σ H s) (e : H a = some (.ins C dx fs)) (c : Cls X.K C) (n : NoAttr X.K C f) (hl : fs.length < 1000) (ry : RelV y u)
    (h : ∀ s', Inv X pins σ (upd H a (.ins C dx (putF f y fs))) s' → Q () s') : wpAny (model X.prog X.w) A (setAttr (.ref a) f u) Q E s := by
  obtain ⟨mA, O, r, wi, _, ho⟩ := ins_get I.hok e
  have hz : (fs.map (·.1)).length ≤ sizeLine := by rw [List.length_map, sizeLine_eq]; omega
  refine set_map I.kIn O c.sa c.po n.taker c.hd wi hz fun h' O' sb => h _ ?_
  have hd : ∃ o, h'.get? dx = some o := let ⟨o, _, _, e', _⟩ := O'.ns; ⟨o, e'⟩
  refine I.write (x := a) (e := dx) (by rw [e]; exact True.intro) (.inr ho) (fun b q hb z => (sb.2 b hb).trans z) hd ?_
  refine ⟨by rw [upd_ne O.ne]; exact ho, ?_, O.ne, O'.obj, _, O'.ns, fun g => ?_, fun g hg => ?_⟩
  · have := length_putF f y fs; omega
  · show RelO ((putF f y fs).lookup g) (if g = f then some u else mA g)
    rw [lookup_putF]
    by_cases q : g = f
    · rw [if_pos q, if_pos q]; exact ry
    · rw [if_neg q, if_neg q]; exact r g
  · by_cases q : g = f
    · rw [q]; exact (keys_putF f y fs).1
    · refine (keys_putF f y fs).2 g (wi g fun z => hg ?_)
      show (if g = f then some u else mA g) = none
      rw [if_neg q]; exact z

theorem Inv.made (I : Inv X pins σ H s) : Inv X pins σ (upd (upd H s.heap.objs.size (.own (s.heap.objs.size + 1))) (s.heap.objs.size + 1) (.ins C s.heap.objs.size []))
    { s with heap := (s.heap.push PySem.W.emptyDict).push (PySem.W.instObj C s.heap.objs.size) } := by
  have e1 : (s.heap.push PySem.W.emptyDict).get? s.heap.objs.size = some PySem.W.emptyDict := Heap.get?_push_size s.heap rfl
  have e2 : ((s.heap.push PySem.W.emptyDict).push (PySem.W.instObj C s.heap.objs.size)).get? (s.heap.objs.size + 1) = some (PySem.W.instObj C s.heap.objs.size) := by
    have := Heap.get?_push_size (s.heap.push PySem.W.emptyDict) (o := PySem.W.instObj C s.heap.objs.size) rfl
    rwa [Heap.size_push] at this
  have e3 : (s.heap.push PySem.W.emptyDict).Ns s.heap.objs.size (fun _ => none) := ⟨PySem.W.emptyDict, #[], _, e1, rfl, (fun e he => absurd he (by simp)), fun _ => rfl⟩
  have I1 := I.laid (a := s.heap.objs.size) (o := .own (s.heap.objs.size + 1)) (h' := s.heap.push PySem.W.emptyDict) (t' := s.toks) (fun b u q => Heap.get?_push_of_some _ q) (Nat.le_refl _) ⟨_, e1⟩
  refine I1.laid (a := s.heap.objs.size + 1) (o := .ins C s.heap.objs.size []) (t' := s.toks) (fun b u q => Heap.get?_push_of_some _ q) (Nat.le_of_eq (Heap.size_push _ _)) ?_
  have ne : s.heap.objs.size ≠ s.heap.objs.size + 1 := Nat.ne_of_lt (Nat.lt_succ_self _)
  refine ⟨by rw [upd_ne ne, upd_same], Nat.zero_le _, ne, e2, fun _ => none, (Heap.Ns1.of_empty e3).at fun o q => Heap.get?_push_of_some _ q, fun _ => True.intro, fun y hy => absurd rfl hy⟩

theorem attr_of {prog : Program} {w : World} {env : Env} {e : Expr} {f : Str} {pos : Pos} {s : Shared} {Q : Value → Shared → Prop} (hb : attributeBase e f env (eval e env) = eval e env)
    (h : wpAny (model prog w) A (eval e env) (fun o s₁ => wpAny (model prog w) A (getAttr o f true) Q E s₁) E s) : wpAny (model prog w) A (eval (.Attribute e f pos) env) Q E s :=
  Attribute_any_ h (by rw [arm_eval_Attribute, hb])
end

noncomputable def tFld (K : PySem.W.Frag) (ta : TE) (f : Str) : TE := fun σ H Q => ta σ H fun x H1 => ∃ a C dx fs v, x = .ref a ∧ H1 a = some (.ins C dx fs) ∧ Cls K C ∧ NoAttr K C f ∧ fs.lookup f = some v ∧ Q v H1
noncomputable def tCon (K : PySem.W.Frag) (ta : TE) (f : Str) : TE := fun σ H Q => ta σ H fun x H1 => ∃ a C dx fs v u, x = .ref a ∧ H1 a = some (.ins C dx fs) ∧ Cls K C ∧ Con K C f v u ∧ fs.lookup f = none ∧ Q v H1
noncomputable def sFld (K : PySem.W.Frag) (ta tv : TE) (f : Str) : TS := fun D σ H => tv σ H fun y H1 => ta σ H1 fun x H2 => ∃ a C dx fs, x = .ref a ∧ H2 a = some (.ins C dx fs) ∧ Cls K C ∧ NoAttr K C f ∧ fs.length < 1000 ∧
  D.nx σ (upd H2 a (.ins C dx (putF f y fs)))
noncomputable def InOp (X : Cx) (op : Operator) (rd : V → V → Hp → VK → Prop) : Prop :=
  ∀ (pins : List (Addr × Obj)) (s : Shared) (σ : St) (H : Hp) (x y : V) (u v : Value) (Q : VK), Inv X pins σ H s → RelV x u → RelV y v → rd x y H Q → wpAny (model X.prog X.w) X.A (inplaceOp op u v) (EP X pins σ Q) X.xe s
noncomputable def sFldAug (K : PySem.W.Frag) (ta tv : TE) (rd : V → V → Hp → VK → Prop) (f : Str) : TS := fun D σ H => ta σ H fun x H1 => ∃ a C dx fs v, x = .ref a ∧ H1 a = some (.ins C dx fs) ∧ Cls K C ∧ NoAttr K C f ∧ fs.lookup f = some v ∧
  tv σ H1 fun y H2 => rd v y H2 fun z H3 => ∃ dx' fs', H3 a = some (.ins C dx' fs') ∧ fs'.length < 1000 ∧ D.nx σ (upd H3 a (.ins C dx' (putF f z fs')))

section
variable {X : Cx} {o e value : Expr} {f : Str} {pos pos' tpos : Pos} {ta tv : TE}
theorem pe_fld (he : PE X e ta) (hb : attributeBase e f X.env (eval e X.env) = eval e X.env) : PE X (.Attribute e f pos) (tFld X.K ta f) := by
  intro pins s σ H Q I h
  refine attr_of hb (thn (he pins s σ H _ I h) fun u s1 hq_ => ?_)
  obtain ⟨x, H1, I1, rx, a, C, dx, fs, v, ex, ea, c, n, l, q⟩ := hq_
  subst ex
  obtain rfl : u = Value.ref a := rx
  exact getattr_ok I1 ea c n l fun u' s2 I2 ru => ⟨v, H1, I2, ru, q⟩
theorem ps_fld (ha : PE X o ta) (hv : PE X value tv) (hs : swapsWith value (some (.Attribute o f pos')) pos.line X.env = pure false) : PS X (.Assign [.Attribute o f pos'] value pos) (sFld X.K ta tv f) := by
  intro pins s σ H D I h
  refine plainObj_wpAny_Assign_Attribute (thn (hv pins s σ H _ I h) fun u s1 ⟨y, H1, I1, ry, q⟩ => thn (ha pins s1 σ H1 _ I1 q) fun ov s2 hq_ => ?_) hs
  obtain ⟨x, H2, I2, rx, a, C, dx, fs, ex, ea, c, n, l, q2⟩ := hq_
  subst ex
  obtain rfl : ov = Value.ref a := rx
  exact setattr_ok I2 ea c n l ry fun s3 I3 => ⟨σ, _, I3, q2⟩
noncomputable def rAdd : V → V → Hp → VK → Prop := fun x y H Q => ∃ i j, x = .int i ∧ y = .int j ∧ Q (.int (i + j)) H
noncomputable def rSub : V → V → Hp → VK → Prop := fun x y H Q => ∃ i j, x = .int i ∧ y = .int j ∧ Q (.int (i - j)) H
end

section
variable {X : Cx} {pins : List (Addr × Obj)} {σ : St} {H : Hp} {s : Shared} {A : Around} {E : Value → Shared → Prop} {Q : Value → Shared → Prop} {c : Value} {b : Bool}
inductive TyOf (K : PySem.W.Frag) (H : Hp) : V → Value → Prop where
  | non : TyOf K H .non (.type "NoneType")
  | bl (x : Bool) : TyOf K H (.bl x) (.type "bool")
  | int (i : Int) : TyOf K H (.int i) (.type "int")
  | str (x : Str) : TyOf K H (.str x) (.type "str")
  | flt (x : UInt64) : TyOf K H (.flt x) (.type "float")
  | lst {a : Addr} {xs : List V} (e : H a = some (.lst xs)) : TyOf K H (.ref a) (.type "list")
  | frz {a : Addr} {o : Obj} {xs : List V} (e : H a = some (.frz o (.lst xs))) : TyOf K H (.ref a) (.type "list")
  | tup {a : Addr} {xs : List V} (e : H a = some (.tup xs)) : TyOf K H (.ref a) (.type "tuple")
  | dK {a : Addr} {kvs : List (Key × V)} (e : H a = some (.dK kvs)) : TyOf K H (.ref a) (.type "dict")
  | dT {a : Addr} {kvs : List (List Key × V)} (e : H a = some (.dT kvs)) : TyOf K H (.ref a) (.type "dict")
  | ins {a C dx : Addr} {fs : List (Str × V)} (e : H a = some (.ins C dx fs)) (cl : Cls K C) (ha : PySem.W.findIn K (.ref C) "__class__" = some (some (.builtin "object.__class__")))
      (hn : PySem.W.specialIn K (.builtin "object.__class__") "__get__" = some (some (.builtin "getset_descriptor.__get__"))) (htk : PySem.W.takesIn K (.builtin "object.__class__") = some true)
      (hm : PySem.W.mroIn K C (.type "object") = some true) : TyOf K H (.ref a) (.ref C)
theorem isinst_ok {x : V} {u t : Value} (I : Inv X pins σ H s) (rx : RelV x u) (ty : TyOf X.K H x t) (e : PySem.W.kitOne X.K t c = some b) (h : ∀ tk, Q (.bool b) { s with toks := tk }) :
    wpAny (model X.prog X.w) A (call (.builtin "isinstance") [u, c]) Q E s := by
  cases ty with
  | non => cases (show u = Value.none from rx); exact PySem.W.kia_one PySem.W.kitx_none I.kIn True.intro e (fun z => nomatch z) h
  | bl y => cases (show u = Value.bool y from rx); exact PySem.W.kia_one PySem.W.kitx_bool I.kIn True.intro e (fun z => nomatch z) h
  | int i => obtain ⟨t, q⟩ := (show ∃ t, u = Value.int i t from rx); cases q; exact PySem.W.kia_one PySem.W.kitx_int I.kIn True.intro e (fun z => nomatch z) h
  | str y => obtain ⟨t, q⟩ := (show ∃ t, u = Value.str y t from rx); cases q; exact PySem.W.kia_one PySem.W.kitx_str I.kIn True.intro e (fun z => nomatch z) h
  | flt y => obtain ⟨t, q⟩ := (show ∃ t, u = Value.float y t from rx); cases q; exact PySem.W.kia_one PySem.W.kitx_float I.kIn True.intro e (fun z => nomatch z) h
  | @lst a xs ea =>
    cases (show u = Value.ref a from rx)
    obtain ⟨_, _, n, _, h1⟩ := (show ObjOk X.prog X.w H s.heap a (.lst xs) from I.hok a _ ea)
    exact PySem.W.kia_one PySem.W.kitx_list I.kIn ⟨_, h1, rfl⟩ e (fun z => nomatch z) h
  | @frz a ob xs ea =>
    cases (show u = Value.ref a from rx)
    obtain ⟨_, _, _, n, _, h1⟩ := (show ObjOk X.prog X.w H s.heap a (.frz ob (.lst xs)) from I.hok a _ ea)
    exact PySem.W.kia_one PySem.W.kitx_list I.kIn ⟨_, h1, rfl⟩ e (fun z => nomatch z) h
  | @tup a xs ea =>
    cases (show u = Value.ref a from rx)
    obtain ⟨_, _, _, p⟩ := (show ObjOk X.prog X.w H s.heap a (.tup xs) from I.hok a _ ea)
    obtain ⟨o, h1, h2, _⟩ := p
    exact PySem.W.kia_one PySem.W.kitx_tuple I.kIn ⟨o, h1, h2⟩ e (fun z => nomatch z) h
  | @dK a kvs ea =>
    cases (show u = Value.ref a from rx)
    obtain ⟨_, _, vs, _, p⟩ := (show ObjOk X.prog X.w H s.heap a (.dK kvs) from I.hok a _ ea)
    obtain ⟨o, es, ep, h1, h2, _⟩ := p
    exact PySem.W.kia_one PySem.W.kitx_dict I.kIn ⟨o, h1, h2.1⟩ e (fun z => nomatch z) h
  | @dT a kvs ea =>
    cases (show u = Value.ref a from rx)
    obtain ⟨_, _, xs, _, o, es, ep, h1, h2, _⟩ := (show ObjOk X.prog X.w H s.heap a (.dT kvs) from I.hok a _ ea)
    exact PySem.W.kia_one PySem.W.kitx_dict I.kIn ⟨o, h1, h2.1⟩ e (fun z => nomatch z) h
  | @ins a C dx fs ea cl ha hn htk hm =>
    cases (show u = Value.ref a from rx)
    obtain ⟨mA, O, _⟩ := ins_get I.hok ea
    obtain ⟨od, J, _⟩ := O.look
    exact PySem.W.kia_one (PySem.W.kitx_own (cl.get _) cl.hd ha hn htk hm) I.kIn J e (fun z => nomatch z) h
end
end L2

namespace L2
open PySem PySem.Spec PyProof.Rows

structure Room (k : Nat) (A : Around) : Prop where
  hd : A.handled = none
  dp : A.depth + 3 * k + 5 < recursionLimit
  un : A.units + 16 * k + 200 < cLine
  gd : A.guards = some []
theorem Room.mono {j k : Nat} {A : Around} (r : Room k A) (h : j ≤ k) : Room j A := ⟨r.hd, by have := r.dp; omega, by have := r.un; omega, r.gd⟩
theorem Room.deeper {k : Nat} {A : Around} (r : Room (k + 1) A) (env : Env) : Room k (A.deeper env) :=
  ⟨r.hd, by have := r.dp; show A.depth + 1 + 3 * k + 5 < _; omega, by have := r.un; show A.units + 3 + 16 * k + 200 < _; omega, r.gd⟩
theorem make_depth {A : Around} {C : Addr} {us : List Value} {kw : List (Str × Value)} : (A.under (.builtin "type.__call__" ⟨.ref C :: us, kw⟩)).depth = A.depth + 1 := by
  first | rfl | simp [Around.under, Code.weight, Code.isCreation, Code.isGuard, Code.isCaller, Code.frames, Code.isFrame, guardIds]
theorem make_units {A : Around} {C : Addr} {us : List Value} {kw : List (Str × Value)} : (A.under (.builtin "type.__call__" ⟨.ref C :: us, kw⟩)).units = A.units + 1 := by
  first | rfl | simp [Around.under, Code.cUnits, Code.frames, Code.isFrame]
theorem make_guards {A : Around} {C : Addr} {us : List Value} {kw : List (Str × Value)} (h : A.guards = some []) : (A.under (.builtin "type.__call__" ⟨.ref C :: us, kw⟩)).guards = some [] := by
  first | exact h | simp [Around.under, Code.isGuard, guardIds, h]
theorem Room.make {k : Nat} {A : Around} (r : Room (k + 1) A) (C : Addr) (us : List Value) (kw : List (Str × Value)) : Room k (A.under (.builtin "type.__call__" ⟨.ref C :: us, kw⟩)) :=
  ⟨r.hd, by have := r.dp; rw [make_depth]; omega, by have := r.un; rw [make_units]; omega, make_guards r.gd⟩
theorem Room.depth {k : Nat} {A : Around} (r : Room k A) : A.depth < recursionLimit := by have := r.dp; omega
theorem Room.units {k : Nat} {A : Around} (r : Room k A) : A.units + 64 < cLine := by have := r.un; omega
noncomputable def tNil : TA := fun _ H Q => Q [] H
noncomputable def tCons (ta : TE) (tr : TA) : TA := fun σ H Q => ta σ H fun x H1 => tr σ H1 fun xs H2 => Q (x :: xs) H2
section
variable {X : Cx} {e : Expr} {es : List Expr} {te : TE} {t : TA} {pos : Pos}
theorem pa_nil : PA X [] tNil := fun _ _ _ _ H Q I h => Calls.spliced_nil ⟨[], H, I, .nil, h⟩
theorem pa_cons (ha : PE X e te) (hr : PA X es t) (hs : starEach (e :: es) X.env = (false, eval e X.env) :: starEach es X.env := by rfl) : PA X (e :: es) (tCons te t) := by
  intro pos pins s σ H Q I h
  rw [hs]
  show wpAny _ _ (spliced ((false, eval e X.env) :: backTo pos (starEach es X.env))) _ _ s
  refine Calls.spliced_cons (thn (ha pins s σ H _ I h) fun u s1 hq_ => ?_)
  obtain ⟨x, H1, I1, r1, q1⟩ := hq_
  exact thn (hr pos pins s1 σ H1 _ I1 q1) fun us s2 ⟨xs, H2, I2, r2, q2⟩ => ⟨x :: xs, H2, I2, .cons r1 r2, q2⟩

noncomputable def tTup (t : TA) : TE := fun σ H Q => t σ H fun xs H1 => xs.length ≤ sizeLine ∧ ∀ p, H1 p = none → Q (.ref p) (upd H1 p (.tup xs))
noncomputable def tLst (t : TA) : TE := fun σ H Q => t σ H fun xs H1 => xs.length ≤ sizeLine ∧ ∀ p, H1 p = none → Q (.ref p) (upd H1 p (.lst xs))
theorem pe_tup {x1} (h : PA X es t) : PE X (.Tuple es x1 pos) (tTup t) := by
  intro pins s σ H Q I hq
  refine wpAny_Tuple_spliced (thn (h pos pins s σ H _ I hq) fun us s1 ⟨xs, H1, I1, r, z, q⟩ => ⟨by rw [← r.length]; exact z, ?_⟩)
  have hf : H1 s1.heap.objs.size = none := I1.hok.fresh (Nat.le_refl _)
  refine ⟨.ref s1.heap.objs.size, upd H1 s1.heap.objs.size (.tup xs), I1.laid (t' := s1.toks) (fun b u e => Heap.get?_push_of_some _ e) (Nat.le_refl _) ?_, rfl, q _ hf⟩
  exact ⟨z, us, r, ⟨_, Heap.get?_push_size _ rfl, rfl, _, rfl⟩⟩
theorem pe_lst (h : PA X es t) : PE X (.List es pos) (tLst t) := by
  intro pins s σ H Q I hq
  refine wpAny_List_spliced (thn (h pos pins s σ H _ I hq) fun us s1 ⟨xs, H1, I1, r, z, q⟩ => ⟨by rw [← r.length]; exact z, ?_⟩)
  have hf : H1 s1.heap.objs.size = none := I1.hok.fresh (Nat.le_refl _)
  refine ⟨.ref s1.heap.objs.size, upd H1 s1.heap.objs.size (.lst xs), I1.laid (t' := s1.toks) (fun b u e => Heap.get?_push_of_some _ e) (Nat.le_refl _) ?_, rfl, q _ hf⟩
  exact ⟨z, us, 0, r, Heap.get?_push_size _ rfl⟩
end

noncomputable abbrev Sp := List V → Hp → VK → XK → Prop
noncomputable abbrev CXT := List Env → Hp → Shared → XK → Value → Shared → Prop

structure Env0 (P : Program) (w : World) (K : PySem.W.Frag) (mg : Str → Option Value) (base : Heap) (A : Around) (outer : List Env) (s : Shared) (H : Hp) : Prop where
  frames : A.frames = some outer
  mod : Mod K mg base
  bs : ∀ b o, base.get? b = some o → s.heap.get? b = some o ∧ H b = none
  bsz : base.objs.size ≤ s.heap.objs.size
  funs : s.heap.FunFrames base outer
  frf : ∀ b ∈ frs outer, H b = none
  hok : HOk P w H s.heap
  bare : AllBare s.gens
noncomputable def CE (outer : List Env) (P : Program) (w : World) (H : Hp) (s : Shared) (Q : VK) (u : Value) (s' : Shared) : Prop :=
  ∃ v H', s'.os = s.os ∧ AllBare s'.gens ∧ Un (frs outer) [] H H' s.heap s'.heap ∧ HOk P w H' s'.heap ∧ RelV v u ∧ Q v H'
noncomputable def CR (CX : CXT) (outer : List Env) (P : Program) (w : World) (H : Hp) (s : Shared) (Q : VK) (E : XK) (r : Result) (s' : Shared) : Prop :=
  match r with
  | .ok (.ret u) => CE outer P w H s Q u s'
  | .ok _ => False
  | .error e => CX outer H s E e s'
structure FnOk (P : Program) (w : World) (K : PySem.W.Frag) (mg : Str → Option Value) (base : Heap) (CX : CXT) (k : Nat) (f : Addr) (fd : FuncData) (ps : List Str) (sp : Sp) : Prop where
  len : ∀ vs H Q E, sp vs H Q E → vs.length = ps.length
  run : ∀ (A : Around) (outer : List Env) (s : Shared) (H : Hp) (args : Args) (us : List Value) (vs : List V) (Q : VK) (E : XK), Room k A → Env0 P w K mg base A outer s H → BindsTo s fd args (ps.zip us) → Vals vs us → sp vs H Q E →
    codeAny (model P w) A (.call (.ref f) args) (CR CX outer P w H s Q E) s
theorem Env0.make {P : Program} {w : World} {K : PySem.W.Frag} {mg : Str → Option Value} {base : Heap} {A : Around} {outer : List Env} {s : Shared} {H : Hp} (e : Env0 P w K mg base A outer s H) (C : Addr) (us : List Value) (kw : List (Str × Value)) :
    Env0 P w K mg base (A.under (.builtin "type.__call__" ⟨.ref C :: us, kw⟩)) outer s H := ⟨by first | exact e.frames | (simpa [Around.under, Code.envs, Code.isFrame, pushEnvs] using e.frames), e.mod, e.bs, e.bsz, e.funs, e.frf, e.hok, e.bare⟩
section
variable {X : Cx} {pins : List (Addr × Obj)} {σ : St} {H : Hp} {s s' : Shared}
theorem Inv.env0 (I : Inv X pins σ H s) : Env0 X.prog X.w X.K X.mg X.base X.A X.stack s H :=
  ⟨I.ok.frames, I.ok.mod, I.bs, Nat.le_trans I.ok.bsz I.sz, I.stack, I.stkFree, I.hok, I.bare⟩
theorem Inv.after {Q : VK} {u : Value} (I : Inv X pins σ H s) (h : CE X.stack X.prog X.w H s Q u s') : EP X pins σ Q u s' := by
  obtain ⟨v, H', os, bare, un, hok, r, q⟩ := h
  obtain ⟨hh, g, d, t, os'⟩ := s'
  obtain rfl : os' = s.os := os
  exact ⟨v, H', I.call (h' := hh) (g' := g) (d' := d) (t' := t) (ch := []) un hok bare (fun b z => absurd z (by simp)), r, q⟩
end

noncomputable def tCall (sp : Sp) (dvs : List V) (E : XK) (t : TA) : TE := fun σ H Q => t σ H fun vs H1 => sp (vs ++ dvs) H1 Q E
noncomputable def tMeth (C : Addr) (m : Str) (sp : Sp) (dvs : List V) (E : XK) (ta : TE) (t : TA) : TE := fun σ H Q => ta σ H fun x H1 => ∃ a dx fs, x = .ref a ∧ H1 a = some (.ins C dx fs) ∧ fs.lookup m = none ∧
  t σ H1 fun vs H2 => sp (x :: (vs ++ dvs)) H2 Q E
noncomputable def tMake (C : Addr) (sp : Sp) (dvs : List V) (E : XK) (t : TA) : TE := fun σ H Q => t σ H fun vs H1 => ∀ x dx, H1 x = none → H1 dx = none → dx ≠ x →
  sp (.ref x :: (vs ++ dvs)) (upd (upd H1 dx (.own x)) x (.ins C dx [])) (fun v H2 => v = .non ∧ Q (.ref x) H2) E

noncomputable def Binds (K : PySem.W.Frag) (fd : FuncData) (ps : List Str) (ds : List Value) : Prop :=
  ∀ (s : Shared) (us : List Value), K.In s.heap → (us ++ ds).length = ps.length → BindsTo s fd ⟨us, []⟩ (ps.zip (us ++ ds))
theorem Binds.all {K : PySem.W.Frag} {fd : FuncData} {ps : List Str} (h : ∀ us : List Value, us.length = ps.length → bindArgs fd ⟨us, []⟩ = pure (ps.zip us)) : Binds K fd ps [] := fun s us _ hl => by
  rw [List.append_nil] at hl ⊢
  exact .of_eq (h us hl)

noncomputable def Passes (CX : CXT) (X : Cx) (E : XK) : Prop := ∀ (pins : List (Addr × Obj)) (σ : St) (H : Hp) (s : Shared) (e : Value) (s' : Shared), Inv X pins σ H s → CX X.stack H s E e s' → X.xe e s'

section
variable {X : Cx} {CX : CXT} {k : Nat} {f C : Addr} {fd : FuncData} {ps : List Str} {sp : Sp} {dvs : List V} {ds : List Value} {E : XK} {x m : Str} {p pos apos : Pos} {e o : Expr} {es : List Expr} {ta : TE} {t : TA}

theorem run_fn {pins : List (Addr × Obj)} {σ : St} {H : Hp} {s : Shared} {Q : VK} {us : List Value} {vs : List V} (F : FnOk X.prog X.w X.K X.mg X.base CX k f fd ps sp) (hr : Room k X.A) (hb : Binds X.K fd ps ds) (hd : Vals dvs ds) (hx : Passes CX X E)
    (I : Inv X pins σ H s) (r : Vals vs us) (h : sp (vs ++ dvs) H Q E) : wpAny (model X.prog X.w) X.A (call (.ref f) us) (EP X pins σ Q) X.xe s := by
  have r2 : Vals (vs ++ dvs) (us ++ ds) := r.append hd
  have hl : (us ++ ds).length = ps.length := by rw [← r2.length]; exact F.len _ _ _ _ h
  refine wpAny_call (codeAny_mono (F.run X.A X.stack s H ⟨us, []⟩ (us ++ ds) (vs ++ dvs) Q E hr I.env0 (hb s us I.kIn hl) r2 h) fun r s' hq => ?_)
  cases r with
  | error e => exact hx pins σ H s e s' I hq
  | ok fl =>
    cases fl with
    | ret u => exact I.after hq
    | next => exact False.elim hq
    | brk => exact False.elim hq
    | cont => exact False.elim hq

theorem pe_call (F : FnOk X.prog X.w X.K X.mg X.base CX k f fd ps sp) (hr : Room k X.A) (hg : Gl X x) (hm : X.mg x = some (.ref f)) (hk : PySem.W.keepIn X.K (.ref f) = true) (hb : Binds X.K fd ps ds) (hd : Vals dvs ds) (hx : Passes CX X E)
    (ha : PA X (e :: es) t) (hdb : (x == ("__debug__" : Str)) = false := by decide) (he : starEach (e :: es) X.env = (false, eval e X.env) :: starEach es X.env := by rfl) (hpl : (backTo pos (starEach es X.env)).any (·.1) = false := by rfl) :
    PE X (.Call (.Name x p) (e :: es) [] pos) (tCall sp dvs E t) := by
  intro pins s σ H Q I h
  refine wpAny_Call_Name_kw (ld_glob I hg hm ?_ hdb)
  refine PySem.W.callWith_K (h₀ := X.base) I.ok.mod.kin hk (thn (ha pos pins s σ H _ I h) fun us s1 ⟨vs, H1, I1, r, q⟩ => ⟨I1.kIn, ?_⟩) he hpl
  exact run_fn F hr hb hd hx I1 r q
theorem pe_meth {pl : Sem Bool} (he : PE X o ta) (c : Cls X.K C) (hm : Meth X.K C m f) (F : FnOk X.prog X.w X.K X.mg X.base CX k f fd ps sp) (hr : Room k X.A) (hb : Binds X.K fd ps ds) (hd : Vals dvs ds) (hx : Passes CX X E) (ha : PA X (e :: es) t)
    (hst : starEach (e :: es) X.env = (false, eval e X.env) :: starEach es X.env := by rfl) (hpl : (backTo pos (starEach es X.env)).any (·.1) = false := by rfl)
    (ht : eval (.Call (.Attribute o m apos) (e :: es) [] pos) X.env = (do
      let ov ← eval o X.env
      standAt apos.atName
      let (f, first) ← holding [ov] (getMethod ov m pl)
      callWith pos f first (backTo pos (starEach (e :: es) X.env)) (backToKw pos (keywordEach [] X.env))) := by rfl) :
    PE X (.Call (.Attribute o m apos) (e :: es) [] pos) (tMeth C m sp dvs E ta t) := by
  intro pins s σ H Q I h
  refine PySem.W.methodCall_KW (pl := pl) (thn (he pins s σ H _ I h) fun u s1 hq_ => ?_) ht
  obtain ⟨x, H1, I1, rx, a, dx, fs, ex, ea, l, q⟩ := hq_
  subst ex
  obtain rfl : u = Value.ref a := rx
  refine getmeth_ok I1 ea c hm l ?_
  refine PySem.W.callWith_K (first := [.ref a]) (h₀ := X.base) I.ok.mod.kin hm.kp (thn (ha pos pins s1 σ H1 _ I1 q) fun us s2 ⟨vs, H2, I2, r, q2⟩ => ⟨I2.kIn, ?_⟩) hst hpl
  exact run_fn (us := .ref a :: us) (vs := .ref a :: vs) F hr hb hd hx I2 (.cons rfl r) q2
structure Mk (K : PySem.W.Frag) (C f : Addr) : Prop where
  makes : PySem.W.makesIn K C = true
  init : PySem.W.findIn K (.ref C) "__init__" = some (some (.ref f))
  fn : PySem.W.isFn K (.ref f) = true
  kp : PySem.W.keepIn K (.ref C) = true

theorem run_make {pins : List (Addr × Obj)} {σ : St} {H : Hp} {s : Shared} {Q : VK} {us : List Value} {vs : List V} (M : Mk X.K C f) (F : FnOk X.prog X.w X.K X.mg X.base CX k f fd ps sp) (hr : Room (k + 1) X.A) (hb : Binds X.K fd ps ds) (hd : Vals dvs ds)
    (hx : Passes CX X E) (I : Inv X pins σ H s) (r : Vals vs us)
    (h : ∀ x dx, H x = none → H dx = none → dx ≠ x → sp (.ref x :: (vs ++ dvs)) (upd (upd H dx (.own x)) x (.ins C dx [])) (fun v H2 => v = .non ∧ Q (.ref x) H2) E) :
    wpAny (model X.prog X.w) X.A (call (.ref C) us) (EP X pins σ Q) X.xe s := by
  have hq := h (s.heap.objs.size + 1) s.heap.objs.size (I.hok.fresh (Nat.le_succ _)) (I.hok.fresh (Nat.le_refl _)) (Nat.ne_of_lt (Nat.lt_succ_self _))
  have I2 := Inv.made (C := C) I
  have r2 : Vals (V.ref (s.heap.objs.size + 1) :: (vs ++ dvs)) (Value.ref (s.heap.objs.size + 1) :: (us ++ ds)) := .cons rfl (r.append hd)
  have hl : (Value.ref (s.heap.objs.size + 1) :: us ++ ds).length = ps.length := by
    have e := r2.length
    rw [F.len _ _ _ _ hq] at e
    exact e.symm
  refine wpAny_call (make_map (f := f) I.kIn M.makes M.init (beq_iff_eq.mp M.fn) (codeAny_mono (F.run _ X.stack _ _ ⟨Value.ref (s.heap.objs.size + 1) :: us, []⟩ (Value.ref (s.heap.objs.size + 1) :: (us ++ ds)) _ _ E (hr.make C us [])
    (I2.env0.make C us []) (hb _ (Value.ref (s.heap.objs.size + 1) :: us) I2.kIn hl) r2 hq) fun r s' hq' => ?_))
  cases r with
  | error e => exact hx pins σ _ _ e s' I2 hq'
  | ok fl =>
    cases fl with
    | ret u =>
      obtain ⟨v, H', I3, rv, ev, q3⟩ := I2.after hq'
      subst ev
      exact ⟨rv, ⟨V.ref (s.heap.objs.size + 1), H', I3, rfl, q3⟩⟩
    | next => exact False.elim hq'
    | brk => exact False.elim hq'
    | cont => exact False.elim hq'
theorem pe_make (M : Mk X.K C f) (F : FnOk X.prog X.w X.K X.mg X.base CX k f fd ps sp) (hr : Room (k + 1) X.A) (hg : Gl X x) (hm : X.mg x = some (.ref C)) (hb : Binds X.K fd ps ds) (hd : Vals dvs ds) (hx : Passes CX X E)
    (ha : PA X (e :: es) t) (hdb : (x == ("__debug__" : Str)) = false := by decide) (he : starEach (e :: es) X.env = (false, eval e X.env) :: starEach es X.env := by rfl) (hpl : (backTo pos (starEach es X.env)).any (·.1) = false := by rfl) :
    PE X (.Call (.Name x p) (e :: es) [] pos) (tMake C sp dvs E t) := by
  intro pins s σ H Q I h
  refine wpAny_Call_Name_kw (ld_glob I hg hm ?_ hdb)
  refine PySem.W.callWith_K (h₀ := X.base) I.ok.mod.kin M.kp (thn (ha pos pins s σ H _ I h) fun us s1 ⟨vs, H1, I1, r, q⟩ => ⟨I1.kIn, ?_⟩) he hpl
  exact run_make M F hr hb hd hx I1 r q
end

noncomputable def PK (X : Cx) (kws : List Keyword) (t : TA) : Prop :=
  ∀ (pos : Pos) (pins : List (Addr × Obj)) (s : Shared) (σ : St) (H : Hp) (Q : List V → Hp → Prop), Inv X pins σ H s → t σ H Q → wpAny (model X.prog X.w) X.A (evalAll ((backToKw pos (keywordEach kws X.env)).map (·.2))) (AP X pins σ Q) X.xe s
section
variable {X : Cx} {CX : CXT} {k : Nat} {f C : Addr} {fd : FuncData} {ps ks : List Str} {sp : Sp} {E : XK} {x m : Str} {p pos apos kpos : Pos} {e o : Expr} {es : List Expr} {kws : List Keyword} {te ta : TE} {t tk : TA} {nm : Option Str}
structure KBinds (K : PySem.W.Frag) (fd : FuncData) (ps ks : List Str) (g : List Value → List Value → List Value) (gV : List V → List V → List V) : Prop where
  to : ∀ (s : Shared) (us ws : List Value), K.In s.heap → (g us ws).length = ps.length → BindsTo s fd ⟨us, ks.zip ws⟩ (ps.zip (g us ws))
  rel : ∀ {vs : List V} {us : List Value} {zs : List V} {ws : List Value}, Vals vs us → Vals zs ws → Vals (gV vs zs) (g us ws)
noncomputable def tCallK (sp : Sp) (gV : List V → List V → List V) (E : XK) (t tk : TA) : TE := fun σ H Q => t σ H fun vs H1 => tk σ H1 fun zs H2 => sp (gV vs zs) H2 Q E
variable {g : List Value → List Value → List Value} {gV : List V → List V → List V}
end

structure FnScope (N P : List Str) (sc : Scope) : Prop where
  kind : sc.kind = .function
  co : sc.isCoroutine = false
  gen : sc.isGenerator = false
  nd : N.Nodup
  pre : N.take P.length = P
  par : ∀ x ∈ P, sc.names.lookup x = some .local ∨ sc.names.lookup x = some .cell
  nofree : ∀ y ∈ sc.names, y.2 ≠ .free

theorem bindL_out {kindOf : Str → Option NameKind} {x : Str} : ∀ {binds : List (Str × Value)} {m : Str → Option Value}, (∀ v, (x, v) ∉ binds) → bindL kindOf binds m x = m x
  | [], _, _ => rfl
  | (n, v) :: r, m, h => by
    unfold bindL
    rw [bindL_out fun w hw => h w (List.mem_cons_of_mem _ hw)]
    split
    · have : x ≠ n := by rintro rfl; exact h v List.mem_cons_self
      simp [this]
    · rfl
theorem bindC_out {kindOf : Str → Option NameKind} {x : Str} : ∀ {binds : List (Str × Value)} {m : Str → Option Value}, (∀ v, (x, v) ∉ binds) → bindC kindOf binds m x = m x
  | [], _, _ => rfl
  | (n, v) :: r, m, h => by
    unfold bindC
    rw [bindC_out fun w hw => h w (List.mem_cons_of_mem _ hw)]
    split
    · rfl
    · have : x ≠ n := by rintro rfl; exact h v List.mem_cons_self
      simp [this]
theorem bindL_get {kindOf : Str → Option NameKind} {x : Str} {v : Value} : ∀ {P : List Str} {vs : List Value} {i : Nat} {m : Str → Option Value}, P.Nodup → P[i]? = some x → vs[i]? = some v → kindOf x = some .local →
    bindL kindOf (P.zip vs) m x = some v
  | [], _, _, _, _, h, _, _ => by simp at h
  | _ :: _, [], _, _, _, _, h, _ => by simp at h
  | p :: P, w :: vs, 0, m, nd, h1, h2, hk => by
    simp at h1 h2; subst h1; subst h2
    show bindL kindOf ((p, w) :: P.zip vs) m p = _
    unfold bindL
    rw [bindL_out fun v hv => (List.nodup_cons.mp nd).1 (List.of_mem_zip hv).1, if_pos hk]
    simp
  | p :: P, w :: vs, i + 1, m, nd, h1, h2, hk => by
    show bindL kindOf ((p, w) :: P.zip vs) m x = _
    unfold bindL
    exact bindL_get (i := i) (List.nodup_cons.mp nd).2 (by simpa using h1) (by simpa using h2) hk
theorem bindC_get {kindOf : Str → Option NameKind} {x : Str} {v : Value} : ∀ {P : List Str} {vs : List Value} {i : Nat} {m : Str → Option Value}, P.Nodup → P[i]? = some x → vs[i]? = some v → kindOf x ≠ some .local →
    bindC kindOf (P.zip vs) m x = some v
  | [], _, _, _, _, h, _, _ => by simp at h
  | _ :: _, [], _, _, _, _, h, _ => by simp at h
  | p :: P, w :: vs, 0, m, nd, h1, h2, hk => by
    simp at h1 h2; subst h1; subst h2
    show bindC kindOf ((p, w) :: P.zip vs) m p = _
    unfold bindC
    rw [bindC_out fun v hv => (List.nodup_cons.mp nd).1 (List.of_mem_zip hv).1, if_neg hk]
    simp
  | p :: P, w :: vs, i + 1, m, nd, h1, h2, hk => by
    show bindC kindOf ((p, w) :: P.zip vs) m x = _
    unfold bindC
    exact bindC_get (i := i) (List.nodup_cons.mp nd).2 (by simpa using h1) (by simpa using h2) hk

noncomputable def start (N : List Str) (vs : List V) : St := vs.map some ++ List.replicate (N.length - vs.length) none

noncomputable def cxOf (CX : CXT) (P : Program) (w : World) (K : PySem.W.Frag) (mg : Str → Option Value) (base : Heap) (N : List Str) (qual : Str) (scope : Scope) (f : Addr) (cd : Value) (A : Around) (outer : List Env) (s : Shared) (H : Hp) (E : XK) : Cx where
  prog := P
  w := w
  K := K
  mg := mg
  base := base
  A := A.deeper (envOfC qual scope s.heap.objs.size f cd)
  N := N
  s₀ := s
  H₀ := H
  env := envOfC qual scope s.heap.objs.size f cd
  outer := outer
  stack := envOfC qual scope s.heap.objs.size f cd :: outer
  ex := []
  calm := true
  fn := fun _ => true
  pn := []
  xe := fun e s' => wpAny (model P w) (A.deeper (envOfC qual scope s.heap.objs.size f cd)) (leaving (envOfC qual scope s.heap.objs.size f cd) e) (fun _ s'' => CX outer H s E e s'') (fun e' s'' => CX outer H s E e' s'') s'

theorem cell_has {sc : Scope} {n : Nat} {x : Str} (h : sc.names.lookup x = some .cell) : ∃ c, (cellsFrom n sc.names []).lookup x = some c := by
  have q := PySem.W.cellsFrom_some sc.names n [] (.inl h)
  exact Option.isSome_iff_exists.mp q

theorem inv_start {CX : CXT} {P : Program} {w : World} {K : PySem.W.Frag} {mg : Str → Option Value} {base : Heap} {N ps : List Str} {qual : Str} {scope : Scope} {f : Addr} {cd : Value} {A : Around} {outer : List Env} {s s1 : Shared} {H : Hp} {E : XK} {us : List Value} {vs : List V}
    (S : FnScope N ps scope) (hd : A.handled = none) (e0 : Env0 P w K mg base A outer s H) (hl : vs.length = ps.length) (r : Vals vs us)
    (x : InCallC s s.heap.objs.size (bindL (envOfC qual scope s.heap.objs.size f cd).kindOf (ps.zip us) fun _ => none) (cellsFrom (s.heap.objs.size + 1) scope.names []) (bindC (envOfC qual scope s.heap.objs.size f cd).kindOf (ps.zip us) fun _ => none) s1) :
    Inv (cxOf CX P w K mg base N qual scope f cd A outer s H E) [] (start N vs) H s1 := by
  have hpl : ps.length ≤ N.length := by have := congrArg List.length S.pre; rw [List.length_take] at this; omega
  obtain ⟨h1, tk, rfl, hk⟩ := x.done
  have noA : ∀ b : Addr, b ∉ (cxOf CX P w K mg base N qual scope f cd A outer s H E).ex := fun b z => absurd (show b ∈ ([] : List Addr) from z) (by simp)
  refine ⟨⟨e0.mod, S.kind, rfl, rfl, Nat.le_refl _, fun y z c h1 h2 => ?_, fun y hy => ?_, fun y c _ h => ?_, fun _ => hd, Around.frames_deeper e0.frames, .inr ⟨rfl, rfl⟩, fun b z => absurd z (noA b), e0.bs, e0.bsz, fun b _ _ => noA b, fun b z => absurd z (noA b), e0.funs, e0.frf⟩,
    rfl, e0.bare, Un.kept hk, ⟨_, x.toInCall.ns, fun i y v h1 h2 h3 => ?_⟩, fun y c h => ⟨_, x.cell y c h⟩, e0.hok.fresh (Nat.le_refl _), fun y c h => ?_, fun p hp => absurd (show p ∈ ([] : List (Addr × Obj)) from hp) (by simp), e0.hok.kept hk, ?_⟩
  · exact name_of_addr x.apart (PySem.mem_of_lookup h1) (PySem.mem_of_lookup h2)
  · have hy : scope.names.lookup y = some .cell ∨ scope.names.lookup y = some .free := hy
    rcases hy with hy | hy
    · exact cell_has hy
    · exact absurd rfl (S.nofree _ (PySem.mem_of_lookup hy))
  · exact Nat.le_of_lt (x.above y c (PySem.mem_of_lookup h))
  · have hi : i < vs.length := by
      unfold start at h2
      by_cases hi : i < vs.length
      · exact hi
      · rw [List.getElem?_append_right (by simpa using hi)] at h2
        rw [List.getElem?_replicate] at h2
        split at h2 <;> cases h2
    have ha : vs[i]? = some v := by
      unfold start at h2
      rw [List.getElem?_append_left (by simpa using hi), List.getElem?_map] at h2
      cases e : vs[i]? with
      | none => rw [e] at h2; cases h2
      | some a => rw [e] at h2; cases h2; rfl
    obtain ⟨u, hu, rv⟩ := r.get ha
    have hp : ps[i]? = some y := by
      rw [← S.pre, List.getElem?_take_of_lt (by omega)]; exact h1
    have ndP : ps.Nodup := by rw [← S.pre]; exact S.nd.sublist (List.take_sublist _ _)
    refine ⟨u, rv, ?_⟩
    rcases S.par y (List.mem_of_getElem? hp) with k | k
    · exact .inl ⟨k, bindL_get ndP hp hu k⟩
    · obtain ⟨c, e⟩ := cell_has (n := s.heap.objs.size + 1) k
      refine .inr ⟨.inl k, c, e, ?_⟩
      have q := x.cell y c e
      rw [bindC_get ndP hp hu (by show scope.names.lookup y ≠ _; rw [k]; decide)] at q
      exact q
  · exact e0.hok.fresh (Nat.le_of_lt (x.above y c (PySem.mem_of_lookup h)))
  · unfold start
    show _ = N.length
    rw [List.length_append, List.length_map, List.length_replicate]
    omega

theorem fn_of {CX : CXT} {P : Program} {w : World} {K : PySem.W.Frag} {mg : Str → Option Value} {base : Heap} {k : Nat} {f : Addr} {name qual : Str} {params : Arguments} {body : List Stmt} {scope : Scope} {dV kV doc pm cdv ct oc : Value} {an od : Option Addr}
    {osl : Array (Option Value)} {N ps : List Str} {sp : Sp} (lk : K.lookup f = some ⟨oc, od, .func (PySem.W.fnOf name qual params body scope dV kV doc pm an cdv ct), osl⟩) (hcd : PySem.W.codeIn K cdv qual = true) (S : FnScope N ps scope)
    (len : ∀ vs H Q E, sp vs H Q E → vs.length = ps.length)
    (hbody : ∀ (A : Around) (outer : List Env) (s : Shared) (H : Hp) (vs : List V) (Q : VK) (E : XK), Room k (A.deeper (envOfC qual scope s.heap.objs.size f cdv)) → sp vs H Q E →
      ∃ t, PSs (cxOf CX P w K mg base N qual scope f cdv A outer s H E) body t ∧ t { nx := fun _ H' => Q .non H', rt := Q } (start N vs) H) :
    FnOk P w K mg base CX (k + 1) f (PySem.W.fnOf name qual params body scope dV kV doc pm an cdv ct) ps sp := by
  refine ⟨len, fun A outer s H args us vs Q E hr e0 hb r hsp => ?_⟩
  have hl := len _ _ _ _ hsp
  have KX : K.In s.heap := e0.mod.kin.keeps fun b o e => (e0.bs b o e).1
  have lim : s.heap.NoLimit := e0.mod.nolimit.keeps fun b o e => (e0.bs b o e).1
  have hkind : ∀ y ∈ ps.zip us, scope.names.lookup y.1 = some .local ∨ (scope.names.lookup y.1 = some .cell ∧ ((cellsFrom (s.heap.objs.size + 1) scope.names []).lookup y.1).isSome = true) := fun ⟨n, v⟩ hy => by
    rcases S.par n (List.of_mem_zip hy).1 with q | q
    · exact .inl q
    · exact .inr ⟨q, PySem.W.cellsFrom_some _ _ _ (.inl q)⟩
  refine codeAny_call_function hr.depth (KX _ _ lk) rfl S.co S.gen rfl (PySem.W.codeRec_of KX hcd) (hb _ _ _ _ ?_)
  refine wpAny_newFunctionEnv_cells S.kind hkind fun env he s1 x => ?_
  subst he
  refine ⟨lim.keeps x.toInCall.keep, codeAny_func ?_⟩
  obtain ⟨t, ht, hq⟩ := hbody A outer s H vs Q E (hr.deeper _) hsp
  have I : Inv (cxOf CX P w K mg base N qual scope f cdv A outer s H E) [] (start N vs) H s1 := inv_start S hr.hd e0 hl r x
  refine wpAny_mono (ht [] s1 (start N vs) H _ I hq) (fun fl s' hs => ?_) fun e s' hs => hs
  have fin : ∀ {σ' : St} {H' : Hp} {v : V} {u : Value}, Inv (cxOf CX P w K mg base N qual scope f cdv A outer s H E) [] σ' H' s' → RelV v u → Q v H' → CE outer P w H s Q u s' :=
    fun {σ' H' v u} J rv q => ⟨v, H', J.os, J.bare, J.base, J.hok, rv, q⟩
  cases fl with
  | ret u =>
    obtain ⟨v, σ', H', J, rv, q⟩ := hs
    exact fin J rv q
  | next =>
    obtain ⟨σ', H', J, q⟩ := hs
    exact fin (v := V.non) (u := Value.none) J rfl q
  | brk =>
    obtain ⟨_, _, _, q⟩ := hs
    exact False.elim q
  | cont =>
    obtain ⟨_, _, _, q⟩ := hs
    exact False.elim q
end L2

namespace L2
open PySem PySem.Spec PyProof.Rows
section
variable {X : Cx} {x : Str} {p pos : Pos} {e : Expr} {es : List Expr} {t : TA} {id T : String} {r : List V → Hp → VK → Prop}

noncomputable def tCB (r : List V → Hp → VK → Prop) (t : TA) : TE := fun σ H Q => t σ H fun vs H1 => r vs H1 Q
theorem pe_callB (hc : CallR X (.builtin id) r) (hg : Gl X x) (hm : X.mg x = none) (hv : bootBuiltins x = some (.builtin id)) (ha : PA X (e :: es) t) (hn : x ≠ "__name__" := by decide) (hdb : (x == ("__debug__" : Str)) = false := by decide)
    (he : starEach (e :: es) X.env = (false, eval e X.env) :: starEach es X.env := by rfl) (hpl : (backTo pos (starEach es X.env)).any (·.1) = false := by rfl) : PE X (.Call (.Name x p) (e :: es) [] pos) (tCB r t) := by
  intro pins s σ H Q I h
  refine wpAny_Call_Name_kw (ld_blt I hg hm hv ?_ hn hdb)
  exact PyProof.Rows.callWith_builtin1 (thn (ha pos pins s σ H _ I h) fun us s1 ⟨vs, H1, I1, r1, q1⟩ => hc pins s1 σ H1 vs us Q I1 r1 q1) he hpl
theorem pe_callTy (hc : CallR X (.type T) r) (hg : Gl X x) (hm : X.mg x = none) (hv : bootBuiltins x = some (.type T)) (ha : PA X (e :: es) t) (hn : x ≠ "__name__" := by decide) (hdb : (x == ("__debug__" : Str)) = false := by decide)
    (he : starEach (e :: es) X.env = (false, eval e X.env) :: starEach es X.env := by rfl) (hpl : (backTo pos (starEach es X.env)).any (·.1) = false := by rfl) : PE X (.Call (.Name x p) (e :: es) [] pos) (tCB r t) := by
  intro pins s σ H Q I h
  refine wpAny_Call_Name_kw (ld_blt I hg hm hv ?_ hn hdb)
  exact PyProof.Rows.callWith_type1 (thn (ha pos pins s σ H _ I h) fun us s1 ⟨vs, H1, I1, r1, q1⟩ => hc pins s1 σ H1 vs us Q I1 r1 q1) he hpl
end
end L2

namespace HT
open PySem PyProof.Rows

noncomputable def lexLt : List Int → List Int → Bool
  | [], [] => false
  | [], _ :: _ => true
  | _ :: _, [] => false
  | x :: xs, y :: ys => if x = y then lexLt xs ys else decide (x < y)
theorem lexLt_cons (x y : Int) (xs ys : List Int) : lexLt (x :: xs) (y :: ys) = if x = y then lexLt xs ys else decide (x < y) := rfl
theorem lexLt_nil_nil : lexLt [] [] = false := rfl
theorem lexLt_nil_cons (y : Int) (ys : List Int) : lexLt [] (y :: ys) = true := rfl
theorem lexLt_cons_nil (x : Int) (xs : List Int) : lexLt (x :: xs) [] = false := rfl

theorem eqAt_int (A : Around) (s : Shared) (a : Int) (t : Tok) (c : Int) (u : Tok) : ∃ e, SeqAt.EqAt A s (.int a t) (.int c u) e ∧ (e = true ↔ a = c) :=
  ⟨(a == c), SeqAt.EqAt.int_int a t c u, by simp⟩
theorem rcLt_int (A : Around) (s : Shared) (a : Int) (t : Tok) (c : Int) (u : Tok) (prog : Program) (w : World) (E : Value → Shared → Prop) (Q : Value → Shared → Prop) (h : Q (.bool (decide (a < c))) s) :
    wpAny (model prog w) A (richCompare .Lt (.int a t) (.int c u)) Q E s :=
  (PyProof.Rows.lt_int h : wpAny (model prog w) A (compareOp .Lt (.int a t) (.int c u)) Q E s)

section
open PySem.SeqAt
open PySem.AutoSeq1 (wpAny_loadPart')
open PySem.MeetsSeq PySem.MeetsSeq2 PySem.MeetsSeq3

theorem tuple_lt_ints (l b : Addr) (items items2 : Array Value) (n n2 : Nat) (dd dd2 : Option Addr) (sl sl2 : Array (Option Value)) (ns ms : List Int) (hi : IntsAre items.toList ns) (hj : IntsAre items2.toList ms) :
    Meets (Builtin.«tuple.__lt__» ⟨[.ref l, .ref b], []⟩)
      (fun _ R s => s.heap.get? l = some { cls := .type "tuple", dict := dd, data := .seq items n, slots := sl } ∧ s.heap.get? b = some { cls := .type "tuple", dict := dd2, data := .seq items2 n2, slots := sl2 } ∧
        R (.ok (.ret (.bool (lexLt ns ms)))) s) :=
  .of_wp fun prog w A R s h => by
    obtain ⟨hp, g, d, tk, os⟩ := s; obtain ⟨hl, hb, h⟩ := h
    have f2 := AutoSeq1.sub_tuple_tuple
    have z1 : items.size = ns.length := by rw [← hi.length]; simp
    have z2 : items2.size = ms.length := by rw [← hj.length]; simp
    wp_walk using wpAny_loadPart' hl, wpAny_loadPart' hb, wpAny_forIn_list _ (fun rest b s' => b.1 = none ∧ s' = ⟨hp, g, d, tk, os⟩ ∧ ∃ (vs ws : List Value) (ns' ms' : List Int), rest = vs.zip ws ∧
      IntsAre vs ns' ∧ IntsAre ws ms' ∧ ns'.length + items2.size = ms'.length + items.size ∧ R (.ok (.ret (.bool (lexLt ns' ms')))) ⟨hp, g, d, tk, os⟩) _
    case turn =>
      rintro ⟨y, x⟩ rest b s' ⟨hb', rfl, vs, ws, ns', ms', hz, hvi, hwi, hlen, hR⟩
      cases hvi with
      | nil => rw [List.zip_nil_left] at hz; cases hz
      | cons a t hvi' =>
        cases hwi with
        | nil => rw [List.zip_nil_right] at hz; cases hz
        | cons c u hwi' =>
          rw [List.zip_cons_cons] at hz
          injection hz with hyx hrest
          injection hyx with hy hx
          subst hy hx
          rw [lexLt_cons] at hR
          simp only [List.length_cons] at hlen
          obtain ⟨e, he, hiff⟩ := eqAt_int A.in1 ⟨hp, g, d, tk, os⟩ a t c u
          refine wpAny_bind (he prog w _ _ ?_)
          cases e with
          | true =>
            rw [if_pos (hiff.mp rfl)] at hR
            wp_walk
            exact ⟨rfl, rfl, _, _, _, _, hrest, hvi', hwi', by omega, hR⟩
          | false =>
            rw [if_neg (fun q => absurd (hiff.mpr q) Bool.false_ne_true)] at hR
            have hri := rcLt_int A.in1 ⟨hp, g, d, tk, os⟩ a t c u prog w
            wp_walk using hri
            exact (L2.ea rfl (by simpa using hR))
    case fin =>
      rintro ⟨b1, b2⟩ s' ⟨hb', rfl, vs, ws, ns', ms', hz, hvi, hwi, hlen, hR⟩
      simp only at hb'
      subst hb'
      have hv : lexLt ns' ms' = decide (items.size < items2.size) := by
        cases hvi with
        | nil =>
          cases hwi with
          | nil =>
            simp only [List.length_nil] at hlen
            rw [lexLt_nil_nil]
            exact (decide_eq_false (by omega)).symm
          | cons c u hw =>
            simp only [List.length_nil, List.length_cons] at hlen
            rw [lexLt_nil_cons]
            exact (decide_eq_true (by omega)).symm
        | cons a t hv =>
          cases hwi with
          | nil =>
            simp only [List.length_nil, List.length_cons] at hlen
            rw [lexLt_cons_nil]
            exact (decide_eq_false (by omega)).symm
          | cons c u hw =>
            rw [List.zip_cons_cons] at hz
            cases hz
      rw [hv] at hR
      wp_walk
      exact (L2.ea rfl (by simpa [Builtin.Tuple.tupleCompareSizes] using hR))
    case h =>
      exact ⟨rfl, rfl, items.toList, items2.toList, ns, ms, rfl, hi, hj, by omega, h⟩
end

section
variable {prog : Program} {w : World} {A : Around} {E : Value → Shared → Prop} {s : Shared}

theorem lt_tupInts {l b : Addr} {items items2 : Array Value} {ns ms : List Int} {Q : Value → Shared → Prop} (hl : IsTup s.heap l items) (hb : IsTup s.heap b items2) (hi : IntsAre items.toList ns) (hj : IntsAre items2.toList ms)
    (hu : A.units < cLine) (h : Q (.bool (lexLt ns ms)) s) : wpAny (model prog w) A (compareOp .Lt (.ref l) (.ref b)) Q E s := by
  obtain ⟨⟨cls, dd, data, sl⟩, ho, hc, n, hd⟩ := id hl
  obtain ⟨⟨cls2, dd2, data2, sl2⟩, ho2, hc2, n2, hd2⟩ := id hb
  simp only at hc hd hc2 hd2
  subst hc hd hc2 hd2
  exact richCompare_meets_room (op := .Lt) ⟨_, ho, rfl⟩ ⟨_, ho2, rfl⟩ PySem.F.slot_tuple_lt PySem.F.entry_tuple_lt (PySem.F.args_tuple_lt_2 _ _) (tuple_lt_ints l b items items2 n n2 dd dd2 sl sl2 ns ms hi hj)
    ⟨ho, ho2, show Value.bool (lexLt ns ms) ≠ Value.notImplemented ∧ Q (.bool (lexLt ns ms)) s from ⟨(fun x => nomatch x), h⟩⟩ hu

theorem cat_tup {t b : Addr} {vs ws : List Value} {Q : Value → Shared → Prop} (ht : IsTup s.heap t vs.toArray) (hb : IsTup s.heap b ws.toArray) (hv : vs ≠ [])
    (h1 : ws = [] → Q (.ref t) s) (h2 : ws ≠ [] → Q (.ref s.heap.objs.size) { s with heap := s.heap.push { cls := .type "tuple", data := .seq (vs ++ ws).toArray } })
    (hsz : vs.length + ws.length ≤ sizeLine) : wpAny (model prog w) A (binaryOp .Add (.ref t) (.ref b)) Q E s := by
  obtain ⟨⟨cls, dd, data, sl⟩, ho, hc, n, hd⟩ := id ht
  obtain ⟨⟨cls2, dd2, data2, sl2⟩, ho2, hc2, n2, hd2⟩ := id hb
  simp only at hc hd hc2 hd2
  subst hc hd hc2 hd2
  have e : vs.toArray ++ ws.toArray = (vs ++ ws).toArray := by simp
  by_cases hw : ws = []
  · exact concat_meets ⟨_, ho, rfl⟩ ⟨_, ho2, rfl⟩ noFill_tuple_add seq_tuple_add PySem.F.slot_tuple_add PySem.F.entry_tuple_add (PySem.F.args_tuple_add_2 _ _)
      (tuple_addW1 t b vs.toArray ws.toArray n n2 dd dd2 sl sl2 (by simpa using hv) (by simp [hw])) ⟨ho, ho2, h1 hw⟩
  · refine concat_meets ⟨_, ho, rfl⟩ ⟨_, ho2, rfl⟩ noFill_tuple_add seq_tuple_add PySem.F.slot_tuple_add PySem.F.entry_tuple_add (PySem.F.args_tuple_add_2 _ _)
      (tuple_addW2 t b vs.toArray ws.toArray n n2 dd dd2 sl sl2 (by simpa using hv) (by simpa using hw) (by rw [List.size_toArray, List.size_toArray]; exact hsz)) ⟨ho, ho2, ?_⟩
    rw [e]
    exact h2 hw

noncomputable def sIx (n d : Nat) : Option Int → Nat
  | none => d
  | some v => if v < 0 then (v + (n : Int)).toNat else min v.toNat n
end
end HT

namespace L2
open PySem PySem.Spec PyProof.Rows

noncomputable abbrev TO := St → Hp → (Option Int → Hp → Prop) → Prop
noncomputable def PO (X : Cx) (e : Option Expr) (t : TO) : Prop :=
  ∀ (pins : List (Addr × Obj)) (s : Shared) (σ : St) (H : Hp) (Q : Option Int → Hp → Prop), Inv X pins σ H s → t σ H Q →
    wpAny (model X.prog X.w) X.A (evalPart e X.env) (fun u s' => ∃ o H', Inv X pins σ H' s' ∧ IsPart u o ∧ Q o H') X.xe s
noncomputable def tNoPart : TO := fun _ H Q => Q none H
noncomputable def tPart (t : TE) : TO := fun σ H Q => t σ H fun x H1 => ∃ i, x = .int i ∧ Q (some i) H1

theorem intsAre_of {ns : List Int} : ∀ {us : List Value}, Vals (ns.map V.int) us → IntsAre us ns := by
  induction ns with
  | nil => intro us r; rw [List.map_nil] at r; cases r; exact .nil
  | cons n ns ih =>
    intro us r
    rw [List.map_cons] at r
    cases r with
    | cons r1 r2 =>
      obtain ⟨t, e⟩ := r1
      subst e
      exact .cons n t (ih r2)

section
variable {X : Cx} {e : Expr} {te : TE} {lo hi : Option Expr} {tl th : TO} {pos p2 : Pos}

noncomputable def SlR (X : Cx) (r : V → Option Int → Option Int → Hp → VK → Prop) : Prop :=
  ∀ (pins : List (Addr × Obj)) (s : Shared) (σ : St) (H : Hp) (x : V) (v vl vu : Value) (lo hi : Option Int) (sl : Addr) (Q : VK), Inv X pins σ H s → RelV x v → s.heap.IsSliceOf sl vl vu .none → IsPart vl lo → IsPart vu hi → r x lo hi H Q →
    ∃ T id, typeLookup (.type T) "__getitem__" = pure (some (.builtin id)) ∧ s.TypeIs v T ∧ wpAny (model X.prog X.w) X.A (getItem v (.ref sl)) (EP X pins σ Q) X.xe s
noncomputable def tSl (r : V → Option Int → Option Int → Hp → VK → Prop) (te : TE) (tl th : TO) : TE := fun σ H Q => te σ H fun x H1 => tl σ H1 fun l H2 => th σ H2 fun u H3 => r x l u H3 Q
noncomputable def cutV (xs : List V) (lo hi : Option Int) : List V := (xs.drop (HT.sIx xs.length 0 lo)).take (HT.sIx xs.length xs.length hi - HT.sIx xs.length 0 lo)
noncomputable def rSlT (K : PySem.W.Frag) : V → Option Int → Option Int → Hp → VK → Prop := fun x lo hi H Q => ∃ a xs, x = .ref a ∧ SqT K H a xs ∧
  ¬ (HT.sIx xs.length 0 lo = 0 ∧ HT.sIx xs.length xs.length hi = xs.length) ∧ ∀ p, H p = none → Q (.ref p) (upd H p (.tup (cutV xs lo hi)))
noncomputable def rLtT (K : PySem.W.Frag) : R2 := fun x y H Q => ∃ a b ns ms, x = .ref a ∧ y = .ref b ∧ SqT K H a (ns.map V.int) ∧ SqT K H b (ms.map V.int) ∧ Q (.bl (HT.lexLt ns ms)) H
theorem op_ltT (hu : X.A.units < cLine) : OpR X (compareOp .Lt) (rLtT X.K) := by
  intro pins s σ H x y v u Q I rx ry h
  obtain ⟨a, b, ns, ms, rfl, rfl, ha, hb, q⟩ := h
  cases rx
  cases ry
  obtain ⟨its, r1, p1, _⟩ := I.tuple ha
  obtain ⟨its2, r2, p2, _⟩ := I.tuple hb
  have i1 : IntsAre its.toArray.toList ns := intsAre_of r1
  have i2 : IntsAre its2.toArray.toList ms := intsAre_of r2
  exact HT.lt_tupInts p1 p2 i1 i2 hu ⟨.bl (HT.lexLt ns ms), H, I, rfl, q⟩
noncomputable def rCatT (K : PySem.W.Frag) : R2 := fun x y H Q => ∃ a b xs ys, x = .ref a ∧ y = .ref b ∧ SqT K H a xs ∧ SqT K H b ys ∧ xs ≠ [] ∧ xs.length + ys.length ≤ sizeLine ∧
  (ys = [] → Q (.ref a) H) ∧ (ys ≠ [] → ∀ p, H p = none → Q (.ref p) (upd H p (.tup (xs ++ ys))))
theorem Vals.nil_iff {xs : List V} {us : List Value} (r : Vals xs us) : us = [] ↔ xs = [] := by
  cases r with
  | nil => simp
  | cons _ _ => simp
theorem op_catT : OpR X (binaryOp .Add) (rCatT X.K) := by
  intro pins s σ H x y v u Q I rx ry h
  obtain ⟨a, b, xs, ys, rfl, rfl, ha, hb, hx, hz, q1, q2⟩ := h
  cases rx
  cases ry
  obtain ⟨its, r1, p1, _⟩ := I.tuple ha
  obtain ⟨its2, r2, p2, _⟩ := I.tuple hb
  refine HT.cat_tup p1 p2 (fun z => hx (r1.nil_iff.mp z)) (fun z => ⟨.ref a, H, I, rfl, q1 (r2.nil_iff.mp z)⟩) (fun z => ?_) (by rw [← r1.length, ← r2.length]; exact hz)
  refine ⟨.ref s.heap.objs.size, _, I.laid (t' := s.toks) (o := .tup (xs ++ ys)) (fun b ob q => Heap.get?_push_of_some _ q) (Nat.le_refl _) ?_, rfl, q2 (fun w => z (r2.nil_iff.mpr w)) _ (I.hok.fresh (Nat.le_refl _))⟩
  exact ⟨by rw [List.length_append]; exact hz, _, r1.append r2, IsTup.new _ _⟩
end
end L2

namespace L2
open PySem PySem.Spec PyProof.Rows

noncomputable def ixN (n : Nat) (i : Int) : Option Nat := if 0 ≤ i then (if i < n then some i.toNat else none) else if -(n : Int) ≤ i then some (i + n).toNat else none
noncomputable def atI {α : Type} (xs : List α) (i : Int) : Option α := (ixN xs.length i).bind fun j => xs[j]?
theorem ixN_seq {n : Nat} {i : Int} {j : Nat} (h : ixN n i = some j) : seqIndex? i n = some j ∧ j < n ∧ -(n : Int) ≤ i ∧ i < n := by
  unfold ixN at h
  by_cases h0 : 0 ≤ i
  · rw [if_pos h0] at h
    by_cases h1 : i < n
    · rw [if_pos h1] at h
      have e : i.toNat = j := Option.some.inj h
      exact ⟨by rw [seqIndex_of h0 h1, e], by omega, by omega, h1⟩
    · rw [if_neg h1] at h; cases h
  · rw [if_neg h0] at h
    by_cases h1 : -(n : Int) ≤ i
    · rw [if_pos h1] at h
      have e : (i + n).toNat = j := Option.some.inj h
      exact ⟨by rw [seqIndex_neg (by omega) h1, e], by omega, h1, by omega⟩
    · rw [if_neg h1] at h; cases h
theorem atI_get {α : Type} {xs : List α} {i : Int} {v : α} (h : atI xs i = some v) : ∃ j, seqIndex? i xs.length = some j ∧ xs[j]? = some v ∧ j < xs.length ∧ -(xs.length : Int) ≤ i ∧ i < xs.length := by
  unfold atI at h
  cases e : ixN xs.length i with
  | none => rw [e] at h; cases h
  | some j =>
    rw [e] at h
    obtain ⟨h1, h2, h3, h4⟩ := ixN_seq e
    exact ⟨j, h1, h, h2, h3, h4⟩
theorem atI_nat {α : Type} {xs : List α} {j : Nat} {v : α} (h : xs[j]? = some v) : atI xs (j : Int) = some v := by
  have hj : j < xs.length := (List.getElem?_eq_some_iff.mp h).1
  have e : ixN xs.length (j : Int) = some j := by
    unfold ixN
    rw [if_pos (by omega), if_pos (by omega)]; simp
  unfold atI; rw [e]; exact h
noncomputable def PlainIx (b : Expr) : Prop := ∀ o i, subscripted b false o i = operate [o, i] (getItem o i)
noncomputable def IxR (X : Cx) (r : R2) : Prop :=
  ∀ (value slice : Expr) (pins : List (Addr × Obj)) (s : Shared) (σ : St) (H : Hp) (x y : V) (v u : Value) (Q : VK), Inv X pins σ H s → RelV x v → RelV y u → r x y H Q →
    subscripted slice false v u = operate [v, u] (getItem v u) → wpAny (model X.prog X.w) X.A (subscriptTail value slice v u) (EP X pins σ Q) X.xe s
noncomputable def MtR (X : Cx) (id : String) (r : V → List V → Hp → VK → Prop) : Prop :=
  ∀ (pins : List (Addr × Obj)) (s : Shared) (σ : St) (H : Hp) (x : V) (xs : List V) (v : Value) (us : List Value) (Q : VK), Inv X pins σ H s → RelV x v → Vals xs us → r x xs H Q →
    wpAny (model X.prog X.w) X.A (call (.builtin id) (v :: us)) (EP X pins σ Q) X.xe s
section
variable {X : Cx} {a b : Expr} {ta tb : TE} {pos : Pos}
theorem pe_ix {r : R2} (hr : IxR X r) (ha : PE X a ta) (hb : PE X b tb) (hs : PlainIx b) : PE X (.Subscript a b pos) (tOp r ta tb) := by
  intro pins s σ H Q I h
  exact Subscript_ (binT ha hb I h fun v u s2 x y H2 I2 rx ry q => hr a b pins s2 σ H2 x y v u Q I2 rx ry q (hs _ _))

noncomputable def rIxL (K : PySem.W.Frag) : R2 := fun x y H Q => ∃ p xs i v, x = .ref p ∧ y = .int i ∧ SqL K H p xs ∧ atI xs i = some v ∧ Q v H
noncomputable def rIxT (K : PySem.W.Frag) : R2 := fun x y H Q => ∃ p xs i v, x = .ref p ∧ y = .int i ∧ SqT K H p xs ∧ atI xs i = some v ∧ Q v H
noncomputable def rIxS : R2 := fun x y H Q => ∃ z i c, x = .str z ∧ y = .int i ∧ z.length ≤ sizeLine ∧ atI z.cps.toList i = some c ∧ Q (.str ⟨#[c]⟩) H
theorem ix_list : IxR X (rIxL X.K) := by
  intro value slice pins s σ H x y v u Q I rx ry h hs
  obtain ⟨p, xs, i, z, rfl, rfl, hq, he, q⟩ := h
  cases rx
  obtain ⟨t, rfl⟩ := ry
  obtain ⟨its, r, pl, hz⟩ := I.list hq
  obtain ⟨j, h1, h2, h3, h4, h5⟩ := atI_get he
  obtain ⟨w, ew, rw'⟩ := r.get h2
  have hl := r.length
  have hn := line63
  have fin : EP X pins σ Q w s := ⟨z, H, I, rw', q⟩
  by_cases h0 : 0 ≤ i
  · have hj : i.toNat = j := by
      rw [seqIndex_of h0 h5] at h1
      exact Option.some.inj h1
    exact item_listR pl.isList h0 (by omega) (by rw [hj]; simpa using ew) fin hs
  · have hj : (i + (its.toArray.size : Int)).toNat = j := by
      rw [seqIndex_neg (by omega) h4] at h1
      rw [List.size_toArray, ← hl]
      exact Option.some.inj h1
    exact subscriptTail_builtinR (x := w) pl.isList.typeIs slot_list_getitem.lookup
      (wpAny_getItem_list_neg (Q := fun r s' => r = w ∧ EP X pins σ Q r s') pl.isList (by omega) (by rw [List.size_toArray] <;> omega) (by omega) (by rw [hj]; simpa using ew) ⟨rfl, fin⟩) hs
theorem ix_tup : IxR X (rIxT X.K) := by
  intro value slice pins s σ H x y v u Q I rx ry h hs
  obtain ⟨p, xs, i, z, rfl, rfl, hq, he, q⟩ := h
  cases rx
  obtain ⟨t, rfl⟩ := ry
  obtain ⟨its, r, pl, hz⟩ := I.tuple hq
  obtain ⟨j, h1, h2, h3, h4, h5⟩ := atI_get he
  obtain ⟨w, ew, rw'⟩ := r.get h2
  have hl := r.length
  have hn := line63
  have fin : EP X pins σ Q w s := ⟨z, H, I, rw', q⟩
  exact subscriptTail_builtinR (x := w) pl.typeIs slot_tuple_getitem.lookup
    (getItem_tuple (j := j) (Q := fun r s' => r = w ∧ EP X pins σ Q r s') pl (by omega) (by omega) (by rw [List.size_toArray, ← hl]; exact h1) (by simpa using ew) ⟨rfl, fin⟩) hs
noncomputable def rIx (K : PySem.W.Frag) : R2 := fun x y H Q => rIxL K x y H Q ∨ rIxT K x y H Q ∨ rIxS x y H Q
theorem Inv.lst {pins : List (Addr × Obj)} {σ : St} {H : Hp} {s : Shared} {p : Addr} {xs : List V} (I : Inv X pins σ H s) (h : H p = some (.lst xs)) :
    ∃ (its : List Value) (n : Nat), Vals xs its ∧ s.heap.get? p = some { cls := .type "list", data := .seq its.toArray n } ∧ xs.length ≤ sizeLine := by
  obtain ⟨z, its, n, r, e⟩ := I.hok p _ h
  exact ⟨its, n, r, e, z⟩
noncomputable def rSetL : V → V → V → Hp → (Hp → Prop) → Prop := fun o i v H Q => ∃ p xs k j, o = .ref p ∧ i = .int k ∧ H p = some (.lst xs) ∧ ixN xs.length k = some j ∧ Q (upd H p (.lst (xs.set j v)))
noncomputable def rSlL (K : PySem.W.Frag) : V → Option Int → Option Int → Hp → VK → Prop := fun x lo hi H Q => ∃ a xs, x = .ref a ∧ SqL K H a xs ∧ ∀ p, H p = none → Q (.ref p) (upd H p (.lst (cutV xs lo hi)))
noncomputable def flatV : V → Bool
  | .non => true
  | .bl _ => true
  | .int _ => true
  | .str _ => true
  | _ => false
noncomputable def eqV : V → V → Bool
  | .non, .non => true
  | .bl a, .bl b => a == b
  | .bl a, .int b => (if a then 1 else 0) == b
  | .int a, .bl b => a == (if b then 1 else 0)
  | .int a, .int b => a == b
  | .str a, .str b => a == b
  | _, _ => false
theorem eqAt_V {A : Around} {s : Shared} {y x : V} {u v : Value} (ry : RelV y u) (rx : RelV x v) (fy : flatV y = true) (fx : flatV x = true) : SeqAt.EqAt A s u v (eqV y x) := by
  cases y with
  | non =>
    cases ry
    cases x with
    | non => cases rx; exact SeqAt.EqAt.same _
    | bl b => cases rx; exact SeqAt.EqAt.none_bool b
    | int b => obtain ⟨t, rfl⟩ := rx; exact SeqAt.EqAt.none_int b t
    | str b => obtain ⟨t, rfl⟩ := rx; exact SeqAt.EqAt.none_str b t
    | _ => exact absurd (show false = true from fx) Bool.false_ne_true
  | bl a =>
    cases ry
    cases x with
    | non => cases rx; exact SeqAt.EqAt.bool_none a
    | bl b => cases rx; exact SeqAt.EqAt.bool_bool a b
    | int b => obtain ⟨t, rfl⟩ := rx; exact SeqAt.EqAt.bool_int a b t
    | str b => obtain ⟨t, rfl⟩ := rx; exact SeqAt.EqAt.bool_str a b t
    | _ => exact absurd (show false = true from fx) Bool.false_ne_true
  | int a =>
    obtain ⟨t', rfl⟩ := ry
    cases x with
    | non => cases rx; exact SeqAt.EqAt.int_none a t'
    | bl b => cases rx; exact SeqAt.EqAt.int_bool a t' b
    | int b => obtain ⟨t, rfl⟩ := rx; exact SeqAt.EqAt.int_int a t' b t
    | str b => obtain ⟨t, rfl⟩ := rx; exact SeqAt.EqAt.int_str a t' b t
    | _ => exact absurd (show false = true from fx) Bool.false_ne_true
  | str a =>
    obtain ⟨t', rfl⟩ := ry
    cases x with
    | non => cases rx; exact SeqAt.EqAt.str_none a t'
    | bl b => cases rx; exact SeqAt.EqAt.str_bool a t' b
    | int b => obtain ⟨t, rfl⟩ := rx; exact SeqAt.EqAt.str_int a t' b t
    | str b => obtain ⟨t, rfl⟩ := rx; exact SeqAt.EqAt.str_str a t' b t
    | _ => exact absurd (show false = true from fx) Bool.false_ne_true
  | _ => exact absurd (show false = true from fy) Bool.false_ne_true
noncomputable def eqU (x : V) (u : Value) : Bool := match u with
  | .none => eqV .non x
  | .bool b => eqV (.bl b) x
  | .int i _ => eqV (.int i) x
  | .str z _ => eqV (.str z) x
  | _ => false
theorem eqU_of {x y : V} {u : Value} (r : RelV y u) (f : flatV y = true) : eqU x u = eqV y x := by
  cases y with
  | non => cases r; rfl
  | bl b => cases r; rfl
  | int i => obtain ⟨t, rfl⟩ := r; rfl
  | str z => obtain ⟨t, rfl⟩ := r; rfl
  | _ => exact absurd (show false = true from f) Bool.false_ne_true
theorem any_eqU {x : V} : ∀ {xs : List V} {us : List Value}, Vals xs us → xs.all flatV = true → us.any (eqU x) = xs.any fun y => eqV y x
  | _, _, .nil, _ => rfl
  | y :: xs, u :: us, .cons r t, f => by
    rw [List.all_cons, Bool.and_eq_true] at f
    rw [List.any_cons, List.any_cons, eqU_of r f.1, any_eqU t f.2]
theorem mem_eqAt {A : Around} {s : Shared} {x : V} {v : Value} (rx : RelV x v) (fx : flatV x = true) : ∀ {xs : List V} {us : List Value}, Vals xs us → xs.all flatV = true → ∀ u ∈ us, SeqAt.EqAt A s u v (eqU x u)
  | _, _, .nil, _ => fun u hu => by cases hu
  | y :: xs, u :: us, .cons r t, f => fun u' hu => by
    rw [List.all_cons, Bool.and_eq_true] at f
    rcases List.mem_cons.mp hu with rfl | hu
    · rw [eqU_of r f.1]; exact eqAt_V r rx f.1 fx
    · exact mem_eqAt rx fx t f.2 u' hu
noncomputable def inV (x : V) (xs : List V) : Bool := xs.any fun y => eqV y x
noncomputable def rIn (K : PySem.W.Frag) (neg : Bool) : R2 := fun x y H Q => ∃ p xs, y = .ref p ∧ (SqL K H p xs ∨ SqT K H p xs) ∧ flatV x = true ∧ xs.all flatV = true ∧ Q (.bl (if neg then !inV x xs else inV x xs)) H
theorem op_in_seq : OpR X (compareOp .In) (rIn X.K false) := by
  intro pins s σ H x y v u Q I rx ry h
  obtain ⟨p, xs, rfl, hq, fx, fs, q⟩ := h
  cases ry
  rcases hq with hq | hq
  · obtain ⟨its, r, pl, hz⟩ := I.list hq
    refine SeqAt.in_listAt (eqU x) pl.isList (fun w hw => mem_eqAt rx fx r fs w (by simpa using hw)) ⟨.bl _, H, I, rfl, ?_⟩
    rw [show its.toArray.any (eqU x) = its.any (eqU x) by simp, any_eqU r fs]
    exact q
  · obtain ⟨its, r, pl, hz⟩ := I.tuple hq
    refine SeqAt.in_tupleAt (eqU x) pl (fun w hw => mem_eqAt rx fx r fs w (by simpa using hw)) ⟨.bl _, H, I, rfl, ?_⟩
    rw [show its.toArray.any (eqU x) = its.any (eqU x) by simp, any_eqU r fs]
    exact q
theorem op_notIn_seq : OpR X (compareOp .NotIn) (rIn X.K true) := by
  intro pins s σ H x y v u Q I rx ry h
  obtain ⟨p, xs, rfl, hq, fx, fs, q⟩ := h
  cases ry
  rcases hq with hq | hq
  · obtain ⟨its, r, pl, hz⟩ := I.list hq
    refine SeqAt.notIn_listAt (eqU x) pl.isList (fun w hw => mem_eqAt rx fx r fs w (by simpa using hw)) ⟨.bl _, H, I, rfl, ?_⟩
    rw [show its.toArray.any (eqU x) = its.any (eqU x) by simp, any_eqU r fs]
    exact q
  · obtain ⟨its, r, pl, hz⟩ := I.tuple hq
    refine SeqAt.notIn_tupleAt (eqU x) pl (fun w hw => mem_eqAt rx fx r fs w (by simpa using hw)) ⟨.bl _, H, I, rfl, ?_⟩
    rw [show its.toArray.any (eqU x) = its.any (eqU x) by simp, any_eqU r fs]
    exact q
theorem call_len_seq : CallR X (.builtin "len") (fun xs H Q => ∃ p ys, xs = [.ref p] ∧ (SqL X.K H p ys ∨ SqT X.K H p ys) ∧ Q (.int ys.length) H) := by
  intro pins s σ H xs us Q I r h
  obtain ⟨p, ys, rfl, hq, q⟩ := h
  obtain ⟨u, rfl, rx⟩ := vals1 r
  cases rx
  have hn := line63
  rcases hq with hq | hq
  · obtain ⟨its, r', pl, hz⟩ := I.list hq
    have hlen := r'.length
    exact Calls.call_len_list pl.isList (by simp only [List.size_toArray] <;> omega) ⟨.int ys.length, H, I.tok _, ⟨s.toks + 1, by rw [List.size_toArray, hlen]⟩, q⟩
  · obtain ⟨its, r', pl, hz⟩ := I.tuple hq
    have hlen := r'.length
    exact len_tuple pl (by simp only [List.size_toArray] <;> omega) ⟨.int ys.length, H, I.tok _, ⟨s.toks + 1, by rw [List.size_toArray, hlen]⟩, q⟩
theorem call_list_of : CallR X (.type "list") (fun xs H Q => ∃ p ys, xs = [.ref p] ∧ (SqL X.K H p ys ∨ SqT X.K H p ys) ∧ ∀ l, H l = none → Q (.ref l) (upd H l (.lst ys))) := by
  intro pins s σ H xs us Q I r h
  obtain ⟨p, ys, rfl, hq, q⟩ := h
  obtain ⟨u, rfl, rx⟩ := vals1 r
  cases rx
  have fin : ∀ (its : List Value), Vals ys its → ys.length ≤ sizeLine → ∀ (h' : Heap) (c' : Nat), (∀ b o', s.heap.get? b = some o' → h'.get? b = some o') →
      h'.get? s.heap.objs.size = some { cls := .type "list", dict := none, data := .seq its.toArray c', slots := #[] } → EP X pins σ Q (.ref s.heap.objs.size) { s with heap := h' } := fun its r' hz h' c' kp e =>
    ⟨.ref s.heap.objs.size, _, I.laid (t' := s.toks) kp (Nat.le_refl _) (show ObjOk X.prog X.w _ h' _ (.lst ys) from ⟨hz, its, c', r', e⟩), rfl, q _ (I.hok.fresh (Nat.le_refl _))⟩
  rcases hq with hq | hq
  · obtain ⟨its, r', pl, hz⟩ := I.list hq
    have hlen := r'.length
    obtain ⟨o, ho, hc, n, hd⟩ := pl.isList
    exact call_list_seq p (.inl rfl) ho hc hd (fun h' c' kp e => fin its r' hz h' c' kp e) (by simp only [List.size_toArray] <;> omega)
  · obtain ⟨its, r', pl, hz⟩ := I.tuple hq
    have hlen := r'.length
    obtain ⟨o, ho, hc, n, hd⟩ := pl
    exact call_list_seq p (.inr rfl) ho hc hd (fun h' c' kp e => fin its r' hz h' c' kp e) (by simp only [List.size_toArray] <;> omega)
theorem call_tuple_of : CallR X (.type "tuple") (fun xs H Q => ∃ p ys, xs = [.ref p] ∧ ((SqL X.K H p ys ∧ ∀ l, H l = none → Q (.ref l) (upd H l (.tup ys))) ∨ (SqT X.K H p ys ∧ Q (.ref p) H))) := by
  intro pins s σ H xs us Q I r h
  obtain ⟨p, ys, rfl, h⟩ := h
  obtain ⟨u, rfl, rx⟩ := vals1 r
  cases rx
  rcases h with ⟨hq, q⟩ | ⟨hq, q⟩
  · obtain ⟨its, r', pl, hz⟩ := I.list hq
    have hlen := r'.length
    refine call_tuple_list pl.isList (fun h' kp => ?_) (by simp only [List.size_toArray] <;> omega)
    have I1 : Inv X pins σ H { s with heap := h' } := I.kept (t' := s.toks) kp
    have I2 : Inv X pins σ (upd H h'.objs.size (.tup ys)) { s with heap := h'.push { cls := .type "tuple", data := .seq its.toArray } } :=
      I1.laid (t' := s.toks) (fun b o e => Heap.get?_push_of_some _ e) (Nat.le_refl _) (show ObjOk X.prog X.w _ _ _ (.tup ys) from ⟨hz, its, r', IsTup.new _ _⟩)
    exact ⟨.ref h'.objs.size, _, I2, rfl, q _ (I1.hok.fresh (Nat.le_refl _))⟩
  · obtain ⟨its, r', pl, hz⟩ := I.tuple hq
    exact call_tuple_same pl ⟨.ref p, H, I, rfl, q⟩

noncomputable def tyV (K : PySem.W.Frag) (T : String) (x : V) (H : Hp) : Prop := match x with
  | .str _ => T = "str"
  | .int _ => T = "int"
  | .ref p => (T = "list" ∧ ∃ xs, SqL K H p xs) ∨ (T = "tuple" ∧ ∃ o, K.lookup p = some o ∧ o.cls = .type "tuple" ∧ o.dict = none) ∨
      (T = "dict" ∧ ((∃ kvs, H p = some (.dK kvs)) ∨ ∃ kvs, H p = some (.dT kvs))) ∨ (T = "set" ∧ ∃ S n, H p = some (.set S n))
  | _ => False
theorem tyV_is {pins : List (Addr × Obj)} {σ : St} {H : Hp} {s : Shared} {T : String} {x : V} {v : Value} (I : Inv X pins σ H s) (r : RelV x v) (ty : tyV X.K T x H) :
    s.TypeIs v T ∧ ∀ a, v = .ref a → ∃ ob, s.heap.get? a = some ob ∧ ob.dict = none := by
  cases x with
  | str z =>
    obtain ⟨t, rfl⟩ := r
    cases (show T = "str" from ty)
    exact ⟨typeIs_str s z t, fun _ e => nomatch e⟩
  | int i =>
    obtain ⟨t, rfl⟩ := r
    cases (show T = "int" from ty)
    exact ⟨typeIs_int s i t, fun _ e => nomatch e⟩
  | ref p =>
    cases r
    rcases ty with ⟨rfl, xs, hq⟩ | ⟨rfl, o, hk, hc, hd⟩ | ⟨rfl, hk⟩ | ⟨rfl, S, n, hk⟩
    · obtain ⟨its, _, pl, _⟩ := I.list hq
      refine ⟨pl.isList.typeIs, fun a e => ?_⟩
      cases e
      obtain ⟨o, n, e, c, hd, _⟩ := pl
      exact ⟨o, e, hd⟩
    · refine ⟨⟨o, I.kIn p o hk, hc⟩, fun a e => ?_⟩
      cases e
      exact ⟨o, I.kIn _ o hk, hd⟩
    · have z : ∃ o, s.heap.get? p = some o ∧ o.ExactDict := by
        rcases hk with ⟨kvs, hk⟩ | ⟨kvs, hk⟩
        · obtain ⟨_, _, _, _, o, _, _, e, ex, _⟩ := I.hok p _ hk
          exact ⟨o, e, ex⟩
        · obtain ⟨_, _, _, _, o, _, _, e, ex, _⟩ := I.hok p _ hk
          exact ⟨o, e, ex⟩
      obtain ⟨o, e, ex⟩ := z
      refine ⟨⟨o, e, ex.1⟩, fun a e2 => ?_⟩
      cases e2
      exact ⟨o, e, ex.2.1⟩
    · obtain ⟨o, _, _, _, e, ex, _⟩ := I.hok p _ hk
      refine ⟨⟨o, e, ex.1⟩, fun a e2 => ?_⟩
      cases e2
      exact ⟨o, e, ex.2.1⟩
  | _ => exact False.elim ty
noncomputable def tBM0 (K : PySem.W.Frag) (T : String) (r : V → List V → Hp → VK → Prop) (to : TE) : TE := fun σ H Q => to σ H fun x H1 => tyV K T x H1 ∧ r x [] H1 Q
noncomputable def tBM (K : PySem.W.Frag) (T : String) (r : V → List V → Hp → VK → Prop) (to : TE) (t : TA) : TE := fun σ H Q => to σ H fun x H1 => tyV K T x H1 ∧ t σ H1 fun xs H2 => r x xs H2 Q
variable {o e : Expr} {es : List Expr} {to : TE} {t : TA} {name : Str} {apos cpos : Pos} {T id : String} {r : V → List V → Hp → VK → Prop}
theorem pe_bm (pa : PlainAttrs T) (slot : Slot T name id) (hty : typeOf (.builtin id) = pure (.type "method_descriptor")) (hm : MtR X id r) (ho : PE X o to) (ha : PA X (e :: es) t)
    (hbase : attributeBase o name X.env (eval o X.env) = eval o X.env := by rfl)
    (hfew : ((backTo cpos (starEach (e :: es) X.env)).all (fun x => !x.1) && (backToKw cpos (keywordEach [] X.env)).all (fun x => x.1.isSome)
      && decide ((e :: es).length + ([] : List Keyword).length + (if ([] : List Keyword).isEmpty then 0 else 1) < 30)) = true := by rfl)
    (hline : (apos.endLine == cpos.line) = true := by rfl) (hs : starEach (e :: es) X.env = (false, eval e X.env) :: starEach es X.env := by rfl) (hplain : (backTo cpos (starEach es X.env)).any (·.1) = false := by rfl) :
    PE X (.Call (.Attribute o name apos) (e :: es) [] cpos) (tBM X.K T r to t) := by
  intro pins s σ H Q I h
  refine wpAny_Call_method_late hbase hfew hline rfl (thn (ho pins s σ H _ I h) fun v s1 hq_ => ?_)
  obtain ⟨x, H1, I1, r1, ty, q1⟩ := hq_
  obtain ⟨h1, h2⟩ := tyV_is I1 r1 ty
  refine ⟨T, id, pa, slot, hty, h1, h2, ?_⟩
  have hA := ha cpos pins s1 σ H1 _ I1 q1
  rw [hs] at hA ⊢
  refine Calls.callWith_builtin (by show (false || (backTo cpos (starEach es X.env)).any (·.1)) = false; rw [hplain] <;> rfl) (Calls.evalArgs_plain ?_)
  exact thn hA fun us s2 ⟨vs, H2, I2, r2, q2⟩ => hm pins s2 σ H2 x vs v us Q I2 r1 r2 q2
end
end L2

namespace L2
open PySem PySem.Spec PyProof.Rows

noncomputable def MtM (X : Cx) (id : String) (r : V → List V → Hp → VK → Prop) : Prop :=
  ∀ (pins : List (Addr × Obj)) (s : Shared) (σ : St) (H : Hp) (x : V) (xs : List V) (v : Value) (us : List Value) (Q : VK), Inv X pins σ H s → RelV x v → Vals xs us → r x xs H Q →
    wpAny (model X.prog X.w) X.A (call (.builtin id) (v :: us)) (EP X pins σ Q) X.xe s

theorem Vals.inv1 {x : V} {xs : List V} {us : List Value} (h : Vals (x :: xs) us) : ∃ u us', us = u :: us' ∧ RelV x u ∧ Vals xs us' := by
  cases h with
  | cons r q => exact ⟨_, _, rfl, r, q⟩
theorem Vals.inv0 {us : List Value} (h : Vals [] us) : us = [] := by
  cases h
  rfl
theorem Vals.one {x : V} {us : List Value} (h : Vals [x] us) : ∃ u, us = [u] ∧ RelV x u := by
  obtain ⟨u, us', e, r, q⟩ := Vals.inv1 h
  exact ⟨u, by rw [e, Vals.inv0 q], r⟩
theorem Vals.two {x y : V} {us : List Value} (h : Vals [x, y] us) : ∃ u v, us = [u, v] ∧ RelV x u ∧ RelV y v := by
  obtain ⟨u, us', e, r, q⟩ := Vals.inv1 h
  obtain ⟨v, e', r'⟩ := Vals.one q
  exact ⟨u, v, by rw [e, e'], r, r'⟩
section
variable {X : Cx} {pins : List (Addr × Obj)} {σ : St} {H : Hp} {s : Shared} {l b : Addr} {xs ys zs : List V}

theorem Inv.lset {its its' : List Value} {n : Nat} {f : Array Value → Array Value} {t' : Nat} (I : Inv X pins σ H s) (hH : H l = some (.lst xs))
    (e : s.heap.get? l = some { cls := .type "list", data := .seq its.toArray n }) (hf : f its.toArray = its'.toArray) (hv : Vals ys its') (hz : ys.length ≤ sizeLine) :
    Inv X pins σ (upd H l (.lst ys)) { s with heap := s.heap.update l (Obj.mapSeq f), toks := t' } := by
  have q := PySem.IsL.update e f
  rw [hf] at q
  refine I.write (x := l) (e := l) (by rw [hH]; exact trivial) (.inl rfl) (fun b' u hb hu => (Heap.get?_update_other s.heap (Obj.mapSeq f) (Ne.symm hb)).trans hu) ⟨_, q⟩ ?_
  exact ⟨hz, its', _, hv, q⟩
theorem Inv.lnew {its : List Value} {t' : Nat} (I : Inv X pins σ H s) (hv : Vals ys its) (hz : ys.length ≤ sizeLine) :
    Inv X pins σ (upd H s.heap.objs.size (.lst ys)) { s with heap := s.heap.push { cls := .type "list", data := .seq its.toArray }, toks := t' } :=
  I.laid (fun _ _ q => Heap.get?_push_of_some _ q) (Nat.le_refl _) ⟨hz, its, 0, hv, Heap.get?_push_size _ rfl⟩
theorem Inv.fresh (I : Inv X pins σ H s) : H s.heap.objs.size = none := I.hok.fresh (Nat.le_refl _)
theorem Inv.lstM (I : Inv X pins σ H s) (hH : H l = some (.lst xs)) : xs.length ≤ sizeLine ∧ ∃ (its : List Value) (n : Nat), Vals xs its ∧ xs.length = its.length ∧ s.heap.get? l = some { cls := .type "list", data := .seq its.toArray n } := by
  obtain ⟨z, its, n, r, e⟩ := I.hok l _ hH
  exact ⟨z, its, n, r, r.length, e⟩

theorem notLongL {n : Nat} (h : n ≤ sizeLine) : Builtin.List.listTooLong n = false := by
  unfold Builtin.List.listTooLong
  exact decide_eq_false (by omega)
end

section
variable {X : Cx}

noncomputable def rAppend : V → List V → Hp → VK → Prop := fun x vs H Q => ∃ l xs y, x = .ref l ∧ vs = [y] ∧ H l = some (.lst xs) ∧ xs.length < sizeLine ∧ Q .non (upd H l (.lst (xs ++ [y])))
theorem mt_append : MtM X "list.append" rAppend := by
  intro pins s σ H x vs v us Q I rx rv h
  obtain ⟨l, xs, y, rfl, rfl, hH, hz, q⟩ := h
  cases rx
  obtain ⟨u, rfl, ru⟩ := rv.one
  obtain ⟨z, its, n, r, hl, e⟩ := I.lstM hH
  refine call_meets F.slot_list_append ⟨_, e, rfl⟩ F.entry_list_append (F.args_list_append_2 _ _) (PySem.list_append l its.toArray n u (by rw [List.size_toArray]; omega)) ⟨e, ?_⟩
  refine ⟨.non, _, I.lset (its' := its ++ [u]) hH e (by simp) (r.append (.cons ru .nil)) ?_, rfl, q⟩
  rw [List.length_append, List.length_singleton]
  omega

noncomputable def rExtend : V → List V → Hp → VK → Prop := fun x vs H Q => ∃ l b xs zs, x = .ref l ∧ vs = [.ref b] ∧ H l = some (.lst xs) ∧ H b = some (.lst zs) ∧ xs.length + zs.length ≤ sizeLine ∧ Q .non (upd H l (.lst (xs ++ zs)))
theorem mt_extend : MtM X "list.extend" rExtend := by
  intro pins s σ H x vs v us Q I rx rv h
  obtain ⟨l, b, xs, zs, rfl, rfl, hH, hB, hz, q⟩ := h
  cases rx
  obtain ⟨u, rfl, ru⟩ := rv.one
  cases ru
  obtain ⟨z, its, n, r, hl, e⟩ := I.lstM hH
  obtain ⟨z2, its2, n2, r2, hl2, e2⟩ := I.lstM hB
  have hsz : its.toArray.size + its2.toArray.size ≤ sizeLine := by rw [List.size_toArray, List.size_toArray]; omega
  have hlong : ¬ (!its.toArray.isEmpty && Builtin.List.listTooLong (its.toArray.size + its2.toArray.size)) = true := by
    rw [notLongL hsz, Bool.and_false]
    exact Bool.false_ne_true
  refine call_meets F.slot_list_extend ⟨_, e, rfl⟩ F.entry_list_extend (F.args_list_extend_2 _ _)
    (AutoSeq1.list_extend_list_list_0 l its.toArray n b its2.toArray n2 hlong (by rw [List.size_toArray]; omega) (by omega)) ⟨e, e2, ?_⟩
  refine ⟨.non, _, I.lset (its' := its ++ its2) hH e (by simp) (r.append r2) ?_, rfl, q⟩
  rw [List.length_append]
  omega

noncomputable def rPop : V → List V → Hp → VK → Prop := fun x vs H Q => ∃ l xs y, x = .ref l ∧ vs = [] ∧ H l = some (.lst xs) ∧ xs[xs.length - 1]? = some y ∧ Q y (upd H l (.lst xs.dropLast))
noncomputable def rPopAt : V → List V → Hp → VK → Prop := fun x vs H Q => ∃ l xs i k y, x = .ref l ∧ vs = [.int i] ∧ H l = some (.lst xs) ∧ -(2 ^ 63) ≤ i ∧ i < 2 ^ 63 ∧ seqIndex? i xs.length = some k ∧ xs[k]? = some y ∧ Q y (upd H l (.lst (xs.eraseIdx k)))
noncomputable def rReverse : V → List V → Hp → VK → Prop := fun x vs H Q => ∃ l xs, x = .ref l ∧ vs = [] ∧ H l = some (.lst xs) ∧ Q .non (upd H l (.lst xs.reverse))
noncomputable def rClear : V → List V → Hp → VK → Prop := fun x vs H Q => ∃ l xs, x = .ref l ∧ vs = [] ∧ H l = some (.lst xs) ∧ Q .non (upd H l (.lst []))
noncomputable def rCat : R2 := fun x y H Q => ∃ l b xs zs, x = .ref l ∧ y = .ref b ∧ H l = some (.lst xs) ∧ H b = some (.lst zs) ∧ xs.length + zs.length ≤ sizeLine ∧ ∀ p, H p = none → Q (.ref p) (upd H p (.lst (xs ++ zs)))
theorem op_cat : OpR X (binaryOp .Add) rCat := by
  intro pins s σ H x y v u Q I rx ry h
  obtain ⟨l, b, xs, zs, rfl, rfl, hH, hB, hz, q⟩ := h
  cases rx
  cases ry
  obtain ⟨z, its, n, r, hl, e⟩ := I.lstM hH
  obtain ⟨z2, its2, n2, r2, hl2, e2⟩ := I.lstM hB
  refine PySem.P.add_list e e2 ?_ (by rw [List.size_toArray, List.size_toArray]; omega)
  have ea : its.toArray ++ its2.toArray = (its ++ its2).toArray := by simp
  rw [ea]
  exact ⟨.ref _, _, I.lnew (t' := s.toks) (r.append r2) (by rw [List.length_append]; omega), rfl, q _ I.fresh⟩
noncomputable def rRep : R2 := fun x y H Q => ∃ l k xs, x = .ref l ∧ y = .int k ∧ H l = some (.lst xs) ∧ -(2 ^ 63) ≤ k ∧ k < 2 ^ 63 ∧ xs.length * k.toNat ≤ sizeLine ∧
  ∀ p, H p = none → Q (.ref p) (upd H p (.lst (List.replicate k.toNat xs).flatten))
end

section
variable {prog : Program} {w : World} {A : Around} {E : Value → Shared → Prop} {s : Shared}
end

section
variable {X : Cx}
end
end L2

namespace Att
open PySem PySem.W PySem.Calls PyProof.Rows

theorem ints_of_wellAll {P : Params} {h : Heap} : ∀ (ns : List Int) (vs : List Value), WellAll P h vs (ns.map WData.int) → IntsAre vs ns := by
  intro ns
  induction ns with
  | nil =>
    intro vs w
    rw [List.map_nil] at w
    cases w
    exact .nil
  | cons n ns ih =>
    intro vs w
    rw [List.map_cons] at w
    cases w with
    | cons a b =>
      cases a
      exact .cons _ _ (ih _ b)

theorem script_of {l : OpenLaw} {n : Nat} (hn : l.most = some n) {P : Params} {h : Heap} {args : List WData} {vals : List Value}
    (hpre : l.row.toRowW.claim.pre args = true) (hwl : WellAll P h vals args) :
    ∃ a vs ns, vals = [Value.ref a] ∧ args = [WData.list (ns.map WData.int)] ∧ h.get? a = some { cls := .type "list", data := .seq vs.toArray } ∧ IntsAre vs ns ∧ ns.length ≤ n := by
  have hsh : WShape.hasAll [] args [.list .int] = true := (pre_splitW hpre).1
  have hc : l.pre.holds [] { args := args } = true := (pre_splitW hpre).2
  obtain ⟨d, r, rfl, h1, h2⟩ := hasAllW_cons hsh
  obtain rfl := hasAllW_nil h2
  obtain ⟨xs, rfl, h3⟩ := hasW_list h1
  obtain ⟨ns, rfl⟩ := items_int h3
  have hlen : ns.length ≤ n := by
    unfold OpenLaw.pre at hc
    have h4 : (WTm.not (.lt (.lit (.int (n : Int))) (.len (.arg 0)))).holds [] { args := [.list (ns.map .int)] } = true := by
      have h4 := (holds_andW hc).1
      rw [hn] at h4
      exact h4
    have h5 := condW_of h4 (w_not (w_lt w_lit (w_len_list (w_arg rfl))))
    rw [List.length_map] at h5
    refine Nat.le_of_not_lt fun q => ?_
    have q' : (n : Int) < ((ns.length : Nat) : Int) := by omega
    first
      | (rw [decide_eq_true q'] at h5; exact absurd h5 (by decide))
      | (simp at h5; omega)
  cases hwl with
  | cons w1 w2 =>
    cases w2
    cases w1 with
    | list ho hall => exact ⟨_, _, ns, rfl, rfl, ho, ints_of_wellAll ns _ hall, hlen⟩

theorem post_true (l : OpenLaw) (args : List WData) : l.row.toRowW.claim.post args (.bool true) args = true :=
  postW_of (r := l.row.toRowW) (X := (true == true))
    (show WShape.has [] (.bool true) .bool = true by first | rfl | decide | simp [WShape.has, WShape.arms, WShape.armsAll])
    (show (WTm.eq .res (.lit (.bool true))).value [] { args := args, res := some (.bool true), after := args } = some (.bool (true == true)) from w_eq_bool (w_res rfl) w_lit) rfl

theorem attach_call {l : OpenLaw} {n : Nat} {q : Program} {loose : List Str} {XP : (Str → Option Value) → Heap → Prop} {YP : World → Heap → Prop} {d : DefRec}
    (hn : l.most = some n) (hdf : d.params.defaults = [])
    (call : ∀ (w : World) (s₀ s₁ : Shared) (mg mb : Str → Option Value) (fa : Addr) (o : Obj) (pm cd doc : Value) (a : Addr) (vs : List Value) (ns : List Int),
      Ground q loose [] XP w s₀ mg mb s₁.heap → YP w s₁.heap →
      s₁.heap.get? fa = some o → o.data = .func (docDef d.name d.params d.body d.scope pm cd doc) → s₁.heap.CodeRec cd d.name → mg d.name = some (.ref fa) →
      s₁.heap.get? a = some { cls := .type "list", data := .seq vs.toArray } → IntsAre vs ns → ns.length ≤ n → s₁.gens = #[] →
      codeAny (model l.prog w) callerA (.call (.ref fa) ⟨[.ref a], []⟩) (fun r s' => r = .ok (.ret (.bool true)) ∧ OldK s₁.heap s'.heap ∧ s'.os = s₁.os ∧ AllBare s'.gens) s₁) :
    WalkO q loose XP YP l.row.toRowW d [] (fun f vs => PySem.call f vs) := by
  intro w s₀ s₁ mg mb G Y fa o pm cd doc dV kV ho hd hcd hD hmg hg args vals as hpre hlay hrd hwl hlo
  obtain rfl : dV = .none := Dflts.none hD hdf
  obtain rfl : kV = .none := Dflts.noKw hD
  obtain ⟨a, vs, ns, rfl, rfl, hobj, hints, hlen⟩ := script_of hn hpre hwl
  refine enter_call (codeAny_mono (call w s₀ s₁ mg mb fa o pm cd doc a vs ns G Y ho (fd_plain hd) hcd hmg hobj hints hlen hg) fun r s' hq => ?_)
  obtain ⟨rfl, h2, h3, h4⟩ := hq
  exact ⟨.inl ⟨.bool true, .bool true, [], rfl, fun _ => rfl, .bool true, post_true l _, fun _ => ⟨List.Pairwise.nil, fun _ hm => (nomatch hm)⟩⟩, h2, h3, h4⟩

section
variable {prog : Program} {w : World} {A : Around} {E : Value → Shared → Prop} {s : Shared} {K : Frag}

noncomputable def noObjs (h : Heap) : Heap := { h with objs := #[] }
noncomputable def ledger (h : Heap) (L d : Addr) : List (Addr × Obj) := (List.range h.objs.size).filterMap fun a => if a = L ∨ a = d then none else (h.get? a).map fun o => (a, o)
end
end Att

namespace L2
open PySem PySem.Spec PyProof.Rows

theorem vals_ints : ∀ {vs : List Value} {ns : List Int}, IntsAre vs ns → Vals (ns.map V.int) vs
  | _, _, .nil => .nil
  | _, _, .cons n t h => .cons ⟨t, rfl⟩ (vals_ints h)

noncomputable def Only (H : Hp) : Prop := ∀ b, H b = none ∨ ∃ o xs, H b = some (.frz o (.lst xs))

theorem law_call {P : Program} {w : World} {K : PySem.W.Frag} {mg mb : Str → Option Value} {CX : CXT} {k : Nat} {fa a : Addr} {fd : FuncData} {x : Str} {sp : Sp} {s₁ : Shared} {vs : List Value} {ns : List Int}
    (KX : K.In s₁.heap) (hns : s₁.heap.Ns mainGlobals mg) (hb : s₁.heap.Ns builtinsNs mb) (hbb : ∀ x : Str, x ≠ "__name__" → mb x = bootBuiltins x) (hlim : s₁.heap.NoLimit) (hg : s₁.gens = #[])
    (ha : s₁.heap.get? a = some { cls := .type "list", data := .seq vs.toArray }) (hi : IntsAre vs ns) (hl : ns.length ≤ sizeLine) (hr : Room k callerA)
    (F : ∀ base : Heap, K.In base → base.Ns mainGlobals mg → FnOk P w K mg base CX k fa fd [x] sp) (hbind : ∀ (s : Shared) (u : Value), BindsTo s fd ⟨[u], []⟩ [(x, u)])
    (hsp : ∀ H : Hp, Only H → SqL K H a (ns.map V.int) → sp [.ref a] H (fun v _ => v = .bl true) fun _ _ _ => False)
    (hCX : ∀ H e s', CX [] H s₁ (fun _ _ _ => False) e s' → False) :
    codeAny (model P w) callerA (.call (.ref fa) ⟨[.ref a], []⟩) (fun r s' => r = .ok (.ret (.bool true)) ∧ OldK s₁.heap s'.heap ∧ s'.os = s₁.os ∧ AllBare s'.gens) s₁ := by
  have rv := vals_ints hi
  have lenV := hi.length
  have core : ∀ H : Hp, Only H → SqL K H a (ns.map V.int) → HOk P w H s₁.heap → (∀ b, H b ≠ none → b = a) → (H a ≠ none → K.lookup a = none) →
      codeAny (model P w) callerA (.call (.ref fa) ⟨[.ref a], []⟩) (fun r s' => r = .ok (.ret (.bool true)) ∧ OldK s₁.heap s'.heap ∧ s'.os = s₁.os ∧ AllBare s'.gens) s₁ := by
    intro H hO hS hok hA hK
    have base_of : ∀ {b : Addr} {o : Obj}, s₁.heap.get? b = some o → H b = none → (hidT s₁.heap H).get? b = some o := fun e n => hidT_get e n
    have noA : ∀ {b : Addr} {o : Obj} {es : Array DictEntry} {ep : Nat}, s₁.heap.get? b = some o → o.data = .dict es ep → H b = none := fun {b o es ep} e d => by
      cases q : H b with
      | none => rfl
      | some u =>
        have e' : b = a := hA b (by rw [q]; simp)
        subst e'
        rw [ha] at e; cases e
        have d' : Data.seq vs.toArray _ = Data.dict es ep := d
        cases d'
    have nsK : ∀ {b : Addr} {m : Str → Option Value}, s₁.heap.Ns b m → (hidT s₁.heap H).Ns b m := fun {b m} ⟨o, es, ep, e, d, r⟩ => ⟨o, es, ep, base_of e (noA e d), d, r⟩
    have hKb : K.In (hidT s₁.heap H) := fun b o e => base_of (KX b o e) (by
      cases q : H b with
      | none => rfl
      | some u =>
        have e' : b = a := hA b (by rw [q]; simp)
        subst e'
        rw [hK (by rw [q]; simp)] at e; cases e)
    have hM : Mod K mg (hidT s₁.heap H) := ⟨hKb, nsK hns, ⟨mb, nsK hb, hbb⟩, let ⟨mc, h1, h2⟩ := hlim; ⟨mc, nsK h1, h2⟩⟩
    have e0 : Env0 P w K mg (hidT s₁.heap H) callerA [] s₁ H := ⟨rfl, hM, fun b o e => of_hidT e, Nat.le_of_eq (hidT_size _ _), trivial, fun b hb => absurd (show b ∈ ([] : List Addr) from hb) (by simp), hok, .of_eq hg⟩
    refine codeAny_mono ((F _ hKb (nsK hns)).run callerA [] s₁ H ⟨[.ref a], []⟩ [.ref a] [.ref a] _ _ hr e0 (hbind s₁ (.ref a)) (.cons rfl .nil) (hsp H hO hS)) fun r s' h => ?_
    cases r with
    | error e => exact (hCX H e s' h).elim
    | ok fl =>
      cases fl with
      | next => exact False.elim h
      | brk => exact False.elim h
      | cont => exact False.elim h
      | ret u =>
        obtain ⟨v, H', os, bare, un, hok', r', q⟩ := h
        have q' : v = .bl true := q
        subst q'
        obtain rfl : u = Value.bool true := r'
        refine ⟨rfl, OldK.of_keep fun b o e => ?_, os, bare⟩
        cases q : H b with
        | none => exact un.keep b o e q (by intro z; exact absurd (show b ∈ ([] : List Addr) from z) (by simp)) (by simp)
        | some u =>
          rcases hO b with z | ⟨ob, xs, z⟩
          · rw [q] at z; cases z
          · have z2 := un.frzs b ob _ z
            obtain ⟨e1, _⟩ := hok b _ z
            obtain ⟨e2, _⟩ := hok' b _ z2
            rw [e] at e1; cases e1
            exact e2
  cases hk : K.lookup a with
  | some o =>
    have e := KX a o hk
    rw [ha] at e
    cases e
    refine core (fun _ => none) (fun _ => .inl rfl) (.inr ⟨_, vs.toArray, _, hk, rfl, rfl, rfl, by rw [List.size_toArray, lenV]; exact hl, by simpa using rv⟩) (fun b u z => by have z' : (none : Option HO) = some u := z; cases z') (fun b z => absurd rfl z) fun z => absurd rfl z
  | none =>
    refine core (fun b => if b = a then some (.frz { cls := .type "list", data := .seq vs.toArray } (.lst (ns.map V.int))) else none) (fun b => ?_) (.inl (.inr ⟨{ cls := .type "list", data := .seq vs.toArray }, if_pos rfl⟩)) (fun b u z => ?_) (fun b z => ?_) fun _ => hk
    · by_cases hb : b = a
      · exact .inr ⟨_, _, if_pos hb⟩
      · exact .inl (if_neg hb)
    · by_cases hb : b = a
      · have z' := (if_pos hb).symm.trans z
        cases z'
        subst hb
        exact ⟨ha, by rw [List.length_map]; exact hl, vs, _, rv, ha⟩
      · have z' := (if_neg hb).symm.trans z
        cases z'
    · by_cases hb : b = a
      · exact hb
      · exact absurd (if_neg hb) z
end L2

namespace L2
open PySem PySem.Spec PyProof.Rows

noncomputable abbrev KOf {K : PySem.W.Frag} {h : Heap} (_ : K.In h) : PySem.W.Frag := K

theorem walk_of {l : PySem.W.OpenLaw} {n k : Nat} {q : Program} {loose : List Str} {XP : (Str → Option Value) → Heap → Prop} {YP : World → Heap → Prop} {d : DefRec} {K : Params → PySem.W.Frag} {CX : World → CXT} {sp : World → Sp} {x : Str}
    (hn : l.most = some n) (hn2 : n ≤ sizeLine) (hdf : d.params.defaults = []) (hr : Room k callerA)
    (hY : ∀ (w : World) (h : Heap), YP w h → (K w.params).In h)
    (F : ∀ (w : World) (mg : Str → Option Value) (fa : Addr) (h : Heap), (K w.params).In h → h.Ns mainGlobals mg → mg d.name = some (.ref fa) →
      ∃ fd : FuncData, (∀ (s : Shared) (u : Value), BindsTo s fd ⟨[u], []⟩ [(x, u)]) ∧
        ∀ base : Heap, (K w.params).In base → base.Ns mainGlobals mg → FnOk l.prog w (K w.params) mg base (CX w) k fa fd [x] (sp w))
    (hsp : ∀ (w : World) (H : Hp) (a : Addr) (ns : List Int), ns.length ≤ n → Only H → SqL (K w.params) H a (ns.map V.int) → sp w [.ref a] H (fun v _ => v = .bl true) fun _ _ _ => False)
    (hCX : ∀ (w : World) (H : Hp) (s : Shared) (e : Value) (s' : Shared), CX w [] H s (fun _ _ _ => False) e s' → False) :
    PySem.W.WalkO q loose XP YP l.row.toRowW d [] (fun f vs => PySem.call f vs) := by
  refine Att.attach_call hn hdf fun w s₀ s₁ mg mb fa o pm cd doc a vs ns G Y ho hd hcd hmg hobj hints hlen hg => ?_
  have KX := hY w _ Y
  obtain ⟨fd, hb, hF⟩ := F w mg fa _ KX G.T.g hmg
  exact law_call KX G.T.g G.T.b G.T.builtins G.T.nolimit hg hobj hints (Nat.le_trans hlen hn2) hr hF hb (fun H hO hS => hsp w H a ns hlen hO hS) fun H e s' => hCX w H s₁ e s'
theorem walk_ofK {l : PySem.W.OpenLaw} {n k : Nat} {q : Program} {loose : List Str} {XP : (Str → Option Value) → Heap → Prop} {YP : World → Heap → Prop} {d : DefRec} {K : Params → PySem.W.Frag} {CX : CXT} {sp : PySem.W.Frag → Sp} {x : Str}
    (hn : l.most = some n) (hn2 : n ≤ sizeLine) (hdf : d.params.defaults = []) (hr : Room k callerA)
    (hY : ∀ (w : World) (h : Heap), YP w h → (K w.params).In h)
    (F : ∀ (w : World) (mg : Str → Option Value) (fa : Addr) (h : Heap), (K w.params).In h → h.Ns mainGlobals mg → mg d.name = some (.ref fa) →
      ∃ fd : FuncData, (∀ (s : Shared) (u : Value), BindsTo s fd ⟨[u], []⟩ [(x, u)]) ∧
        ∀ base : Heap, (K w.params).In base → base.Ns mainGlobals mg → FnOk l.prog w (K w.params) mg base CX k fa fd [x] (sp (K w.params)))
    (hsp : ∀ (K : PySem.W.Frag) (H : Hp) (a : Addr) (ns : List Int), ns.length ≤ n → Only H → SqL K H a (ns.map V.int) → sp K [.ref a] H (fun v _ => v = .bl true) fun _ _ _ => False)
    (hCX : ∀ (H : Hp) (s : Shared) (e : Value) (s' : Shared), CX [] H s (fun _ _ _ => False) e s' → False) :
    PySem.W.WalkO q loose XP YP l.row.toRowW d [] (fun f vs => PySem.call f vs) :=
  walk_of (K := K) (CX := fun _ => CX) (sp := fun w => sp (K w.params)) hn hn2 hdf hr hY F (fun w H a ns h1 h2 h3 => hsp (K w.params) H a ns h1 h2 h3) fun _ H s e s' => hCX H s e s'
end L2

namespace L2
open PySem PySem.Spec PyProof.Rows

noncomputable def inClass (s : Stmt) (j : Nat) : Stmt := match s with
  | .ClassDef _ _ _ body _ _ _ _ _ _ _ => body.getD j (.Pass ⟨0, 0, 0, 0⟩)
  | _ => .Pass ⟨0, 0, 0, 0⟩
noncomputable def defArgs (s : Stmt) : Arguments := match s with
  | .FunctionDef _ a _ _ _ _ _ _ _ _ => a
  | _ => { posonlyargs := [], args := [], vararg := none, kwonlyargs := [], kw_defaults := [], kwarg := none, defaults := [] }
noncomputable def defBody (s : Stmt) : List Stmt := match s with
  | .FunctionDef _ _ b _ _ _ _ _ _ _ => b
  | _ => []
noncomputable def defScope (s : Stmt) : Scope := match s with
  | .FunctionDef _ _ _ _ _ _ sc _ _ _ => sc
  | _ => { kind := .function, names := [], isGenerator := false, isCoroutine := false }

noncomputable abbrev CX0 : CXT := fun _ _ _ _ _ _ => False
noncomputable abbrev E0 : XK := fun _ _ _ => False
theorem pass0 {X : Cx} : Passes CX0 X E0 := fun _ _ _ _ _ _ _ h => h.elim

structure Fun (K : PySem.W.Frag) (x qual : Str) (st : Stmt) (f : Addr) (fd : FuncData) : Prop where
  ex : ∃ (oc : Value) (od : Option Addr) (kV doc pm : Value) (an : Option Addr) (cdv ct : Value) (osl : Array (Option Value)),
    fd = PySem.W.fnOf x qual (defArgs st) (defBody st) (defScope st) .none kV doc pm an cdv ct ∧ K.lookup f = some ⟨oc, od, .func fd, osl⟩ ∧ PySem.W.codeIn K cdv qual = true
  kp : PySem.W.keepIn K (.ref f) = true
section
variable {P : Program} {w : World} {K : PySem.W.Frag} {mg : Str → Option Value} {base : Heap}
theorem Fun.ok {x qual : Str} {st : Stmt} {f : Addr} {fd : FuncData} {N ps : List Str} {k : Nat} {sp : Sp} (F : Fun K x qual st f fd) (S : FnScope N ps (defScope st)) (len : ∀ vs H Q E, sp vs H Q E → vs.length = ps.length)
    (hbody : ∀ (cdv : Value) (A : Around) (outer : List Env) (s : Shared) (H : Hp) (vs : List V) (Q : VK) (E : XK), Room k (A.deeper (envOfC qual (defScope st) s.heap.objs.size f cdv)) → sp vs H Q E →
      ∃ t, PSs (cxOf CX0 P w K mg base N qual (defScope st) f cdv A outer s H E).nox (defBody st) t ∧ t { nx := fun _ H' => Q .non H', rt := Q } (start N vs) H) : FnOk P w K mg base CX0 (k + 1) f fd ps sp := by
  obtain ⟨oc, od, kV, doc, pm, an, cdv, ct, osl, rfl, lk, hcd⟩ := F.ex
  refine fn_of lk hcd S len fun A outer s H vs Q E hr hsp => ?_
  obtain ⟨t, h, q⟩ := hbody cdv A outer s H vs Q E hr hsp
  exact ⟨t, h.nox, q⟩
theorem Fun.binds {x qual : Str} {st : Stmt} {f : Addr} {fd : FuncData} {ps : List Str} (F : Fun K x qual st f fd)
    (h : ∀ (kV doc pm : Value) (an : Option Addr) (cdv ct : Value) (us : List Value), us.length = ps.length → bindArgs (PySem.W.fnOf x qual (defArgs st) (defBody st) (defScope st) .none kV doc pm an cdv ct) ⟨us, []⟩ = pure (ps.zip us)) : Binds K fd ps [] := by
  obtain ⟨oc, od, kV, doc, pm, an, cdv, ct, osl, rfl, lk, hcd⟩ := F.ex
  exact .all (h kV doc pm an cdv ct)
theorem fun_mk {x qual : Str} {st : Stmt} {f : Addr} {oc : Value} {od an : Option Addr} {osl : Array (Option Value)} {kV doc pm cdv ct : Value} (l : K.lookup f = some ⟨oc, od, .func (PySem.W.fnOf x qual (defArgs st) (defBody st) (defScope st) .none kV doc pm an cdv ct), osl⟩)
    (c : PySem.W.codeIn K cdv qual = true) (k : PySem.W.keepIn K (.ref f) = true) : Fun K x qual st f (PySem.W.fnOf x qual (defArgs st) (defBody st) (defScope st) .none kV doc pm an cdv ct) := ⟨⟨oc, od, kV, doc, pm, an, cdv, ct, osl, rfl, l, c⟩, k⟩
end
theorem hu_of {A : Around} {k : Nat} (hr : Room k A) : A.units + 1 < cLine := Nat.lt_of_le_of_lt (Nat.add_le_add_left (by decide : 1 ≤ 64) _) hr.units
section
variable {X : Cx}
theorem pv (i : Nat) {x : Str} {pos : Pos} (hN : X.N[i]? = some x := by rfl) (hv : Vis X.env.scope x := by first | exact Or.inl rfl | exact Or.inr (Or.inl rfl) | exact Or.inr (Or.inr rfl)) (hd : (x == ("__debug__" : Str)) = false := by decide)
    (hcd : (x == ("__classdict__" : Str)) = false := by decide) : PE X (.Name x pos) (tVar i) := pe_var hN hv hd hcd
end

theorem iteF {A B : Prop} (h : B) : if false = true then A else B := by
  rw [if_neg Bool.false_ne_true]
  exact h
theorem iteT {A B : Prop} (h : A) : if true = true then A else B := by
  rw [if_pos rfl]
  exact h
theorem ite2 {c A B : Prop} [Decidable c] (h1 : c → A) (h2 : ¬ c → B) : if c then A else B := by
  by_cases h : c
  · rw [if_pos h]
    exact h1 h
  · rw [if_neg h]
    exact h2 h
noncomputable def Same (H H' : Hp) : Prop := ∀ b o, H b = some o → H' b = some o
theorem Same.refl (H : Hp) : Same H H := fun _ _ h => h
theorem Same.trans {H H1 H2 : Hp} (a : Same H H1) (b : Same H1 H2) : Same H H2 := fun c o h => b c o (a c o h)
theorem Same.free {H H' : Hp} (e : Same H H') {l : Addr} (h : H' l = Option.none) : H l = Option.none := by
  cases q : H l with
  | none => rfl
  | some o =>
    rw [e l o q] at h
    cases h
theorem Same.seq {K : PySem.W.Frag} {H H' : Hp} {a : Addr} {xs : List V} (e : Same H H') (h : SqL K H a xs) : SqL K H' a xs := by
  rcases h with (h | ⟨o, h⟩) | h
  · exact .inl (.inl (e _ _ h))
  · exact .inl (.inr ⟨o, e _ _ h⟩)
  · exact .inr h

end L2

namespace L2
open PySem PySem.Spec PyProof.Rows

section
variable {κ : Type} [DecidableEq κ]
noncomputable def valV (kvs : List (κ × V)) (k : κ) : Option V := (kvs.find? fun kv => decide (kv.1 = k)).map (·.2)
noncomputable def putK (kvs : List (κ × V)) (k : κ) (v : V) : List (κ × V) :=
  if (kvs.any fun kv => decide (kv.1 = k)) = true then kvs.map (fun kv => if kv.1 = k then (kv.1, v) else kv) else kvs ++ [(k, v)]
noncomputable def dropK (kvs : List (κ × V)) (k : κ) : List (κ × V) := kvs.filter fun kv => decide (kv.1 ≠ k)

theorem valV_nil {k : κ} : valV ([] : List (κ × V)) k = none := rfl
theorem valV_pos {p : κ × V} {r : List (κ × V)} {k : κ} (e : p.1 = k) : valV (p :: r) k = some p.2 := by simp [valV, List.find?_cons, e]
theorem valV_neg {p : κ × V} {r : List (κ × V)} {k : κ} (e : ¬ p.1 = k) : valV (p :: r) k = valV r k := by simp [valV, List.find?_cons, e]
theorem valV_any (k : κ) : ∀ kvs : List (κ × V), (kvs.any fun kv => decide (kv.1 = k)) = (valV kvs k).isSome
  | [] => rfl
  | p :: r => by
    rw [List.any_cons]
    by_cases e : p.1 = k
    · simp only [valV_pos e, decide_eq_true e, Bool.true_or, Option.isSome_some]
    · rw [valV_neg e, decide_eq_false e, Bool.false_or]; exact valV_any k r
theorem length_putK (kvs : List (κ × V)) (k : κ) (v : V) : (putK kvs k v).length ≤ kvs.length + 1 := by
  unfold putK
  split
  · rw [List.length_map]; omega
  · rw [List.length_append, List.length_cons, List.length_nil]; omega
theorem putK_new {kvs : List (κ × V)} {k : κ} (v : V) (h : valV kvs k = none) : putK kvs k v = kvs ++ [(k, v)] := by
  unfold putK
  rw [valV_any, h]
  exact if_neg (by decide)

theorem RelO.isSome_eq {o : Option V} {u : Option Value} (r : RelO o u) : o.isSome = u.isSome := by
  cases o with
  | none => cases u with
    | none => rfl
    | some _ => exact (show False from r).elim
  | some _ => cases u with
    | none => exact (show False from r).elim
    | some _ => rfl
theorem KV.val {kvs : List (κ × V)} {vs : List (κ × Value)} (r : KV kvs vs) (k : κ) : RelO (valV kvs k) (valueAt vs k) := by
  unfold KV at r
  induction r with
  | nil => exact True.intro
  | @cons p q ps qs h t ih =>
    obtain ⟨h1, h2⟩ := h
    by_cases e : p.1 = k
    · have e' : q.1 = k := h1.symm.trans e
      have b : valueAt (q :: qs) k = some q.2 := by simp [valueAt, List.find?_cons, e']
      rw [valV_pos e, b]; exact h2
    · have e' : ¬ q.1 = k := fun z => e (h1.trans z)
      have b : valueAt (q :: qs) k = valueAt qs k := by simp [valueAt, List.find?_cons, e']
      rw [valV_neg e, b]; exact ih
theorem KV.any {kvs : List (κ × V)} {vs : List (κ × Value)} (r : KV kvs vs) (k : κ) : (kvs.any fun kv => decide (kv.1 = k)) = vs.any fun kv => decide (kv.1 = k) := by
  unfold KV at r
  induction r with
  | nil => rfl
  | cons h t ih => rw [List.any_cons, List.any_cons, ih, h.1]
theorem KV.repl {kvs : List (κ × V)} {vs : List (κ × Value)} (r : KV kvs vs) (k : κ) {y : V} {u : Value} (ry : RelV y u) :
    KV (kvs.map fun kv => if kv.1 = k then (kv.1, y) else kv) (vs.map fun kv => if kv.1 = k then (kv.1, u) else kv) := by
  unfold KV at r ⊢
  induction r with
  | nil => exact .nil
  | @cons p q ps qs h t ih =>
    rw [List.map_cons, List.map_cons]
    refine .cons ?_ ih
    obtain ⟨h1, h2⟩ := h
    by_cases e : p.1 = k
    · rw [if_pos e, if_pos (h1.symm.trans e)]; exact ⟨h1, ry⟩
    · rw [if_neg e, if_neg (fun z => e (h1.trans z))]; exact ⟨h1, h2⟩
theorem KV.put {kvs : List (κ × V)} {vs : List (κ × Value)} (r : KV kvs vs) (k : κ) {y : V} {u : Value} (ry : RelV y u) : KV (putK kvs k y) (stored vs k u) := by
  unfold putK stored
  rw [r.any k]
  by_cases e : (vs.any fun kv => decide (kv.1 = k)) = true
  · rw [if_pos e, if_pos e]; exact r.repl k ry
  · rw [if_neg e, if_neg e]; exact Paired.snoc r ⟨rfl, ry⟩
theorem KV.length {kvs : List (κ × V)} {vs : List (κ × Value)} (r : KV kvs vs) : kvs.length = vs.length := Paired.length r
end

theorem kV_is {P : Program} {w : World} {k : Key} {u : Value} (r : RelV (kV k) u) : (mixKind P w).is k u = true := by
  cases k with
  | inl i => obtain ⟨t, e⟩ := (show ∃ t, u = Value.int i t from r); subst e; exact mixKind_int P w i t
  | inr x => obtain ⟨t, e⟩ := (show ∃ t, u = Value.str x t from r); subst e; exact mixKind_str P w x t
theorem items_are {P : Program} {w : World} : ∀ {ks : List Key} {us : List Value}, Vals (ks.map kV) us → ItemsAre (mixKind P w) ks us
  | [], _, r => by rw [List.map_nil] at r; cases r; exact .nil
  | k :: ks, _, r => by
    rw [List.map_cons] at r
    cases r with
    | cons h t => exact .cons (kV_is h) (items_are t)

noncomputable abbrev KT (H : Hp) : List (List Key × V) → List (List Key × Addr × Value) → Prop := Paired fun p q => p.1 = q.1 ∧ H q.2.1 = some (.tup (p.1.map kV)) ∧ RelV p.2 q.2.2
theorem KT.val {H : Hp} {kvs : List (List Key × V)} {xs : List (List Key × Addr × Value)} (r : KT H kvs xs) (k : List Key) : RelO (valV kvs k) ((atKey xs k).map (·.2)) := by
  induction r with
  | nil => exact True.intro
  | @cons p q ps qs h t ih =>
    obtain ⟨h1, _, h2⟩ := h
    by_cases e : p.1 = k
    · have e' : q.1 = k := h1.symm.trans e
      have b : atKey (q :: qs) k = some q.2 := by simp [atKey, List.find?_cons, e']
      rw [valV_pos e, b]; exact h2
    · have e' : ¬ q.1 = k := fun z => e (h1.trans z)
      have b : atKey (q :: qs) k = atKey qs k := by simp [atKey, List.find?_cons, e']
      rw [valV_neg e, b]; exact ih
theorem KT.repl {H : Hp} {kvs : List (List Key × V)} {xs : List (List Key × Addr × Value)} (r : KT H kvs xs) (k : List Key) {y : V} {u : Value} (ry : RelV y u) :
    KT H (kvs.map fun kv => if kv.1 = k then (kv.1, y) else kv) (xs.map (putAt k u)) := by
  induction r with
  | nil => exact .nil
  | @cons p q ps qs h t ih =>
    rw [List.map_cons, List.map_cons]
    refine .cons ?_ ih
    obtain ⟨h1, h2, h3⟩ := h
    unfold putAt
    by_cases e : p.1 = k
    · rw [if_pos e, if_pos (h1.symm.trans e)]; exact ⟨h1, h2, ry⟩
    · rw [if_neg e, if_neg (fun z => e (h1.trans z))]; exact ⟨h1, h2, h3⟩
theorem KT.put {H : Hp} {kvs : List (List Key × V)} {xs : List (List Key × Addr × Value)} (r : KT H kvs xs) (k : List Key) {b : Addr} {y : V} {u : Value} (hb : H b = some (.tup (k.map kV))) (ry : RelV y u) :
    KT H (putK kvs k y) (storedH xs k b u) := by
  have e : (kvs.any fun kv => decide (kv.1 = k)) = (atKey xs k).isSome := by
    rw [valV_any, (r.val k).isSome_eq, Option.isSome_map]
  unfold putK storedH
  rw [e]
  by_cases q : (atKey xs k).isSome = true
  · rw [if_pos q, if_pos q]; exact r.repl k ry
  · rw [if_neg q, if_neg q]; exact Paired.snoc r ⟨rfl, hb, ry⟩
theorem KT.keeps {H H' : Hp} {kvs : List (List Key × V)} {xs : List (List Key × Addr × Value)} (r : KT H kvs xs) (ht : ∀ b ys, H b = some (.tup ys) → H' b = some (.tup ys)) : KT H' kvs xs :=
  Paired.mapP r fun _ _ z => ⟨z.1, ht _ _ z.2.1, z.2.2⟩

section
variable {P : Program} {w : World} {H : Hp} {h : Heap} {a : Addr}
theorem rd_of {u : HO} (ok : HOk P w H h) (e : Rd H a u) : ObjOk P w H h a u := e.ok ok
theorem dk_rd {kvs : List (Key × V)} (ok : HOk P w H h) (e : Rd H a (.dK kvs)) : kvs.length ≤ sizeLine ∧ (a == sysModules) = false ∧ ∃ vs, KV kvs vs ∧ h.DictOf (mixKind P w) a vs :=
  show ObjOk P w H h a (.dK kvs) from rd_of ok e
theorem dk_of {kvs : List (Key × V)} (ok : HOk P w H h) (e : H a = some (.dK kvs)) : kvs.length ≤ sizeLine ∧ (a == sysModules) = false ∧ ∃ vs, KV kvs vs ∧ h.DictOf (mixKind P w) a vs := dk_rd ok (.inl e)
theorem key_of {ks : List Key} (ok : HOk P w H h) (e : H a = some (.tup (ks.map kV))) : (tupleKind (mixKind P w)).is h ks a := by
  obtain ⟨_, its, r, o, h1, h2, n, h3⟩ := (show ObjOk P w H h a (.tup (ks.map kV)) from ok a _ e)
  exact ⟨o, its.toArray, n, h1, h2, h3, by simpa using items_are r⟩
theorem dt_rd {kvs : List (List Key × V)} (ok : HOk P w H h) (e : Rd H a (.dT kvs)) : kvs.length ≤ sizeLine ∧ (a == sysModules) = false ∧
    ∃ xs, KT H kvs xs ∧ h.DictOfH (tupleKind (mixKind P w)) a xs := by
  obtain ⟨z, y, xs, r, o, es, ep, h1, h2, h3, h4, h5⟩ := (show ObjOk P w H h a (.dT kvs) from rd_of ok e)
  refine ⟨z, y, xs, r, o, es, ep, h1, h2, h3, h4, fun x hx => ?_, h5⟩
  have all : ∀ {l : List (List Key × V)} {m : List (List Key × Addr × Value)}, KT H l m → ∀ x ∈ m, (tupleKind (mixKind P w)).is h x.1 x.2.1 := by
    intro l m q
    induction q with
    | nil => intro x hx; exact nomatch hx
    | @cons p q ps qs hq t ih =>
      intro x hx
      rcases List.mem_cons.mp hx with e | hx
      · subst e
        exact key_of ok (by rw [← hq.1]; exact hq.2.1)
      · exact ih x hx
  exact all r x hx
theorem dt_of {kvs : List (List Key × V)} (ok : HOk P w H h) (e : H a = some (.dT kvs)) : kvs.length ≤ sizeLine ∧ (a == sysModules) = false ∧
    ∃ xs, KT H kvs xs ∧ h.DictOfH (tupleKind (mixKind P w)) a xs := dt_rd ok (.inl e)
end

noncomputable def DGet (H : Hp) (a : Addr) (y : V) (r : Option V) : Prop :=
  (∃ kvs k, Rd H a (.dK kvs) ∧ y = kV k ∧ r = valV kvs k) ∨ ∃ kvs k b, Rd H a (.dT kvs) ∧ y = .ref b ∧ H b = some (.tup (k.map kV)) ∧ r = valV kvs k
noncomputable def DPut (H : Hp) (a : Addr) (y v : V) (H' : Hp) : Prop :=
  (∃ kvs k, H a = some (.dK kvs) ∧ y = kV k ∧ kvs.length < sizeLine ∧ H' = upd H a (.dK (putK kvs k v))) ∨
  ∃ kvs k b, H a = some (.dT kvs) ∧ y = .ref b ∧ H b = some (.tup (k.map kV)) ∧ kvs.length < sizeLine ∧ H' = upd H a (.dT (putK kvs k v))
theorem DPut.t {H : Hp} {a b : Addr} {kvs : List (List Key × V)} {k : List Key} {v : V} (e : H a = some (.dT kvs)) (eb : H b = some (.tup (k.map kV))) (hl : kvs.length < sizeLine) :
    DPut H a (.ref b) v (upd H a (.dT (putK kvs k v))) := .inr ⟨kvs, k, b, e, rfl, eb, hl, rfl⟩

section
variable {X : Cx} {pins : List (Addr × Obj)} {σ : St} {H : Hp} {s : Shared} {a : Addr} {y v : V} {u r : Value} {o : Option V} {A : Around} {E : Value → Shared → Prop}

theorem Inv.big (I : Inv X pins σ H s) : sysModules < s.heap.objs.size := by
  have h : mainGlobals < s.heap.objs.size := (I.mod.glob.keeps I.bk).lt
  exact Nat.lt_trans (by decide) h

theorem d_getItem {Q : Value → Shared → Prop} (hu : A.units + 1 < cLine) (I : Inv X pins σ H s) (g : DGet H a y (some v)) (ry : RelV y u) (h : ∀ w' s', Inv X pins σ H s' → RelV v w' → Q w' s') :
    wpAny (model X.prog X.w) A (getItem (.ref a) u) Q E s := by
  rcases g with ⟨kvs, k, e, ey, l⟩ | ⟨kvs, k, b, e, ey, eb, l⟩
  · subst ey
    obtain ⟨z, hd, vs, rel, dd⟩ := dk_rd I.hok e
    obtain ⟨w', hw, rw'⟩ := RelO.some_of (v := v) (o := valueAt vs k) (by rw [l]; exact rel.val k)
    exact wpAny_getItem_of (kV_is ry) dd.mapOf hw (h w' _ (I.tok _) rw')
  · subst ey
    cases (show u = Value.ref b from ry)
    obtain ⟨z, hd, xs, rel, dd⟩ := dt_rd I.hok e
    obtain ⟨w', hw, rw'⟩ := RelO.some_of (v := v) (o := (atKey xs k).map (·.2)) (by rw [l]; exact rel.val k)
    obtain ⟨p, hp, hp2⟩ := Option.map_eq_some_iff.mp hw
    refine wpAny_getItem_heap (tupleKind_room_in1 hu) (key_of I.hok eb) dd hp ?_
    rw [hp2]
    exact h w' _ (I.tok _) rw'
theorem d_write {h' : Heap} {t' : Nat} {ob : HO} (I : Inv X pins σ H s) (mu : Mut (H a)) (hs : Heap.SameBut a s.heap h') (he : ∃ q, h'.get? a = some q) (new : ObjOk X.prog X.w (upd H a ob) h' a ob) :
    Inv X pins σ (upd H a ob) { s with heap := h', toks := t' } :=
  I.write (x := a) (e := a) mu (.inl rfl) (fun b q hb z => (hs.2 b hb).trans z) he new
theorem dk_new {P : Program} {w : World} {H' : Hp} {h' : Heap} {kvs : List (Key × V)} {vs : List (Key × Value)} (z : kvs.length ≤ sizeLine) (hd : (a == sysModules) = false) (rel : KV kvs vs) (dd : h'.DictOf (mixKind P w) a vs) :
    ObjOk P w H' h' a (.dK kvs) := ⟨z, hd, vs, rel, dd⟩
theorem d_setItem {H' : Hp} {Q : Unit → Shared → Prop} (hu : A.units + 1 < cLine) (I : Inv X pins σ H s) (g : DPut H a y v H') (ry : RelV y u) (rv : RelV v r) (h : ∀ s', Inv X pins σ H' s' → Q () s') :
    wpAny (model X.prog X.w) A (setItem (.ref a) u r) Q E s := by
  rcases g with ⟨kvs, k, e, ey, l, eH⟩ | ⟨kvs, k, b, e, ey, eb, l, eH⟩
  · subst ey eH
    obtain ⟨z, hd, vs, rel, dd⟩ := dk_of I.hok e
    have hz : vs.length ≤ sizeLine := by rw [← rel.length]; exact z
    have hl : (putK kvs k v).length ≤ sizeLine := by have := length_putK kvs k v; omega
    refine wpAny_setItem_pairs (hsz := hz) (kV_is ry) dd fun h' dd' hs => h _ ?_
    have he : ∃ q, h'.get? a = some q := let ⟨q, _, _, hq, _⟩ := dd'; ⟨q, hq⟩
    exact d_write I (by rw [e]; exact True.intro) hs he (dk_new hl hd (rel.put k rv) dd')
  · subst ey eH
    cases (show u = Value.ref b from ry)
    obtain ⟨z, hd, xs, rel, dd⟩ := dt_of I.hok e
    have hz : xs.length ≤ sizeLine := by rw [← Paired.length rel]; exact z
    have hl : (putK kvs k v).length ≤ sizeLine := by have := length_putK kvs k v; omega
    refine wpAny_setItem_heap (hsz := hz) (tupleKind_room_in1 hu) (key_of I.hok eb) dd fun h' dd' hs => h _ ?_
    obtain ⟨q, es, ep, hq, h2, h3, h4, _, h5⟩ := dd'
    refine d_write I (by rw [e]; exact True.intro) hs ⟨q, hq⟩ ⟨hl, hd, _, (rel.put k eb rv).keeps fun c ys ec => ?_, q, es, ep, hq, h2, h3, h4, h5⟩
    rw [upd_ne (ne_of ec e (fun z => nomatch z))]
    exact ec
end

section
variable {X : Cx} {pins : List (Addr × Obj)} {σ : St} {H : Hp} {s : Shared} {a : Addr} {kvs : List (Key × V)} {k : Key} {u : Value} {A : Around} {E : Value → Shared → Prop}
end

noncomputable def NoSl (i : Expr) : Prop := ∀ ov iv, subscripted i false ov iv = operate [ov, iv] (getItem ov iv)
theorem subD_of {prog : Program} {w : World} {A : Around} {E : Value → Shared → Prop} {s : Shared} {env : Env} {value slice : Expr} {pos : Pos} {T id : String} {Q : Value → Shared → Prop}
    (hl : typeLookup (.type T) "__getitem__" = pure (some (.builtin id))) (hs : NoSl slice)
    (h : wpAny (model prog w) A (eval value env) (fun o s₁ => wpAny (model prog w) A (eval slice env) (fun i s₂ => s₂.TypeIs o T ∧ wpAny (model prog w) A (getItem o i) Q E s₂) E s₁) E s) :
    wpAny (model prog w) A (eval (.Subscript value slice pos) env) Q E s := by
  refine Subscript_ (wpAny_mono h (fun o s₁ h₁ => wpAny_mono h₁ (fun i s₂ h₂ => ?_) fun _ _ x => x) fun _ _ x => x)
  obtain ⟨hT, h₂⟩ := h₂
  unfold subscriptTail
  refine wpAny_bind ?_
  rw [getitemInPython_of_ne hT.not_modules]
  refine wpAny_bind (wpAny_specialOf hT hl ?_)
  have fin : wpAny (model prog w) A (subscripted slice false o i) (fun r s₃ => wpAny (model prog w) A (letTemporaryGo value o r >>= fun _ => pure r) Q E s₃) E s₂ := by
    rw [hs o i]
    exact wpAny_operating (wpAny_mono h₂ (fun r s₃ h₃ => wpAny_bind (wpAny_letTemporaryGo (wpAny_pure h₃))) fun _ _ x => x)
  first
    | exact wpAny_pure (wpAny_bind fin)
    | exact wpAny_bind (wpAny_pure (wpAny_bind fin))
    | exact wpAny_bind fin

theorem dict_typeIs {X : Cx} {pins : List (Addr × Obj)} {σ : St} {H : Hp} {s : Shared} {a : Addr} {y : V} {o : Option V} (I : Inv X pins σ H s) (g : DGet H a y o) : s.TypeIs (.ref a) "dict" := by
  rcases g with ⟨kvs, k, e, _, _⟩ | ⟨kvs, k, b, e, _, _, _⟩
  · obtain ⟨_, _, vs, _, dd⟩ := dk_rd I.hok e
    exact dd.typeIs
  · obtain ⟨_, _, xs, _, dd⟩ := dt_rd I.hok e
    exact dd.typeIs
noncomputable def tDGet (td ty : TE) : TE := fun σ H Q => td σ H fun x H1 => ty σ H1 fun y H2 => ∃ a v, x = .ref a ∧ DGet H2 a y (some v) ∧ Q v H2
noncomputable def tDIn (ty td : TE) : TE := fun σ H Q => ty σ H fun y H1 => td σ H1 fun x H2 => ∃ a o, x = .ref a ∧ DGet H2 a y o ∧ Q (.bl o.isSome) H2
noncomputable def tDNotIn (ty td : TE) : TE := fun σ H Q => ty σ H fun y H1 => td σ H1 fun x H2 => ∃ a o, x = .ref a ∧ DGet H2 a y o ∧ Q (.bl (!o.isSome)) H2
noncomputable def sDPut (td ty tv : TE) : TS := fun D σ H => tv σ H fun v H1 => td σ H1 fun x H2 => ty σ H2 fun y H3 => ∃ a H4, x = .ref a ∧ DPut H3 a y v H4 ∧ D.nx σ H4
noncomputable def sDAug (td ty tv : TE) (rd : V → V → Hp → VK → Prop) : TS := fun D σ H => td σ H fun x H1 => ty σ H1 fun y H2 => ∃ a v, x = .ref a ∧ DGet H2 a y (some v) ∧
  tv σ H2 fun y2 H3 => rd v y2 H3 fun z H4 => ∃ H5, DPut H4 a y z H5 ∧ D.nx σ H5
noncomputable def sDDel (td ty : TE) : TS := fun D σ H => td σ H fun x H1 => ty σ H1 fun y H2 => ∃ a kvs k, x = .ref a ∧ H2 a = some (.dK kvs) ∧ y = kV k ∧ (valV kvs k).isSome = true ∧ D.nx σ (upd H2 a (.dK (dropK kvs k)))

section
variable {X : Cx} {o i e value : Expr} {pos pos' tpos : Pos} {td ty tv : TE}
theorem pe_dget (hu : X.A.units + 1 < cLine) (ho : PE X o td) (hi : PE X i ty) (hs : NoSl i) : PE X (.Subscript o i pos) (tDGet td ty) := by
  intro pins s σ H Q I h
  refine subD_of PySem.F.slot_dict_getitem.lookup hs (thn (ho pins s σ H _ I h) fun u s1 ⟨x, H1, I1, rx, q1⟩ => thn (hi pins s1 σ H1 _ I1 q1) fun iv s2 hq_ => ?_)
  obtain ⟨y, H2, I2, ry, a, v, ex, g, q2⟩ := hq_
  subst ex
  obtain rfl : u = Value.ref a := rx
  exact ⟨dict_typeIs I2 g, d_getItem hu I2 g ry fun w' s3 I3 rw' => ⟨v, H2, I3, rw', q2⟩⟩
theorem ps_dput (hu : X.A.units + 1 < cLine) (ho : PE X o td) (hi : PE X i ty) (hv : PE X value tv) (hs : swapsWith value (some (.Subscript o i pos')) pos.line X.env = pure false) :
    PS X (.Assign [.Subscript o i pos'] value pos) (sDPut td ty tv) := by
  intro pins s σ H D I h
  refine wpAny_Assign_Subscript (thn (hv pins s σ H _ I h) fun r s1 ⟨v, H1, I1, rv, q1⟩ => thn (ho pins s1 σ H1 _ I1 q1) fun u s2 ⟨x, H2, I2, rx, q2⟩ => thn (hi pins s2 σ H2 _ I2 q2) fun iv s3 hq_ => ?_) hs
  obtain ⟨y, H3, I3, ry, a, H4, ex, g, q3⟩ := hq_
  subst ex
  obtain rfl : u = Value.ref a := rx
  exact d_setItem hu I3 g ry rv fun s4 I4 => ⟨σ, H4, I4, q3⟩
end

theorem dt_empty {P : Program} {w : World} {H : Hp} (h : Heap) (hb : sysModules < h.objs.size) : ObjOk P w H (h.push { cls := .type "dict", data := .dict #[] }) h.objs.size (.dT []) :=
  ⟨Nat.zero_le _, beq_eq_false_iff_ne.mpr (Ne.symm (Nat.ne_of_lt hb)), [], .nil, _, #[], 0, Heap.get?_push_size _ rfl, ⟨rfl, rfl, rfl⟩, rfl, rfl, List.nodup_nil⟩
noncomputable def tDNewK : TE := fun _ H Q => ∀ p, H p = none → Q (.ref p) (upd H p (.dK []))
noncomputable def tDNewT : TE := fun _ H Q => ∀ p, H p = none → Q (.ref p) (upd H p (.dT []))
section
variable {X : Cx} {pos : Pos}
theorem pe_dnewT : PE X (.Dict [] [] pos) tDNewT := fun pins s σ H Q I h =>
  wpAny_Dict_empty ⟨.ref s.heap.objs.size, _, I.laid (a := s.heap.objs.size) (o := .dT []) (t' := s.toks) (fun _ _ q => Heap.get?_push_of_some _ q) (Nat.le_refl _) (dt_empty s.heap I.big), rfl, h _ (I.hok.fresh (Nat.le_refl _))⟩
end

noncomputable def tPairs : List (TE × TE) → St → Hp → (List (V × V) → Hp → Prop) → Prop
  | [], _, H, Q => Q [] H
  | (tk, tv) :: r, σ, H, Q => tk σ H fun x H1 => tv σ H1 fun y H2 => tPairs r σ H2 fun ps H3 => Q ((x, y) :: ps) H3
noncomputable abbrev VV : List (V × V) → List (Value × Value) → Prop := Paired fun p q => RelV p.1 q.1 ∧ RelV p.2 q.2
noncomputable def PPs (X : Cx) (pos : Pos) (keys : List (Option Expr)) (values : List Expr) (trs : List (TE × TE)) : Prop :=
  ∀ (pins : List (Addr × Obj)) (s : Shared) (σ : St) (H : Hp) (Q : List (V × V) → Hp → Prop), Inv X pins σ H s → tPairs trs σ H Q →
    wpAny (model X.prog X.w) X.A (evalPairs (pairTrees keys values X.env pos)) (fun vs s' => ∃ ps H', Inv X pins σ H' s' ∧ VV ps vs ∧ Q ps H') X.xe s
noncomputable def mergeK (kvs more : List (Key × V)) : List (Key × V) := more.foldl (fun acc kv => putK acc kv.1 kv.2) kvs
noncomputable def tDisp (trs : List (TE × TE)) : TE := fun σ H Q => ∀ p, H p = none → tPairs trs σ (upd H p (.dK [])) fun ps H2 => H2 p = some (.dK []) ∧ ∃ kvs : List (Key × V), ps = kvs.map (fun kv => (kV kv.1, kv.2)) ∧ kvs.length ≤ 15 ∧ Q (.ref p) (upd H2 p (.dK (mergeK [] kvs)))
structure M1 (X : Cx) (o : Expr) (m : Str) (apos : Pos) (e : Expr) (cpos : Pos) : Prop where
  base : attributeBase o m X.env (eval o X.env) = eval o X.env
  few : ((backTo cpos (starEach [e] X.env)).all (fun x => !x.1) && (backToKw cpos (keywordEach [] X.env)).all (fun x => x.1.isSome)
    && decide (([e] : List Expr).length + ([] : List Keyword).length + (if ([] : List Keyword).isEmpty then 0 else 1) < 30)) = true
  line : (apos.endLine == cpos.line) = true
  trees : backTo cpos (starEach [e] X.env) = [(false, eval e X.env)]
structure M2 (X : Cx) (o : Expr) (m : Str) (apos : Pos) (e f : Expr) (cpos : Pos) : Prop where
  base : attributeBase o m X.env (eval o X.env) = eval o X.env
  few : ((backTo cpos (starEach [e, f] X.env)).all (fun x => !x.1) && (backToKw cpos (keywordEach [] X.env)).all (fun x => x.1.isSome)
    && decide (([e, f] : List Expr).length + ([] : List Keyword).length + (if ([] : List Keyword).isEmpty then 0 else 1) < 30)) = true
  line : (apos.endLine == cpos.line) = true
  trees : backTo cpos (starEach [e, f] X.env) = [(false, eval e X.env), (false, eval f X.env)]

noncomputable def IsD (H : Hp) (a : Addr) : Prop := (∃ kvs, Rd H a (.dK kvs)) ∨ ∃ kvs, Rd H a (.dT kvs)
section
variable {X : Cx} {pins : List (Addr × Obj)} {σ : St} {H : Hp} {s : Shared} {a : Addr} {y d : V} {u r : Value} {o : Option V} {A : Around} {E : Value → Shared → Prop}
end

noncomputable def tDGet1 (td ty : TE) : TE := fun σ H Q => td σ H fun x H1 => ∃ a, x = .ref a ∧ IsD H1 a ∧ ty σ H1 fun y H2 => ∃ o, DGet H2 a y o ∧ Q (o.getD .non) H2
noncomputable def tDGet2 (td ty tx : TE) : TE := fun σ H Q => td σ H fun x H1 => ∃ a, x = .ref a ∧ IsD H1 a ∧ ty σ H1 fun y H2 => tx σ H2 fun z H3 => ∃ o, DGet H3 a y o ∧ Q (o.getD z) H3
noncomputable def tDPop1 (td ty : TE) : TE := fun σ H Q => td σ H fun x H1 => ∃ a, x = .ref a ∧ IsD H1 a ∧ ty σ H1 fun y H2 => ∃ kvs k v, H2 a = some (.dK kvs) ∧ y = kV k ∧ valV kvs k = some v ∧ Q v (upd H2 a (.dK (dropK kvs k)))
noncomputable def tDPop2 (td ty tx : TE) : TE := fun σ H Q => td σ H fun x H1 => ∃ a, x = .ref a ∧ IsD H1 a ∧ ty σ H1 fun y H2 => tx σ H2 fun z H3 => ∃ kvs k, H3 a = some (.dK kvs) ∧ y = kV k ∧
  (∀ v, valV kvs k = some v → Q v (upd H3 a (.dK (dropK kvs k)))) ∧ (valV kvs k = none → Q z H3)
section
variable {X : Cx} {o e f : Expr} {apos cpos : Pos} {td ty tx : TE}
end

section
variable {X : Cx} {pins : List (Addr × Obj)} {σ : St} {H : Hp} {s : Shared} {a : Addr} {kvs : List (Key × V)} {A : Around} {E : Value → Shared → Prop}
end

section
variable {X : Cx} {pins : List (Addr × Obj)} {σ : St} {H : Hp} {s : Shared} {a : Addr} {y : V} {u : Value} {A : Around} {E : Value → Shared → Prop}
end
end L2
namespace L2
open PySem PySem.Spec PyProof.Rows
section
variable {X : Cx}
end
section
variable {κ : Type} [DecidableEq κ]
end
end L2

set_option Elab.async false
set_option linter.all false
set_option maxRecDepth 100000
namespace L2
open PySem PySem.Spec PyProof.Rows

section
variable {prog : Program} {w : World} {A : Around} {R : Result → Shared → Prop} {s : Shared}
theorem compLoop_own {elt target iter : Expr} {ifs : List Expr} {scope : Scope} {pos : Pos} {it acc : Value} {env : Env} (I : Nat → Shared → Prop)
    (turn : ∀ n s, I n s → wpAny (model prog w) A (pyNext it) (fun r s₁ => match r with
      | none => R (.ok .next) s₁
      | some v => wpAny (model prog w) A (letOwnedTupleGo target it v) (fun _ s₁ => wpAny (model prog w) A (assign target env v) (fun _ s₂ =>
          wpAny (model prog w) A (forIn ifs true fun c r => if r = true then do let ok ← isTrue c env (eval c env); pure (ForInStep.yield ok) else pure (ForInStep.yield r)) (fun ok s₃ =>
            if ok = true then wpAny (model prog w) A (eval elt env) (fun x s₄ =>
              wpAny (model prog w) A (call (.builtin "list.append") [acc, x]) (fun _ s₅ => ∃ m, m < n ∧ I m s₅) (fun _ _ => False) s₄) (fun _ _ => False) s₃
            else ∃ m, m < n ∧ I m s₃) (fun _ _ => False) s₂) (fun _ _ => False) s₁) (fun _ _ => False) s₁) (fun _ _ => False) s)
    (n : Nat) (h : I n s) :
    codeAny (model prog w) A (.compLoop (.ListComp elt [⟨target, iter, ifs, 0⟩] scope pos) 0 it acc env) R s := by
  refine codeAny_loop rfl I (fun n s hI => ?_) n h
  show wpAny _ A ((compTurn (.ListComp elt [⟨target, iter, ifs, 0⟩] scope pos) 0 it acc env).onRaise (fun x => do noteFrame x env; theTreesLotGoes x)) _ _ s
  refine wpAny_noted ?_
  rw [compTurn_list]
  refine wpAny_bind (wpAny_standAt (wpAny_bind (wpAny_mono (turn n s hI) (fun r s₁ h₁ => ?_) fun _ _ h' => h'.elim)))
  cases r with
  | none => exact wpAny_pure h₁
  | some v =>
    refine wpAny_bind (wpAny_mono h₁ (fun _ s₂ h₂ => ?_) fun _ _ h' => h'.elim)
    refine wpAny_bind (wpAny_mono h₂ (fun _ s₃ h₃ => wpAny_bind (wpAny_mono h₃ (fun ok s₄ h₄ => ?_) fun _ _ h' => h'.elim)) fun _ _ h' => h'.elim)
    cases ok with
    | false => exact wpAny_pure ⟨rfl, h₄⟩
    | true =>
      exact wpAny_bind (wpAny_bind (wpAny_mono h₄ (fun x s₅ h₅ => wpAny_bind (wpAny_mono h₅ (fun _ s₆ h₆ => wpAny_pure (wpAny_pure ⟨rfl, h₆⟩)) fun _ _ h' => h'.elim)) fun _ _ h' => h'.elim))
end

noncomputable def clStep (cells : List (Str × Addr)) (cs : List (Str × Addr)) (x : Str × NameKind) : List (Str × Addr) :=
  if x.2 == .free then (x.1, (cells.lookup x.1).getD 0) :: cs else cs
noncomputable def clOf (names : List (Str × NameKind)) (cells : List (Str × Addr)) : List (Str × Addr) := names.foldl (clStep cells) []
theorem closureFor_of {scope : Scope} {env : Env} (h : ∀ x ∈ scope.names, x.2 = .free → ∃ c, env.cells.lookup x.1 = some c) : closureFor scope env = pure (clOf scope.names env.cells) := by
  unfold closureFor clOf
  generalize scope.names = l at h
  have key : ∀ (l : List (Str × NameKind)) (cs : List (Str × Addr)), (∀ x ∈ l, x.2 = .free → ∃ c, env.cells.lookup x.1 = some c) →
      (forIn l cs fun (x : Str × NameKind) (r : List (Str × Addr)) => if (x.2 == NameKind.free) = true then (do let a ← cellOf env x.1; pure (ForInStep.yield ((x.1, a) :: r))) else (pure (ForInStep.yield r) : Sem _)) = (pure (l.foldl (clStep env.cells) cs) : Sem _) := by
    intro l
    induction l with
    | nil => intro cs _; rfl
    | cons x r ih =>
      intro cs h
      rw [List.forIn_cons, List.foldl_cons]
      by_cases hk : x.2 = .free
      · obtain ⟨c, hc⟩ := h x List.mem_cons_self hk
        have e1 : cellOf env x.1 = pure c := by unfold cellOf; rw [hc]
        have e2 : (x.2 == NameKind.free) = true := by rw [hk]; rfl
        have e3 : clStep env.cells cs x = (x.1, c) :: cs := by unfold clStep; rw [if_pos e2, hc]; rfl
        rw [if_pos e2, e1, e3, ← ih _ fun y hy => h y (List.mem_cons_of_mem _ hy)]
        rfl
      · have e2 : ¬ (x.2 == NameKind.free) = true := by simpa using hk
        have e3 : clStep env.cells cs x = cs := by unfold clStep; rw [if_neg e2]
        rw [if_neg e2, e3, ← ih _ fun y hy => h y (List.mem_cons_of_mem _ hy)]
        rfl
  have := key l [] h
  simp only [bind_pure]
  exact this
theorem clOf_look {cells : List (Str × Addr)} : ∀ (names : List (Str × NameKind)) (cs : List (Str × Addr)) (x : Str) (c : Addr), (names.foldl (clStep cells) cs).lookup x = some c →
    cs.lookup x = some c ∨ ((∃ y ∈ names, y.1 = x ∧ y.2 = .free) ∧ c = (cells.lookup x).getD 0)
  | [], cs, x, c, h => .inl h
  | y :: r, cs, x, c, h => by
    rw [List.foldl_cons] at h
    rcases clOf_look r _ x c h with h | ⟨⟨z, hz, e⟩, q⟩
    · unfold clStep at h
      by_cases hk : (y.2 == NameKind.free) = true
      · rw [if_pos hk] at h
        by_cases hx : (x == y.1) = true
        · rw [List.lookup_cons, hx] at h
          have e : x = y.1 := eq_of_beq hx
          refine .inr ⟨⟨y, List.mem_cons_self, e.symm, eq_of_beq hk⟩, ?_⟩
          cases h
          rw [e]
        · have hx' : (x == y.1) = false := by simpa using hx
          rw [List.lookup_cons, hx'] at h
          exact .inl h
      · rw [if_neg hk] at h
        exact .inl h
    · exact .inr ⟨⟨z, List.mem_cons_of_mem _ hz, e⟩, q⟩

inductive Ext : St → St → Prop
  | nil : Ext [] []
  | no {l r : St} {y : Option V} : Ext l r → Ext (none :: l) (y :: r)
  | yes {l r : St} {y : Option V} : Ext l r → Ext (y :: l) (y :: r)
theorem Ext.len {a b : St} (h : Ext a b) : a.length = b.length := by
  induction h with
  | nil => rfl
  | no _ ih => simp [ih]
  | yes _ ih => simp [ih]
theorem Ext.get {a b : St} (h : Ext a b) : ∀ (i : Nat) (v : V), a[i]? = some (some v) → b[i]? = some (some v) := by
  induction h with
  | nil => intro i v e; exact e
  | no _ ih =>
    intro i v e
    cases i with
    | zero => simp at e
    | succ i => simpa using ih i v (by simpa using e)
  | yes _ ih =>
    intro i v e
    cases i with
    | zero => simpa using e
    | succ i => simpa using ih i v (by simpa using e)

noncomputable def blk (X : Cx) (scope : Scope) (N : List Str) (s₀ : Shared) (H₀ : Hp) (C : Addr) (ex : List Addr) (pn : List (Addr × Obj)) : Cx where
  prog := X.prog
  w := X.w
  K := X.K
  mg := X.mg
  base := X.base
  A := X.A
  N := N
  s₀ := s₀
  H₀ := H₀
  env := compEnvC scope (clOf scope.names X.env.cells) C X.env
  outer := X.stack
  stack := X.stack
  ex := ex
  fn := fun _ => false
  calm := X.calm
  pn := pn
  xe := fun _ _ => False

structure BlkScope (out : Scope) (NX : List Str) (scope : Scope) (own : List Str) (fr : List (Str × Nat)) : Prop where
  kind : scope.kind = .function
  okind : out.kind = .function
  nocell : ∀ y ∈ scope.names, y.2 ≠ .cell
  nms : ∀ y ∈ scope.names, y.2 = .local → scope.names.lookup y.1 = some .local
  free : ∀ y ∈ scope.names, y.2 = .free → out.names.lookup y.1 = some .cell
  slots : ∀ p ∈ fr, NX[p.2]? = some p.1 ∧ scope.names.lookup p.1 = some .free
  nd : (own ++ fr.map (·.1)).Nodup

noncomputable def blkN (own : List Str) (fr : List (Str × Nat)) : List Str := own ++ fr.map (·.1)
noncomputable def blkσ (own : List Str) (fr : List (Str × Nat)) (σ : St) : St := own.map (fun _ => none) ++ fr.map fun p => (σ[p.2]?).join

theorem lookup_relabel_free {env : Env} : ∀ {names : List (Str × NameKind)} {x : Str}, names.lookup x = some .free → env.scope.kind = .function → env.kindOf x = some .cell →
    (names.map fun (n, k) => if (k == NameKind.free && env.scope.kind == .function && env.kindOf n == some .cell) then (n, NameKind.cell) else (n, k)).lookup x = some .cell
  | [], _, h, _, _ => by simp at h
  | (n, k) :: r, x, h, hk, hc => by
    have ih := @lookup_relabel_free env r x
    show List.lookup x ((if (k == NameKind.free && env.scope.kind == .function && env.kindOf n == some .cell) = true then (n, NameKind.cell) else (n, k)) :: _) = _
    cases hx : x == n with
    | true =>
      simp only [List.lookup_cons, hx] at h
      cases h
      have e : x = n := eq_of_beq hx
      subst e
      rw [if_pos (by rw [hk, hc]; rfl)]
      simp [List.lookup_cons]
    | false =>
      simp only [List.lookup_cons, hx] at h
      by_cases hq : (k == NameKind.free && env.scope.kind == .function && env.kindOf n == some .cell) = true
      · rw [if_pos hq]; simp only [List.lookup_cons, hx]; exact ih h hk hc
      · rw [if_neg hq]; simp only [List.lookup_cons, hx]; exact ih h hk hc

theorem mem_of_look {α β : Type} [BEq α] [LawfulBEq α] {x : α} {y : β} : ∀ {l : List (α × β)}, l.lookup x = some y → (x, y) ∈ l
  | [], h => by simp at h
  | (a, b) :: r, h => by
    rw [List.lookup_cons] at h
    cases e : x == a with
    | true =>
      rw [e] at h
      cases h
      rw [eq_of_beq e]
      exact List.mem_cons_self
    | false =>
      rw [e] at h
      exact List.mem_cons_of_mem _ (mem_of_look h)
noncomputable def PFs (X : Cx) (ifs : List Expr) (t : TT) : Prop :=
  ∀ (pins : List (Addr × Obj)) (s : Shared) (σ : St) (H : Hp) (Q : Bool → Hp → Prop), Inv X pins σ H s → t σ H Q →
    wpAny (model X.prog X.w) X.A (forIn ifs true fun c r => if r = true then do let ok ← isTrue c X.env (eval c X.env); pure (ForInStep.yield ok) else pure (ForInStep.yield r)) (TP X pins σ Q) X.xe s
noncomputable def tTrue : TT := fun _ H Q => Q true H
theorem pfs_nil {X : Cx} : PFs X [] tTrue := fun pins s σ H Q I h => wpAny_tests_nil ⟨H, I, h⟩
theorem pfs_one {X : Cx} {c : Expr} {t : TT} (h : PT X c t) : PFs X [c] t := fun pins s σ H Q I q => wpAny_tests_one (h pins s σ H Q I q)

structure TurnQ (κ : Cx → Prop) (P : Program) (w : World) (K : PySem.W.Frag) (tg : Expr) (J : It) (fp : List Addr) (it : Addr) (tn : Nat → Heap → Prop) : Prop where
  mem : it ∈ fp
  obj : ∀ i h, tn i h → ∀ b ∈ fp, ∃ o, h.get? b = some o ∧ ∀ v, o.data ≠ .cell v
  keep : ∀ i h h', tn i h → (∀ b ∈ fp, ∀ o, h.get? b = some o → h'.get? b = some o) → tn i h'
  item : ∀ (X : Cx), X.prog = P → X.w = w → X.K = K → κ X → ∀ (i : Nat) (pins : List (Addr × Obj)) (s : Shared) (σ : St) (H : Hp) (E : Value → Shared → Prop), Inv X pins σ H s → (∀ b ∈ fp, FpOk X pins H b) → tn i s.heap → J.go i H →
    wpAny (model P w) X.A (pyNext (.ref it)) (fun r s1 => ∃ u, r = some u ∧
      wpAny (model P w) X.A (letOwnedTupleGo tg (.ref it) u) (fun _ s2 => ∃ x H', Inv X pins σ H' s2 ∧ RelV x u ∧ J.yld i H x H' ∧ tn (i + 1) s2.heap ∧ ∀ b ∈ fp, H' b = none) E s1) E s
  done : ∀ (X : Cx), X.prog = P → X.w = w → X.K = K → κ X → ∀ (i : Nat) (pins : List (Addr × Obj)) (s : Shared) (σ : St) (H : Hp) (E : Value → Shared → Prop), Inv X pins σ H s → (∀ b ∈ fp, FpOk X pins H b) → tn i s.heap → J.stop i H →
    wpAny (model P w) X.A (pyNext (.ref it)) (fun r s1 => r = none ∧ Inv X pins σ H s1) E s
  self : ∀ (A : Around) (i : Nat) (s : Shared) (Q : Value → Shared → Prop) (E : Value → Shared → Prop), tn i s.heap → Q (.ref it) s → wpAny (model P w) A (pyIter (.ref it)) Q E s
noncomputable abbrev Calm (X : Cx) : Prop := X.calm = true
theorem Turn.q {P : Program} {w : World} {K : PySem.W.Frag} {tg : Expr} {J : It} {fp : List Addr} {it : Addr} {tn : Nat → Heap → Prop} (T : Turn P w K tg J fp it tn) : TurnQ Calm P w K tg J fp it tn := ⟨T.mem, T.obj, T.keep, T.item, T.done, T.self⟩
noncomputable def PIQ (κ : Cx → Prop) (X : Cx) (tg iter : Expr) (wi : TI) : Prop :=
  ∀ (pins : List (Addr × Obj)) (s : Shared) (σ : St) (H : Hp) (R : It → Hp → Prop), Inv X pins σ H s → wi σ H R →
    wpAny (model X.prog X.w) X.A (eval iter X.env) (fun v s1 => wpAny (model X.prog X.w) X.A (pyIter v) (fun itv s2 => ∃ (it : Addr) (fp : List Addr) (tn : Nat → Heap → Prop) (J : It) (H' : Hp), itv = .ref it ∧ Inv X pins σ H' s2 ∧ TurnQ κ X.prog X.w X.K tg J fp it tn ∧ tn 0 s2.heap ∧ (∀ b ∈ fp, FpOk X pins H' b) ∧ R J H') X.xe s1) X.xe s
theorem PI.q {X : Cx} {tg iter : Expr} {wi : TI} (h : PI X tg iter wi) : PIQ Calm X tg iter wi := fun pins s σ H R I hw =>
  wpAny_mono (h pins s σ H R I hw) (fun v s1 h1 => wpAny_mono h1 (fun itv s2 ⟨it, fp, tn, J, H', e, I', T, r⟩ => ⟨it, fp, tn, J, H', e, I', T.q, r⟩) fun _ _ z => z) fun _ _ z => z
noncomputable def CompGo (own : List Str) (fr : List (Str × Nat)) (g : TG) (tc : TT) (te : TE) (σ : St) (Q : VK) (J : It) (H1 : Hp) : Prop := ∀ acc, H1 acc = none →
  ∃ W : Nat → Nat → Hp → Prop, (∃ m, W 0 m (upd H1 acc (.lst []))) ∧ ∀ i m H, W i m H →
    (J.stop i H ∧ Q (.ref acc) H) ∨ (J.go i H ∧ ∃ N : Hp → Prop, (∀ H', N H' → ∃ m', m' < m ∧ W (i + 1) m' H') ∧
      ∀ x H', J.yld i H x H' → g x (blkσ own fr σ) H' fun σ2 H2 => Ext (blkσ own fr σ) σ2 ∧ tc σ2 H2 fun b H3 =>
        if b = true then te σ2 H3 fun y H4 => ∃ ys, H4 acc = some (.lst ys) ∧ ys.length < sizeLine ∧ N (upd H4 acc (.lst (ys ++ [y]))) else N H3)
noncomputable def tComp (own : List Str) (fr : List (Str × Nat)) (wi : TI) (g : TG) (tc : TT) (te : TE) : TE := fun σ H Q => wi σ H (CompGo own fr g tc te σ Q)

section
variable {X : Cx} {elt tg iter : Expr} {ifs : List Expr} {scope : Scope} {own : List Str} {fr : List (Str × Nat)} {wi : TI} {g : TG} {tc : TT} {te : TE} {pos : Pos}
theorem comp_core {κ : Cx → Prop} (S : BlkScope X.env.scope X.N scope own fr) (hκ : ∀ s₀ H₀ C ex pn, κ (blk X scope (blkN own fr) s₀ H₀ C ex pn)) (hi : PIQ κ X tg iter wi)
    (hg : ∀ s₀ H₀ C ex pn, PG (blk X scope (blkN own fr) s₀ H₀ C ex pn) tg g)
    (hc : ∀ s₀ H₀ C ex pn, PFs (blk X scope (blkN own fr) s₀ H₀ C ex pn) ifs tc)
    (he : ∀ s₀ H₀ C ex pn, PE (blk X scope (blkN own fr) s₀ H₀ C ex pn) elt te)
    (hs : ∀ x, foldedSetIterable iter X.env x = pure x)
    {pins : List (Addr × Obj)} {s : Shared} {σ : St} {H : Hp} {Q : VK} (I : Inv X pins σ H s) (h : tComp own fr wi g tc te σ H Q)
    {use : Option (Value → Sem Unit)} {Qv : Value → Shared → Prop} {p' : Pos}
    (fin : ∀ (acc C : Addr) (s' : Shared) (H' : Hp), Inv X pins σ H' s' → Q (.ref acc) H' → (∃ m, s'.heap.Ns C m) → H' C = none → C ≠ X.env.locals → X.s₀.heap.objs.size ≤ C →
      (∀ x c, X.env.cells.lookup x = some c → c ≠ C) → (∀ p ∈ X.pn ++ pins, p.1 ≠ C) → compPost (model X.prog X.w) X.A X.xe use Qv (.ref acc) C (.ok .next) s') :
    wpAny (model X.prog X.w) X.A (comprehension (.ListComp elt [⟨tg, iter, ifs, 0⟩] scope pos) scope X.env p' (newList []) false (eval iter X.env) use) Qv X.xe s := by
  have hfree : ∀ x ∈ scope.names, x.2 = .free → ∃ c, X.env.cells.lookup x.1 = some c := fun x hx hf => I.ok.has x.1 (.inl (S.free x hx hf))
  refine wpAny_comprehension_free (g := ⟨tg, iter, ifs, 0⟩) (gs := []) (use := use) rfl hs (closureFor_of hfree) S.kind S.nms ?_
  refine thn (hi pins s σ H _ I h) fun v s1 h1 => thn h1 fun itv s2 h2 => ?_
  obtain ⟨it, fp, tn, J, H2, e, I2, T, st2, f2, R⟩ := h2
  subst e
  refine wpAny_newObj_type (wpAny_newFunctionEnv S.nocell (by intro y hy; simp at hy) (fun h₁ hns₁ hsb₁ => ?_) S.kind)
  dsimp only at hns₁ hsb₁ ⊢
  have I3 := I2.lnew (ys := []) (its := []) (t' := s2.toks) .nil (Nat.zero_le _)
  obtain ⟨W, ⟨m0, w0⟩, turn⟩ := R s2.heap.objs.size I2.fresh
  generalize hacc : s2.heap.objs.size = acc at *
  generalize hs3 : ({ s2 with heap := s2.heap.push { cls := .type "list", data := .seq ([] : List Value).toArray }, toks := s2.toks } : Shared) = s3 at I3
  have e3 : s2.heap.push { cls := .type "list", dict := none, data := .seq ([] : List Value).toArray } = s3.heap := by rw [← hs3]
  have accs : acc < s3.heap.objs.size := by rw [← e3, Heap.size_push, hacc]; exact Nat.lt_succ_self _
  rw [e3] at hns₁ hsb₁ ⊢
  generalize hC : s3.heap.objs.size = C at *
  generalize hH3 : upd H2 acc (.lst []) = H3 at *
  have kept : ∀ b o, s3.heap.get? b = some o → h₁.get? b = some o := fun b o e => by
    have hb : b ≠ C := by rw [← hC]; exact Nat.ne_of_lt (Heap.lt_size e)
    exact (hsb₁.2 b hb).trans (Heap.get?_push_of_some _ e)
  have freshC : H3 C = none := I3.hok.fresh (by rw [hC]; exact Nat.le_refl _)
  have ltC : ∀ b o, s3.heap.get? b = some o → b ≠ C := fun b o e => by rw [← hC]; exact Nat.ne_of_lt (Heap.lt_size e)
  have hLC : X.env.locals ≠ C := by rw [← hC]; exact Nat.ne_of_lt I3.lt
  have hcell : ∀ x c, X.env.cells.lookup x = some c → c ≠ C := fun x c e => by
    obtain ⟨v, o, ho, _⟩ := I3.cell x c e
    exact ltC c o ho
  have hpin : ∀ p ∈ X.pn ++ pins, p.1 ≠ C := fun p hp => ltC _ _ (I3.pin p hp).1
  have clX : ∀ x c, (clOf scope.names X.env.cells).lookup x = some c → X.env.cells.lookup x = some c := fun x c e => by
    rcases clOf_look scope.names [] x c e with z | ⟨⟨y, hy, rfl, hk⟩, rfl⟩
    · simp at z
    · obtain ⟨d, hd⟩ := hfree y hy hk
      rw [hd]; rfl
  have fp3 : ∀ b ∈ fp, b ≠ C := fun b hb => by
    obtain ⟨o, e, _⟩ := T.obj _ _ st2 b hb
    refine ltC b o ?_
    rw [← e3]
    exact Heap.get?_push_of_some _ e
  have fpacc : ∀ b ∈ fp, b ≠ acc := fun b hb => by
    obtain ⟨o, e, _⟩ := T.obj _ _ st2 b hb
    rw [← hacc]
    exact Nat.ne_of_lt (Heap.lt_size e)
  generalize hB : blk X scope (blkN own fr) s3 H3 C fp (X.pn ++ pins) = B
  have BOk : B.Ok := by
    subst hB
    refine { mod := I3.ok.mod, kind := S.kind, glob := I3.ok.glob, blt := I3.ok.blt, above := ?_, inj := ?_, has := ?_, cab := ?_, hd := I3.ok.hd, frames := I3.ok.frames, stk := .inl rfl, exf := ?_, bs := I3.bs, bsz := ?_, noex := ?_, exfs := ?_, funs := I3.stack, frf := I3.stkFree }
    · show s3.heap.objs.size ≤ C
      rw [hC]; exact Nat.le_refl _
    · intro x y c e1 e2
      exact I3.ok.inj x y c (clX x c e1) (clX y c e2)
    · intro x hx
      have hx' : (relabel scope X.env).names.lookup x = some .cell ∨ (relabel scope X.env).names.lookup x = some .free := hx
      have key : ∃ y ∈ scope.names, y.1 = x ∧ y.2 = .free := by
        have gen : ∀ names : List (Str × NameKind), (∀ y ∈ names, y.2 ≠ .cell) → ((names.map fun (n, k) => if (k == NameKind.free && X.env.scope.kind == .function && X.env.kindOf n == some .cell) then (n, NameKind.cell) else (n, k)).lookup x = some .cell ∨
            (names.map fun (n, k) => if (k == NameKind.free && X.env.scope.kind == .function && X.env.kindOf n == some .cell) then (n, NameKind.cell) else (n, k)).lookup x = some .free) → ∃ y ∈ names, y.1 = x ∧ y.2 = .free := by
          intro names
          induction names with
          | nil => intro _ h; simp at h
          | cons y r ih =>
            intro hn h
            obtain ⟨n, k⟩ := y
            have hk := hn (n, k) List.mem_cons_self
            by_cases hx : (x == n) = true
            · have exn : x = n := eq_of_beq hx
              by_cases hkf : k = .free
              · exact ⟨(n, k), List.mem_cons_self, exn.symm, hkf⟩
              · have hf : (k == NameKind.free) = false := by simpa using hkf
                simp only [List.map_cons, hf, Bool.false_and, Bool.false_eq_true, if_false, List.lookup_cons, hx] at h
                rcases h with h | h
                · exact absurd (Option.some.inj h) hk
                · exact absurd (Option.some.inj h) hkf
            · have hx' : (x == n) = false := by simpa using hx
              have h' : _ := ih (fun y hy => hn y (List.mem_cons_of_mem _ hy)) (by
                rw [List.map_cons] at h
                by_cases hq : (k == NameKind.free && X.env.scope.kind == .function && X.env.kindOf n == some .cell) = true
                · simp only [hq, if_true, List.lookup_cons, hx'] at h
                  exact h
                · simp only [hq, Bool.false_eq_true, if_false, List.lookup_cons, hx'] at h
                  exact h)
              obtain ⟨y, hy, e⟩ := h'
              exact ⟨y, List.mem_cons_of_mem _ hy, e⟩
        exact gen scope.names S.nocell hx'
      obtain ⟨y, hy, rfl, hk⟩ := key
      have gen : ∀ (names : List (Str × NameKind)) (cs : List (Str × Addr)), (y ∈ names ∨ ∃ c, cs.lookup y.1 = some c) → ∃ c, (names.foldl (clStep X.env.cells) cs).lookup y.1 = some c := by
        intro names
        induction names with
        | nil =>
          intro cs h
          rcases h with h | h
          · simp at h
          · exact h
        | cons z r ih =>
          intro cs h
          rw [List.foldl_cons]
          refine ih _ ?_
          by_cases hz : (z.2 == NameKind.free) = true
          · by_cases hx : (y.1 == z.1) = true
            · right
              refine ⟨(X.env.cells.lookup z.1).getD 0, ?_⟩
              unfold clStep
              rw [if_pos hz, List.lookup_cons, hx]
            · have hx' : (y.1 == z.1) = false := by simpa using hx
              rcases h with h | ⟨c, h⟩
              · rcases List.mem_cons.mp h with h | h
                · rw [h] at hx; simp at hx
                · exact .inl h
              · right
                refine ⟨c, ?_⟩
                unfold clStep
                rw [if_pos hz, List.lookup_cons, hx']
                exact h
          · rcases h with h | ⟨c, h⟩
            · rcases List.mem_cons.mp h with h | h
              · rw [← h, hk] at hz; simp at hz
              · exact .inl h
            · right
              refine ⟨c, ?_⟩
              unfold clStep
              rw [if_neg hz]
              exact h
      exact gen scope.names [] (.inl hy)
    · intro x c hx; cases hx
    · intro b hb
      refine ⟨fp3 b hb, fun x c e => ?_⟩
      exact (f2 b hb).2.2.2.2.1 x c (clX x c e)
    · exact Nat.le_trans I3.ok.bsz I3.sz
    · intro b o e hb
      rcases (f2 b hb).2.2.2.1 with z | z
      · exact I3.ok.noex b o e z
      · exact absurd (Nat.lt_of_lt_of_le (Heap.lt_size e) (Nat.le_trans I3.ok.bsz z)) (Nat.lt_irrefl _)
    · intro b hb hm
      rcases List.mem_cons.mp (I3.stkSub b hm) with z | z
      · exact (f2 b hb).2.1 z
      · exact (f2 b hb).2.2.1 z
  have Bfp : ∀ {H' : Hp}, (∀ b ∈ fp, H' b = none) → ∀ b ∈ fp, FpOk B [] H' b := fun {H'} hn b hb => by
    subst hB
    obtain ⟨_, f1, f2', f3, f4, f5⟩ := f2 b hb
    refine ⟨hn b hb, fp3 b hb, ?_, .inl hb, fun x c e => f4 x c (clX x c e), fun p hp => ?_⟩
    · intro hm
      rcases List.mem_cons.mp (I3.stkSub b hm) with z | z
      · exact f1 z
      · exact f2' z
    · have hp' : p ∈ X.pn ++ pins := by simpa [blk] using hp
      exact f5 p hp'
  have Bcalm : κ B := by subst hB; exact hκ _ _ _ _ _
  have lenσ : (blkσ own fr σ).length = (blkN own fr).length := by simp [blkσ, blkN]
  have B0 : Inv B [] (blkσ own fr σ) H3 { s3 with heap := h₁, toks := s3.toks + ([] : List (Str × Value)).length } := by
    refine ⟨BOk, ?_, I3.bare, ?_, ⟨fun x => ([] : List (Str × Value)).reverse.lookup x, ?_, ?_⟩, ?_, ?_, ?_, ?_, ?_, ?_⟩
    · subst hB; rfl
    · subst hB; exact Un.kept kept
    · subst hB
      have : h₁.Ns C (fun x => ([] : List (Str × Value)).reverse.lookup x) := hns₁
      exact this
    · intro i x v e1 e2 e3'
      subst hB
      have e1' : (own ++ fr.map (·.1))[i]? = some x := e1
      have e2' : (own.map (fun _ => (none : Option V)) ++ fr.map fun p => (σ[p.2]?).join)[i]? = some (some v) := e2
      by_cases hlt : i < own.length
      · rw [List.getElem?_append_left (by simpa using hlt), List.getElem?_map] at e2'
        rw [List.getElem?_eq_getElem hlt] at e2'
        simp at e2'
      · rw [List.getElem?_append_right (by simpa using hlt), List.getElem?_map, List.length_map] at e2'
        rw [List.getElem?_append_right (by simpa using hlt), List.getElem?_map] at e1'
        cases ef : fr[i - own.length]? with
        | none => rw [ef] at e2'; simp at e2'
        | some p =>
          rw [ef] at e2' e1'
          simp only [Option.map_some, Option.some.injEq] at e2' e1'
          subst e1'
          have hp := List.mem_of_getElem? ef
          obtain ⟨hN, hf⟩ := S.slots p hp
          have hv : σ[p.2]? = some (some v) := by
            cases q : σ[p.2]? with
            | none => rw [q] at e2'; simp at e2'
            | some z => rw [q] at e2'; simp at e2'; rw [e2']
          obtain ⟨y, hy, e⟩ : ∃ y ∈ scope.names, y = (p.1, NameKind.free) := ⟨_, mem_of_look hf, rfl⟩
          have ocell : X.env.scope.names.lookup p.1 = some .cell := S.free (p.1, .free) (e ▸ hy) rfl
          obtain ⟨mX, hnX, hl⟩ := I3.loc
          obtain ⟨u, ru, lk⟩ := hl p.2 p.1 v hN hv (.inr (.inl ocell))
          refine ⟨u, ru, ?_⟩
          rcases lk with ⟨k, _⟩ | ⟨_, c, ec, ic⟩
          · have k' : X.env.scope.names.lookup p.1 = some .local := k
            rw [ocell] at k'; cases k'
          · refine .inr ⟨.inl ?_, c, ?_, ?_⟩
            · show (relabel scope X.env).names.lookup p.1 = some .cell
              exact lookup_relabel_free hf S.okind ocell
            · obtain ⟨c', hc'⟩ : ∃ c', (clOf scope.names X.env.cells).lookup p.1 = some c' := BOk.has p.1 (.inl (lookup_relabel_free hf S.okind ocell))
              have := clX p.1 c' hc'
              rw [ec] at this; cases this
              exact hc'
            · obtain ⟨o, ho, hd⟩ := ic
              exact ⟨o, kept c o ho, hd⟩
    · intro x c e
      subst hB
      obtain ⟨v, o, ho, hd⟩ := I3.cell x c (clX x c e)
      exact ⟨v, o, kept c o ho, hd⟩
    · subst hB; exact freshC
    · intro x c e
      subst hB
      exact I3.freeC x c (clX x c e)
    · intro p hp
      subst hB
      have hp' : p ∈ X.pn ++ pins := by simpa [blk] using hp
      obtain ⟨a1, a2, a3, a4, a5⟩ := I3.pin p hp'
      refine ⟨kept _ _ a1, a2, hpin p hp', ?_, a5⟩
      intro hm
      rcases List.mem_cons.mp (I3.stkSub p.1 hm) with z | z
      · exact a3 z
      · exact a4 z
    · subst hB; exact I3.hok.kept kept
    · subst hB; exact lenσ
  have st3 : tn 0 h₁ := T.keep _ _ _ st2 fun b hb o e => kept b o (by rw [← e3]; exact Heap.get?_push_of_some _ e)
  have fr3 : ∀ b ∈ fp, H3 b = none := fun b hb => by rw [← hH3, upd_ne (fpacc b hb)]; exact (f2 b hb).1
  have loop : codeAny (model X.prog X.w) X.A (.compLoop (.ListComp elt [⟨tg, iter, ifs, 0⟩] scope pos) 0 (.ref it) (.ref acc) (compEnvC scope (clOf scope.names X.env.cells) C X.env))
      (compPost (model X.prog X.w) X.A X.xe use Qv (.ref acc) C) { s3 with heap := h₁, toks := s3.toks + ([] : List (Str × Value)).length } := by
    refine compLoop_own (fun n s' => ∃ i H', Inv B [] (blkσ own fr σ) H' s' ∧ tn i s'.heap ∧ (∀ b ∈ fp, H' b = none) ∧ W i n H') ?_ m0 ⟨0, H3, B0, st3, fr3, w0⟩
    rintro n s4 ⟨i, H4, I4, st4, fr4, w4⟩
    rcases turn i n H4 w4 with ⟨stop, qn⟩ | ⟨go, N, hN, step⟩
    · have TD := T.done B (by subst hB; rfl) (by subst hB; rfl) (by subst hB; rfl) Bcalm i [] s4 _ H4 (fun _ _ => False) I4 (Bfp fr4) st4 stop
      have TD' : wpAny (model X.prog X.w) X.A (pyNext (.ref it)) (fun r s1 => r = none ∧ Inv B [] (blkσ own fr σ) H4 s1) (fun _ _ => False) s4 := by subst hB; exact TD
      refine thn TD' fun r s5 hq_ => ?_
      obtain ⟨hr, I5⟩ := hq_
      subst hr
      have u5 : Un (frs X.stack) fp H3 H4 s3.heap s5.heap := by have := I5.base; subst hB; exact this
      have o5 : s5.os = s3.os := by have := I5.os; subst hB; exact this
      have k5 : HOk X.prog X.w H4 s5.heap := by have := I5.hok; subst hB; exact this
      have c5 : H4 C = none := by have := I5.free; subst hB; exact this
      have n5 : ∃ m, s5.heap.Ns C m := by
        obtain ⟨m, hm, _⟩ := I5.loc
        subst hB
        exact ⟨m, hm⟩
      have X5 : Inv X pins σ H4 s5 := I3.call' (ch := fp) o5 u5 k5 I5.bare fun b hb => ⟨(f2 b hb).2.2.2.1, (f2 b hb).2.1, (f2 b hb).2.2.2.2.1, (f2 b hb).2.2.2.2.2⟩
      exact fin acc C s5 H4 X5 qn n5 c5 (Ne.symm hLC) (by rw [← hC]; exact I3.sz) hcell hpin
    · have TI := T.item B (by subst hB; rfl) (by subst hB; rfl) (by subst hB; rfl) Bcalm i [] s4 _ H4 (fun _ _ => False) I4 (Bfp fr4) st4 go
      have TI' : wpAny (model X.prog X.w) X.A (pyNext (.ref it)) (fun r s1 => ∃ u, r = some u ∧ wpAny (model X.prog X.w) X.A (letOwnedTupleGo tg (.ref it) u) (fun _ s2 => ∃ x H', Inv B [] (blkσ own fr σ) H' s2 ∧ RelV x u ∧ J.yld i H4 x H' ∧ tn (i + 1) s2.heap ∧ ∀ b ∈ fp, H' b = none) (fun _ _ => False) s1) (fun _ _ => False) s4 := by subst hB; exact TI
      refine thn TI' fun r s5 hq_ => ?_
      obtain ⟨u, hr, h5⟩ := hq_
      subst hr
      refine thn h5 fun _ s6 hq_ => ?_
      obtain ⟨x, H6, I6, r6, y6, st6, fr6⟩ := hq_
      have I6' := I6.pinned (Bfp fr6) (T.obj _ _ st6)
      have G := hg s3 H3 C fp (X.pn ++ pins)
      rw [hB] at G
      have G' := G _ s6 _ H6 x u _ I6' r6 (step x H6 y6)
      have G2 : wpAny (model X.prog X.w) X.A (assign tg (compEnvC scope (clOf scope.names X.env.cells) C X.env) u) (fun _ s' => ∃ σ' H', Inv B ([] ++ pinsAt fp s6.heap) σ' H' s' ∧ Ext (blkσ own fr σ) σ' ∧ tc σ' H' fun b H3 =>
        if b = true then te σ' H3 fun y H4 => ∃ ys, H4 acc = some (.lst ys) ∧ ys.length < sizeLine ∧ N (upd H4 acc (.lst (ys ++ [y]))) else N H3) (fun _ _ => False) s6 := by subst hB; exact G'
      refine thn G2 fun _ s7 hq_ => ?_
      obtain ⟨σ7, H7, I7, ex7, q7⟩ := hq_
      have CC := hc s3 H3 C fp (X.pn ++ pins)
      rw [hB] at CC
      have again : ∀ {s8 : Shared} {H8 : Hp}, Inv B ([] ++ pinsAt fp s6.heap) σ7 H8 s8 → N H8 → ∃ m, m < n ∧ ∃ i H', Inv B [] (blkσ own fr σ) H' s8 ∧ tn i s8.heap ∧ (∀ b ∈ fp, H' b = none) ∧ W i m H' := fun {s8 H8} I8 n8 => by
        obtain ⟨m', hm, w8⟩ := hN H8 n8
        refine ⟨m', hm, i + 1, H8, (I8.unpinned).weak ex7.len ex7.get, T.keep _ _ _ st6 fun b hb o e => (I8.pin (b, o) (List.mem_append_right _ (List.mem_append_right _ (mem_pinsAt hb e)))).1, fun b hb => ?_, w8⟩
        obtain ⟨o, e, d⟩ := T.obj _ _ st6 b hb
        exact (I8.pin (b, o) (List.mem_append_right _ (List.mem_append_right _ (mem_pinsAt hb e)))).2.1
      have C' := CC _ s7 σ7 H7 _ I7 q7
      have C2 : wpAny (model X.prog X.w) X.A (forIn ifs true fun c r => if r = true then do let ok ← isTrue c (compEnvC scope (clOf scope.names X.env.cells) C X.env) (eval c (compEnvC scope (clOf scope.names X.env.cells) C X.env)); pure (ForInStep.yield ok) else pure (ForInStep.yield r))
        (fun b s' => ∃ H', Inv B ([] ++ pinsAt fp s6.heap) σ7 H' s' ∧ if b = true then te σ7 H' fun y H4 => ∃ ys, H4 acc = some (.lst ys) ∧ ys.length < sizeLine ∧ N (upd H4 acc (.lst (ys ++ [y]))) else N H') (fun _ _ => False) s7 := by subst hB; exact C'
      refine thn C2 fun ok s8 hq_ => ?_
      obtain ⟨H8, I8, q8⟩ := hq_
      cases ok with
      | false => exact again I8 q8
      | true =>
        have EE := he s3 H3 C fp (X.pn ++ pins)
        rw [hB] at EE
        have E' := EE _ s8 σ7 H8 _ I8 q8
        have E2 : wpAny (model X.prog X.w) X.A (eval elt (compEnvC scope (clOf scope.names X.env.cells) C X.env)) (fun u s' => ∃ y H', Inv B ([] ++ pinsAt fp s6.heap) σ7 H' s' ∧ RelV y u ∧ ∃ ys, H' acc = some (.lst ys) ∧ ys.length < sizeLine ∧ N (upd H' acc (.lst (ys ++ [y])))) (fun _ _ => False) s8 := by subst hB; exact E'
        refine thn E2 fun yv s9 hq_ => ?_
        obtain ⟨y, H9, I9, r9, ys, a9, z9, q9⟩ := hq_
        have AP := mt_append (X := B) _ s9 σ7 H9 (.ref acc) [y] (.ref acc) [yv] (fun _ H10 => N H10) I9 rfl (.cons r9 .nil) ⟨acc, ys, y, rfl, rfl, a9, z9, q9⟩
        have A2 : wpAny (model X.prog X.w) X.A (call (.builtin "list.append") [.ref acc, yv]) (fun u s' => ∃ v H', Inv B ([] ++ pinsAt fp s6.heap) σ7 H' s' ∧ RelV v u ∧ N H') (fun _ _ => False) s9 := by subst hB; exact AP
        refine thn A2 fun _ s10 hq_ => ?_
        obtain ⟨_, H10, I10, _, n10⟩ := hq_
        exact again I10 n10
  subst hs3
  show codeAny _ _ (.compStart _ 0 (.ref it) (.ref acc) (compEnvC scope (clOf scope.names X.env.cells) C X.env)) (compPost (model X.prog X.w) X.A X.xe use Qv (.ref acc) C) { s2 with heap := h₁, toks := s2.toks + ([] : List (Str × Value)).length }
  exact codeAny_compStart_list loop (T.self _ 0 _ _ _ st3 loop)
theorem pe_comp (S : BlkScope X.env.scope X.N scope own fr) (hcalm : X.calm = true) (hi : PI X tg iter wi)
    (hg : ∀ s₀ H₀ C ex pn, PG (blk X scope (blkN own fr) s₀ H₀ C ex pn) tg g)
    (hc : ∀ s₀ H₀ C ex pn, PFs (blk X scope (blkN own fr) s₀ H₀ C ex pn) ifs tc)
    (he : ∀ s₀ H₀ C ex pn, PE (blk X scope (blkN own fr) s₀ H₀ C ex pn) elt te)
    (hs : ∀ x, foldedSetIterable iter X.env x = pure x := by intro _; rfl) :
    PE X (.ListComp elt [⟨tg, iter, ifs, 0⟩] scope pos) (tComp own fr wi g tc te) := by
  intro pins s σ H Q I h
  rw [eval_ListComp]
  refine comp_core (κ := Calm) S (fun _ _ _ _ _ => hcalm) hi.q hg hc he hs I h (use := none) fun acc C s' H' I' q n c hL h1 h2 h3 => ?_
  obtain ⟨m, hm⟩ := n
  refine ⟨m, hm, fun h' sb => ⟨.ref acc, H', ?_, rfl, q⟩⟩
  exact I'.turned (t' := s'.toks) (fun b o hb e => (sb.2 b hb).trans e) c hL (.inr h1) h2 h3
theorem pe_compQ {κ : Cx → Prop} (S : BlkScope X.env.scope X.N scope own fr) (hκ : ∀ s₀ H₀ C ex pn, κ (blk X scope (blkN own fr) s₀ H₀ C ex pn)) (hi : PIQ κ X tg iter wi)
    (hg : ∀ s₀ H₀ C ex pn, PG (blk X scope (blkN own fr) s₀ H₀ C ex pn) tg g)
    (hc : ∀ s₀ H₀ C ex pn, PFs (blk X scope (blkN own fr) s₀ H₀ C ex pn) ifs tc)
    (he : ∀ s₀ H₀ C ex pn, PE (blk X scope (blkN own fr) s₀ H₀ C ex pn) elt te)
    (hs : ∀ x, foldedSetIterable iter X.env x = pure x := by intro _; rfl) :
    PE X (.ListComp elt [⟨tg, iter, ifs, 0⟩] scope pos) (tComp own fr wi g tc te) := by
  intro pins s σ H Q I h
  rw [eval_ListComp]
  refine comp_core S hκ hi hg hc he hs I h (use := none) fun acc C s' H' I' q n c hL h1 h2 h3 => ?_
  obtain ⟨m, hm⟩ := n
  refine ⟨m, hm, fun h' sb => ⟨.ref acc, H', ?_, rfl, q⟩⟩
  exact I'.turned (t' := s'.toks) (fun b o hb e => (sb.2 b hb).trans e) c hL (.inr h1) h2 h3
noncomputable def tSetComp (i : Nat) (t : TE) : TS := fun D σ H => t σ H fun x H1 => D.nx (σ.set i (some x)) H1
theorem ps_setComp {i : Nat} {x : Str} {px spos : Pos} (S : BlkScope X.env.scope X.N scope own fr) (hcalm : X.calm = true) (hN : X.N.Nodup) (hi0 : X.N[i]? = some x) (hx : X.env.scope.names.lookup x = some .local)
    (hsw : swapsWith (.ListComp elt [⟨tg, iter, ifs, 0⟩] scope pos) (some (.Name x px)) spos.line X.env = pure true) (hi : PI X tg iter wi)
    (hg : ∀ s₀ H₀ C ex pn, PG (blk X scope (blkN own fr) s₀ H₀ C ex pn) tg g)
    (hc : ∀ s₀ H₀ C ex pn, PFs (blk X scope (blkN own fr) s₀ H₀ C ex pn) ifs tc)
    (he : ∀ s₀ H₀ C ex pn, PE (blk X scope (blkN own fr) s₀ H₀ C ex pn) elt te)
    (hs : ∀ x, foldedSetIterable iter X.env x = pure x := by intro _; rfl) :
    PS X (.Assign [.Name x px] (.ListComp elt [⟨tg, iter, ifs, 0⟩] scope pos) spos) (tSetComp i (tComp own fr wi g tc te)) := by
  intro pins s σ H D I h
  rw [exec_Assign_Name_used _ _ _ _ hsw]
  refine wpAny_bind (wpAny_standAt (wpAny_bind ?_))
  show wpAny _ X.A (do let _ ← comprehension (.ListComp elt [⟨tg, iter, ifs, 0⟩] scope pos) scope X.env _ (newList []) false (eval iter X.env) (some (assign (.Name x px) X.env))) _ _ s
  refine wpAny_bind (thn (comp_core (κ := Calm) S (fun _ _ _ _ _ => hcalm) hi.q hg hc he hs I h (use := some (assign (.Name x px) X.env)) (Qv := fun _ s' => SP X pins D .next s') fun acc C s' H' I' q n c hL h1 h2 h3 => ?_) fun _ s' hq => wpAny_pure (wpAny_pure hq))
  show wpAny _ X.A (assign (.Name x px) X.env (.ref acc)) _ _ s'
  refine wpAny_assign_Name (store_ok2 I' hN hi0 (.inl hx) (v := .ref acc) rfl (fun s'' I'' sb => ?_) (.inr hx))
  obtain ⟨m, hm⟩ := n
  obtain ⟨a, sb, ha⟩ := sb
  have hne : C ≠ a := by
    rcases ha with rfl | ha
    · exact hL
    · exact Ne.symm (h2 x a ha)
  refine ⟨m, hm.sameBut sb hne, fun h' sb' => ⟨_, H', ?_, q⟩⟩
  exact I''.turned (t' := s''.toks) (fun b o hb e => (sb'.2 b hb).trans e) c hL (.inr h1) h2 h3
end
end L2

set_option Elab.async false
set_option linter.all false
namespace Cf
open PyProof.Rows
structure Tot (n : Nat) (lt : Nat → Nat → Bool) : Prop where
  irr : ∀ i, lt i i = false
  tr : ∀ i j k, lt i j = true → lt j k = true → lt i k = true
  tot : ∀ i j, i < n → j < n → i ≠ j → lt i j = true ∨ lt j i = true
noncomputable abbrev gp (p : Array Nat) (i : Nat) : Nat := p.getD i 0
theorem gp_eq (p : Array Nat) (i : Nat) : gp p i = (p[i]?).getD 0 := by simp [gp, Array.getD_eq_getD_getElem?]
structure Num (n : Nat) (p : Array Nat) : Prop where
  size : p.size = n
  perm : p.Perm (List.range n).toArray
theorem Num.lt {n : Nat} {p : Array Nat} (h : Num n p) {i : Nat} (hn : 0 < n) : gp p i < n := by
  rw [gp_eq]
  cases e : p[i]? with
  | none => exact hn
  | some x =>
    have : x ∈ p := Array.mem_of_getElem? e
    have : x ∈ (List.range n).toArray := h.perm.mem_iff.mp this
    simpa using this
theorem Num.inj {n : Nat} {p : Array Nat} (h : Num n p) {i j : Nat} (hi : i < n) (hj : j < n) (hij : i ≠ j) : gp p i ≠ gp p j := by
  have nd : p.toList.Nodup := by
    have h1 : p.toList.Perm (List.range n) := by simpa using h.perm.toList
    exact h1.nodup_iff.mpr List.nodup_range
  have hs := h.size
  rw [gp_eq, gp_eq, Array.getElem?_eq_getElem (by omega), Array.getElem?_eq_getElem (by omega)]
  intro e
  simp only [Option.getD_some] at e
  have := (List.getElem_inj (xs := p.toList) (i := i) (j := j) (h₀ := by simpa using (by omega : i < p.size)) (h₁ := by simpa using (by omega : j < p.size)) nd).mp (by simpa using e)
  exact hij this
noncomputable def Srt (lt : Nat → Nat → Bool) (p : Array Nat) (m : Nat) : Prop := ∀ a b, a < b → b < m → lt (gp p a) (gp p b) = true
noncomputable def Dsc (lt : Nat → Nat → Bool) (p : Array Nat) (m : Nat) : Prop := ∀ a b, a < b → b < m → lt (gp p b) (gp p a) = true
section
variable {n : Nat} {lt : Nat → Nat → Bool} {p : Array Nat}
theorem Srt.more (T : Tot n lt) {m : Nat} (h : Srt lt p m) (h1 : 1 ≤ m) (e : lt (gp p (m - 1)) (gp p m) = true) : Srt lt p (m + 1) := by
  intro a b hab hb
  by_cases q : b = m
  · subst q
    by_cases r : a = b - 1
    · rw [r]; exact e
    · exact T.tr _ _ _ (h a (b - 1) (by omega) (by omega)) e
  · exact h a b hab (by omega)
theorem Dsc.more (T : Tot n lt) {m : Nat} (h : Dsc lt p m) (h1 : 1 ≤ m) (e : lt (gp p m) (gp p (m - 1)) = true) : Dsc lt p (m + 1) := by
  intro a b hab hb
  by_cases q : b = m
  · subst q
    by_cases r : a = b - 1
    · rw [r]; exact e
    · exact T.tr _ _ _ e (h a (b - 1) (by omega) (by omega))
  · exact h a b hab (by omega)
theorem Num.mirror (h : Num n p) (i j d : Nat) : Num n (mirror p i j d) := ⟨by rw [mirror_size]; exact h.size, (mirror_perm p i j d).trans h.perm⟩
theorem Num.bubble (h : Num n p) (k d : Nat) : Num n (bubble p k d) := ⟨by rw [bubble_size]; exact h.size, (bubble_perm p k d).trans h.perm⟩
theorem Dsc.rev (hp : Num n p) {m : Nat} (hm : m ≤ n) (h : Dsc lt p m) : Srt lt (PyProof.Rows.mirror p 0 m ((m - 0) / 2)) m := by
  intro a b hab hb
  have hs := hp.size
  have g : ∀ k, k < m → gp (PyProof.Rows.mirror p 0 m ((m - 0) / 2)) k = gp p (m - 1 - k) := fun k hk => by
    rw [gp_eq, gp_eq, getElem?_mirror_all (by omega) k, if_pos (by omega)]
    congr 2
    rw [Nat.zero_add]
  rw [g a (by omega), g b hb]
  exact h _ _ (Nat.sub_lt_sub_left (by omega) hab) (by omega)
theorem ins_srt (T : Tot n lt) (hp : Num n p) {k l : Nat} (hk : k < n) (hl : l ≤ k) (h : Srt lt p k) (h1 : ∀ i, i < l → lt (gp p i) (gp p k) = true) (h2 : ∀ i, l ≤ i → i < k → lt (gp p k) (gp p i) = true) :
    Srt lt (PyProof.Rows.bubble p k (k - l)) (k + 1) := by
  have hs := hp.size
  have e : k - (k - l) = l := Nat.sub_sub_self hl
  have g : ∀ i, gp (PyProof.Rows.bubble p k (k - l)) i = if i = l then gp p k else if l < i ∧ i ≤ k then gp p (i - 1) else gp p i := fun i => by
    rw [gp_eq, getElem?_bubble (by omega) (k - l) (by omega) i, e]
    split
    · rw [gp_eq]
    · split
      · rw [gp_eq]
      · rw [gp_eq]
  clear e
  intro a b hab hb
  rw [g a, g b]
  by_cases a1 : a = l
  · rw [if_pos a1]
    rw [if_neg (by omega), if_pos (by omega)]
    exact h2 _ (by omega) (by omega)
  · rw [if_neg a1]
    by_cases b1 : b = l
    · rw [if_pos b1, if_neg (by omega)]
      exact h1 _ (by omega)
    · rw [if_neg b1]
      by_cases a2 : l < a ∧ a ≤ k
      · rw [if_pos a2, if_pos (by omega)]
        exact h _ _ (by omega) (by omega)
      · rw [if_neg a2]
        by_cases b2 : l < b ∧ b ≤ k
        · rw [if_pos b2]
          by_cases z : a = b - 1
          · omega
          · exact h _ _ (by omega) (by omega)
        · rw [if_neg b2]
          exact h _ _ (by omega) (by omega)
end
end Cf

set_option Elab.async false
set_option linter.all false
namespace Cf
open PyProof.Rows PySem PySem.W
noncomputable def okT (n : Nat) (lt : Nat → Nat → Bool) {α : Type} (Q : α → Prop) : KasT α → Prop
  | .ret a => Q a
  | .ask i j k => i < n ∧ j < n ∧ okT n lt Q (k (lt i j))
theorem okT_mono {n : Nat} {lt : Nat → Nat → Bool} {α : Type} {Q Q' : α → Prop} (h : ∀ a, Q a → Q' a) : ∀ t : KasT α, okT n lt Q t → okT n lt Q' t
  | .ret a, q => h a q
  | .ask i j k, q => ⟨q.1, q.2.1, okT_mono h (k (lt i j)) q.2.2⟩
theorem okT_bind {n : Nat} {lt : Nat → Nat → Bool} {α β : Type} {Q' : α → Prop} {Q : β → Prop} {f : α → KasT β} (hf : ∀ a, Q' a → okT n lt Q (f a)) : ∀ t : KasT α, okT n lt Q' t → okT n lt Q (t.bind f)
  | .ret a, q => hf a q
  | .ask i j k, q => ⟨q.1, q.2.1, okT_bind hf (k (lt i j)) q.2.2⟩
theorem okT_wp {n : Nat} {lt : Nat → Nat → Bool} {α : Type} {Q : α → Prop} {R : α → Shared → Prop} {cmp : Nat → Nat → (Bool → Shared → Prop) → Shared → Prop} {s : Shared}
    (hc : ∀ i j C, i < n → j < n → C (lt i j) s → cmp i j C s) (hR : ∀ a, Q a → R a s) : ∀ t : KasT α, okT n lt Q t → t.kasWp cmp R s
  | .ret a, q => hR a q
  | .ask i j k, q => hc i j _ q.1 q.2.1 (okT_wp hc hR (k (lt i j)) q.2.2)
section
variable {n : Nat} {lt : Nat → Nat → Bool}
theorem asc_ok (T : Tot n lt) (hn : 0 < n) {p : Array Nat} (hp : Num n p) : ∀ f m, 1 ≤ m → m + f ≤ n → Srt lt p m →
    okT n lt (fun r => m ≤ r ∧ r ≤ m + f ∧ Srt lt p r ∧ (r < m + f → lt (gp p r) (gp p (r - 1)) = true)) (kas_asc p f m)
  | 0, m, _, _, h => ⟨Nat.le_refl _, Nat.le_refl _, h, fun z => absurd z (Nat.lt_irrefl _)⟩
  | f + 1, m, h1, hm, h => by
    refine ⟨hp.lt hn, hp.lt hn, ?_⟩
    cases e : lt (gp p m) (gp p (m - 1)) with
    | true =>
      show okT n lt _ (if true = true then KasT.ret m else kas_asc p f (m + 1))
      rw [if_pos rfl]
      exact ⟨Nat.le_refl _, by omega, h, fun _ => e⟩
    | false =>
      show okT n lt _ (if false = true then KasT.ret m else kas_asc p f (m + 1))
      rw [if_neg (by simp)]
      have e' : lt (gp p (m - 1)) (gp p m) = true := by
        rcases T.tot (gp p (m - 1)) (gp p m) (hp.lt hn) (hp.lt hn) (hp.inj (by omega) (by omega) (by omega)) with z | z
        · exact z
        · rw [e] at z; cases z
      refine okT_mono (fun r hr => ?_) _ (asc_ok T hn hp f (m + 1) (by omega) (by omega) (h.more T h1 e'))
      exact ⟨by omega, by omega, hr.2.2.1, fun z => hr.2.2.2 (by omega)⟩
theorem desc_ok (T : Tot n lt) (hn : 0 < n) {p : Array Nat} (hp : Num n p) : ∀ f m, 1 ≤ m → m + f ≤ n → Dsc lt p m →
    okT n lt (fun r => r.1 = p ∧ r.2.2 = 0 ∧ m ≤ r.2.1 ∧ r.2.1 ≤ m + f ∧ Dsc lt p r.2.1) (kas_desc f p m 0)
  | 0, m, _, _, h => ⟨rfl, rfl, Nat.le_refl _, Nat.le_refl _, h⟩
  | f + 1, m, h1, hm, h => by
    refine ⟨hp.lt hn, hp.lt hn, ?_⟩
    cases e : lt (gp p m) (gp p (m - 1)) with
    | true =>
      show okT n lt _ (if true = true then (if 0 > 0 then kas_desc f (kas_rev p (m - (0 + 1)) m) (m + 1) 0 else kas_desc f p (m + 1) 0) else _)
      rw [if_pos rfl, if_neg (by omega)]
      refine okT_mono (fun r hr => ?_) _ (desc_ok T hn hp f (m + 1) (by omega) (by omega) (h.more T h1 e))
      exact ⟨hr.1, hr.2.1, by omega, by omega, hr.2.2.2.2⟩
    | false =>
      show okT n lt _ (if false = true then (if 0 > 0 then kas_desc f (kas_rev p (m - (0 + 1)) m) (m + 1) 0 else kas_desc f p (m + 1) 0) else _)
      rw [if_neg (by simp)]
      refine ⟨hp.lt hn, hp.lt hn, ?_⟩
      have e' : lt (gp p (m - 1)) (gp p m) = true := by
        rcases T.tot (gp p (m - 1)) (gp p m) (hp.lt hn) (hp.lt hn) (hp.inj (by omega) (by omega) (by omega)) with z | z
        · exact z
        · rw [e] at z; cases z
      show okT n lt _ (if lt (gp p (m - 1)) (gp p m) = true then KasT.ret (p, m, 0) else _)
      rw [if_pos e']
      exact ⟨rfl, rfl, Nat.le_refl _, Nat.le_add_right _ _, h⟩
theorem count_ok (T : Tot n lt) (hn : 0 < n) {p : Array Nat} (hp : Num n p) : okT n lt (fun r => Num n r.2 ∧ 1 ≤ r.1 ∧ r.1 ≤ n ∧ Srt lt r.2 r.1) (kas_count n p) := by
  unfold kas_count
  refine okT_bind (fun m hm => ?_) _ (asc_ok T hn hp (n - 1) 1 (Nat.le_refl _) (by omega) (fun a b h1 h2 => by omega))
  obtain ⟨m1, m2, m3, m4⟩ := hm
  by_cases e : (m == n) = true
  · rw [if_pos e]
    exact ⟨hp, m1, by omega, m3⟩
  · rw [if_neg e]
    have e' : m ≠ n := by simpa using e
    by_cases g : m > 1
    · rw [if_pos g]
      refine ⟨hp.lt hn, hp.lt hn, ?_⟩
      have z : lt (gp p 0) (gp p (m - 1)) = true := m3 0 (m - 1) (by omega) (by omega)
      show okT n lt _ (if lt (gp p 0) (gp p (m - 1)) = true then KasT.ret (m, p) else _)
      rw [if_pos z]
      exact ⟨hp, m1, by omega, m3⟩
    · rw [if_neg g]
      have em : m = 1 := by omega
      subst em
      have z : lt (gp p 1) (gp p 0) = true := m4 (by omega)
      unfold kas_descPart
      have d2 : Dsc lt p (1 + 1) := fun a b h1 h2 => by
        have ea : a = 0 := by omega
        have eb : b = 1 := by omega
        rw [ea, eb]
        exact z
      refine okT_bind (fun r hr => ?_) _ (desc_ok T hn hp (n - (1 + 1)) (1 + 1) (by omega) (by omega) d2)
      obtain ⟨r1, r2, r3, r4, r5⟩ := hr
      rw [if_neg (by rw [r2]; omega), r1]
      unfold kas_tail3
      have hr' : Num n (kas_rev p 0 r.2.1) := hp.mirror _ _ _
      have hrn : r.2.1 ≤ n := by omega
      have ern : r.2.1 + (n - r.2.1) = n := Nat.add_sub_cancel' hrn
      refine okT_bind (fun q hq => ?_) _ (asc_ok T hn hr' (n - r.2.1) r.2.1 (by omega) (Nat.le_of_eq ern) (Dsc.rev hp hrn r5))
      rw [ern] at hq
      exact ⟨hr', Nat.le_trans (by omega) hq.1, hq.2.1, hq.2.2.1⟩
theorem place_ok (T : Tot n lt) (hn : 0 < n) {p : Array Nat} (hp : Num n p) {k : Nat} (hk : k < n) (hs : Srt lt p k) : ∀ f l r, l ≤ r → r ≤ k → r - l ≤ f → (∀ i, i < l → lt (gp p i) (gp p k) = true) → (∀ i, r ≤ i → i < k → lt (gp p k) (gp p i) = true) →
    okT n lt (fun q => q ≤ k ∧ (∀ i, i < q → lt (gp p i) (gp p k) = true) ∧ ∀ i, q ≤ i → i < k → lt (gp p k) (gp p i) = true) (kas_place p k f l r)
  | 0, l, r, h1, h2, h3, a, b => ⟨by omega, a, fun i hi hik => b i (by omega) hik⟩
  | f + 1, l, r, h1, h2, h3, a, b => by
    unfold kas_place
    by_cases g : l ≥ r
    · rw [if_pos g]
      exact ⟨by omega, a, fun i hi hik => b i (by omega) hik⟩
    · rw [if_neg g]
      refine ⟨hp.lt hn, hp.lt hn, ?_⟩
      have hm1 : l ≤ (l + r) / 2 := by omega
      have hm2 : (l + r) / 2 < r := by omega
      generalize (l + r) / 2 = m at hm1 hm2 ⊢
      cases e : lt (gp p k) (gp p m) with
      | true =>
        show okT n lt _ (if true = true then kas_place p k f l m else kas_place p k f (m + 1) r)
        rw [if_pos rfl]
        refine place_ok T hn hp hk hs f l m hm1 (by omega) (by omega) a fun i hi hik => ?_
        by_cases q : i = m
        · rw [q]; exact e
        · exact T.tr _ _ _ e (hs m i (by omega) hik)
      | false =>
        show okT n lt _ (if false = true then kas_place p k f l m else kas_place p k f (m + 1) r)
        rw [if_neg (by simp)]
        have e' : lt (gp p m) (gp p k) = true := by
          rcases T.tot (gp p m) (gp p k) (hp.lt hn) (hp.lt hn) (hp.inj (by omega) hk (by omega)) with z | z
          · exact z
          · rw [e] at z; cases z
        refine place_ok T hn hp hk hs f (m + 1) r (by omega) h2 (by omega) (fun i hi => ?_) b
        by_cases q : i = m
        · rw [q]; exact e'
        · exact T.tr _ _ _ (hs i m (by omega) (by omega)) e'
theorem bin_ok (T : Tot n lt) (hn : 0 < n) : ∀ (f : Nat) (p : Array Nat) (k : Nat), Num n p → k + f = n → Srt lt p k → okT n lt (fun q => Num n q ∧ Srt lt q n) (kas_bin f p k)
  | 0, p, k, hp, hk, hs => ⟨hp, by rw [← hk]; exact hs⟩
  | f + 1, p, k, hp, hk, hs => by
    unfold kas_bin
    refine okT_bind (fun l hl => ?_) _ (place_ok T hn hp (by omega) hs k 0 k (Nat.zero_le _) (Nat.le_refl _) (by omega) (fun i hi => by omega) (fun i h1 h2 => by omega))
    exact bin_ok T hn f _ (k + 1) (hp.bubble _ _) (by omega) (ins_srt T hp (by omega) hl.1 hs hl.2.1 hl.2.2)
theorem sort_ok (T : Tot n lt) (hn : 0 < n) : okT n lt (fun q => Num n q ∧ Srt lt q n) (kas_sort n) := by
  unfold kas_sort
  have h0 : Num n (List.toArray (List.range n)) := ⟨by simp, Array.Perm.refl _⟩
  refine okT_bind (fun r hr => ?_) _ (count_ok T hn h0)
  obtain ⟨r1, r2, r3, r4⟩ := hr
  by_cases g : r.1 < n
  · rw [if_pos g]
    have e : max r.1 1 = r.1 := by omega
    rw [e]
    exact bin_ok T hn _ _ _ r1 (by omega) r4
  · rw [if_neg g]
    have e : r.1 = n := by omega
    exact ⟨r1, by rw [← e]; exact r4⟩
end
end Cf

set_option Elab.async false
set_option linter.all false
set_option maxRecDepth 100000
namespace L2
open PySem PySem.Spec PyProof.Rows

mutual
inductive Rep (H : Hp) : V → PyData → Prop
  | non : Rep H .non .none
  | bl (b : Bool) : Rep H (.bl b) (.bool b)
  | int (i : Int) : Rep H (.int i) (.int i)
  | lst {a : Addr} {xs : List V} {ds : List PyData} : H a = some (.lst xs) → Reps H xs ds → Rep H (.ref a) (.list ds)
  | tup {a : Addr} {xs : List V} {ds : List PyData} : H a = some (.tup xs) → Reps H xs ds → Rep H (.ref a) (.tuple ds)
inductive Reps (H : Hp) : List V → List PyData → Prop
  | nil : Reps H [] []
  | cons {v : V} {vs : List V} {d : PyData} {ds : List PyData} : Rep H v d → Reps H vs ds → Reps H (v :: vs) (d :: ds)
end
mutual
theorem Rep.reads {P : Program} {w : World} {H : Hp} {h : Heap} (ok : HOk P w H h) : ∀ {v : V} {d : PyData} {u : Value}, Rep H v d → RelV v u → ∃ as, Reads h u d as
  | _, _, _, .non, r => by cases r; exact ⟨_, .none⟩
  | _, _, _, .bl b, r => by cases r; exact ⟨_, .bool b⟩
  | _, _, _, .int i, r => by obtain ⟨t, rfl⟩ := r; exact ⟨_, .int i t⟩
  | _, _, _, .lst e q, r => by
    cases r
    obtain ⟨_, its, n, rv, e'⟩ := ok _ _ e
    obtain ⟨as, ra⟩ := Reps.reads ok q rv
    exact ⟨_, .list e' rfl rfl (by simpa using ra)⟩
  | _, _, _, .tup e q, r => by
    cases r
    obtain ⟨_, its, rv, o, e', c, n, d⟩ := ok _ _ e
    obtain ⟨as, ra⟩ := Reps.reads ok q rv
    exact ⟨_, .tuple e' c d (by simpa using ra)⟩
theorem Reps.reads {P : Program} {w : World} {H : Hp} {h : Heap} (ok : HOk P w H h) : ∀ {vs : List V} {ds : List PyData} {us : List Value}, Reps H vs ds → Vals vs us → ∃ as, ReadsAll h us ds as
  | _, _, _, .nil, .nil => ⟨_, .nil⟩
  | _, _, _, .cons a r, .cons x y => by
    obtain ⟨as, ra⟩ := Rep.reads ok a x
    obtain ⟨bs, rb⟩ := Reps.reads ok r y
    exact ⟨_, .cons ra rb⟩
end
theorem Reps.ints {H : Hp} : ∀ ns : List Int, Reps H (ns.map V.int) (ns.map PyData.int)
  | [] => .nil
  | n :: r => .cons (.int n) (Reps.ints r)
theorem Reps.bls {H : Hp} : ∀ ns : List Bool, Reps H (ns.map V.bl) (ns.map PyData.bool)
  | [] => .nil
  | n :: r => .cons (.bl n) (Reps.bls r)
section
variable {X : Cx} {a b c d : Expr} {ta tb tc td : TE} {pos : Pos}
theorem op_eqD (hu : X.A.units + 64 < cLine) : OpR X (compareOp .Eq) (fun x y H Q => ∃ d e, Rep H x d ∧ Rep H y e ∧ SeqAt.shaped d = true ∧ SeqAt.shaped e = true ∧ Q (.bl (PyData.eqv d e)) H) := by
  intro pins s σ H x y v u Q I rx ry h
  obtain ⟨d, e, hd, he, sd, se, q⟩ := h
  obtain ⟨as, r1⟩ := hd.reads I.hok rx
  obtain ⟨bs, r2⟩ := he.reads I.hok ry
  exact eq_dataH r1 r2 sd se hu ⟨.bl _, H, I, rfl, q⟩
theorem op_neD (hu : X.A.units + 64 < cLine) : OpR X (compareOp .NotEq) (fun x y H Q => ∃ d e, Rep H x d ∧ Rep H y e ∧ SeqAt.shaped d = true ∧ SeqAt.shaped e = true ∧ Q (.bl (!PyData.eqv d e)) H) := by
  intro pins s σ H x y v u Q I rx ry h
  obtain ⟨d, e, hd, he, sd, se, q⟩ := h
  obtain ⟨as, r1⟩ := hd.reads I.hok rx
  obtain ⟨bs, r2⟩ := he.reads I.hok ry
  exact ne_dataH r1 r2 sd se hu ⟨.bl _, H, I, rfl, q⟩
theorem op_inD (hu : X.A.units + 65 < cLine) : OpR X (compareOp .In) (fun x y H Q => ∃ d ds, Rep H x d ∧ Rep H y (.list ds) ∧ SeqAt.shaped d = true ∧ SeqAt.shaped (.list ds) = true ∧ Q (.bl (ds.any fun z => PyData.eqv z d)) H) := by
  intro pins s σ H x y v u Q I rx ry h
  obtain ⟨d, ds, hd, he, sd, se, q⟩ := h
  obtain ⟨as, r1⟩ := hd.reads I.hok rx
  obtain ⟨bs, r2⟩ := he.reads I.hok ry
  exact SeqAt.in_list_reads r2 r1 (SeqAt.canLay_of_shaped se) (SeqAt.canLay_of_shaped sd) (room_in_shaped sd hu) ⟨.bl _, H, I, rfl, q⟩
noncomputable def tChain3 (r r' r'' : R2) (ta tb tc td : TE) : TE := fun σ H Q => ta σ H fun x H1 => tb σ H1 fun y H2 => r x y H2 fun z H3 => ∃ k, z = .bl k ∧
  (if k = true then tc σ H3 fun w' H4 => r' y w' H4 (fun z' H5 => ∃ k', z' = .bl k' ∧ (if k' = true then td σ H5 fun w'' H6 => r'' w' w'' H6 Q else Q (.bl false) H5)) else Q (.bl false) H3)
theorem pe_chain3 {op op' op'' : CmpOp} {r r' r'' : R2} (ho : OpR X (compareOp op) r) (ho' : OpR X (compareOp op') r') (ho'' : OpR X (compareOp op'') r'') (ha : PE X a ta) (hb : PE X b tb) (hc : PE X c tc) (hd : PE X d td)
    (hm : lastMarks [op, op', op''] [b, c, d] = false := by with_unfolding_all rfl) : PE X (.Compare a [op, op', op''] [b, c, d] pos) (tChain3 r r' r'' ta tb tc td) := by
  intro pins s σ H Q I h
  refine Compare_chain (thn (ha pins s σ H _ I h) fun v s1 ⟨x, H1, I1, r1, q1⟩ => chain_link (thn (hb pins s1 σ H1 _ I1 q1) fun u s2 ⟨y, H2, I2, r2, q2⟩ =>
    thn (ho pins s2 σ H2 x y v u _ I2 r1 r2 q2) fun d s3 ⟨z, H3, I3, r3, k, e, q3⟩ => ?_)) hm
  subst e
  cases r3
  refine wpAny_truthy_bool ?_
  cases k with
  | false => exact ite_ff ⟨.bl false, H3, I3, rfl, q3⟩
  | true =>
    refine ite_tt (chain_link (thn (hc pins s3 σ H3 _ I3 q3) fun w' s4 ⟨z', H4, I4, r4, q4⟩ => thn (ho' pins s4 σ H4 y z' u w' _ I4 r2 r4 q4) fun d' s5 hq_ => ?_))
    obtain ⟨z2, H5, I5, r5, k2, e2, q5⟩ := hq_
    subst e2
    cases r5
    refine wpAny_truthy_bool ?_
    cases k2 with
    | false => exact ite_ff ⟨.bl false, H5, I5, rfl, q5⟩
    | true => exact ite_tt (chain_last (thn (hd pins s5 σ H5 _ I5 q5) fun w'' s6 ⟨z3, H6, I6, r6, q6⟩ => ho'' pins s6 σ H6 z' z3 w' w'' Q I6 r4 r6 q6))
noncomputable def rCatT0 (K : PySem.W.Frag) : R2 := fun x y H Q => ∃ a b ys, x = .ref a ∧ y = .ref b ∧ SqT K H a [] ∧ SqT K H b ys ∧ Q (.ref b) H
theorem op_catT0 : OpR X (binaryOp .Add) (rCatT0 X.K) := by
  intro pins s σ H x y v u Q I rx ry h
  obtain ⟨a, b, ys, rfl, rfl, ha, hb, q⟩ := h
  cases rx
  cases ry
  obtain ⟨its, r1, p1, _⟩ := I.tuple ha
  obtain ⟨its2, r2, p2, _⟩ := I.tuple hb
  have e0 : its = [] := r1.nil_iff.mpr rfl
  subst e0
  obtain ⟨⟨cls, dd, data, sl⟩, ho, hc, n, hd⟩ := id p1
  obtain ⟨⟨cls2, dd2, data2, sl2⟩, ho2, hc2, n2, hd2⟩ := id p2
  simp only at hc hd hc2 hd2
  subst hc hd hc2 hd2
  exact concat_meets ⟨_, ho, rfl⟩ ⟨_, ho2, rfl⟩ noFill_tuple_add seq_tuple_add PySem.F.slot_tuple_add PySem.F.entry_tuple_add (PySem.F.args_tuple_add_2 _ _)
    (tuple_addW0 a b _ _ n n2 dd dd2 sl sl2 rfl) ⟨ho, ho2, ⟨.ref b, H, I, rfl, q⟩⟩

theorem bools_truth {prog : Program} {w : World} {A : Around} {bs : List Bool} {its : List Value} (r : Vals (bs.map V.bl) its) : TruthOf prog w A (fun i v => its.toArray[i]? = some v) (fun i => bs.getD i false) := by
  intro i v s Q E hP hQ
  have hP' : its[i]? = some v := by simpa using hP
  have hl := r.length
  have hi : i < its.length := (List.getElem?_eq_some_iff.mp hP').1
  have hb : i < bs.length := by simpa [← hl] using hi
  have hx : (bs.map V.bl)[i]? = some (.bl bs[i]) := by simp [hb]
  obtain ⟨u, hu, ru⟩ := r.get hx
  rw [hP'] at hu
  cases hu
  cases ru
  refine wpAny_truthy_bool ?_
  have e : bs.getD i false = bs[i] := by simp [hb]
  have hQ' : Q (bs.getD i false) s := hQ
  rw [e] at hQ'
  exact hQ'
theorem range_all (bs : List Bool) : (List.range bs.length).all (fun i => bs.getD i false) = bs.all id := by
  rw [Bool.eq_iff_iff, List.all_eq_true, List.all_eq_true]
  constructor
  · intro h x hx
    obtain ⟨i, hi, rfl⟩ := List.getElem_of_mem hx
    have := h i (List.mem_range.mpr hi)
    simpa [hi] using this
  · intro h i hi
    have hi' := List.mem_range.mp hi
    have := h bs[i] (List.getElem_mem hi')
    simpa [hi'] using this
theorem range_any (bs : List Bool) : (List.range bs.length).any (fun i => bs.getD i false) = bs.any id := by
  rw [Bool.eq_iff_iff, List.any_eq_true, List.any_eq_true]
  constructor
  · rintro ⟨i, hi, h⟩
    have hi' := List.mem_range.mp hi
    refine ⟨bs[i], List.getElem_mem hi', ?_⟩
    simpa [hi'] using h
  · rintro ⟨x, hx, h⟩
    obtain ⟨i, hi, rfl⟩ := List.getElem_of_mem hx
    exact ⟨i, List.mem_range.mpr hi, by simpa [hi] using h⟩
theorem call_all (hc : X.calm = true) : CallR X (.builtin "all") (fun xs H Q => ∃ (a : Addr) (bs : List Bool), xs = [.ref a] ∧ H a = some (.lst (bs.map V.bl)) ∧ Q (.bl (bs.all id)) H) := by
  intro pins s σ H xs us Q I r h
  obtain ⟨a, bs, rfl, ha, q⟩ := h
  obtain ⟨u, rfl, ru⟩ := vals1 r
  cases ru
  obtain ⟨its, n, rv, e, _⟩ := I.lst ha
  have hl : s.heap.IsList a its.toArray := ⟨_, e, rfl, n, rfl⟩
  have hz : its.length = bs.length := by have := rv.length; simpa using this.symm
  refine call_all_walk (wpAny_pyIter_list hl ?_)
  refine ⟨s.heap.objs.size, _, _, _, _, _, fun i => bs.getD i false, rfl, Walks.list (A := X.A.in1) (I.ok.hd hc) s.heap.objs.size a (Nat.ne_of_lt (Heap.lt_size e)) its.toArray, ⟨⟨_, Heap.get?_push_size _ rfl, rfl, rfl⟩, hl.push _⟩, bools_truth rv, fun h' tk hk => ?_⟩
  refine ⟨.bl (bs.all id), H, ?_, ?_, q⟩
  · have I' : Inv X pins σ H { s with heap := h', toks := tk } := I.kept (t' := tk) fun b o eb => hk b o (by simpa using Nat.ne_of_lt (Heap.lt_size eb)) (Heap.get?_push_of_some _ eb)
    exact I'
  · show Value.bool _ = Value.bool _
    rw [List.size_toArray, hz, range_all]
theorem call_any (hc : X.calm = true) : CallR X (.builtin "any") (fun xs H Q => ∃ (a : Addr) (bs : List Bool), xs = [.ref a] ∧ H a = some (.lst (bs.map V.bl)) ∧ Q (.bl (bs.any id)) H) := by
  intro pins s σ H xs us Q I r h
  obtain ⟨a, bs, rfl, ha, q⟩ := h
  obtain ⟨u, rfl, ru⟩ := vals1 r
  cases ru
  obtain ⟨its, n, rv, e, _⟩ := I.lst ha
  have hl : s.heap.IsList a its.toArray := ⟨_, e, rfl, n, rfl⟩
  have hz : its.length = bs.length := by have := rv.length; simpa using this.symm
  refine call_any_walk (wpAny_pyIter_list hl ?_)
  refine ⟨s.heap.objs.size, _, _, _, _, _, fun i => bs.getD i false, rfl, Walks.list (A := X.A.in1) (I.ok.hd hc) s.heap.objs.size a (Nat.ne_of_lt (Heap.lt_size e)) its.toArray, ⟨⟨_, Heap.get?_push_size _ rfl, rfl, rfl⟩, hl.push _⟩, bools_truth rv, fun h' tk hk => ?_⟩
  refine ⟨.bl (bs.any id), H, ?_, ?_, q⟩
  · have I' : Inv X pins σ H { s with heap := h', toks := tk } := I.kept (t' := tk) fun b o eb => hk b o (by simpa using Nat.ne_of_lt (Heap.lt_size eb)) (Heap.get?_push_of_some _ eb)
    exact I'
  · show Value.bool _ = Value.bool _
    rw [List.size_toArray, hz, range_any]
theorem call_maxL (hc : X.calm = true) : CallR X (.builtin "max") (fun xs H Q => ∃ (a : Addr) (ns : List Int), xs = [.ref a] ∧ H a = some (.lst (ns.map V.int)) ∧ ns ≠ [] ∧ ∀ M, M ∈ ns → (∀ z ∈ ns, z ≤ M) → Q (.int M) H) := by
  intro pins s σ H xs us Q I r h
  obtain ⟨a, ns, rfl, ha, hne, q⟩ := h
  obtain ⟨u, rfl, ru⟩ := vals1 r
  cases ru
  obtain ⟨its, n, rv, e, _⟩ := I.lst ha
  have hi := intsAre_of rv
  obtain ⟨ys, ey⟩ := hi.allInts.items
  have hns : ns = ys.toList.map (·.1) := by rw [← hi.numsOf, ← nums_intItems, ← ey]
  have hlen : 0 < ns.length := by cases ns with | nil => exact absurd rfl hne | cons _ _ => simp
  have hsz : 0 < ys.size := by rw [hns, List.length_map, Array.length_toList] at hlen; exact hlen
  have hl : s.heap.IsList a (intItems ys) := by rw [← ey]; exact ⟨_, e, rfl, n, rfl⟩
  refine max_intList (I.ok.hd hc) hl hsz fun v h' tk hv hk => ?_
  obtain ⟨t, rfl⟩ := intItems_at hv
  obtain ⟨h1, h2⟩ := argBest_gt (numAt ys) (ys.size - 1)
  refine ⟨.int _, H, I.kept (t' := tk) hk, ⟨t, rfl⟩, q _ ?_ fun z hz => ?_⟩
  · rw [hns, numAt_eq]; exact getD_mem (by rw [List.length_map, Array.length_toList]; omega)
  · rw [hns] at hz
    obtain ⟨j, hj, rfl⟩ := mem_getD hz
    rw [List.length_map, Array.length_toList] at hj
    rw [← numAt_eq]; exact h2 j (by omega)
end
end L2

set_option Elab.async false
set_option linter.all false
set_option maxRecDepth 100000
namespace L2
open PySem PySem.Spec PyProof.Rows
noncomputable def RawD (h : Heap) (d : Addr) (es : Array DictEntry) (ep : Nat) : Prop := ∃ o, h.get? d = some o ∧ o.cls = .type "dict" ∧ o.data = .dict es ep
theorem RawD.at {h h' : Heap} {d : Addr} {es : Array DictEntry} {ep : Nat} (x : RawD h d es ep) (k : ∀ o, h.get? d = some o → h'.get? d = some o) : RawD h' d es ep := let ⟨o, e, r⟩ := x; ⟨o, k o e, r⟩
theorem RawD.lt {h : Heap} {d : Addr} {es : Array DictEntry} {ep : Nat} (x : RawD h d es ep) : d < h.objs.size := let ⟨_, e, _⟩ := x; Heap.lt_size e
section
variable {prog : Program} {w : World} {A : Around} {E : Value → Shared → Prop} {s : Shared} {d it : Addr} {es : Array DictEntry} {ep i : Nat}
theorem RawD.type (x : RawD s.heap d es ep) : s.TypeIs (.ref d) "dict" := let ⟨o, e, c, _⟩ := x; ⟨o, e, c⟩
theorem raw_iter {Q : Value → Shared → Prop} (lo : (d == sysModules) = false) (x : RawD s.heap d es ep)
    (hQ : Q (.ref s.heap.objs.size) { s with heap := s.heap.push { cls := .type "dict_keyiterator", data := .fields #[.ref d, .int 0 0, .int es.size 0, .int ep 0] } }) : wpAny (model prog w) A (pyIter (.ref d)) Q E s := by
  obtain ⟨o, eo, _, ed⟩ := id x
  refine wpAny_pyIter_slot x.type F.slot_dict_iter (wpAny_call_entry F.slot_dict_iter x.type F.entry_dict_iter ?_ (F.args_dict_iter_1 _))
  simp only [Builtin.«dict.__iter__», Builtin.Dict.dictSlotNone]
  refine wpAny_bind (wpAny_bind (wpAny_notOrdered_dict x.type (wpAny_pure ?_)))
  refine wpAny_bind (m := Builtin.Dict.addrOf (Value.ref d)) (wpAny_pure ?_)
  simp only [Builtin.Dict.showsAll]
  rw [if_neg (show ¬ (d == sysModules) = true by rw [lo]; simp)]
  refine wpAny_bind (wpAny_pure (wpAny_bind (wpAny_dictEntries eo ed (wpAny_bind (wpAny_dictEpoch eo ed ?_)))))
  refine wpAny_bind (wpAny_newObj_type (wpAny_pure (L2.ea rfl ⟨"dict_keyiterator", _, ⟨_, Heap.get?_push_size _ rfl, rfl⟩, F.slot_dict_keyiterator_next.lookup, ?_⟩)))
  simpa [rawInt] using hQ
theorem raw_item {Q : Option Value → Shared → Prop} (ht : s.heap.IsKeyIter it d i es.size ep) (x : RawD s.heap d es ep) (hi : i < es.size)
    (hQ : ∀ h', h'.IsKeyIter it d (i + 1) es.size ep → Heap.SameBut it s.heap h' → Q (some es[i].key) { s with heap := h' }) : wpAny (model prog w) A (pyNext (.ref it)) Q E s := by
  obtain ⟨oi, ei, ci, di⟩ := id ht
  obtain ⟨o, eo, _, ed⟩ := id x
  unfold pyNext
  refine wpAny_bind (wpAny_attempt (wpAny_callSpecial?_slot (name := Str.ofString "__next__") ht.typeIs F.slot_dict_keyiterator_next
    (wpAny_call_entry F.slot_dict_keyiterator_next ht.typeIs F.entry_dict_keyiterator_next ?_ (F.args_dict_keyiterator_next_1 _))))
  refine wpAny_bind (wpAny_pure (wpAny_bind (wpAny_bind ?_)))
  refine wpAny_bind (wpAny_typeNameOfWhole_keyiter ht.typeIs (wpAny_pure (wpAny_bind (wpAny_fieldsOf ei di ?_))))
  have own : Builtin.Dict_items.ownsTuple "dict_keyiterator" = false := by decide
  simp only [own, Bool.false_eq_true, if_false]
  show wpAny _ _ (if (Value.ref d == Value.none) = true then _ else _) _ _ s
  rw [if_neg (show ¬ ((Value.ref d == Value.none) = true) from Bool.false_ne_true)]
  refine wpAny_bind (wpAny_pure (wpAny_bind (wpAny_dictEntries eo ed ?_)))
  rw [if_neg (by simp)]
  refine wpAny_bind (wpAny_pure (wpAny_bind (wpAny_dictEpoch eo ed ?_)))
  rw [if_neg (by simp)]
  refine wpAny_pure ?_
  simp only [show ¬ ((i : Int) < 0) by omega, if_false, Int.toNat_natCast, Array.getElem?_eq_getElem hi]
  refine wpAny_bind (wpAny_bind (wpAny_typeNameOfWhole_keyiter ht.typeIs (wpAny_pure (wpAny_bind (wpAny_isOneOf_keyiter ht.typeIs ?_)))))
  show wpAny _ _ (setField (.ref it) 1 (rawInt ((i : Int) + 1)) >>= _) _ _ s
  refine wpAny_bind (wpAny_setField ei di (by simp) ?_)
  have ht' : (s.heap.update it (Obj.mapFields (·.setIfInBounds 1 (rawInt ((i : Int) + 1))))).IsKeyIter it d (i + 1) es.size ep :=
    ⟨_, Heap.get?_update_self _ ei (Obj.isFreed_of_fields (Obj.data_mapFields di _)), (Obj.cls_mapFields ..).trans ci, by rw [Obj.data_mapFields di]; simp [rawInt]⟩
  refine wpAny_bind (wpAny_holding (wpAny_bind (wpAny_isOneOf_keyiter (s := { s with heap := s.heap.update it (Obj.mapFields (·.setIfInBounds 1 (rawInt ((i : Int) + 1)))) }) ht'.typeIs ?_)))
  show wpAny _ _ (pure es[i].key) _ _ _
  exact wpAny_pure (wpAny_pure (L2.ea rfl (wpAny_pure (hQ _ ht' (Heap.SameBut.update ..)))))
theorem raw_end {Q : Option Value → Shared → Prop} (hh : A.handled = none) (ht : s.heap.IsKeyIter it d i es.size ep) (x : RawD s.heap d es ep) (hi : es.size ≤ i)
    (hQ : ∀ h', Heap.ExtBut it s.heap h' → Q none { s with heap := h' }) : wpAny (model prog w) A (pyNext (.ref it)) Q E s := by
  obtain ⟨oi, ei, ci, di⟩ := id ht
  obtain ⟨o, eo, _, ed⟩ := id x
  unfold pyNext
  refine wpAny_bind (wpAny_attempt (wpAny_callSpecial?_slot (name := Str.ofString "__next__") ht.typeIs F.slot_dict_keyiterator_next
    (wpAny_call_entry F.slot_dict_keyiterator_next ht.typeIs F.entry_dict_keyiterator_next ?_ (F.args_dict_keyiterator_next_1 _))))
  refine wpAny_bind (wpAny_pure (wpAny_bind (wpAny_bind ?_)))
  refine wpAny_bind (wpAny_typeNameOfWhole_keyiter ht.typeIs (wpAny_pure (wpAny_bind (wpAny_fieldsOf ei di ?_))))
  have own : Builtin.Dict_items.ownsTuple "dict_keyiterator" = false := by decide
  simp only [own, Bool.false_eq_true, if_false]
  show wpAny _ _ (if (Value.ref d == Value.none) = true then _ else _) _ _ s
  rw [if_neg (show ¬ ((Value.ref d == Value.none) = true) from Bool.false_ne_true)]
  refine wpAny_bind (wpAny_pure (wpAny_bind (wpAny_dictEntries eo ed ?_)))
  rw [if_neg (by simp)]
  refine wpAny_bind (wpAny_pure (wpAny_bind (wpAny_dictEpoch eo ed ?_)))
  rw [if_neg (by simp)]
  refine wpAny_pure ?_
  simp only [show ¬ ((i : Int) < 0) by omega, if_false, Int.toNat_natCast, Array.getElem?_eq_none hi]
  refine wpAny_bind (wpAny_bind (wpAny_typeNameOfWhole_keyiter ht.typeIs (wpAny_pure ?_)))
  show wpAny _ _ (setField (.ref it) 0 .none >>= _) _ _ s
  refine wpAny_bind (wpAny_setField ei di (by simp) ?_)
  show wpAny _ _ (newExc (.type "StopIteration") [] >>= _) _ _ _
  refine wpAny_bind ?_
  simp only [newExc, newTuple]
  refine wpAny_bind (wpAny_newObj_type ?_ (by size_fits))
  refine wpAny_bind (m := firstArgMember _ _) (wpAny_of_eq (a := Value.none) (by first | rfl | (simp only [firstArgMember]; rfl)) (wpAny_newObj_type ?_ (by size_fits)))
  simp only [raiseNew]
  refine wpAny_bind (wpAny_handled ?_)
  rw [show A.in1.handled = none from hh]
  refine wpAny_bind (wpAny_pure (wpAny_throw ?_))
  refine wpAny_bind (wpAny_isInstance (T := "StopIteration") (b := true) ⟨_, Heap.get?_push_size _ rfl, rfl⟩ isSubtype_stop ?_)
  exact wpAny_pure (hQ _ (((Heap.SameBut.update ..).extBut.push _).push _))
theorem Walks.rawKeys (hh : A.handled = none) (I : Addr) (hne : d ≠ I) : Walks prog w A I [I, d] [I] es.size (fun j v => ∃ h : j < es.size, v = es[j].key) (fun j h => h.IsKeyIter I d j es.size ep ∧ RawD h d es ep) where
  sub := fun b hb => by simp at hb; simp [hb]
  frame := fun _ _ _ st hk => ⟨st.1.at fun o e => hk I (by simp) o e, st.2.at fun o e => hk d (by simp) o e⟩
  item := fun j s Q E hj st hQ => raw_item st.1 st.2 hj fun h' hit' hs' => hQ _ h' s.toks ⟨hj, rfl⟩ ⟨hit', st.2.at fun o e => hs'.extBut d o hne e⟩ fun b o hb e => hs'.extBut b o (fun z => hb (by simp [z])) e
  done := fun s Q E st hQ => raw_end hh st.1 st.2 (Nat.le_refl _) fun h' he' => hQ h' s.toks fun b o hb e => he' b o (fun z => hb (by simp [z])) e
  self := fun _ _ _ _ st hQ => wpAny_pyIter_keyiter st.1 hQ
end
end L2

set_option Elab.async false
set_option linter.all false
namespace Cf
noncomputable abbrev Door := Int × Int
noncomputable def rng (n : Int) : List Int := (List.range n.toNat).map fun (i : Nat) => (i : Int)
theorem mem_rng {n p : Int} : p ∈ rng n ↔ 0 ≤ p ∧ p < n := by
  unfold rng
  rw [List.mem_map]
  constructor
  · rintro ⟨i, hi, rfl⟩
    have := List.mem_range.mp hi
    omega
  · intro h
    exact ⟨p.toNat, List.mem_range.mpr (by omega), by omega⟩
theorem rng_length (n : Int) : (rng n).length = n.toNat := by simp [rng]
theorem rng_get {n : Int} {i : Nat} (h : i < n.toNat) : (rng n)[i]? = some (i : Int) := by simp [rng, h]

noncomputable def isDoor (n : Int) (d : Door) : Bool := decide (0 ≤ d.1) && decide (d.1 < d.2) && decide (d.2 < n)
noncomputable def ltD (a b : Door) : Bool := if a.1 = b.1 then decide (a.2 < b.2) else decide (a.1 < b.1)
noncomputable def isRising (ds : List Door) : Bool := (List.range (ds.length - 1)).all fun k => ltD (ds.getD k (0, 0)) (ds.getD (k + 1) (0, 0))
noncomputable def isNear (ds : List Door) (a b : Int) : Bool := decide (a = b) || ds.contains (a, b) || ds.contains (b, a)
noncomputable def nearP (n : Int) (ds : List Door) (a : Int) : List Int := (rng n).filter (isNear ds a)
noncomputable def isNearOne (ds : List Door) (p : Int) (others : List Int) : Bool := others.any (isNear ds p)
noncomputable def stepR (n : Int) (ds : List Door) (r : List Int) : List Int := (rng n).filter fun p => isNearOne ds p r
noncomputable def iterS (s n : Int) (ds : List Door) : Nat → List Int
  | 0 => [s]
  | k + 1 => stepR n ds (iterS s n ds k)
noncomputable def reached (n : Int) (ds : List Door) : List Int := iterS 0 n ds (n - 1).toNat
noncomputable def floorOk (n : Int) (ds : List Door) : Bool := decide (1 ≤ n) && decide (n ≤ 6) && ds.all (isDoor n) && isRising ds && decide (n ≤ (reached n ds).length)

noncomputable def Conn (n : Int) (ds : List Door) : Prop := ∀ R : Int → Prop, (∀ d ∈ ds, R d.1 ↔ R d.2) → ∀ p q, 0 ≤ p → p < n → 0 ≤ q → q < n → (R p ↔ R q)
noncomputable def Doors (n : Int) (ds : List Door) : Prop := ∀ d ∈ ds, 0 ≤ d.1 ∧ d.1 < d.2 ∧ d.2 < n
theorem isDoor_iff {n : Int} {d : Door} : isDoor n d = true ↔ 0 ≤ d.1 ∧ d.1 < d.2 ∧ d.2 < n := by
  unfold isDoor
  simp [and_assoc]
theorem near_iff {ds : List Door} {a b : Int} : isNear ds a b = true ↔ a = b ∨ (a, b) ∈ ds ∨ (b, a) ∈ ds := by
  unfold isNear
  simp [or_assoc]
theorem near_self (ds : List Door) (a : Int) : isNear ds a a = true := near_iff.mpr (.inl rfl)
theorem mem_stepR {n : Int} {ds : List Door} {r : List Int} {p : Int} : p ∈ stepR n ds r ↔ (0 ≤ p ∧ p < n) ∧ ∃ q ∈ r, isNear ds p q = true := by
  unfold stepR isNearOne
  rw [List.mem_filter, mem_rng, List.any_eq_true]

theorem filter_len_lt {α : Type} {P Q : α → Bool} {x : α} : ∀ {l : List α}, (∀ y ∈ l, P y = true → Q y = true) → x ∈ l → P x = false → Q x = true → (l.filter P).length < (l.filter Q).length
  | [], _, hx, _, _ => nomatch hx
  | a :: r, h, hx, hp, hq => by
    have hr : ∀ y ∈ r, P y = true → Q y = true := fun y hy => h y (List.mem_cons_of_mem _ hy)
    have le : ∀ l : List α, (∀ y ∈ l, P y = true → Q y = true) → (l.filter P).length ≤ (l.filter Q).length := by
      intro l
      induction l with
      | nil => intro _; exact Nat.le_refl _
      | cons b t ih =>
        intro hb
        have := ih fun y hy => hb y (List.mem_cons_of_mem _ hy)
        have h2 := hb b List.mem_cons_self
        simp only [List.filter_cons]
        cases hP : P b <;> cases hQ : Q b <;> simp_all <;> omega
    rcases List.mem_cons.mp hx with rfl | hx'
    · have := le r hr
      simp only [List.filter_cons, hp, hq, if_true, Bool.false_eq_true, if_false, List.length_cons]
      omega
    · have := filter_len_lt hr hx' hp hq
      have h2 := h a List.mem_cons_self
      simp only [List.filter_cons]
      cases hP : P a <;> cases hQ : Q a <;> simp_all <;> omega
theorem filter_full {α : Type} {P : α → Bool} : ∀ {l : List α}, l.length ≤ (l.filter P).length → ∀ x ∈ l, P x = true
  | [], _, x, hx => nomatch hx
  | a :: r, h, x, hx => by
    have h1 := List.length_filter_le P r
    simp only [List.filter_cons] at h
    cases hP : P a with
    | false =>
      rw [hP] at h
      simp at h
      omega
    | true =>
      rw [hP] at h
      simp at h
      rcases List.mem_cons.mp hx with rfl | hx'
      · exact hP
      · exact filter_full (by omega) x hx'

section
variable {n : Int} {ds : List Door}
noncomputable def Closed (n : Int) (ds : List Door) (r : List Int) : Prop := ∀ p, p ∈ stepR n ds r → p ∈ r
theorem iterS_sub {s : Int} (h0 : 0 ≤ s) (hn : s < n) : ∀ k p, p ∈ iterS s n ds k → 0 ≤ p ∧ p < n
  | 0, p, h => by
    have : p = s := by simpa [iterS] using h
    omega
  | k + 1, p, h => (mem_stepR.mp h).1
theorem iterS_mono {s : Int} (h0 : 0 ≤ s) (hn : s < n) (k : Nat) (p : Int) (h : p ∈ iterS s n ds k) : p ∈ iterS s n ds (k + 1) :=
  mem_stepR.mpr ⟨iterS_sub h0 hn k p h, p, h, near_self ds p⟩
theorem closed_succ {s : Int} {k : Nat} (h : Closed n ds (iterS s n ds k)) : Closed n ds (iterS s n ds (k + 1)) := by
  intro p hp
  obtain ⟨hr, q, hq, e⟩ := mem_stepR.mp hp
  exact mem_stepR.mpr ⟨hr, q, h q hq, e⟩
theorem closed_or {s : Int} (h0 : 0 ≤ s) (hn : s < n) : ∀ k : Nat, Closed n ds (iterS s n ds k) ∨ k + 1 ≤ ((rng n).filter fun p => (iterS s n ds k).contains p).length
  | 0 => by
    right
    have h0 : s ∈ (rng n).filter fun p => (iterS s n ds 0).contains p := by
      rw [List.mem_filter, mem_rng]
      exact ⟨by omega, by simp [iterS]⟩
    exact List.length_pos_of_mem h0
  | k + 1 => by
    rcases closed_or h0 hn k with h | h
    · exact .inl (closed_succ h)
    · by_cases hc : Closed n ds (iterS s n ds k)
      · exact .inl (closed_succ hc)
      · right
        obtain ⟨x, hx⟩ := Classical.not_forall.mp hc
        obtain ⟨hx1, hx2⟩ := Classical.not_imp.mp hx
        have hr := (mem_stepR.mp hx1).1
        have := filter_len_lt (l := rng n) (P := fun p => (iterS s n ds k).contains p) (Q := fun p => (iterS s n ds (k + 1)).contains p) (x := x)
          (fun y _ hy => by
            have hy' : y ∈ iterS s n ds k := by simpa using hy
            have := iterS_mono h0 hn k y hy'
            simpa using this)
          (mem_rng.mpr hr) (by simpa using hx2) (by
            have : x ∈ iterS s n ds (k + 1) := hx1
            simpa using this)
        omega
theorem iterS_closed {s : Int} (h0 : 0 ≤ s) (hn : s < n) : Closed n ds (iterS s n ds (n - 1).toNat) := by
  rcases closed_or (ds := ds) h0 hn (n - 1).toNat with h | h
  · exact h
  · intro p hp
    have hr := (mem_stepR.mp hp).1
    have := filter_full (l := rng n) (P := fun p => (iterS s n ds (n - 1).toNat).contains p) (by rw [rng_length]; omega) p (mem_rng.mpr hr)
    simpa using this
theorem start_in {s : Int} (h0 : 0 ≤ s) (hn : s < n) (k : Nat) : s ∈ iterS s n ds k := by
  induction k with
  | zero => simp [iterS]
  | succ k ih => exact iterS_mono h0 hn k s ih
theorem iterS_all {s : Int} (h0 : 0 ≤ s) (hn : s < n) (hd : Doors n ds) (hc : Conn n ds) : ∀ p, 0 ≤ p → p < n → p ∈ iterS s n ds (n - 1).toNat := by
  intro p h1 h2
  refine (hc (fun p => p ∈ iterS s n ds (n - 1).toNat) (fun d hdm => ?_) s p h0 hn h1 h2).mp (start_in h0 hn _)
  obtain ⟨a1, a2, a3⟩ := hd d hdm
  constructor
  · intro h
    exact iterS_closed h0 hn _ (mem_stepR.mpr ⟨by omega, d.1, h, near_iff.mpr (.inr (.inr hdm))⟩)
  · intro h
    exact iterS_closed h0 hn _ (mem_stepR.mpr ⟨by omega, d.2, h, near_iff.mpr (.inr (.inl hdm))⟩)
theorem reached_all_of (hn : 1 ≤ n) (hd : Doors n ds) (hc : Conn n ds) : ∀ p, 0 ≤ p → p < n → p ∈ reached n ds := iterS_all (by omega) (by omega) hd hc
theorem conn_of_reached (hn : 1 ≤ n) (h : ∀ p, 0 ≤ p → p < n → p ∈ reached n ds) : Conn n ds := by
  intro R hR
  have key : ∀ k p, p ∈ iterS 0 n ds k → (R 0 ↔ R p) := by
    intro k
    induction k with
    | zero =>
      intro p hp
      have : p = 0 := by simpa [iterS] using hp
      rw [this]
    | succ k ih =>
      intro p hp
      obtain ⟨_, q, hq, e⟩ := mem_stepR.mp hp
      have := ih q hq
      rcases near_iff.mp e with rfl | e | e
      · exact this
      · exact this.trans (hR _ e).symm
      · exact this.trans (hR _ e)
  intro p q p1 p2 q1 q2
  exact (key _ p (h p p1 p2)).symm.trans (key _ q (h q q1 q2))
theorem filter_all_len {α : Type} {P : α → Bool} {l : List α} (h : ∀ x ∈ l, P x = true) : (l.filter P).length = l.length := by
  rw [List.filter_eq_self.mpr h]
theorem reached_len_iff (hn : 1 ≤ n) (hd : Doors n ds) : n ≤ (reached n ds).length ↔ Conn n ds := by
  constructor
  · intro h
    refine conn_of_reached hn fun p h1 h2 => ?_
    unfold reached at h ⊢
    cases hk : (n - 1).toNat with
    | zero =>
      have : p = 0 := by omega
      simp [iterS, this]
    | succ k =>
      rw [hk] at h
      have hl : (rng n).length ≤ (iterS 0 n ds (k + 1)).length := by rw [rng_length]; omega
      have := filter_full (l := rng n) (P := fun p => isNearOne ds p (iterS 0 n ds k)) hl p (mem_rng.mpr ⟨h1, h2⟩)
      exact List.mem_filter.mpr ⟨mem_rng.mpr ⟨h1, h2⟩, this⟩
  · intro hc
    have h := reached_all_of hn hd hc
    unfold reached at h ⊢
    cases hk : (n - 1).toNat with
    | zero =>
      simp [iterS]
      omega
    | succ k =>
      rw [hk] at h
      have : (iterS 0 n ds (k + 1)).length = (rng n).length := filter_all_len fun p hp => by
        have := h p (mem_rng.mp hp).1 (mem_rng.mp hp).2
        exact (List.mem_filter.mp this).2
      rw [this, rng_length]
      omega
end

theorem ltD_iff {a b : Door} : ltD a b = true ↔ a.1 < b.1 ∨ (a.1 = b.1 ∧ a.2 < b.2) := by
  unfold ltD
  split <;> simp <;> omega
theorem ltD_trans {a b c : Door} (h1 : ltD a b = true) (h2 : ltD b c = true) : ltD a c = true := by
  rw [ltD_iff] at *
  rcases h1 with h1 | ⟨e1, h1⟩
  · rcases h2 with h2 | ⟨e2, h2⟩
    · exact .inl (Int.lt_trans h1 h2)
    · exact .inl (by rw [← e2]; exact h1)
  · rcases h2 with h2 | ⟨e2, h2⟩
    · exact .inl (by rw [e1]; exact h2)
    · exact .inr ⟨e1.trans e2, Int.lt_trans h1 h2⟩
noncomputable def Rising (ds : List Door) : Prop := ds.Pairwise fun a b => ltD a b = true
theorem adj_of_rising {ds : List Door} (h : Rising ds) : ∀ k, k + 1 < ds.length → ltD (ds.getD k (0, 0)) (ds.getD (k + 1) (0, 0)) = true := by
  intro k hk
  have := List.pairwise_iff_getElem.mp h k (k + 1) (by omega) hk (Nat.lt_succ_self _)
  simpa [List.getD, List.getElem?_eq_getElem (show k < ds.length by omega), List.getElem?_eq_getElem hk] using this
theorem rising_of_adj : ∀ {ds : List Door}, (∀ k, k + 1 < ds.length → ltD (ds.getD k (0, 0)) (ds.getD (k + 1) (0, 0)) = true) → Rising ds
  | [], _ => List.Pairwise.nil
  | [a], _ => by simp [Rising]
  | a :: b :: r, h => by
    have ih : Rising (b :: r) := rising_of_adj fun k hk => by
      have := h (k + 1) (by simp at hk ⊢; omega)
      simpa using this
    have hab : ltD a b = true := by
      have := h 0 (by simp)
      simpa using this
    refine List.Pairwise.cons (fun c hc => ?_) ih
    rcases List.mem_cons.mp hc with rfl | hc
    · exact hab
    · exact ltD_trans hab ((List.pairwise_cons.mp ih).1 c hc)
theorem isRising_iff {ds : List Door} : isRising ds = true ↔ Rising ds := by
  unfold isRising
  rw [List.all_eq_true]
  constructor
  · intro h
    exact rising_of_adj fun k hk => h k (List.mem_range.mpr (by omega))
  · intro h k hk
    have := List.mem_range.mp hk
    exact adj_of_rising h k (by omega)

structure Good (n : Int) (ds : List Door) : Prop where
  lo : 1 ≤ n
  hi : n ≤ 6
  doors : Doors n ds
  rise : Rising ds
  conn : Conn n ds
noncomputable def meltStep (name : List Int) (d : Door) : List Int := name.map fun m => if m = name.getD d.2.toNat 0 then name.getD d.1.toNat 0 else m
noncomputable def melt (n : Int) (ds : List Door) : List Int := ds.foldl meltStep (rng n)
end Cf

set_option Elab.async false
set_option linter.all false
namespace Cf
noncomputable def dz : Door := (0, 0)
noncomputable def ltAt (ds : List Door) (i j : Nat) : Bool := ltD (ds.getD i dz) (ds.getD j dz)
theorem ltD_irr (a : Door) : ltD a a = false := by simp [ltD]
theorem ltD_total {a b : Door} (h : a ≠ b) : ltD a b = true ∨ ltD b a = true := by
  rw [ltD_iff, ltD_iff]
  rcases Int.lt_trichotomy a.1 b.1 with e | e | e
  · exact .inl (.inl e)
  · rcases Int.lt_trichotomy a.2 b.2 with e2 | e2 | e2
    · exact .inl (.inr ⟨e, e2⟩)
    · exact absurd (Prod.ext e e2) h
    · exact .inr (.inr ⟨e.symm, e2⟩)
  · exact .inr (.inl e)
theorem ltAt_tot {ds : List Door} (nd : ds.Nodup) : Tot ds.length (ltAt ds) where
  irr := fun i => ltD_irr _
  tr := fun i j k h1 h2 => ltD_trans h1 h2
  tot := fun i j hi hj hij => by
    refine ltD_total fun e => hij ?_
    rw [List.getD_eq_getElem?_getD, List.getD_eq_getElem?_getD, List.getElem?_eq_getElem hi, List.getElem?_eq_getElem hj] at e
    exact (List.getElem_inj nd).mp (by simpa using e)
theorem range_map_getD {α : Type} (l : List α) (d : α) : (List.range l.length).map (fun i => l.getD i d) = l := by
  refine List.ext_getElem (by simp) fun i h1 h2 => ?_
  simp [h2]
theorem Num.toPerm {n : Nat} {p : Array Nat} (hp : Num n p) : p.toList.Perm (List.range n) := by simpa using hp.perm.toList
theorem perm_of_num {α : Type} {ds : List α} {d : α} {p : Array Nat} (hp : Num ds.length p) : (p.toList.map fun i => ds.getD i d).Perm ds := by
  have h := hp.toPerm.map fun i => ds.getD i d
  rw [range_map_getD] at h
  exact h
theorem rising_of_srt {ds : List Door} {p : Array Nat} (hp : Num ds.length p) (hs : Srt (ltAt ds) p ds.length) : Rising (p.toList.map fun i => ds.getD i dz) := by
  unfold Rising
  rw [List.pairwise_iff_getElem]
  intro i j hi hj hij
  have hz := hp.size
  have hi' : i < p.size := by simpa using hi
  have hj' : j < p.size := by simpa using hj
  have := hs i j hij (by omega)
  rw [gp_eq, gp_eq, Array.getElem?_eq_getElem hi', Array.getElem?_eq_getElem hj'] at this
  simpa [ltAt] using this
theorem nodup_of_rising {ds : List Door} (h : Rising ds) : ds.Nodup := by
  refine List.Pairwise.imp (fun {a b} hab e => ?_) h
  subst e
  rw [ltD_irr] at hab
  cases hab
theorem perm_small {α : Type} {l : List α} (h : l.length < 2) : l = [] ∨ ∃ a, l = [a] := by
  match l, h with
  | [], _ => exact .inl rfl
  | [a], _ => exact .inr ⟨a, rfl⟩
theorem rising_small {ds : List Door} (h : ds.length < 2) : Rising ds := by
  rcases perm_small h with rfl | ⟨a, rfl⟩
  · exact List.Pairwise.nil
  · simp [Rising]
theorem conn_tree {n : Int} {ks : List Door} (h : ∀ p, 1 ≤ p → p < n → ∃ a, 0 ≤ a ∧ a < p ∧ (a, p) ∈ ks) : Conn n ks := by
  intro R hR
  have key : ∀ (k : Nat) (p : Int), p.toNat = k → 0 ≤ p → p < n → (R 0 ↔ R p) := by
    intro k
    induction k using Nat.strongRecOn with
    | ind k ih =>
      intro p e h0 hn
      by_cases hp : p = 0
      · rw [hp]
      · obtain ⟨a, a0, ap, hm⟩ := h p (by omega) hn
        exact (ih a.toNat (by omega) a rfl a0 (by omega)).trans (hR _ hm)
  intro p q p1 p2 q1 q2
  exact (key _ p rfl p1 p2).symm.trans (key _ q rfl q1 q2)
theorem conn_flip {n : Int} {ks ds : List Door} (hc : Conn n ks) (h : ∀ d ∈ ks, (n - 1 - d.2, n - 1 - d.1) ∈ ds) : Conn n ds := by
  intro R hR p q p1 p2 q1 q2
  have := hc (fun x => R (n - 1 - x)) (fun d hd => (hR _ (h d hd)).symm) (n - 1 - p) (n - 1 - q) (by omega) (by omega) (by omega) (by omega)
  simpa [show n - 1 - (n - 1 - p) = p by omega, show n - 1 - (n - 1 - q) = q by omega] using this
theorem conn_sub {n : Int} {ks ds : List Door} (hc : Conn n ks) (h : ∀ d ∈ ks, d ∈ ds) : Conn n ds :=
  fun R hR => hc R fun d hd => hR d (h d hd)
theorem conn_chain {n : Int} {ds : List Door} (h : ∀ p, 0 ≤ p → p + 1 < n → (p, p + 1) ∈ ds) : Conn n ds :=
  conn_tree fun p h1 h2 => ⟨p - 1, by omega, by omega, by
    have := h (p - 1) (by omega) (by omega)
    simpa [show p - 1 + 1 = p by omega] using this⟩
end Cf

set_option Elab.async false
set_option linter.all false
set_option maxRecDepth 100000
namespace L2
open PySem PySem.Spec PyProof.Rows

theorem ObjOk.there {P : Program} {w : World} {H : Hp} {h : Heap} {a : Addr} {o : HO} (x : ObjOk P w H h a o) : ∃ ob, h.get? a = some ob := by
  cases o with
  | lst xs => obtain ⟨_, _, _, _, e⟩ := x; exact ⟨_, e⟩
  | tup xs => obtain ⟨_, _, _, ob, e, _⟩ := x; exact ⟨_, e⟩
  | dK kvs => obtain ⟨_, _, _, _, o, _, _, e, _⟩ := x; exact ⟨_, e⟩
  | dT kvs => obtain ⟨_, _, _, _, o, _, _, e, _⟩ := x; exact ⟨_, e⟩
  | set S n => obtain ⟨o, _, _, _, e, _⟩ := x; exact ⟨_, e⟩
  | ins C dx fs => obtain ⟨_, _, _, e, _⟩ := x; exact ⟨_, e⟩
  | own y => exact x
  | xd fs => obtain ⟨_, ⟨_, _, _, e, _⟩, _⟩ := x; exact ⟨_, e⟩
  | rng lo hi => obtain ⟨_, _, _, e⟩ := x; exact ⟨_, e⟩
  | frz ob u => obtain ⟨e, _⟩ := x; exact ⟨_, e⟩
  | tbl ps => exact ⟨_, x⟩
  | met f y => exact ⟨_, x⟩
  | ext φ => obtain ⟨_, e, _⟩ := x; exact e
section
variable {X : Cx} {pins : List (Addr × Obj)} {σ : St} {H : Hp} {s : Shared} {h' : Heap} {m : Str → Option Value}
theorem Inv.ofNews {D : Addr} {o : Obj} {ho : HO} {t' : Nat} (I : Inv X pins σ H s) (F0 : Fr X.base X.env.locals s.heap m) (F : Fr X.base X.env.locals h' m)
    (N : News X.base X.env.locals h' ((D, o) :: allNews X.base s.heap X.env.locals)) (hD : ∀ q ∈ allNews X.base s.heap X.env.locals, q.1 ≠ D) (new : ObjOk X.prog X.w (upd H D ho) h' D ho) :
    H D = none ∧ Inv X pins σ (upd H D ho) { s with heap := h', toks := t' } := by
  have nD := N (D, o) (.head _)
  have sD : s.heap.get? D = none := by
    cases e : s.heap.get? D with
    | none => rfl
    | some ob => exact absurd rfl (hD (D, ob) (mem_allNews nD.2.1 nD.2.2 e))
  have hn : H D = none := by
    cases e : H D with
    | none => rfl
    | some u =>
      obtain ⟨ob, z⟩ := (I.hok D u e).there
      rw [sD] at z; cases z
  have kp : ∀ b ob, b ≠ X.env.locals → s.heap.get? b = some ob → h'.get? b = some ob := fun b ob hb e => by
    cases q : X.base.get? b with
    | some u =>
      have := I.bk b u q
      rw [e] at this; cases this
      exact F.keep b _ q
    | none => exact (N (b, ob) (List.mem_cons_of_mem _ (mem_allNews hb q e))).1
  have tr : ∀ b u, H b = some u → b ≠ X.env.locals := fun b u e z => by rw [z, I.free] at e; cases e
  have ne : ∀ b ob, s.heap.get? b = some ob → b ≠ D := fun b ob e z => by rw [z, sD] at e; cases e
  have neH : ∀ b u, H b = some u → b ≠ D := fun b u e z => by rw [z, hn] at e; cases e
  refine ⟨hn, I.step (g' := s.gens) (d' := s.drawn) (ch := []) (fun _ z => nomatch z) (fun b ob hb _ _ e _ => kp b ob hb e) (fun b ob hb _ _ e _ => ⟨ob.slots, kp b ob hb e⟩) (fun b ob _ e n => by rw [upd_ne (ne b ob e)]; exact n) (fun b ob _ e => ?_)
    (fun b xs e => by rw [upd_ne (neH b _ e)]; exact e) (fun b u xs e => by rw [upd_ne (neH b _ e)]; exact e) (fun b ps e => ⟨#[], by rw [upd_ne (neH b _ e), e]; simp⟩) (fun m' hm' => ?_) (fun b u e => ?_) I.bare⟩
  · by_cases hb : b = X.env.locals
    · obtain ⟨ob', _, _, z, _⟩ := F.ns
      exact ⟨ob', by rw [hb]; exact z⟩
    · exact ⟨ob, kp b ob hb e⟩
  · have e : m' = m := hm'.eq_nsMap.trans F0.ns.eq_nsMap.symm
    rw [e]
    exact F.ns
  · by_cases hb : b = D
    · subst hb
      rw [upd_same] at e; cases e
      exact new
    · rw [upd_ne hb] at e
      refine (I.hok b u e).stay (fun c v hc q => kp c v ?_ q) (fun c q => by rw [upd_ne (neH c _ q)]; exact q) fun c xs q => by rw [upd_ne (neH c _ q)]; exact q
      rcases hc with rfl | hc
      · exact tr _ _ e
      · exact tr _ _ hc
end
noncomputable abbrev PairAt (H : Hp) (b : Addr) (d : Int × Int) : Prop := H b = some (.tup [.int d.1, .int d.2])
theorem Paired.get {α β : Type} {F : α → β → Prop} : ∀ {l₁ : List α} {l₂ : List β} {i : Nat} {a : α}, Paired F l₁ l₂ → l₁[i]? = some a → ∃ b, l₂[i]? = some b ∧ F a b
  | _, _, _, _, .nil, e => by simp at e
  | _, _, 0, _, .cons r _, e => by simp at e; subst e; exact ⟨_, rfl, r⟩
  | _, _, i + 1, a, .cons _ t, e => by
    obtain ⟨u, h1, h2⟩ := Paired.get (i := i) (a := a) t (by simpa using e)
    exact ⟨u, by simpa using h1, h2⟩
theorem Paired.mapIx {α β : Type} {F : α → β → Prop} {as : List α} {bs : List β} {a0 : α} {b0 : β} (r : Paired F as bs) : ∀ (ix : List Nat), (∀ i ∈ ix, i < as.length) → Paired F (ix.map fun i => as.getD i a0) (ix.map fun i => bs.getD i b0)
  | [], _ => .nil
  | i :: ix, h => by
    have hi := h i List.mem_cons_self
    obtain ⟨b, hb, f⟩ := Paired.get r (List.getElem?_eq_getElem hi)
    refine .cons ?_ (Paired.mapIx r ix fun j hj => h j (List.mem_cons_of_mem _ hj))
    show F (as.getD i a0) (bs.getD i b0)
    rw [List.getD_eq_getElem?_getD, List.getD_eq_getElem?_getD, List.getElem?_eq_getElem hi, hb]
    exact f
section
variable {prog : Program} {w : World} {A : Around} {E : Value → Shared → Prop} {s : Shared} {P : Program}
theorem pair_lt {H : Hp} {x y : Addr} {d e : Int × Int} {Q : Bool → Shared → Prop} (ok : HOk prog w H s.heap) (hx : PairAt H x d) (hy : PairAt H y e) (h : Q (Cf.ltD d e) s) :
    wpAny (model prog w) A (keyLt' (tuples' true) (.ref x) (.ref y)) Q E s := by
  obtain ⟨_, ix, rx, ox, ex, cx, nx, dx⟩ := ok _ _ hx
  obtain ⟨_, iy, ry, oy, ey, cy, ny, dy⟩ := ok _ _ hy
  obtain ⟨u1, u2, rfl, ⟨t1, rfl⟩, ⟨t2, rfl⟩⟩ := Vals.two rx
  obtain ⟨v1, v2, rfl, ⟨t3, rfl⟩, ⟨t4, rfl⟩⟩ := Vals.two ry
  refine PySem.W.kat_lt ex dx ey dy ?_
  show PySem.W.KatLex prog w A true _ Q [(Value.int d.1 t1, Value.int e.1 t3), (Value.int d.2 t2, Value.int e.2 t4)] 0 s
  refine PySem.W.kat_cons (wpAny_eqBool_int ?_)
  by_cases h1 : d.1 = e.1
  · rw [beq_iff_eq.mpr h1]
    refine PySem.W.kat_yes (PySem.W.kat_cons (wpAny_eqBool_int ?_))
    by_cases h2 : d.2 = e.2
    · rw [beq_iff_eq.mpr h2]
      refine PySem.W.kat_yes (PySem.W.kat_nil ?_)
      have e1 : Cf.ltD d e = false := by unfold Cf.ltD; rw [if_pos h1, h2]; simp
      rw [e1] at h
      exact h
    · rw [beq_eq_false_iff_ne.mpr h2]
      refine PySem.W.kat_no (PySem.W.kat_one _ _ (lt_int ?_))
      have e1 : Cf.ltD d e = decide (d.2 < e.2) := by unfold Cf.ltD; rw [if_pos h1]
      rw [e1] at h
      exact h
  · rw [beq_eq_false_iff_ne.mpr h1]
    refine PySem.W.kat_no (oneLt_int ?_)
    have e1 : Cf.ltD d e = decide (d.1 < e.1) := by unfold Cf.ltD; rw [if_neg h1]
    rw [e1] at h
    exact h
end

noncomputable abbrev PairsAre (H : Hp) (as : List Addr) (ds : List (Int × Int)) : Prop := Paired (PairAt H) as ds
noncomputable def oneKind : PyProof.Rows.KeyKind where
  α := Unit
  blt := fun _ _ => false
  irrefl := fun _ => rfl
  trans := fun _ _ _ h _ => h
  negTrans := fun _ _ _ h => .inl h
  total := fun _ _ _ _ => rfl
  keyOf := fun _ => some ()
  dflt := ()
theorem vals_refs {as : List Addr} {its : List Value} (r : Vals (as.map V.ref) its) : its = as.map Value.ref := by
  induction as generalizing its with
  | nil => cases r; rfl
  | cons a l ih =>
    cases r with
    | cons h t =>
      have h' : _ = Value.ref a := h
      rw [h', ih t]
      rfl
theorem refs_vals (as : List Addr) : Vals (as.map V.ref) (as.map Value.ref) := by
  induction as with
  | nil => exact .nil
  | cons a l ih => exact .cons rfl ih
theorem ref_getD {as : List Addr} {i : Nat} (h : i < as.length) : (as.map Value.ref).getD i Value.none = Value.ref (as.getD i 0) := by
  simp [h]
section
variable {X : Cx}
noncomputable def SortsTo (H : Hp) (ds : List (Int × Int)) (Q : VK) : Prop := ∀ (l : Addr) (bs : List Addr) (es : List (Int × Int)), H l = none → es.Perm ds → Cf.Rising es → PairsAre H bs es → Q (.ref l) (upd H l (.lst (bs.map V.ref)))
theorem sort_pairs {pins : List (Addr × Obj)} {σ : St} {H : Hp} {s : Shared} {A : Around} {D : Addr} {e1 : Nat} {h' : Heap} {m : Str → Option Value} {as : List Addr} {ds : List (Int × Int)} {Q : VK} {tk : Nat}
    (I : Inv X pins σ H s) (F0 : Fr X.base X.env.locals s.heap m) (hp : PairsAre H as ds) (nd : ds.Nodup) (h2 : 2 ≤ ds.length) (h64 : ds.length < 64) (q : SortsTo H ds Q)
    (F : Fr X.base X.env.locals h' m) (N : News X.base X.env.locals h' ((D, seqObj "list" #[] e1) :: allNews X.base s.heap X.env.locals)) (hD : ∀ r ∈ allNews X.base s.heap X.env.locals, r.1 ≠ D) :
    wpAny (model X.prog X.w) A (keyKind' (as.map Value.ref).toArray) (fun κ s' => (PySem.W.kas_sort (as.map Value.ref).length).kasWp (PySem.W.kas_ask X.prog X.w A κ (as.map Value.ref)) (fun p s'' => PySem.W.KasFin X.base X.env.locals m D e1 (p.toList.map fun i => (as.map Value.ref).getD i Value.none)
      (fun s3 => EP X pins σ Q (.ref D) s3) s'') s') (fun _ _ => False) { s with heap := h', toks := tk } := by
  have hl := hp.length
  obtain ⟨hn, I1⟩ := I.ofNews (t' := tk) (ho := .lst []) F0 F N hD ⟨Nat.zero_le _, [], e1, .nil, (N _ (.head _)).1⟩
  have ok1 : HOk X.prog X.w (upd H D (.lst [])) h' := I1.hok
  have sm : Same H (upd H D (.lst [])) := fun b o e => by rw [upd_ne (ne_of_none e hn)]; exact e
  have hp1 : PairsAre (upd H D (.lst [])) as ds := Paired.mapP hp fun a b e => sm _ _ e
  have firsts : ∀ {as : List Addr} {ds : List (Int × Int)}, PairsAre (upd H D (.lst [])) as ds → ∃ fs : List Value, PySem.W.KatTups h' (as.map Value.ref) fs ∧ fs.length = as.length ∧ ∀ v ∈ fs, ∃ i t, v = Value.int i t := by
    intro as ds r
    induction r with
    | nil => exact ⟨[], PySem.W.KatTups.nil, rfl, fun _ z => nomatch z⟩
    | cons h t ih =>
      obtain ⟨fs, k, kl, ki⟩ := ih
      obtain ⟨_, ix, rx, ox, ex, cx, nx, dx⟩ := ok1 _ _ h
      obtain ⟨u1, u2, rfl, ⟨t1, rfl⟩, ⟨t2, rfl⟩⟩ := Vals.two rx
      refine ⟨_ :: fs, PySem.W.KatTups.cons ex cx dx rfl k, by simp [kl], fun v hv => ?_⟩
      rcases List.mem_cons.mp hv with rfl | hv
      · exact ⟨_, _, rfl⟩
      · exact ki v hv
  obtain ⟨fs, kt, kl, ki⟩ := firsts hp1
  refine PySem.W.kat_kind (T := .type "int") kt (by omega) (fun v hv => ?_) (by decide) ?_
  · obtain ⟨i, t, rfl⟩ := ki v hv
    exact PySem.W.Looks.of_pure rfl
  show (PySem.W.kas_sort (as.map Value.ref).length).kasWp (PySem.W.kas_ask X.prog X.w A (tuples' true) (as.map Value.ref)) _ { s with heap := h', toks := tk }
  have hlen : (as.map Value.ref).length = ds.length := by rw [List.length_map, hl]
  rw [hlen]
  refine Cf.okT_wp (n := ds.length) (lt := Cf.ltAt ds) (fun i j C hi hj hC => ?_) (fun p hpq => ?_) _ (Cf.sort_ok (Cf.ltAt_tot nd) (by omega))
  · unfold PySem.W.kas_ask
    rw [ref_getD (by omega), ref_getD (by omega)]
    have gi := Paired.mapIx (a0 := 0) (b0 := Cf.dz) hp1 [i] (fun k hk => by simp at hk; omega)
    have gj := Paired.mapIx (a0 := 0) (b0 := Cf.dz) hp1 [j] (fun k hk => by simp at hk; omega)
    cases gi with
    | cons gi _ =>
      cases gj with
      | cons gj _ => exact pair_lt (s := { s with heap := h', toks := tk }) ok1 gi gj hC
  · obtain ⟨hnum, hsrt⟩ := hpq
    refine PySem.W.KasFin.intro (s := { s with heap := h', toks := tk }) F N (.head hD) fun h2' c F2 N2 => ?_
    have ixs : ∀ i ∈ p.toList, i < as.length := fun i hi => by
      have := (hnum.toPerm.mem_iff (a := i)).mp hi
      rw [hl]; simpa using this
    have eo : (p.toList.map fun i => (as.map Value.ref).getD i Value.none) = (p.toList.map fun i => as.getD i 0).map Value.ref := by
      rw [List.map_map]
      exact List.map_congr_left fun i hi => ref_getD (ixs i hi)
    rw [eo] at N2
    have hsz : p.toList.length = ds.length := by rw [Array.length_toList]; exact hnum.size
    obtain ⟨hn', I2⟩ := I.ofNews (t' := tk) (ho := .lst ((p.toList.map fun i => as.getD i 0).map V.ref)) F0 F2 N2 hD ⟨by rw [List.length_map, List.length_map, hsz]; exact Nat.le_of_lt (Nat.lt_of_lt_of_le h64 (by decide)), _, c, refs_vals _, (N2 _ (.head _)).1⟩
    exact ⟨.ref D, _, I2, rfl, q D _ _ hn (Cf.perm_of_num (d := Cf.dz) hnum) (Cf.rising_of_srt hnum hsrt) (Paired.mapIx hp p.toList ixs)⟩
theorem sort_small {prog : Program} {w : World} {A : Around} {E : Value → Shared → Prop} {s : Shared} {a : Addr} {vs : List Value} {n : Nat} {Q : Value → Shared → Prop} (ho : s.heap.get? a = some (seqObj "list" vs.toArray n)) (h2 : vs.length < 2)
    (h : ∀ h' c, (∀ b o, b ≠ a → s.heap.get? b = some o → h'.get? b = some o) → h'.get? a = some (seqObj "list" vs.toArray c) → Q .none { s with heap := h' }) : wpAny (model prog w) A (call (.builtin "list.sort") [.ref a]) Q E s := by
  refine wpAny_call_entry slot_list_sort ⟨_, ho, rfl⟩ entry_list_sort ?_ (args_list_sort _)
  rw [list_sort_plain]
  have ha : a < s.heap.objs.size := Heap.lt_size ho
  obtain ⟨e1, ho1⟩ : ∃ e1, (s.heap.update a (Obj.mapSeq fun _ => #[])).get? a = some (seqObj "list" #[] e1) := ⟨_, get?_update_seq ho (fun _ => #[])⟩
  refine wpAny_bind (listItems_at ho rfl (wpAny_bind (listUpdate_at ho rfl (wpAny_bind (seqEpoch_at ho1 rfl (wpAny_bind (wpAny_newTuple (wpAny_bind (wpAny_newList (wpAny_holding ?_))))))))))
  have hs1 : (s.heap.update a (Obj.mapSeq fun _ => (#[] : Array Value))).objs.size = s.heap.objs.size := Heap.size_update ..
  have ho2 : (((s.heap.update a (Obj.mapSeq fun _ => #[])).push (seqObj "tuple" vs.toArray 0)).push (seqObj "list" #[] 0)).get? a = some (seqObj "list" #[] e1) := Heap.get?_push_of_some _ (Heap.get?_push_of_some _ ho1)
  have kp : ∀ b o, b ≠ a → s.heap.get? b = some o → (((s.heap.update a (Obj.mapSeq fun _ => (#[] : Array Value))).push (seqObj "tuple" vs.toArray 0)).push (seqObj "list" #[] 0)).get? b = some o := fun b o hb e =>
    Heap.get?_push_of_some _ (Heap.get?_push_of_some _ ((Heap.get?_update_other s.heap _ (Ne.symm hb)).trans e))
  show wpAny (model prog w) _ _ _ E { s with heap := ((s.heap.update a (Obj.mapSeq fun _ => #[])).push (seqObj "tuple" vs.toArray 0)).push (seqObj "list" #[] 0) }
  generalize ((s.heap.update a (Obj.mapSeq fun _ => (#[] : Array Value))).push (seqObj "tuple" vs.toArray 0)).push (seqObj "list" #[] 0) = h3 at ho2 kp ⊢
  have hz : vs.toArray.size < 2 := by simpa using h2
  dsimp only
  rw [if_pos hz, if_pos hz]
  refine wpAny_bind (wpAny_pure ?_)
  rw [StateT.run_pure]
  refine wpAny_bind (wpAny_pure ?_)
  dsimp only
  have eout : (arrOf (SortSt.mk' general' (vs.toArray.zip vs.toArray) #[] 7 none)).map (·.2) = vs.toArray := by
    show (vs.toArray.zip vs.toArray).map (·.2) = vs.toArray
    apply Array.ext (by simp)
    intro i h1 h2
    simp
  refine wpAny_bind (seqEpoch_at ho2 rfl (wpAny_bind (listUpdate_at ho2 rfl ?_ (hsz2 := ?_))))
  · simp only [bne_self_eq_false, Bool.false_eq_true, if_false]
    refine wpAny_pure (L2.ea rfl ?_)
    rw [eout]
    obtain ⟨c, hc⟩ : ∃ c, (h3.update a (Obj.mapSeq fun _ => vs.toArray)).get? a = some (seqObj "list" vs.toArray c) := ⟨_, get?_update_seq ho2 (fun _ => vs.toArray)⟩
    exact h _ c (fun b o hb e => (Heap.get?_update_other h3 _ (Ne.symm hb)).trans (kp b o hb e)) hc
  · rw [eout, sizeLine_eq]
    omega
theorem call_sortedP : CallR X (.builtin "sorted") (fun xs H Q => ∃ (a : Addr) (as : List Addr) (ds : List (Int × Int)), xs = [.ref a] ∧ H a = some (.lst (as.map V.ref)) ∧ PairsAre H as ds ∧ ds.Nodup ∧ ds.length < 64 ∧ SortsTo H ds Q) := by
  intro pins s σ H xs us Q I r h
  obtain ⟨a, as, ds, rfl, ha, hp, nd, h64, q⟩ := h
  obtain ⟨u, rfl, ru⟩ := vals1 r
  cases ru
  obtain ⟨its, n, rv, e, hz⟩ := I.lst ha
  have hi := vals_refs rv
  subst hi
  have hl := hp.length
  have il : s.heap.IsList a (as.map Value.ref).toArray := ⟨_, e, rfl, n, rfl⟩
  by_cases h2 : 2 ≤ ds.length
  · obtain ⟨m, F⟩ := I.fr
    refine PySem.W.kat_sorted (news := allNews X.base s.heap X.env.locals) F news_all il (by rw [List.length_map, hl]; exact h2) (by rw [List.length_map, hl]; exact h64) fun D e1 h' F' N' hD => ?_
    exact sort_pairs (tk := s.toks) I F hp nd h2 h64 q F' N' fun r hr => Nat.ne_of_lt (hD r hr)
  · refine Calls.call_function_entry kind_sorted plain_sorted entry_sorted (args_sorted1 _) ?_
    unfold Builtin.«sorted»
    refine wpAny_bind (m := checkCount "sorted" 1 1 _) (wpAny_pure ?_)
    refine wpAny_bind (collect_list il ?_ (by rw [sizeLine_eq, List.length_map]; omega))
    refine wpAny_bind (wpAny_newList ?_ (by rw [sizeLine_eq, List.length_map]; omega))
    have I1 : Inv X pins σ H { s with heap := (s.heap.push (seqObj "list" #[] 0)).update s.heap.objs.size (Obj.mapSeq (· ++ (as.map Value.ref).toArray)) } :=
      I.kept (t' := s.toks) fun b o e => (Heap.get?_update_other _ _ (Nat.ne_of_gt (Heap.lt_size e))).trans (Heap.get?_push_of_some _ e)
    generalize hh : (s.heap.push (seqObj "list" #[] 0)).update s.heap.objs.size (Obj.mapSeq (· ++ (as.map Value.ref).toArray)) = h1 at I1
    have I2 := I1.lnew (ys := as.map V.ref) (its := as.map Value.ref) (t' := s.toks) (refs_vals as) hz
    have fr := I1.fresh
    dsimp only at I2 fr ⊢
    have hnew : (h1.push { cls := .type "list", data := .seq (as.map Value.ref).toArray }).get? h1.objs.size = some (seqObj "list" (as.map Value.ref).toArray 0) := Heap.get?_push_size _ rfl
    refine wpAny_bind (wpAny_holding (sort_small (s := { s with heap := h1.push { cls := .type "list", data := .seq (as.map Value.ref).toArray } }) hnew (by rw [List.length_map, hl]; omega) fun h' c kp e' => wpAny_pure (L2.ea rfl ?_)))
    have mu : Mut (upd H h1.objs.size (.lst (as.map V.ref)) h1.objs.size) := by rw [upd_same]; trivial
    have I3 := I2.write (x := h1.objs.size) (e := h1.objs.size) (o := .lst (as.map V.ref)) (t' := s.toks) (h' := h') mu (.inl rfl) (fun b u hb e => kp b u hb e) ⟨_, e'⟩ ⟨hz, _, c, refs_vals as, e'⟩
    rw [upd_upd] at I3
    exact ⟨.ref h1.objs.size, _, I3, rfl, q _ as ds fr (List.Perm.refl _) (Cf.rising_small (by omega)) hp⟩
theorem kdl_raw {prog : Program} {w : World} {d : Addr} {es : Array DictEntry} {ep : Nat} (lo : (d == sysModules) = false) : PySem.W.KdlSrc prog w "dict" d d es.size (fun j v => ∃ h : j < es.size, v = es[j].key) (fun h => RawD h d es ep) where
  type := fun _ x => x.type
  there := fun _ x => ⟨x.lt, x.lt⟩
  keep := fun _ _ x k => x.at fun o e => k d (.inl rfl) o e
  notList := by decide
  notTuple := by decide
  hint := fun _ _ _ _ x q => PySem.W.kdl_hint_dict x.type q
  iter := fun _ s hh x => ⟨_, _, fun _ _ hq => raw_iter lo x hq, Walks.rawKeys hh _ (Nat.ne_of_lt x.lt), ⟨⟨_, Heap.get?_push_size _ rfl, rfl, rfl⟩, x.at fun o e => Heap.get?_push_of_some _ e⟩⟩
noncomputable def pk (d : Int × Int) : List Key := [.inl d.1, .inl d.2]
theorem dT_raw {P : Program} {w : World} {H : Hp} {h : Heap} {a : Addr} {kvs : List (List Key × V)} (ok : HOk P w H h) (e : H a = some (.dT kvs)) :
    ∃ (as : List Addr) (es : Array DictEntry) (ep : Nat), RawD h a es ep ∧ (a == sysModules) = false ∧ es.toList.map (·.key) = as.map Value.ref ∧ Paired (fun b (p : List Key × V) => H b = some (.tup (p.1.map kV))) as kvs ∧ (kvs.map (·.1)).Nodup ∧ kvs.length ≤ sizeLine := by
  obtain ⟨z, lo, xs, r, o, es, ep, eo, ex, ed, el, nd⟩ := ok _ _ e
  have gen : ∀ {kvs : List (List Key × V)} {xs : List (List Key × Addr × Value)}, Paired (fun (p : List Key × V) (q : List Key × Addr × Value) => p.1 = q.1 ∧ H q.2.1 = some (.tup (p.1.map kV)) ∧ RelV p.2 q.2.2) kvs xs →
      Paired (fun b (p : List Key × V) => H b = some (.tup (p.1.map kV))) (xs.map (·.2.1)) kvs ∧ kvs.map (·.1) = xs.map (·.1) := by
    intro kvs xs r
    induction r with
    | nil => exact ⟨.nil, rfl⟩
    | cons h _ ih => exact ⟨.cons h.2.1 ih.1, by simp [h.1, ih.2]⟩
  obtain ⟨g1, g2⟩ := gen r
  refine ⟨xs.map (·.2.1), es, ep, ⟨o, eo, ex.1, ed⟩, lo, ?_, g1, by rw [g2]; exact nd, z⟩
  rw [el, List.map_map, List.map_map]
  exact List.map_congr_left fun x _ => rfl
theorem call_sortedD (hc : X.calm = true) : CallR X (.builtin "sorted") (fun xs H Q => ∃ (a : Addr) (kvs : List (List Key × V)) (ds : List (Int × Int)), xs = [.ref a] ∧ H a = some (.dT kvs) ∧ kvs.map (·.1) = ds.map pk ∧ ds.length < 64 ∧ SortsTo H ds Q) := by
  intro pins s σ H xs us Q I r h
  obtain ⟨a, kvs, ds, rfl, ha, hk, h64, q⟩ := h
  obtain ⟨u, rfl, ru⟩ := vals1 r
  cases ru
  obtain ⟨as, es, ep, raw, lo, hes, hp0, nd0, hz⟩ := dT_raw I.hok ha
  have hlk : kvs.length = ds.length := by have := congrArg List.length hk; simpa using this
  have hp : PairsAre H as ds := by
    have gen : ∀ {as : List Addr} {kvs : List (List Key × V)} {ds : List (Int × Int)}, Paired (fun b (p : List Key × V) => H b = some (.tup (p.1.map kV))) as kvs → kvs.map (·.1) = ds.map pk → PairsAre H as ds := by
      intro as kvs ds r
      induction r generalizing ds with
      | nil => intro e; cases ds with | nil => exact .nil | cons _ _ => simp at e
      | cons h _ ih =>
        intro e
        cases ds with
        | nil => simp at e
        | cons d ds =>
          simp only [List.map_cons, List.cons.injEq] at e
          refine .cons ?_ (ih e.2)
          rw [e.1] at h
          exact h
    exact gen hp0 hk
  have nd : ds.Nodup := by
    rw [hk] at nd0
    exact (List.pairwise_map.mp nd0).imp fun {x y} hne e => hne (by rw [e])
  have hl := hp.length
  have hes2 : es.size = as.length := by have := congrArg List.length hes; simpa using this
  have ekey : ∀ (j : Nat) (hj : j < es.size), es[j].key = Value.ref (as[j]'(by omega)) := fun j hj => by
    have := congrArg (fun l => l[j]?) hes
    simp only [List.getElem?_map, Array.getElem?_toList, Array.getElem?_eq_getElem hj, List.getElem?_eq_getElem (show j < as.length by omega), Option.map_some, Option.some.injEq] at this
    exact this
  obtain ⟨m, F⟩ := I.fr
  refine PySem.W.kdu_sorted (kdl_raw lo) (I.ok.hd hc) F news_all raw (by rw [hes2, hl, sizeLine_eq]; omega) fun D h' tk vs F' N' hD hvl hv => ?_
  have evs : vs = as.map Value.ref := by
    refine List.ext_getElem (by rw [List.length_map]; omega) fun j h1 h2 => ?_
    obtain ⟨hj, e⟩ := hv j vs[j] (List.getElem?_eq_getElem h1)
    rw [e, ekey j hj]
    simp
  subst evs
  have hDn : ∀ r ∈ allNews X.base s.heap X.env.locals, r.1 ≠ D := fun r hr => Nat.ne_of_lt (hD r hr)
  have hsz : (as.map V.ref).length ≤ sizeLine := by rw [List.length_map, hl, sizeLine_eq]; omega
  by_cases h2 : 2 ≤ ds.length
  · refine PySem.W.kat_lsort (vs := as.map Value.ref) F' N' (.head hDn) (by simp) (by rw [List.length_map, hl]; exact h2) (by rw [List.length_map, hl]; exact h64) fun e1 h'' F'' N'' => ?_
    have z := fun A' => sort_pairs (A := A') (s := s) (tk := tk) I F hp nd h2 h64 q F'' N'' hDn
    exact z _
  · obtain ⟨hn, I1⟩ := I.ofNews (t' := tk) (ho := .lst (as.map V.ref)) F F' N' hDn ⟨hsz, _, 0, refs_vals as, (N' _ (.head _)).1⟩
    refine sort_small (s := { s with heap := h', toks := tk }) (N' _ (.head _)).1 (by rw [List.length_map, hl]; omega) fun h'' c kp e' => ?_
    have mu : Mut (upd H D (.lst (as.map V.ref)) D) := by rw [upd_same]; trivial
    have I3 := I1.write (x := D) (e := D) (o := .lst (as.map V.ref)) (t' := tk) (h' := h'') mu (.inl rfl) (fun b u hb e => kp b u hb e) ⟨_, e'⟩ ⟨hsz, _, c, refs_vals as, e'⟩
    rw [upd_upd] at I3
    exact ⟨.ref D, _, I3, rfl, q _ as ds hn (List.Perm.refl _) (Cf.rising_small (by omega)) hp⟩
noncomputable def Itd (a : Addr) (o : Obj) (u : HO) (as : List Addr) : It :=
  ⟨fun i H => i < as.length ∧ H a = some (.frz o u), fun i H x H' => H' = H ∧ ∃ h : i < as.length, x = .ref as[i], fun i H => as.length ≤ i ∧ H a = some (.frz o u)⟩
theorem turn_dict {P : Program} {w : World} {K : PySem.W.Frag} {tg : Expr} (a it : Addr) (o : Obj) (u : HO) (as : List Addr) (es : Array DictEntry) (ep : Nat) (hc : o.cls = .type "dict") (hd : o.data = .dict es ep) (hk : es.toList.map (·.key) = as.map Value.ref) :
    Turn P w K tg (Itd a o u as) [it] it (fun i h => h.IsKeyIter it a i es.size ep) where
  mem := by simp
  obj := fun i h st b hb => by
    have e : b = it := by simpa using hb
    subst e
    obtain ⟨o, e, c, d⟩ := st
    exact ⟨o, e, fun v z => by rw [d] at z; cases z⟩
  keep := fun i h h' st k => st.at fun o e => k it (by simp) o e
  item := by
    intro X hP hw hK hcm i pins s σ H E I hf st hg
    subst hP hw hK
    obtain ⟨hi, hH⟩ := hg
    obtain ⟨f0, f1, f2, f3, f4, f5⟩ := hf it (by simp)
    have raw : RawD s.heap a es ep := ⟨o, (I.hok a _ hH).1, hc, hd⟩
    have hz : es.size = as.length := by have := congrArg List.length hk; simpa using this
    have hi' : i < es.size := by omega
    refine raw_item st raw hi' fun h' st' sb => ?_
    have I1 : Inv X pins σ H { s with heap := h' } := I.turned (t' := s.toks) (fun b o hb e => (sb.2 b hb).trans e) f0 f1 f3 f4 f5
    obtain ⟨oi, e, c, d⟩ := id st'
    have ek : es[i].key = Value.ref as[i] := by
      have := congrArg (fun l => l[i]?) hk
      simp only [List.getElem?_map, Array.getElem?_toList, Array.getElem?_eq_getElem hi', List.getElem?_eq_getElem hi, Option.map_some, Option.some.injEq] at this
      exact this
    exact (L2.ea rfl (go_of (s := { s with heap := h' }) e c d (by decide) ⟨.ref as[i], H, I1, ek, ⟨rfl, hi, rfl⟩, st', fun b hb => (hf b hb).1⟩))
  done := by
    intro X hP hw hK hcm i pins s σ H E I hf st hg
    subst hP hw hK
    obtain ⟨hi, hH⟩ := hg
    obtain ⟨f0, f1, f2, f3, f4, f5⟩ := hf it (by simp)
    have raw : RawD s.heap a es ep := ⟨o, (I.hok a _ hH).1, hc, hd⟩
    have hz : es.size = as.length := by have := congrArg List.length hk; simpa using this
    exact raw_end (I.ok.hd hcm) st raw (by omega) fun h' eb => ⟨rfl, I.turned (t' := s.toks) (fun b o hb e => eb b o hb e) f0 f1 f3 f4 f5⟩
  self := fun _ _ _ _ _ st h => wpAny_pyIter_keyiter st h
theorem Inv.freeze {pins : List (Addr × Obj)} {σ : St} {H : Hp} {s : Shared} {a : Addr} {u : HO} {o : Obj} (I : Inv X pins σ H s) (h : H a = some u) (mu : Mut (some u)) (e : s.heap.get? a = some o) : Inv X pins σ (upd H a (.frz o u)) s := by
  have hm : ∀ b v, H b = some v → ¬ Mut (some v) → b ≠ a := fun b v q nm z => by rw [z, h] at q; cases q; exact nm mu
  have hn : ∀ b, H b = none → b ≠ a := fun b q z => by rw [z, h] at q; cases q
  refine I.un (t' := s.toks) ⟨fun b ob q _ _ _ => q, fun b ob q _ _ _ => ⟨ob.slots, q⟩, fun b ob q n _ => by rw [upd_ne (hn b n)]; exact n, fun b ob q _ => ⟨ob, q⟩, fun b xs q => by rw [upd_ne (hm b _ q fun z => z)]; exact q, fun b ob xs q => by rw [upd_ne (hm b _ q fun z => z)]; exact q,
    fun b ps q => ⟨#[], by rw [upd_ne (hm b _ q fun z => z), q]; simp⟩⟩ fun b v q => ?_
  have ow : ∀ c y, H c = some (.own y) → upd H a (.frz o u) c = some (.own y) := fun c y q => by rw [upd_ne (hm c _ q fun z => z)]; exact q
  have tp : ∀ c xs, H c = some (.tup xs) → upd H a (.frz o u) c = some (.tup xs) := fun c xs q => by rw [upd_ne (hm c _ q fun z => z)]; exact q
  by_cases hb : b = a
  · subst hb
    rw [upd_same] at q; cases q
    exact ⟨e, (I.hok b _ h).stay (fun _ _ _ z => z) (fun c z => ow c _ z) tp⟩
  · rw [upd_ne hb] at q
    exact (I.hok b _ q).stay (fun _ _ _ z => z) (fun c z => ow c _ z) tp
noncomputable def Gh (X : Cx) (H H' : Hp) : Prop := ∀ (pins : List (Addr × Obj)) (σ : St) (s : Shared), Inv X pins σ H s → Inv X pins σ H' s
theorem gh_thaw {H : Hp} {a : Addr} {u : HO} {o : Obj} (h : H a = some (.frz o u)) (hu : ∀ x, u ≠ .own x) (ht : ∀ xs, u ≠ .tup xs) (h0 : ∀ o u, X.H₀ a ≠ some (.frz o u)) : Gh X H (upd H a u) := by
  intro pins σ s I
  have ne : ∀ b v, H b = some v → (∀ o u, v ≠ .frz o u) → b ≠ a := fun b v q nf z => by rw [z, h] at q; cases q; exact nf _ _ rfl
  have hok : HOk X.prog X.w (upd H a u) s.heap := fun b v q => by
    have ow : ∀ c y, H c = some (.own y) → upd H a u c = some (.own y) := fun c y q => by rw [upd_ne (ne c _ q fun _ _ z => nomatch z)]; exact q
    have tp : ∀ c xs, H c = some (.tup xs) → upd H a u c = some (.tup xs) := fun c xs q => by rw [upd_ne (ne c _ q fun _ _ z => nomatch z)]; exact q
    by_cases hb : b = a
    · subst hb
      rw [upd_same] at q; cases q
      exact (I.hok b _ h).2.stay (fun _ _ _ z => z) (fun c z => ow c _ z) tp
    · rw [upd_ne hb] at q
      exact (I.hok b _ q).stay (fun _ _ _ z => z) (fun c z => ow c _ z) tp
  have nn : ∀ b, H b = none → upd H a u b = none := fun b q => by
    rw [upd_ne (fun z => by rw [z, h] at q; cases q)]; exact q
  refine ⟨I.ok, I.os, I.bare, ⟨I.base.keep, I.base.slot, fun b ob q n hx => nn b (I.base.free b ob q n hx), I.base.there, fun b xs q => ?_, fun b ob v q => ?_, fun b ps q => ?_⟩, I.loc, I.cell, nn _ I.free, fun x c e => nn _ (I.freeC x c e), fun p hp => ?_, hok, I.len⟩
  · have := I.base.tups b xs q
    rw [upd_ne (ne b _ this fun _ _ z => nomatch z)]; exact this
  · have := I.base.frzs b ob v q
    by_cases hb : b = a
    · subst hb; exact absurd q (h0 _ _)
    · rw [upd_ne hb]; exact this
  · obtain ⟨more, e⟩ := I.base.tbls b ps q
    exact ⟨more, by rw [upd_ne (ne b _ e fun _ _ z => nomatch z)]; exact e⟩
  · obtain ⟨a1, a2, a3⟩ := I.pin p hp
    exact ⟨a1, nn _ a2, a3⟩
noncomputable def tGhost (X : Cx) (t : TS) : TS := fun D σ H => t { D with nx := fun σ' H' => ∃ H'', Gh X H' H'' ∧ D.nx σ' H'' } σ H
theorem ps_ghost {st : Stmt} {t : TS} (h : PS X st t) : PS X st (tGhost X t) := by
  intro pins s σ H D I q
  refine thn (h pins s σ H _ I q) fun f s' z => ?_
  cases f with
  | next =>
    obtain ⟨σ', H', I', H'', g, d⟩ := z
    exact ⟨σ', H'', g _ _ _ I', d⟩
  | brk => exact z
  | cont => exact z
  | ret u => exact z
noncomputable def iDict (tl : TE) : TI := fun σ H R => tl σ H fun x H1 => ∃ (a : Addr) (kvs : List (List Key × V)), x = .ref a ∧ H1 a = some (.dT kvs) ∧
  ∀ (o : Obj) (as : List Addr), Paired (fun b (p : List Key × V) => H1 b = some (.tup (p.1.map kV))) as kvs → R (Itd a o (.dT kvs) as) (upd H1 a (.frz o (.dT kvs)))
theorem pi_dict {tg l : Expr} {tl : TE} (hl : PE X l tl) : PI X tg l (iDict tl) := by
  intro pins s σ H R I h
  refine thn (hl pins s σ H _ I h) fun v s1 hq_ => ?_
  obtain ⟨x, H1, I1, rx, a, kvs, e, hH, q⟩ := hq_
  subst e
  cases rx
  obtain ⟨as, es, ep, raw, lo, hes, hp, _, _⟩ := dT_raw I1.hok hH
  obtain ⟨o, eo, hc, hd⟩ := id raw
  refine raw_iter lo raw ?_
  have I2 := I1.freeze hH (o := o) trivial eo
  have I3 : Inv X pins σ (upd H1 a (.frz o (.dT kvs))) { s1 with heap := s1.heap.push { cls := .type "dict_keyiterator", data := .fields #[.ref a, .int 0 0, .int es.size 0, .int ep 0] } } := I2.kept (t' := s1.toks) fun b ob e => Heap.get?_push_of_some _ e
  refine ⟨s1.heap.objs.size, [s1.heap.objs.size], _, Itd a o (.dT kvs) as, L2.ea rfl ⟨I3, turn_dict a _ o _ as es ep hc hd hes, ⟨_, Heap.get?_push_size _ rfl, rfl, rfl⟩, fun b hb => ?_, q o as hp⟩⟩
  have eb : b = s1.heap.objs.size := by simpa using hb
  subst eb
  exact I1.fpOk (Nat.le_refl _) (I2.hok.fresh (Nat.le_refl _))
end
end L2

set_option Elab.async false
set_option linter.all false
namespace Cf
noncomputable def choicesM (ls : List (List Int)) : List (List Int) := ls.foldl (fun found ps => found.flatMap fun b => ps.map fun p => b ++ [p]) [[]]
inductive Goes : List (List Int) → List Int → Prop
  | nil : Goes [] []
  | cons {p : Int} {l : List Int} {ls : List (List Int)} {c : List Int} : p ∈ l → Goes ls c → Goes (l :: ls) (p :: c)
theorem choices_from (ls : List (List Int)) : ∀ (found : List (List Int)) (c : List Int), c ∈ ls.foldl (fun found ps => found.flatMap fun b => ps.map fun p => b ++ [p]) found ↔ ∃ b ∈ found, ∃ g, Goes ls g ∧ c = b ++ g := by
  induction ls with
  | nil =>
    intro found c
    constructor
    · intro h
      exact ⟨c, h, [], .nil, by simp⟩
    · rintro ⟨b, hb, g, hg, rfl⟩
      cases hg
      simpa using hb
  | cons l r ih =>
    intro found c
    rw [List.foldl_cons, ih]
    constructor
    · rintro ⟨b, hb, g, hg, rfl⟩
      obtain ⟨b0, hb0, hb⟩ := List.mem_flatMap.mp hb
      obtain ⟨p, hp, rfl⟩ := List.mem_map.mp hb
      exact ⟨b0, hb0, p :: g, .cons hp hg, by simp⟩
    · rintro ⟨b, hb, g, hg, rfl⟩
      cases hg with
      | @cons p _ _ c' hp hg' => exact ⟨b ++ [p], List.mem_flatMap.mpr ⟨b, hb, List.mem_map.mpr ⟨p, hp, rfl⟩⟩, c', hg', by simp⟩
theorem mem_choices {ls : List (List Int)} {c : List Int} : c ∈ choicesM ls ↔ Goes ls c := by
  unfold choicesM
  rw [choices_from]
  constructor
  · rintro ⟨b, hb, g, hg, rfl⟩
    have : b = [] := by simpa using hb
    rw [this]
    simpa using hg
  · intro h
    exact ⟨[], by simp, c, h, by simp⟩
theorem Goes.len {ls : List (List Int)} {c : List Int} (h : Goes ls c) : c.length = ls.length := by
  induction h with
  | nil => rfl
  | cons _ _ ih => simp [ih]

noncomputable def winB (near : Int → List Int) : Nat → List Int → Int → Bool
  | 0, c, r => c.contains r
  | k + 1, c, r => winB near k c r || (choicesM (c.map near)).any fun g => g.contains r || (near r).all fun r' => winB near k g r'
theorem win_zero {near : Int → List Int} {c : List Int} {r : Int} : winB near 0 c r = true ↔ r ∈ c := by simp [winB]
theorem win_succ {near : Int → List Int} {k : Nat} {c : List Int} {r : Int} :
    winB near (k + 1) c r = true ↔ winB near k c r = true ∨ ∃ g, Goes (c.map near) g ∧ (r ∈ g ∨ ∀ r' ∈ near r, winB near k g r' = true) := by
  rw [winB, Bool.or_eq_true, List.any_eq_true]
  constructor
  · rintro (h | ⟨g, hg, h⟩)
    · exact .inl h
    · refine .inr ⟨g, mem_choices.mp hg, ?_⟩
      rw [Bool.or_eq_true, List.all_eq_true] at h
      exact h.imp (by simp) id
  · rintro (h | ⟨g, hg, h⟩)
    · exact .inl h
    · refine .inr ⟨g, mem_choices.mpr hg, ?_⟩
      rw [Bool.or_eq_true, List.all_eq_true]
      exact h.imp (by simp) id
theorem win_mono {near : Int → List Int} {k : Nat} {c : List Int} {r : Int} (h : winB near k c r = true) : winB near (k + 1) c r = true := win_succ.mpr (.inl h)
theorem win_le {near : Int → List Int} {j k : Nat} {c : List Int} {r : Int} (h : winB near j c r = true) (hjk : j ≤ k) : winB near k c r = true := by
  induction hjk with
  | refl => exact h
  | step _ ih => exact win_mono ih
structure Dom (near : Int → List Int) (C : List Int → Prop) (R : Int → Prop) : Prop where
  go : ∀ c g, C c → Goes (c.map near) g → C g
  fl : ∀ r r', R r → r' ∈ near r → R r'
theorem win_stable {near : Int → List Int} {C : List Int → Prop} {R : Int → Prop} (D : Dom near C R) {k : Nat} (h : ∀ c r, C c → R r → winB near (k + 1) c r = true → winB near k c r = true) :
    ∀ j c r, C c → R r → winB near j c r = true → winB near k c r = true := by
  intro j
  induction j with
  | zero => intro c r _ _ hw; exact win_le hw (Nat.zero_le _)
  | succ j ih =>
    intro c r hc hr hw
    rcases win_succ.mp hw with hw | ⟨g, hg, hw⟩
    · exact ih c r hc hr hw
    · refine h c r hc hr (win_succ.mpr (.inr ⟨g, hg, hw.imp id fun hall r' hr' => ?_⟩))
      exact ih g r' (D.go c g hc hg) (D.fl r r' hr hr') (hall r' hr')
noncomputable def rk (near : Int → List Int) (c : List Int) (r : Int) : Nat → Option Nat
  | 0 => if winB near 0 c r then some 0 else none
  | k + 1 => match rk near c r k with
    | some j => some j
    | none => if winB near (k + 1) c r then some (k + 1) else none
structure IsRank (near : Int → List Int) (c : List Int) (r : Int) (v : Option Nat) : Prop where
  no : v = none → ∀ j, winB near j c r = false
  yes : ∀ k, v = some k → winB near k c r = true ∧ ∀ j, j < k → winB near j c r = false
theorem rk_none {near : Int → List Int} {c : List Int} {r : Int} {k : Nat} (e : rk near c r k = none) : winB near k c r = false := by
  cases k with
  | zero =>
    unfold rk at e
    split at e
    · cases e
    · rename_i hn; simpa using hn
  | succ k =>
    unfold rk at e
    split at e
    · cases e
    · split at e
      · cases e
      · rename_i hn; simpa using hn
theorem rk_some {near : Int → List Int} {c : List Int} {r : Int} : ∀ (k j : Nat), rk near c r k = some j → j ≤ k ∧ winB near j c r = true ∧ ∀ i, i < j → winB near i c r = false
  | 0, j, h => by
    unfold rk at h
    split at h
    · cases h
      exact ⟨Nat.le_refl _, by assumption, fun i hi => absurd hi (Nat.not_lt_zero _)⟩
    · cases h
  | k + 1, j, h => by
    unfold rk at h
    cases e : rk near c r k with
    | some i =>
      rw [e] at h
      cases h
      obtain ⟨a, b, d⟩ := rk_some k _ e
      exact ⟨by omega, b, d⟩
    | none =>
      rw [e] at h
      simp only at h
      split at h
      · cases h
        refine ⟨Nat.le_refl _, by assumption, fun i hi => ?_⟩
        have hk := rk_none e
        cases hw : winB near i c r with
        | false => rfl
        | true =>
          have := win_le (k := k) hw (by omega)
          rw [hk] at this
          cases this
      · cases h
theorem rk_isSome {near : Int → List Int} {c : List Int} {r : Int} {k : Nat} : (rk near c r k).isSome = winB near k c r := by
  cases e : rk near c r k with
  | none => rw [rk_none e]; rfl
  | some j => exact (win_le (rk_some k j e).2.1 (rk_some k j e).1).symm ▸ rfl
theorem isRank_of {near : Int → List Int} {C : List Int → Prop} {R : Int → Prop} (D : Dom near C R) {k : Nat} (h : ∀ c r, C c → R r → rk near c r (k + 1) = rk near c r k) {c : List Int} {r : Int} (hc : C c) (hr : R r) :
    IsRank near c r (rk near c r k) := by
  have st := win_stable D (k := k) fun c r hc hr hw => by
    rw [← rk_isSome] at hw ⊢
    rw [← h c r hc hr]
    exact hw
  refine ⟨fun e j => ?_, fun j e => ⟨(rk_some k j e).2.1, (rk_some k j e).2.2⟩⟩
  cases hw : winB near j c r with
  | false => rfl
  | true =>
    have := st j c r hc hr hw
    rw [rk_none e] at this
    cases this
theorem IsRank.unique {near : Int → List Int} {c : List Int} {r : Int} {u v : Option Nat} (a : IsRank near c r u) (b : IsRank near c r v) : u = v := by
  cases u with
  | none =>
    cases v with
    | none => rfl
    | some k =>
      have := (b.yes k rfl).1
      rw [a.no rfl k] at this
      cases this
  | some j =>
    cases v with
    | none =>
      have := (a.yes j rfl).1
      rw [b.no rfl j] at this
      cases this
    | some k =>
      congr 1
      obtain ⟨a1, a2⟩ := a.yes j rfl
      obtain ⟨b1, b2⟩ := b.yes k rfl
      rcases Nat.lt_trichotomy j k with h | h | h
      · rw [b2 j h] at a1; cases a1
      · exact h
      · rw [a2 k h] at b1; cases b1
end Cf

set_option Elab.async false
set_option linter.all false
namespace Cf
theorem mem_near {n : Int} {ds : List Door} {p q : Int} : q ∈ nearP n ds p ↔ (0 ≤ q ∧ q < n) ∧ isNear ds p q = true := by
  unfold nearP
  rw [List.mem_filter, mem_rng]
section
variable {n : Int} {ds : List Door}
end
end Cf

set_option Elab.async false
set_option linter.all false
set_option maxRecDepth 100000
namespace L2
open PySem PySem.Spec PyProof.Rows Cf
noncomputable def pd (d : Door) : PyData := .tuple [.int d.1, .int d.2]
noncomputable def DoorsAt (H : Hp) (a : Addr) (ds : List Door) : Prop := ∃ as : List Addr, H a = some (.lst (as.map V.ref)) ∧ PairsAre H as ds
noncomputable def IntsAt (H : Hp) (a : Addr) (ns : List Int) : Prop := H a = some (.lst (ns.map V.int))
theorem PairsAre.same {H H' : Hp} {as : List Addr} {ds : List Door} (e : Same H H') (h : PairsAre H as ds) : PairsAre H' as ds := Paired.mapP h fun _ _ q => e _ _ q
theorem DoorsAt.same {H H' : Hp} {a : Addr} {ds : List Door} (e : Same H H') (h : DoorsAt H a ds) : DoorsAt H' a ds := let ⟨as, h1, h2⟩ := h; ⟨as, e _ _ h1, PairsAre.same e h2⟩
theorem IntsAt.same {H H' : Hp} {a : Addr} {ns : List Int} (e : Same H H') (h : IntsAt H a ns) : IntsAt H' a ns := e _ _ h
theorem Same.new {H : Hp} {p : Addr} {o : HO} (h : H p = none) : Same H (upd H p o) := fun b u e => by rw [upd_ne (ne_of_none e h)]; exact e
theorem Same.set {H0 H : Hp} {p : Addr} {o : HO} (e : Same H0 H) (h : H0 p = none) : Same H0 (upd H p o) := fun b u q => by rw [upd_ne (ne_of_none q h)]; exact e b u q
theorem PairsAre.reps {H : Hp} : ∀ {as : List Addr} {ds : List Door}, PairsAre H as ds → Reps H (as.map V.ref) (ds.map pd)
  | _, _, .nil => .nil
  | _, _, .cons h r => .cons (.tup h (.cons (.int _) (.cons (.int _) .nil))) (PairsAre.reps r)
theorem DoorsAt.rep {H : Hp} {a : Addr} {ds : List Door} (h : DoorsAt H a ds) : Rep H (.ref a) (.list (ds.map pd)) := let ⟨_, h1, h2⟩ := h; .lst h1 (PairsAre.reps h2)
theorem shaped_pd (d : Door) : SeqAt.shaped (pd d) = true := by simp [pd, SeqAt.shaped, PyData.canLay0, PyData.canLayAll0, PyData.depth, PyData.depthAll]
theorem shaped_pds (ds : List Door) : SeqAt.shaped (.list (ds.map pd)) = true := by
  have h1 : ∀ ds : List Door, PyData.canLayAll0 (ds.map pd) = true := by
    intro ds
    induction ds with
    | nil => rfl
    | cons d r ih => simp [PyData.canLayAll0, ih, pd, PyData.canLay0]
  have h2 : ∀ ds : List Door, PyData.depthAll (ds.map pd) ≤ 1 := by
    intro ds
    induction ds with
    | nil => simp [PyData.depthAll]
    | cons d r ih => simp [PyData.depthAll, pd, PyData.depth]; omega
  have := h2 ds
  simp only [SeqAt.shaped, PyData.canLay0, h1 ds, Bool.true_and, decide_eq_true_eq]
  unfold PyData.depth
  omega
theorem eqv_pd (d e : Door) : PyData.eqv (pd d) (pd e) = decide (d = e) := by
  obtain ⟨a, b⟩ := d
  obtain ⟨c, f⟩ := e
  simp only [pd, PyData.eqv, PyData.eqvAll, Prod.mk.injEq]
  by_cases h1 : a = c <;> by_cases h2 : b = f <;> simp [h1, h2]
theorem any_pd (ds : List Door) (d : Door) : ((ds.map pd).any fun z => PyData.eqv z (pd d)) = ds.contains d := by
  induction ds with
  | nil => rfl
  | cons e r ih =>
    rw [List.map_cons, List.any_cons, ih, eqv_pd, List.contains_cons]
    congr 1
    by_cases h : e = d
    · simp [h]
    · have h' : ¬ d = e := fun z => h z.symm
      simp [h, h']
theorem tup_rep {H : Hp} {a : Addr} {x y : Int} (h : H a = some (.tup [.int x, .int y])) : Rep H (.ref a) (pd (x, y)) := .tup h (.cons (.int _) (.cons (.int _) .nil))
theorem Room.u65 {k : Nat} {A : Around} (r : Room k A) : A.units + 65 < cLine := by have := r.un; omega
theorem Room.u64 {k : Nat} {A : Around} (r : Room k A) : A.units + 64 < cLine := by have := r.un; omega
structure Df (K : PySem.W.Frag) (mg : Str → Option Value) (x : Str) (st : Stmt) (ps : List Str) (f : Addr) (fd : FuncData) : Prop where
  F : Fun K x x st f fd
  mg : mg x = some (.ref f)
  b : Binds K fd ps []
theorem pe_df {X : Cx} {x : Str} {st : Stmt} {ps : List Str} {f : Addr} {fd : FuncData} {j : Nat} {sp : Sp} {e : Expr} {es : List Expr} {t : TA} {p pos : Pos} (D : Df X.K X.mg x st ps f fd) (G : FnOk X.prog X.w X.K X.mg X.base CX0 j f fd ps sp) (hr : Room j X.A) (ha : PA X (e :: es) t)
    (hg : Gl X x := by rfl) (hdb : (x == ("__debug__" : Str)) = false := by decide) (hst : starEach (e :: es) X.env = (false, eval e X.env) :: starEach es X.env := by rfl) (hpl : (backTo pos (starEach es X.env)).any (·.1) = false := by rfl) : PE X (.Call (.Name x p) (e :: es) [] pos) (tCall sp [] E0 t) :=
  pe_call G hr hg D.mg D.F.kp D.b .nil pass0 ha hdb hst hpl
theorem lex_ltD (d e : Door) : HT.lexLt [d.1, d.2] [e.1, e.2] = ltD d e := by
  rw [HT.lexLt_cons, HT.lexLt_cons, HT.lexLt_nil_nil]
  unfold ltD
  by_cases h1 : d.1 = e.1
  · rw [if_pos h1, if_pos h1]
    by_cases h2 : d.2 = e.2
    · rw [if_pos h2, h2]; simp
    · rw [if_neg h2]
  · rw [if_neg h1, if_neg h1]
theorem rising_all (ds : List Door) : ((rng ((ds.length : Int) - 1)).map fun i => ltD (ds.getD i.toNat (0, 0)) (ds.getD (i.toNat + 1) (0, 0))).all id = isRising ds := by
  unfold isRising rng
  rw [List.map_map, List.all_map]
  have e : ((ds.length : Int) - 1).toNat = ds.length - 1 := Int.toNat_sub ds.length 1
  rw [e]
  congr 1
section
variable {X : Cx} {K : PySem.W.Frag}
theorem ix_listK (h : X.K = K) : IxR X (rIxL K) := by subst h; exact ix_list
theorem op_ltTK (h : X.K = K) (hu : X.A.units < cLine) : OpR X (compareOp .Lt) (rLtT K) := by subst h; exact op_ltT hu
theorem op_inK (h : X.K = K) : OpR X (compareOp .In) (rIn K false) := by subst h; exact op_in_seq
theorem op_catTK (h : X.K = K) : OpR X (binaryOp .Add) (rCatT K) := by subst h; exact op_catT
theorem op_catT0K (h : X.K = K) : OpR X (binaryOp .Add) (rCatT0 K) := by subst h; exact op_catT0
end
section
variable {X : Cx}
noncomputable def tCut (t : TS) : TS := fun D σ H => ∃ M : St → Hp → Prop, t { D with nx := M } σ H ∧ ∀ σ' H', M σ' H' → D.nx σ' H'
theorem ps_cut {st : Stmt} {t : TS} (h : PS X st t) : PS X st (tCut t) := by
  intro pins s σ H D I q
  obtain ⟨M, q1, q2⟩ := q
  refine thn (h pins s σ H _ I q1) fun f s' z => ?_
  cases f with
  | next =>
    obtain ⟨σ', H', I', m⟩ := z
    exact ⟨σ', H', I', q2 _ _ m⟩
  | brk => exact z
  | cont => exact z
  | ret u => exact z
theorem pg_tupK {K : PySem.W.Frag} {es : List Expr} {k : Nat} {t : TGs} {n : Nat} {pos : Pos} (hK : X.K = K) (hc : X.calm = true) (h : PGs X es t) (hn : (assignEach es X.env).length = n := by rfl) (hs : (assignEach es X.env).findIdx? (·.1) = none := by rfl) : PG X (.Tuple es k pos) (gTup K n t) := by
  subst hK
  exact pg_tup hc h hn hs
end
theorem keys_putK {κ : Type} [DecidableEq κ] (k : κ) (v : V) (kvs : List (κ × V)) : (k ∈ kvs.map (·.1) ∧ (putK kvs k v).map (·.1) = kvs.map (·.1)) ∨ (k ∉ kvs.map (·.1) ∧ (putK kvs k v).map (·.1) = kvs.map (·.1) ++ [k]) := by
  unfold putK
  by_cases h : (kvs.any fun kv => decide (kv.1 = k)) = true
  · left
    rw [if_pos h]
    obtain ⟨x, hx, e⟩ := List.any_eq_true.mp h
    refine ⟨List.mem_map.mpr ⟨x, hx, by simpa using e⟩, ?_⟩
    rw [List.map_map]
    refine List.map_congr_left fun y _ => ?_
    simp only [Function.comp]
    split <;> rfl
  · right
    rw [if_neg h]
    refine ⟨fun hm => h ?_, by simp⟩
    obtain ⟨x, hx, e⟩ := List.mem_map.mp hm
    exact List.any_eq_true.mpr ⟨x, hx, by simpa using e⟩
end L2

set_option Elab.async false
set_option linter.all false
set_option maxRecDepth 100000
namespace L2
open PySem PySem.Spec PyProof.Rows
noncomputable def del (H : Hp) (a : Addr) : Hp := fun b => if b = a then none else H b
theorem del_ne {H : Hp} {a b : Addr} (h : b ≠ a) : del H a b = H b := by unfold del; rw [if_neg h]
theorem del_some {H : Hp} {a b : Addr} {o : HO} (h : del H a b = some o) : b ≠ a ∧ H b = some o := by
  unfold del at h
  split at h
  · cases h
  · exact ⟨by assumption, h⟩
theorem del_same (H : Hp) (a : Addr) : Same (del H a) H := fun b o e => (del_some e).2
structure Src (J : It) (src : List V) (H1 : Hp) : Prop where
  go : ∀ i H, Same H1 H → i < src.length → J.go i H ∧ ∀ x H', J.yld i H x H' → H' = H ∧ src[i]? = some x
  stop : ∀ H, Same H1 H → J.stop src.length H
theorem src_range {H1 : Hp} (lo : Int) (n : Nat) : Src (Itr lo n) ((List.range n).map fun (i : Nat) => V.int (lo + (i : Int))) H1 where
  go := fun i H _ hi => by
    have hi' : i < n := by simpa using hi
    refine ⟨hi', fun x H' y => ⟨y.1, ?_⟩⟩
    rw [y.2]
    simp [hi']
  stop := fun H _ => by show n ≤ _; simp
theorem src_list {K : PySem.W.Frag} {H1 : Hp} {a : Addr} {xs : List V} (h : H1 a = some (.lst xs)) : Src (Itl K a) xs H1 where
  go := fun i H e hi => ⟨⟨xs, xs[i], SqL.of (e _ _ h), by simp [hi]⟩, fun x H' y => ⟨y.1, y.2 xs (SqL.of (e _ _ h))⟩⟩
  stop := fun H e => ⟨xs, SqL.of (e _ _ h), Nat.le_refl _⟩
theorem src_tup {K : PySem.W.Frag} {H1 : Hp} {a : Addr} {xs : List V} (h : H1 a = some (.tup xs)) : Src (Itt K a) xs H1 where
  go := fun i H e hi => ⟨⟨xs, xs[i], SqT.of (e _ _ h), by simp [hi]⟩, fun x H' y => ⟨y.1, y.2 xs (SqT.of (e _ _ h))⟩⟩
  stop := fun H e => ⟨xs, SqT.of (e _ _ h), Nat.le_refl _⟩
theorem Paired.snoc' {α β : Type} {F : α → β → Prop} {a : α} {b : β} : ∀ {l₁ : List α} {l₂ : List β}, Paired F l₁ l₂ → F a b → Paired F (l₁ ++ [a]) (l₂ ++ [b])
  | _, _, .nil, h => .cons h .nil
  | _, _, .cons h₁ t, h => .cons h₁ (Paired.snoc' t h)
theorem take_succ_fm {α β : Type} (f : α → Option β) (l : List α) (i : Nat) (x : α) (h : l[i]? = some x) : (l.take (i + 1)).filterMap f = (l.take i).filterMap f ++ (match f x with | some y => [y] | none => []) := by
  rw [List.take_add_one, h, List.filterMap_append]
  cases hf : f x <;> simp [hf]
theorem comp_map {ι δ : Type} {J : It} {src : List ι} {emb : ι → V} {H1 : Hp} {own : List Str} {fr : List (Str × Nat)} {σ : St} {g : TG} {tc : TT} {te : TE} {Q : VK} (hs : Src J (src.map emb) H1) (hz : src.length ≤ 1000) (spec : ι → Option δ) (Rel : Hp → V → δ → Prop) (mono : ∀ H H' v d, Same H H' → Rel H v d → Rel H' v d)
    (step : ∀ x ∈ src, ∀ (acc : Addr) (ys : List V) (H' : Hp), H1 acc = none → Same H1 H' → H' acc = some (.lst ys) → ∀ (C : VK) (C0 : Hp → Prop),
      (∀ y d H4, spec x = some d → Same H' H4 → Rel (del H4 acc) y d → C y H4) → (∀ H3, spec x = none → Same H' H3 → C0 H3) →
      g (emb x) (blkσ own fr σ) H' fun σ2 H2 => Ext (blkσ own fr σ) σ2 ∧ tc σ2 H2 fun b H3 => if b = true then te σ2 H3 C else C0 H3)
    (fin : ∀ (acc : Addr) (ys : List V) (H' : Hp), H1 acc = none → Same H1 H' → H' acc = some (.lst ys) → Paired (Rel (del H' acc)) ys (src.filterMap spec) → Q (.ref acc) H') :
    CompGo own fr g tc te σ Q J H1 := by
  intro acc ha
  refine ⟨fun i m H => m = src.length - i ∧ i ≤ src.length ∧ Same H1 H ∧ ∃ ys, H acc = some (.lst ys) ∧ Paired (Rel (del H acc)) ys ((src.take i).filterMap spec) ∧ ys.length ≤ i, ⟨src.length, by simp, Nat.zero_le _, Same.new ha, [], upd_same, by simpa using Paired.nil, Nat.le_refl _⟩, ?_⟩
  rintro i m H ⟨rfl, hi, sm, ys, hy, hp, hl⟩
  by_cases hlt : i < src.length
  · obtain ⟨jg, jy⟩ := hs.go i H sm (by simpa using hlt)
    refine .inr ⟨jg, fun H' => i + 1 ≤ src.length ∧ Same H1 H' ∧ ∃ ys, H' acc = some (.lst ys) ∧ Paired (Rel (del H' acc)) ys ((src.take (i + 1)).filterMap spec) ∧ ys.length ≤ i + 1, fun H' h => ⟨src.length - (i + 1), by omega, rfl, h⟩, fun x H' y => ?_⟩
    obtain ⟨e, hx'⟩ := jy x H' y
    subst e
    obtain ⟨x, hx, rfl⟩ : ∃ z, src[i]? = some z ∧ emb z = x := by
      rw [List.getElem?_map] at hx'
      cases q : src[i]? with
      | none => rw [q] at hx'; simp at hx'
      | some z => rw [q] at hx'; simp at hx'; exact ⟨z, rfl, hx'⟩
    refine step x (List.mem_of_getElem? hx) acc ys H' ha sm hy _ _ (fun y d H4 hsp s4 r4 => ?_) (fun H3 hsp s3 => ?_)
    · have hy4 := s4 _ _ hy
      have big : (1000 : Nat) < sizeLine := by decide
      refine ⟨ys, hy4, by omega, hlt, (sm.trans s4).set ha, ys ++ [y], upd_same, ?_, by simp; omega⟩
      have dd : Same (del H4 acc) (del (upd H4 acc (.lst (ys ++ [y]))) acc) := fun b o e => by
        obtain ⟨hb, e'⟩ := del_some e
        rw [del_ne hb, upd_ne hb]; exact e'
      have d4 : Same (del H' acc) (del H4 acc) := fun b o e => by
        obtain ⟨hb, e'⟩ := del_some e
        rw [del_ne hb]; exact s4 _ _ e'
      rw [take_succ_fm spec src i x hx, hsp]
      exact Paired.snoc' (Paired.mapP hp fun _ _ q => mono _ _ _ _ (d4.trans dd) q) (mono _ _ _ _ dd r4)
    · refine ⟨hlt, sm.trans s3, ys, s3 _ _ hy, ?_, by omega⟩
      have d3 : Same (del H' acc) (del H3 acc) := fun b o e => by
        obtain ⟨hb, e'⟩ := del_some e
        rw [del_ne hb]; exact s3 _ _ e'
      rw [take_succ_fm spec src i x hx, hsp]
      simp only [List.append_nil]
      exact Paired.mapP hp fun _ _ q => mono _ _ _ _ d3 q
  · have e : i = src.length := by omega
    subst e
    rw [List.take_length] at hp
    have st := hs.stop H sm
    rw [List.length_map] at st
    exact .inl ⟨st, fin acc ys H ha sm hy hp⟩
theorem paired_eq {α : Type} : ∀ {l₁ l₂ : List α}, Paired (fun a b => a = b) l₁ l₂ → l₁ = l₂
  | _, _, .nil => rfl
  | _, _, .cons h t => by rw [h, paired_eq t]
theorem comp_vals {ι : Type} {J : It} {src : List ι} {emb : ι → V} {H1 : Hp} {own : List Str} {fr : List (Str × Nat)} {σ : St} {g : TG} {tc : TT} {te : TE} {Q : VK} (hs : Src J (src.map emb) H1) (hz : src.length ≤ 1000) (spec : ι → Option V)
    (step : ∀ x ∈ src, ∀ (H' : Hp), Same H1 H' → ∀ (C : VK) (C0 : Hp → Prop),
      (∀ y H4, spec x = some y → Same H' H4 → C y H4) → (∀ H3, spec x = none → Same H' H3 → C0 H3) →
      g (emb x) (blkσ own fr σ) H' fun σ2 H2 => Ext (blkσ own fr σ) σ2 ∧ tc σ2 H2 fun b H3 => if b = true then te σ2 H3 C else C0 H3)
    (fin : ∀ (acc : Addr) (H' : Hp), H1 acc = none → Same H1 H' → H' acc = some (.lst (src.filterMap spec)) → Q (.ref acc) H') :
    CompGo own fr g tc te σ Q J H1 :=
  comp_map hs hz spec (fun _ v d => v = d) (fun _ _ _ _ _ q => q) (fun x hx acc ys H' ha sm hy C C0 hC h0 => step x hx H' sm C C0 (fun y H4 e s4 => hC y y H4 e s4 rfl) h0)
    fun acc ys H' ha sm hy hp => fin acc H' ha sm (by rw [← paired_eq hp]; exact hy)
theorem src_rng {H1 : Hp} (n : Int) : Src (Itr 0 n.toNat) ((Cf.rng n).map V.int) H1 := by
  have := src_range (H1 := H1) 0 n.toNat
  have e : ((List.range n.toNat).map fun (i : Nat) => V.int (0 + (i : Int))) = (Cf.rng n).map V.int := by
    unfold Cf.rng
    rw [List.map_map]
    exact List.map_congr_left fun i _ => by simp
  rwa [e] at this
theorem rng_len {n : Int} (h : n ≤ 100) : (Cf.rng n).length ≤ 1000 := by rw [Cf.rng_length]; omega
theorem rng_len' {n : Int} (h : n ≤ 1000) : (Cf.rng n).length ≤ 1000 := by rw [Cf.rng_length]; omega
theorem fm_filter {α β : Type} (p : α → Bool) (f : α → β) (l : List α) : (l.filterMap fun i => if p i = true then some (f i) else none) = (l.filter p).map f := by
  induction l with
  | nil => rfl
  | cons x r ih =>
    rw [List.filterMap_cons, List.filter_cons]
    cases p x <;> simp [ih]
theorem fm_some {α β : Type} (f : α → β) (l : List α) : (l.filterMap fun i => some (f i)) = l.map f := by
  induction l with
  | nil => rfl
  | cons x r ih => simp [ih]
noncomputable def RelP (H : Hp) (v : V) (d : Int × Int) : Prop := ∃ b, v = .ref b ∧ PairAt H b d
theorem RelP.mono (H H' : Hp) (v : V) (d : Int × Int) (e : Same H H') (h : RelP H v d) : RelP H' v d := let ⟨b, h1, h2⟩ := h; ⟨b, h1, e _ _ h2⟩
theorem relP_split {H : Hp} : ∀ {ys : List V} {ds : List (Int × Int)}, Paired (RelP H) ys ds → ∃ bs : List Addr, ys = bs.map V.ref ∧ PairsAre H bs ds
  | _, _, .nil => ⟨[], rfl, .nil⟩
  | _, _, .cons ⟨b, e, h⟩ r => by
    obtain ⟨bs, e', h'⟩ := relP_split r
    exact ⟨b :: bs, by rw [e, e']; rfl, .cons h h'⟩
theorem Paired.zip_mem {α β : Type} {F : α → β → Prop} : ∀ {l₁ : List α} {l₂ : List β}, Paired F l₁ l₂ → ∀ p ∈ l₁.zip l₂, F p.1 p.2
  | _, _, .nil, p, h => by simp at h
  | _, _, .cons h t, p, hp => by
    rw [List.zip_cons_cons] at hp
    rcases List.mem_cons.mp hp with rfl | hp
    · exact h
    · exact Paired.zip_mem t p hp
theorem Paired.zip_fst {α β : Type} {F : α → β → Prop} : ∀ {l₁ : List α} {l₂ : List β}, Paired F l₁ l₂ → (l₁.zip l₂).map (·.1) = l₁ ∧ (l₁.zip l₂).map (·.2) = l₂
  | _, _, .nil => ⟨rfl, rfl⟩
  | _, _, .cons h t => by
    obtain ⟨a, b⟩ := Paired.zip_fst t
    simp [a, b]
theorem src_pairs {K : PySem.W.Frag} {H1 : Hp} {a : Addr} {as : List Addr} {ds : List (Int × Int)} (h : H1 a = some (.lst (as.map V.ref))) (hp : PairsAre H1 as ds) : Src (Itl K a) ((as.zip ds).map fun p => V.ref p.1) H1 := by
  have e : ((as.zip ds).map fun p => V.ref p.1) = as.map V.ref := by
    have := (Paired.zip_fst hp).1
    have e2 : ((as.zip ds).map fun p => V.ref p.1) = ((as.zip ds).map (·.1)).map V.ref := by rw [List.map_map]; rfl
    rw [e2, this]
  rw [e]
  exact src_list h
theorem PairsAre.append {H : Hp} : ∀ {as bs : List Addr} {ds es : List (Int × Int)}, PairsAre H as ds → PairsAre H bs es → PairsAre H (as ++ bs) (ds ++ es)
  | _, _, _, _, .nil, h => h
  | _, _, _, _, .cons h t, r => .cons h (PairsAre.append t r)
theorem del_new {H4 : Hp} {acc t : Addr} {o u : HO} (ht : H4 t = none) (ha : H4 acc = some u) : del (upd H4 t o) acc t = some o := by
  rw [del_ne (ne_of_none ha ht).symm]; exact upd_same
end L2

set_option Elab.async false
set_option linter.all false
set_option maxRecDepth 100000
namespace Cn
open PySem L2 Cf
noncomputable def top (i : Nat) : Stmt := PySem.Challenge.pw_chasefloor_k05_whole_chased_by_plan.main.body.getD i (.Pass ⟨0, 0, 0, 0⟩)
noncomputable def nop : Stmt := .Pass ⟨0, 0, 0, 0⟩
noncomputable def non : Expr := .Constant .none 0 ⟨0, 0, 0, 0⟩
noncomputable def stAt (b : List Stmt) (i : Nat) : Stmt := b.getD i nop
noncomputable def retE : Stmt → Expr | .Return (some e) _ => e | _ => non
noncomputable def asgE : Stmt → Expr | .Assign _ e _ => e | _ => non
noncomputable def forB : Stmt → List Stmt | .For _ _ b _ _ => b | _ => []
noncomputable def forI : Stmt → Expr | .For _ i _ _ _ => i | _ => non
noncomputable def arg (i : Nat) : Expr → Expr | .Call _ as _ _ => as.getD i non | _ => non
noncomputable def cscope : Expr → Scope | .ListComp _ _ s _ => s | _ => { kind := .function, names := [], isGenerator := false, isCoroutine := false, more := [] }
noncomputable abbrev s_is_near : Stmt := top 30
noncomputable abbrev s_is_door : Stmt := top 27
noncomputable abbrev s_is_rising : Stmt := top 28
noncomputable abbrev s_reached : Stmt := top 31
noncomputable abbrev s_is_near_one : Stmt := top 32
noncomputable abbrev s_near_places : Stmt := top 29
section
variable {P : Program} {w : World} {K : PySem.W.Frag} {mg : Str → Option Value} {base : Heap}
noncomputable def spNear : Sp := fun vs H Q _ => ∃ (a : Addr) (ds : List Door) (p q : Int), vs = [.ref a, .int p, .int q] ∧ DoorsAt H a ds ∧ ∀ H', Same H H' → Q (.bl (isNear ds p q)) H'
theorem sc_is_near : FnScope ["doors", "place", "other"] ["doors", "place", "other"] (defScope s_is_near) := ⟨rfl, rfl, rfl, by decide +kernel, rfl, by decide +kernel, by decide +kernel⟩
theorem ok_is_near {f : Addr} {fd : FuncData} (F : Fun K "is_near" "is_near" s_is_near f fd) : FnOk P w K mg base CX0 1 f fd ["doors", "place", "other"] spNear := by
  refine F.ok sc_is_near (fun vs H Q E h => ?_) (fun cdv A outer s H vs Q E hr h => ?_)
  · obtain ⟨a, ds, p, q, rfl, _⟩ := h
    rfl
  · obtain ⟨a, ds, p, q, rfl, hD, k⟩ := h
    have hu1 := hr.u65
    refine ⟨_, pss_one (ps_ret (pe_or (pe_cmpR op_eq (pv 1) (pv 2) (nomark _)) (pe_or (pe_cmpR (op_inD hu1) (pe_tup (pa_cons (pv 1) (pa_cons (pv 2) pa_nil))) (pv 0) (by with_unfolding_all rfl))
      (pe_one (pe_cmpR (op_inD hu1) (pe_tup (pa_cons (pv 2) (pa_cons (pv 1) pa_nil))) (pv 0) (by with_unfolding_all rfl)))))), ?_⟩
    refine (L2.ea2 rfl rfl ⟨rfl, L2.ea rfl ?_⟩)
    refine ite2 (fun h1 => ?_) (fun h1 => ?_)
    · have e : p = q := by simpa using h1
      have : isNear ds p q = true := near_iff.mpr (.inl e)
      rw [← this]
      exact k H (Same.refl H)
    · refine (L2.ea2 rfl rfl ⟨(by show 2 ≤ sizeLine; decide), fun t ht => (L2.ea rfl ⟨_, _, tup_rep upd_same, (hD.same (Same.new ht)).rep, shaped_pd _, shaped_pds _, L2.ea rfl ?_⟩)⟩)
      rw [any_pd]
      refine ite2 (fun h2 => ?_) (fun h2 => ?_)
      · have : isNear ds p q = true := near_iff.mpr (.inr (.inl (by simpa using h2)))
        rw [← this]
        exact k _ (Same.new ht)
      · refine (L2.ea2 rfl rfl ⟨(by show 2 ≤ sizeLine; decide), fun t2 ht2 => (L2.ea rfl ⟨_, _, tup_rep upd_same, (hD.same ((Same.new ht).trans (Same.new ht2))).rep, shaped_pd _, shaped_pds _, ?_⟩)⟩)
        rw [any_pd]
        have : isNear ds p q = ds.contains (q, p) := by
          unfold isNear
          have e1 : ¬ p = q := by simpa using h1
          simp only [decide_eq_false e1, Bool.false_or]
          rw [Bool.not_eq_true] at h2
          rw [h2, Bool.false_or]
        rw [← this]
        exact k _ ((Same.new ht).trans (Same.new ht2))
noncomputable def spNearP : Sp := fun vs H Q _ => ∃ (a : Addr) (ds : List Door) (n p : Int), vs = [.int n, .ref a, .int p] ∧ DoorsAt H a ds ∧ (0 ≤ n ∧ n ≤ 100) ∧ ∀ (l : Addr) (H' : Hp), H l = none → Same H H' → IntsAt H' l (nearP n ds p) → Q (.ref l) H'
theorem sc_near_places : FnScope ["places", "doors", "place"] ["places", "doors", "place"] (defScope s_near_places) := ⟨rfl, rfl, rfl, by decide +kernel, rfl, by decide +kernel, by decide +kernel⟩
theorem bs_near_places : BlkScope (defScope s_near_places) ["places", "doors", "place"] (cscope (retE (stAt (defBody s_near_places) 0))) ["other"] [("doors", 1), ("place", 2)] := ⟨rfl, rfl, by decide +kernel, by decide +kernel, by decide +kernel, by decide +kernel, by decide +kernel⟩
theorem ok_near_places {f fN : Addr} {fd fdN : FuncData} (F : Fun K "near_places" "near_places" s_near_places f fd) (DN : Df K mg "is_near" s_is_near ["doors", "place", "other"] fN fdN) (zr : mg "range" = none) :
    FnOk P w K mg base CX0 2 f fd ["places", "doors", "place"] spNearP := by
  have GN : FnOk P w K mg base CX0 1 fN fdN ["doors", "place", "other"] spNear := ok_is_near DN.F
  refine F.ok sc_near_places (fun vs H Q E h => ?_) (fun cdv A outer s H vs Q E hr h => ?_)
  · obtain ⟨a, ds, n, p, rfl, _⟩ := h
    rfl
  · obtain ⟨a, ds, n, p, rfl, hD, ⟨h0n, hn⟩, k⟩ := h
    refine ⟨_, pss_one (ps_ret (pe_comp bs_near_places rfl (pi_range1 rfl zr (pa_cons (pv 0) pa_nil)) (fun _ _ _ _ _ => pg_name (i := 0) bs_near_places.nd rfl (Or.inl rfl) (Or.inr rfl))
      (fun _ _ _ _ _ => pfs_one (pt_val (pe_df DN GN hr (pa_cons (pv 1) (pa_cons (pv 2) (pa_cons (pv 0) pa_nil)))))) (fun _ _ _ _ _ => pv 0))), ?_⟩
    refine (L2.em1_1 rfl n ⟨rfl, by omega, by omega, ?_⟩)
    refine comp_vals (src_rng n) (rng_len hn) (fun i => if isNear ds p i = true then some (.int i) else none) (fun i hi H' sm C C0 hC h0 => ?_) (fun acc H' ha sm e => k acc H' ha sm ?_)
    · refine ⟨.no (.yes (.yes .nil)), L2.ea3 rfl rfl rfl ?_⟩
      refine (L2.ex4 a ds p _ ⟨rfl, hD.same sm, fun H3 s3 => (L2.ea rfl ?_)⟩)
      cases e : isNear ds p i with
      | true => exact iteT ⟨_, rfl, hC _ _ (by rw [e]; rfl) s3⟩
      | false => exact iteF (h0 _ (by rw [e]; rfl) s3)
    · rw [fm_filter] at e
      exact e
noncomputable def spNearO : Sp := fun vs H Q _ => ∃ (a b : Addr) (ds : List Door) (p : Int) (ns : List Int), vs = [.ref a, .int p, .ref b] ∧ DoorsAt H a ds ∧ IntsAt H b ns ∧ ns.length ≤ 1000 ∧ ∀ (H' : Hp), Same H H' → Q (.bl (isNearOne ds p ns)) H'
theorem sc_is_near_one : FnScope ["doors", "place", "others"] ["doors", "place", "others"] (defScope s_is_near_one) := ⟨rfl, rfl, rfl, by decide +kernel, rfl, by decide +kernel, by decide +kernel⟩
theorem bs_is_near_one : BlkScope (defScope s_is_near_one) ["doors", "place", "others"] (cscope (arg 0 (retE (stAt (defBody s_is_near_one) 0)))) ["other"] [("doors", 0), ("place", 1)] := ⟨rfl, rfl, by decide +kernel, by decide +kernel, by decide +kernel, by decide +kernel, by decide +kernel⟩
theorem ok_is_near_one {f fN : Addr} {fd fdN : FuncData} (F : Fun K "is_near_one" "is_near_one" s_is_near_one f fd) (DN : Df K mg "is_near" s_is_near ["doors", "place", "other"] fN fdN) (za : mg "any" = none) :
    FnOk P w K mg base CX0 2 f fd ["doors", "place", "others"] spNearO := by
  have GN : FnOk P w K mg base CX0 1 fN fdN ["doors", "place", "other"] spNear := ok_is_near DN.F
  refine F.ok sc_is_near_one (fun vs H Q E h => ?_) (fun cdv A outer s H vs Q E hr h => ?_)
  · obtain ⟨a, b, ds, p, ns, rfl, _⟩ := h
    rfl
  · obtain ⟨a, b, ds, p, ns, rfl, hD, hI, hz, k⟩ := h
    refine ⟨_, pss_one (ps_ret (pe_callB (call_any rfl) (by rfl) za PyProof.Rows.boot_any (pa_cons (pe_comp bs_is_near_one rfl (pi_list (pv 2)) (fun _ _ _ _ _ => pg_name (i := 0) bs_is_near_one.nd rfl (Or.inl rfl) (Or.inr rfl)) (fun _ _ _ _ _ => pfs_nil)
      (fun _ _ _ _ _ => pe_df DN GN hr (pa_cons (pv 1) (pa_cons (pv 2) (pa_cons (pv 0) pa_nil))))) pa_nil))), ?_⟩
    refine (L2.em1_1 rfl b ⟨rfl, ⟨_, SqL.of hI⟩, ?_⟩)
    refine comp_vals (src := ns) (emb := V.int) (src_list hI) hz (fun i => some (.bl (isNear ds p i))) (fun i hi H' sm C C0 hC h0 => ?_) (fun acc H' ha sm e => ?_)
    · refine ⟨.no (.yes (.yes .nil)), L2.ea3 rfl rfl rfl ?_⟩
      exact (L2.ex4 a ds p i ⟨rfl, hD.same sm, fun H3 s3 => hC _ _ rfl s3⟩)
    · rw [fm_some] at e
      refine ⟨acc, ns.map (isNear ds p), rfl, by rw [e, List.map_map]; rfl, ?_⟩
      have : (ns.map (isNear ds p)).any id = isNearOne ds p ns := by unfold isNearOne; rw [List.any_map]; rfl
      rw [this]
      exact k H' sm
noncomputable def spReach : Sp := fun vs H Q _ => ∃ (a : Addr) (ds : List Door) (n : Int), vs = [.int n, .ref a] ∧ DoorsAt H a ds ∧ (0 ≤ n ∧ n ≤ 100) ∧ ∀ (l : Addr) (H' : Hp), H l = none → Same H H' → IntsAt H' l (reached n ds) → Q (.ref l) H'
theorem sc_reached : FnScope ["places", "doors", "reached", "passed"] ["places", "doors"] (defScope s_reached) := ⟨rfl, rfl, rfl, by decide +kernel, rfl, by decide +kernel, by decide +kernel⟩
theorem bs_reached : BlkScope (defScope s_reached) ["places", "doors", "reached", "passed"] (cscope (asgE (stAt (forB (stAt (defBody s_reached) 1)) 0))) ["place"] [("doors", 1), ("reached", 2)] := ⟨rfl, rfl, by decide +kernel, by decide +kernel, by decide +kernel, by decide +kernel, by decide +kernel⟩
theorem iterS_len (s n : Int) (ds : List Door) (k : Nat) (h : n ≤ 100) : (iterS s n ds k).length ≤ 1000 := by
  cases k with
  | zero => simp [iterS]
  | succ k =>
    have := List.length_filter_le (fun p => isNearOne ds p (iterS s n ds k)) (rng n)
    have := rng_len h
    show ((rng n).filter _).length ≤ _
    omega
theorem ok_reached {f fO fN : Addr} {fd fdO fdN : FuncData} (F : Fun K "reached_places" "reached_places" s_reached f fd) (DO : Df K mg "is_near_one" s_is_near_one ["doors", "place", "others"] fO fdO) (DN : Df K mg "is_near" s_is_near ["doors", "place", "other"] fN fdN) (za : mg "any" = none) (zr : mg "range" = none) :
    FnOk P w K mg base CX0 3 f fd ["places", "doors"] spReach := by
  have GO : FnOk P w K mg base CX0 2 fO fdO ["doors", "place", "others"] spNearO := ok_is_near_one DO.F DN za
  refine F.ok sc_reached (fun vs H Q E h => ?_) (fun cdv A outer s H vs Q E hr h => ?_)
  · obtain ⟨a, ds, n, rfl, _⟩ := h
    rfl
  · obtain ⟨a, ds, n, rfl, hD, ⟨h0n, hn⟩, k⟩ := h
    refine ⟨_, pss_cons (ps_set (i := 2) sc_reached.nd rfl (Or.inr rfl) (pe_lst (pa_cons pe_int pa_nil)))
      (pss_cons (ps_for PassesOwn.never rfl (pi_range1 rfl zr (pa_cons (pe_op op_sub (pv 0) pe_int) pa_nil)) (pg_name (i := 3) sc_reached.nd rfl (Or.inl rfl))
        (pss_one (ps_set (i := 2) sc_reached.nd rfl (Or.inr rfl) (pe_comp bs_reached rfl (pi_range1 rfl zr (pa_cons (pv 0) pa_nil)) (fun _ _ _ _ _ => pg_name (i := 0) bs_reached.nd rfl (Or.inl rfl) (Or.inr rfl))
          (fun _ _ _ _ _ => pfs_one (pt_val (pe_df DO GO hr (pa_cons (pv 1) (pa_cons (pv 0) (pa_cons (pv 2) pa_nil)))))) (fun _ _ _ _ _ => pv 0)))))
      (pss_one (ps_ret (pv 2)))), ?_⟩
    refine ⟨(by show 1 ≤ sizeLine; decide), fun l hl => ?_⟩
    refine (L2.ea rfl (L2.eb rfl rfl (L2.ea rfl ⟨by omega, by omega, ?_⟩)))
    refine for_range (fun i σ H2 => ∃ (l : Addr) (v : Option V), σ = [some (.int n), some (.ref a), some (.ref l), v] ∧ H l = none ∧ Same H H2 ∧ IntsAt H2 l (iterS 0 n ds i)) ⟨l, none, rfl, hl, Same.new hl, upd_same⟩ ?_ ?_
    · rintro i σ H2 hi ⟨l, v, rfl, hl, sm, hI⟩
      refine (L2.em1_1 rfl n ⟨rfl, by omega, by omega, ?_⟩)
      refine comp_vals (src_rng n) (rng_len hn) (fun p => if isNearOne ds p (iterS 0 n ds i) = true then some (.int p) else none) (fun p hp H' sm' C C0 hC h0 => ?_) (fun acc H' ha sm' e => ?_)
      · refine ⟨.no (.yes (.yes .nil)), L2.ea3 rfl rfl rfl ?_⟩
        refine (L2.ex5 a l ds p _ ⟨rfl, hD.same (sm.trans sm'), hI.same sm', iterS_len _ _ _ _ hn, fun H3 s3 => (L2.ea rfl ?_)⟩)
        cases e : isNearOne ds p (iterS 0 n ds i) with
        | true => exact iteT ⟨_, rfl, hC _ _ (by rw [e]; rfl) s3⟩
        | false => exact iteF (h0 _ (by rw [e]; rfl) s3)
      · rw [fm_filter] at e
        exact (L2.ex2 acc _ ⟨rfl, sm.free ha, sm.trans sm', e⟩)
    · rintro σ H2 ⟨l, v, rfl, hl, sm, hI⟩
      exact (L2.ea rfl (k l H2 hl sm hI))
noncomputable def spDoor : Sp := fun vs H Q _ => ∃ (b : Addr) (d : Door) (n : Int), vs = [.int n, .ref b] ∧ PairAt H b d ∧ Q (.bl (isDoor n d)) H
theorem sc_is_door : FnScope ["places", "door"] ["places", "door"] (defScope s_is_door) := ⟨rfl, rfl, rfl, by decide +kernel, rfl, by decide +kernel, by decide +kernel⟩
theorem ok_is_door {f : Addr} {fd : FuncData} (F : Fun K "is_door" "is_door" s_is_door f fd) : FnOk P w K mg base CX0 1 f fd ["places", "door"] spDoor := by
  refine F.ok sc_is_door (fun vs H Q E h => ?_) (fun cdv A outer s H vs Q E hr h => ?_)
  · obtain ⟨b, d, n, rfl, _⟩ := h
    rfl
  · obtain ⟨b, d, n, rfl, hP, k⟩ := h
    refine ⟨_, pss_one (ps_ret (pe_chain3 op_le op_lt op_lt pe_int (pe_ix ix_tup (pv 1) pe_int (fun _ _ => rfl)) (pe_ix ix_tup (pv 1) pe_int (fun _ _ => rfl)) (pv 0))), ?_⟩
    refine (L2.em1_4 rfl b _ _ _ ⟨rfl, rfl, SqT.of hP, rfl, L2.eb rfl rfl (L2.ea rfl ?_)⟩)
    unfold isDoor at k
    refine ite2 (fun h1 => ?_) (fun h1 => ?_)
    · rw [h1, Bool.true_and] at k
      refine (L2.em1_4 rfl b _ _ _ ⟨rfl, rfl, SqT.of hP, rfl, L2.eb rfl rfl (L2.ea rfl ?_)⟩)
      refine ite2 (fun h2 => ?_) (fun h2 => ?_)
      · rw [h2, Bool.true_and] at k
        exact (L2.ea rfl (L2.eb rfl rfl k))
      · rw [Bool.not_eq_true] at h2
        rw [h2, Bool.false_and] at k
        exact k
    · rw [Bool.not_eq_true] at h1
      rw [h1, Bool.false_and, Bool.false_and] at k
      exact k
noncomputable def spRise : Sp := fun vs H Q _ => ∃ (a : Addr) (ds : List Door), vs = [.ref a] ∧ DoorsAt H a ds ∧ ds.length ≤ 1000 ∧ ∀ (H' : Hp), Same H H' → Q (.bl (isRising ds)) H'
theorem sc_is_rising : FnScope ["doors"] ["doors"] (defScope s_is_rising) := ⟨rfl, rfl, rfl, by decide +kernel, rfl, by decide +kernel, by decide +kernel⟩
theorem bs_is_rising : BlkScope (defScope s_is_rising) ["doors"] (cscope (arg 0 (retE (stAt (defBody s_is_rising) 0)))) ["k"] [("doors", 0)] := ⟨rfl, rfl, by decide +kernel, by decide +kernel, by decide +kernel, by decide +kernel, by decide +kernel⟩
theorem ok_is_rising {f : Addr} {fd : FuncData} (F : Fun K "is_rising" "is_rising" s_is_rising f fd) (za : mg "all" = none) (zr : mg "range" = none) (zl : mg "len" = none) : FnOk P w K mg base CX0 1 f fd ["doors"] spRise := by
  refine F.ok sc_is_rising (fun vs H Q E h => ?_) (fun cdv A outer s H vs Q E hr h => ?_)
  · obtain ⟨a, ds, rfl, _⟩ := h
    rfl
  · obtain ⟨a, ds, rfl, hD, hz, k⟩ := h
    have hu : (A.deeper (PyProof.Rows.envOfC "is_rising" (defScope s_is_rising) s.heap.objs.size f cdv)).units < cLine := by have := hr.un; omega
    obtain ⟨as, hL, hP⟩ := id hD
    have hlen := hP.length
    refine ⟨_, pss_one (ps_ret (pe_callB (call_all rfl) (by rfl) za PyProof.Rows.boot_all (pa_cons (pe_comp bs_is_rising rfl (pi_range1 rfl zr (pa_cons (pe_op op_sub (pe_callB call_len_seq (by rfl) zl PySem.boot_len (pa_cons (pv 0) pa_nil)) pe_int) pa_nil))
      (fun _ _ _ _ _ => pg_name (i := 0) bs_is_rising.nd rfl (Or.inl rfl) (Or.inr rfl)) (fun _ _ _ _ _ => pfs_nil)
      (fun _ _ _ _ _ => pe_cmpR (op_ltTK (K := K) rfl hu) (pe_ix (ix_listK (K := K) rfl) (pv 1) (pv 0) (fun _ _ => rfl)) (pe_ix (ix_listK (K := K) rfl) (pv 1) (pe_op op_add (pv 0) pe_int) (fun _ _ => rfl)) (nomark _))) pa_nil))), ?_⟩
    refine (L2.em1_2 rfl a _ ⟨rfl, .inl (SqL.of hL), L2.eb rfl rfl (L2.ea rfl ⟨by rw [List.length_map]; omega, by rw [List.length_map]; omega, ?_⟩)⟩)
    refine comp_vals (src_rng _) (rng_len' (by simp; omega)) (fun i => some (.bl (ltD (ds.getD i.toNat (0, 0)) (ds.getD (i.toNat + 1) (0, 0))))) (fun i hi H' sm C C0 hC h0 => ?_) (fun acc H' ha sm e => ?_)
    · have hi' := mem_rng.mp hi
      rw [List.length_map, hlen] at hi'
      refine ⟨.no (.yes .nil), ?_⟩
      have g : ∀ j : Nat, j < ds.length → ∃ b, as[j]? = some b ∧ PairAt H b (ds.getD j (0, 0)) := fun j hj => by
        obtain ⟨d, hd, pr⟩ := Paired.get hP (List.getElem?_eq_getElem (show j < as.length by omega))
        refine ⟨_, List.getElem?_eq_getElem (show j < as.length by omega), ?_⟩
        rw [List.getD_eq_getElem?_getD, hd]
        exact pr
      obtain ⟨b1, e1, p1⟩ := g i.toNat (by omega)
      obtain ⟨b2, e2, p2⟩ := g (i.toNat + 1) (by omega)
      have c1 : ((i.toNat : Nat) : Int) = i := by omega
      have c2 : ((i.toNat + 1 : Nat) : Int) = i + 1 := by omega
      refine (L2.em2_4 rfl rfl a _ i (.ref b1) ⟨rfl, rfl, SqL.of (sm _ _ hL), ?_, L2.ea2 rfl rfl (L2.eb rfl rfl (L2.ex4 a _ (i + 1) (.ref b2) ⟨rfl, rfl, SqL.of (sm _ _ hL), ?_, L2.ex4 b1 b2 ([_, _]) ([_, _]) ⟨rfl, rfl, SqT.of (sm _ _ p1), SqT.of (sm _ _ p2), ?_⟩⟩))⟩)
      · rw [← c1]; exact atI_nat (by rw [List.getElem?_map, e1]; rfl)
      · rw [← c2]; exact atI_nat (by rw [List.getElem?_map, e2]; rfl)
      · refine hC _ _ ?_ (Same.refl _)
        rw [lex_ltD]
    · rw [fm_some] at e
      refine ⟨acc, (rng (((as.map V.ref).length : Int) - 1)).map fun i => ltD (ds.getD i.toNat (0, 0)) (ds.getD (i.toNat + 1) (0, 0)), rfl, by rw [e, List.map_map]; rfl, ?_⟩
      rw [List.length_map, hlen, rising_all]
      exact k H' sm
end
end Cn

set_option Elab.async false
set_option linter.all false
set_option maxRecDepth 100000
namespace Cn
open PySem L2 Cf
noncomputable abbrev s_init : Stmt := inClass (top 26) 0
noncomputable abbrev s_has : Stmt := inClass (top 26) 1
noncomputable abbrev s_near : Stmt := inClass (top 26) 2
set_option genInjectivity false in
set_option genSizeOf false in
structure FlT (K : PySem.W.Frag) (mg : Str → Option Value) where
  fN : Addr
  fdN : FuncData
  near : Df K mg "is_near" s_is_near ["doors", "place", "other"] fN fdN
  fO : Addr
  fdO : FuncData
  nearO : Df K mg "is_near_one" s_is_near_one ["doors", "place", "others"] fO fdO
  fP : Addr
  fdP : FuncData
  nearP : Df K mg "near_places" s_near_places ["places", "doors", "place"] fP fdP
  fR : Addr
  fdR : FuncData
  reach : Df K mg "reached_places" s_reached ["places", "doors"] fR fdR
  fD : Addr
  fdD : FuncData
  door : Df K mg "is_door" s_is_door ["places", "door"] fD fdD
  fS : Addr
  fdS : FuncData
  rise : Df K mg "is_rising" s_is_rising ["doors"] fS fdS
  C : Addr
  fI : Addr
  fdI : FuncData
  init : Fun K "__init__" "Floor.__init__" s_init fI fdI
  bI : Binds K fdI ["self", "places", "doors"] []
  made : Mk K C fI
  fH : Addr
  fdH : FuncData
  has : Fun K "has_place" "Floor.has_place" s_has fH fdH
  bH : Binds K fdH ["self", "place"] []
  mH : Meth K C "has_place" fH
  fE : Addr
  fdE : FuncData
  nr : Fun K "near" "Floor.near" s_near fE fdE
  bE : Binds K fdE ["self", "place"] []
  mE : Meth K C "near" fE
  cl : Cls K C
  nPl : NoAttr K C "places"
  nDo : NoAttr K C "doors"
  mgC : mg "Floor" = some (.ref C)
  most : ∃ u, mg "MOST_PLACES" = some u ∧ RelV (.int 6) u
  zall : mg "all" = none
  zany : mg "any" = none
  zrange : mg "range" = none
  zlen : mg "len" = none
  zlist : mg "list" = none
noncomputable def fflds (d : Addr) (n : Int) : List (Str × V) := putF "doors" (.ref d) (putF "places" (.int n) [])
theorem fl_pd : ¬ (("places" : Str) = "doors") := by decide +kernel
theorem fflds_places (d : Addr) (n : Int) : (fflds d n).lookup ("places" : Str) = some (.int n) := by
  unfold fflds
  rw [lookup_putF, if_neg fl_pd, lookup_putF, if_pos rfl]
theorem fflds_doors (d : Addr) (n : Int) : (fflds d n).lookup ("doors" : Str) = some (.ref d) := by
  unfold fflds
  rw [lookup_putF, if_pos rfl]
theorem fflds_no (d : Addr) (n : Int) {m : Str} (h1 : ¬ m = "doors") (h2 : ¬ m = "places") : (fflds d n).lookup m = none := by
  unfold fflds
  rw [lookup_putF, if_neg h1, lookup_putF, if_neg h2]
  all_goals rfl
noncomputable def FloorAt (C : Addr) (H : Hp) (p : Addr) (n : Int) (ds : List Door) : Prop := ∃ dx d, H p = some (.ins C dx (fflds d n)) ∧ DoorsAt H d ds
theorem FloorAt.same {C : Addr} {H H' : Hp} {p : Addr} {n : Int} {ds : List Door} (e : Same H H') (h : FloorAt C H p n ds) : FloorAt C H' p n ds := let ⟨dx, d, h1, h2⟩ := h; ⟨dx, d, e _ _ h1, h2.same e⟩
section
variable {P : Program} {w : World} {K : PySem.W.Frag} {mg : Str → Option Value} {base : Heap}
noncomputable def spInit (C : Addr) : Sp := fun vs H Q _ => ∃ (p dx a : Addr) (n : Int) (ds : List Door), vs = [.ref p, .int n, .ref a] ∧ H p = some (.ins C dx []) ∧ DoorsAt H a ds ∧ ds.length ≤ 1000 ∧ Good n ds ∧
  ∀ (H' : Hp), FloorAt C H' p n ds → (∀ b o, H b = some o → b ≠ p → H' b = some o) → Q .non H'
theorem sc_init : FnScope ["self", "places", "doors", "door"] ["self", "places", "doors"] (defScope s_init) := ⟨rfl, rfl, rfl, by decide +kernel, rfl, by decide +kernel, by decide +kernel⟩
theorem ok_init (T : FlT K mg) : FnOk P w K mg base CX0 4 T.fI T.fdI ["self", "places", "doors"] (spInit T.C) := by
  have GD : FnOk P w K mg base CX0 1 T.fD T.fdD ["places", "door"] spDoor := ok_is_door T.door.F
  have GS : FnOk P w K mg base CX0 1 T.fS T.fdS ["doors"] spRise := ok_is_rising T.rise.F T.zall T.zrange T.zlen
  have GR : FnOk P w K mg base CX0 3 T.fR T.fdR ["places", "doors"] spReach := ok_reached T.reach.F T.nearO T.near T.zany T.zrange
  refine T.init.ok sc_init (fun vs H Q E h => ?_) (fun cdv A outer s H vs Q E hr h => ?_)
  · obtain ⟨p, dx, a, n, ds, rfl, _⟩ := h
    rfl
  · obtain ⟨p, dx, a, n, ds, rfl, hp, hD, hz, G, k⟩ := h
    obtain ⟨u6, m6, r6⟩ := T.most
    have hr1 := hr.mono (show 1 ≤ 3 by decide)
    refine ⟨_, pss_cons (ps_if (PW.pt (pw_or (pt_cmpR op_lt (pv 1) pe_int (nomark _)) (pw_or1 (pt_cmpR op_gt (pv 1) (pe_glob rfl m6 r6) (nomark _))))) pss_never pss_nil)
      (pss_cons (ps_for PassesOwn.never rfl (pi_list (pv 2)) (pg_name (i := 3) sc_init.nd rfl (Or.inl rfl))
        (pss_one (ps_if (pt_not (pt_val (pe_df T.door GD hr1 (pa_cons (pv 1) (pa_cons (pv 3) pa_nil))))) pss_never pss_nil)))
      (pss_cons (ps_if (pt_not (pt_val (pe_df T.rise GS hr1 (pa_cons (pv 2) pa_nil)))) pss_never pss_nil)
      (pss_cons (ps_if (pt_cmpR op_lt (pe_callB call_len_seq (by rfl) T.zlen PySem.boot_len (pa_cons (pe_df T.reach GR hr (pa_cons (pv 1) (pa_cons (pv 2) pa_nil))) pa_nil)) (pv 1) (nomark _)) pss_never pss_nil)
      (pss_cons (ps_fld (pv 0) (pv 1) rfl)
      (pss_one (ps_fld (pv 0) (pe_callTy call_list_of (by rfl) T.zlist PyProof.Rows.boot_list (pa_cons (pv 2) pa_nil)) rfl)))))), ?_⟩
    have hlo := G.lo
    have hhi := G.hi
    refine (L2.ea rfl (L2.eb rfl rfl (L2.ea rfl ?_)))
    rw [decide_eq_false (by omega)]
    refine iteF (L2.ea rfl (L2.eb rfl rfl (L2.ea rfl ?_)))
    rw [decide_eq_false (by omega)]
    refine iteF ?_
    obtain ⟨as, hL, hP⟩ := id hD
    have hlen := hP.length
    refine (L2.em1_1 rfl a ⟨rfl, ⟨_, SqL.of hL⟩, for_list (K := K) (a := a) (xs := as.map V.ref) (fun i σ H2 => ∃ v : Option V, σ = [some (.ref p), some (.int n), some (.ref a), v] ∧ H2 = H) ⟨none, rfl, rfl⟩ (fun i σ H2 _ ⟨_, _, e⟩ => by rw [e]; exact SqL.of hL) ?_ ?_⟩)
    · rintro i x σ H2 hi ⟨v, rfl, rfl⟩
      rw [List.getElem?_map] at hi
      cases ei : as[i]? with
      | none => rw [ei] at hi; cases hi
      | some b =>
        rw [ei] at hi
        cases hi
        obtain ⟨d, hd, pd⟩ := Paired.get hP ei
        refine (L2.em2_3 rfl rfl b d n ⟨rfl, pd, L2.ea rfl ?_⟩)
        rw [isDoor_iff.mpr (G.doors d (List.mem_of_getElem? hd))]
        exact iteF (L2.ea rfl rfl)
    · rintro σ H2 ⟨v, rfl, rfl⟩
      refine (L2.em1_2 rfl a ds ⟨rfl, hD, hz, fun H3 s3 => (L2.ea rfl ?_)⟩)
      rw [isRising_iff.mpr G.rise]
      refine iteF ?_
      refine (L2.em2_3 rfl rfl a ds n ⟨rfl, hD.same s3, by omega, fun l H4 hl s4 hI => ?_⟩)
      refine (L2.ex2 l _ ⟨rfl, .inl (SqL.of hI), L2.ea rfl (L2.eb rfl rfl (L2.ea rfl ?_))⟩)
      have hall : n ≤ ((reached n ds).map V.int).length := by
        rw [List.length_map]
        exact (reached_len_iff G.lo G.doors).mpr G.conn
      rw [decide_eq_false (by omega)]
      refine iteF ?_
      have s04 := s3.trans s4
      have hp4 := s04 _ _ hp
      refine (L2.ea2 rfl rfl ⟨p, T.C, dx, [], rfl, hp4, T.cl, T.nPl, (by show 0 < 1000; decide), ?_⟩)
      have npa : a ≠ p := ne_of hL hp (by intro z; cases z)
      have hL5 : upd H4 p (.ins T.C dx (putF "places" (.int n) [])) a = some (.lst (as.map V.ref)) := by rw [upd_ne npa]; exact s04 _ _ hL
      refine (L2.em1_2 rfl a _ ⟨rfl, .inl (SqL.of hL5), fun d hd => ?_⟩)
      have npd : p ≠ d := fun z => by subst z; rw [upd_same] at hd; cases hd
      refine (L2.ea rfl ⟨p, T.C, L2.ex2 dx _ ⟨rfl, (by rw [upd_ne npd]; exact upd_same), T.cl, T.nDo, (by show 1 < 1000; decide), ?_⟩⟩)
      refine k _ ⟨dx, d, upd_same, as, by rw [upd_ne npd.symm]; exact upd_same, ?_⟩ fun b o e hb => ?_
      · refine Paired.mapP hP fun b dd e => ?_
        have nb : b ≠ p := ne_of e hp (by intro z; cases z)
        have nbd : b ≠ d := fun z => by subst z; rw [upd_ne nb, s04 _ _ e] at hd; cases hd
        show upd _ _ _ b = _
        rw [upd_ne nb, upd_ne nbd, upd_ne nb]
        exact s04 _ _ e
      · have nbd : b ≠ d := fun z => by subst z; rw [upd_ne hb, s04 _ _ e] at hd; cases hd
        rw [upd_ne hb, upd_ne nbd, upd_ne hb]
        exact s04 _ _ e
noncomputable def spHas (C : Addr) : Sp := fun vs H Q _ => ∃ (p : Addr) (n : Int) (ds : List Door) (x : Int), vs = [.ref p, .int x] ∧ FloorAt C H p n ds ∧ Q (.bl (decide (0 ≤ x ∧ x < n))) H
theorem sc_has : FnScope ["self", "place"] ["self", "place"] (defScope s_has) := ⟨rfl, rfl, rfl, by decide +kernel, rfl, by decide +kernel, by decide +kernel⟩
theorem ok_has (T : FlT K mg) : FnOk P w K mg base CX0 1 T.fH T.fdH ["self", "place"] (spHas T.C) := by
  refine T.has.ok sc_has (fun vs H Q E h => ?_) (fun cdv A outer s H vs Q E hr h => ?_)
  · obtain ⟨p, n, ds, x, rfl, _⟩ := h
    rfl
  · obtain ⟨p, n, ds, x, rfl, ⟨dx, d, hF, hD⟩, k⟩ := h
    refine ⟨_, pss_one (ps_ret (pe_chain op_le op_lt pe_int (pv 1) (pe_fld (pv 0) rfl))), ?_⟩
    refine (L2.ea rfl (L2.eb rfl rfl (L2.ea rfl ?_)))
    by_cases h1 : 0 ≤ x
    · rw [decide_eq_true h1]
      refine iteT (L2.ea rfl ⟨p, T.C, L2.ex3 dx _ _ ⟨rfl, hF, T.cl, T.nPl, fflds_places _ _, L2.eb rfl rfl ?_⟩⟩)
      have : decide (x < n) = decide (0 ≤ x ∧ x < n) := by simp [h1]
      rw [← this] at k
      exact k
    · rw [decide_eq_false h1]
      refine iteF ?_
      have : decide (0 ≤ x ∧ x < n) = false := by simp [h1]
      rw [this] at k
      exact k
noncomputable def spNr (C : Addr) : Sp := fun vs H Q _ => ∃ (p : Addr) (n : Int) (ds : List Door) (x : Int), vs = [.ref p, .int x] ∧ FloorAt C H p n ds ∧ (0 ≤ x ∧ x < n) ∧ n ≤ 6 ∧
  ∀ (l : Addr) (H' : Hp), H l = none → Same H H' → IntsAt H' l (Cf.nearP n ds x) → Q (.ref l) H'
theorem sc_nr : FnScope ["self", "place"] ["self", "place"] (defScope s_near) := ⟨rfl, rfl, rfl, by decide +kernel, rfl, by decide +kernel, by decide +kernel⟩
theorem ok_nr (T : FlT K mg) : FnOk P w K mg base CX0 3 T.fE T.fdE ["self", "place"] (spNr T.C) := by
  have GH : FnOk P w K mg base CX0 1 T.fH T.fdH ["self", "place"] (spHas T.C) := ok_has T
  have GP : FnOk P w K mg base CX0 2 T.fP T.fdP ["places", "doors", "place"] spNearP := ok_near_places T.nearP.F T.near T.zrange
  refine T.nr.ok sc_nr (fun vs H Q E h => ?_) (fun cdv A outer s H vs Q E hr h => ?_)
  · obtain ⟨p, n, ds, x, rfl, _⟩ := h
    rfl
  · obtain ⟨p, n, ds, x, rfl, hF, hx, hn, k⟩ := h
    have hr1 := hr.mono (show 1 ≤ 2 by decide)
    refine ⟨_, pss_cons (ps_if (pt_not (pt_val (pe_meth (pv 0) T.cl T.mH GH hr1 T.bH .nil pass0 (pa_cons (pv 1) pa_nil)))) pss_never pss_nil)
      (pss_one (ps_ret (pe_df T.nearP GP hr (pa_cons (pe_fld (pv 0) rfl) (pa_cons (pe_fld (pv 0) rfl) (pa_cons (pv 1) pa_nil)))))), ?_⟩
    obtain ⟨dx, d, h1, hD⟩ := id hF
    refine (L2.em1_3 rfl p dx _ ⟨rfl, h1, fflds_no _ _ (by decide +kernel) (by decide +kernel), L2.em1_4 rfl p n ds x ⟨rfl, hF, L2.ea rfl ?_⟩⟩)
    rw [decide_eq_true hx]
    refine iteF ?_
    refine (L2.ea rfl ⟨p, T.C, L2.ex3 dx _ _ ⟨rfl, h1, T.cl, T.nPl, fflds_places _ _, L2.ea rfl ⟨p, T.C, L2.ex3 dx _ _ ⟨rfl, h1, T.cl, T.nDo, fflds_doors _ _, L2.em1_4 rfl d ds n x ⟨rfl, hD, by omega, k⟩⟩⟩⟩⟩)
end
end Cn

set_option Elab.async false
set_option linter.all false
set_option maxRecDepth 100000
namespace Cn
open PySem L2 Cf
noncomputable abbrev s_cell : Stmt := top 34
noncomputable abbrev s_floor_by : Stmt := top 37
noncomputable abbrev s_standing : Stmt := top 39
noncomputable abbrev s_law : Stmt := top 43
noncomputable def ifB : Stmt → List Stmt | .If _ b _ _ => b | _ => []
noncomputable def binL : Expr → Expr | .BinOp a _ _ _ => a | _ => non
noncomputable def cell (ns : List Int) (i : Int) : Int := ns.getD i.toNat 0
section
variable {P : Program} {w : World} {K : PySem.W.Frag} {mg : Str → Option Value} {base : Heap}
noncomputable def spCell (K : PySem.W.Frag) : Sp := fun vs H Q _ => ∃ (a : Addr) (ns : List Int) (i : Int), vs = [.ref a, .int i] ∧ SqL K H a (ns.map V.int) ∧ 0 ≤ i ∧ Q (.int (cell ns i)) H
theorem sc_cell : FnScope ["script", "k"] ["script", "k"] (defScope s_cell) := ⟨rfl, rfl, rfl, by decide +kernel, rfl, by decide +kernel, by decide +kernel⟩
theorem ok_cell {f : Addr} {fd : FuncData} (F : Fun K "_law_cell_at" "_law_cell_at" s_cell f fd) (zl : mg "len" = none) : FnOk P w K mg base CX0 1 f fd ["script", "k"] (spCell K) := by
  refine F.ok sc_cell (fun vs H Q E h => ?_) (fun cdv A outer s H vs Q E hr h => ?_)
  · obtain ⟨a, ns, i, rfl, _⟩ := h
    rfl
  · obtain ⟨a, ns, i, rfl, hS, h0, k⟩ := h
    refine ⟨_, pss_cons (ps_if (pt_cmpR op_lt (pv 1) (pe_callB call_len_seq (by rfl) zl PySem.boot_len (pa_cons (pv 0) pa_nil)) (nomark _)) (pss_one (ps_ret (pe_ix ix_list (pv 0) (pv 1) (fun _ _ => rfl)))) pss_nil) (pss_one (ps_ret pe_int)), ?_⟩
    refine (L2.em2_2 rfl rfl a _ ⟨rfl, .inl hS, L2.eb rfl rfl (L2.ea rfl ?_)⟩)
    have c1 : ((i.toNat : Nat) : Int) = i := by omega
    by_cases h1 : i < ((ns.map V.int).length : Int)
    · rw [decide_eq_true h1]
      rw [List.length_map] at h1
      refine iteT (L2.ea2 rfl rfl ⟨a, _, i, .int (cell ns i), rfl, rfl, hS, ?_, k⟩)
      rw [← c1]
      refine atI_nat ?_
      rw [List.getElem?_map, List.getElem?_eq_getElem (show i.toNat < ns.length by omega)]
      unfold cell
      rw [c1, List.getD_eq_getElem?_getD, List.getElem?_eq_getElem (show i.toNat < ns.length by omega)]
      rfl
    · rw [decide_eq_false h1]
      rw [List.length_map] at h1
      refine iteF ?_
      have : cell ns i = 0 := by
        unfold cell
        rw [List.getD_eq_getElem?_getD, List.getElem?_eq_none (by omega)]
        rfl
      rw [this] at k
      exact k
set_option genInjectivity false in
set_option genSizeOf false in
structure LwT (K : PySem.W.Frag) (mg : Str → Option Value) where
  fC : Addr
  fdC : FuncData
  cell : Df K mg "_law_cell_at" s_cell ["script", "k"] fC fdC
  fB : Addr
  fdB : FuncData
  byS : Df K mg "_law_floor_by" s_floor_by ["script", "most"] fB fdB
  zlen : mg "len" = none
  zrange : mg "range" = none
  zmin : mg "min" = none
  zmax : mg "max" = none
  zsorted : mg "sorted" = none
noncomputable def spBy (K : PySem.W.Frag) : Sp := fun vs H Q _ => ∃ (a : Addr) (ns : List Int) (most : Int), vs = [.ref a, .int most] ∧ SqL K H a (ns.map V.int) ∧ (1 ≤ most ∧ most ≤ 6) ∧
  ∀ (t l : Addr) (n : Int) (ds : List Door) (H' : Hp), H l = none → Same H H' → H' t = some (.tup [.int n, .ref l]) → DoorsAt H' l ds → Good n ds → (n ≤ most ∨ n ≤ 3) → ds.length ≤ 20 → Q (.ref t) H'
noncomputable abbrev nBy : List Str := ["script", "most", "places", "doors", "place", "k", "one", "other", "found"]
theorem sc_by : FnScope nBy ["script", "most"] (defScope s_floor_by) := ⟨rfl, rfl, rfl, by decide +kernel, rfl, by decide +kernel, by decide +kernel⟩
theorem bs_by1 : BlkScope (defScope s_floor_by) nBy (cscope (arg 0 (asgE (stAt (ifB (stAt (defBody s_floor_by) 5)) 0)))) ["low", "high"] [("places", 2)] := ⟨rfl, rfl, by decide +kernel, by decide +kernel, by decide +kernel, by decide +kernel, by decide +kernel⟩
theorem bs_by2 : BlkScope (defScope s_floor_by) nBy (cscope (binL (arg 0 (asgE (stAt (ifB (stAt (defBody s_floor_by) 6)) 1))))) ["k"] [] := ⟨rfl, rfl, by decide +kernel, by decide +kernel, by decide +kernel, by decide +kernel, by decide +kernel⟩
structure Keys (H2 : Hp) (d : Addr) (ks : List Door) (n : Int) (m : Nat) : Prop where
  dict : ∃ kvs : List (List Key × V), H2 d = some (.dT kvs) ∧ kvs.map (·.1) = ks.map pk ∧ kvs.length ≤ m
  ok : Doors n ks
theorem pk_inj {a b : Door} (h : pk a = pk b) : a = b := by
  obtain ⟨a1, a2⟩ := a
  obtain ⟨b1, b2⟩ := b
  simp only [pk, List.cons.injEq, Sum.inl.injEq, and_true] at h
  rw [h.1, h.2]
theorem Keys.put {H2 H3 : Hp} {d t : Addr} {ks : List Door} {n : Int} {m : Nat} {e : Door} {v : V} (h : Keys H2 d ks n m) (hm : m < 1000) (sm : Same H2 H3) (ht : H3 t = some (.tup [.int e.1, .int e.2])) (he : 0 ≤ e.1 ∧ e.1 < e.2 ∧ e.2 < n) :
    ∃ H4, DPut H3 d (.ref t) v H4 ∧ (∀ b, b ≠ d → H4 b = H3 b) ∧ ∃ ks', Keys H4 d ks' n (m + 1) ∧ e ∈ ks' ∧ ∀ x ∈ ks, x ∈ ks' := by
  obtain ⟨⟨kvs, hd, hk, hl⟩, ok⟩ := h
  have hd3 := sm _ _ hd
  have big : (1000 : Nat) < sizeLine := by decide
  refine ⟨_, DPut.t (k := pk e) (v := v) hd3 ht (by omega), fun b hb => upd_ne hb, ?_⟩
  have hlen : (putK kvs (pk e) v).length ≤ m + 1 := by
    rcases keys_putK (pk e) v kvs with ⟨_, q⟩ | ⟨_, q⟩
    · have := congrArg List.length q
      simp only [List.length_map] at this
      omega
    · have := congrArg List.length q
      simp only [List.length_map, List.length_append, List.length_singleton] at this
      omega
  rcases keys_putK (pk e) v kvs with ⟨hm', q⟩ | ⟨hm', q⟩
  · refine ⟨ks, ⟨⟨_, upd_same, by rw [q]; exact hk, hlen⟩, ok⟩, ?_, fun x hx => hx⟩
    rw [hk] at hm'
    obtain ⟨x, hx, ex⟩ := List.mem_map.mp hm'
    rw [← pk_inj ex]
    exact hx
  · refine ⟨ks ++ [e], ⟨⟨_, upd_same, by rw [q, hk]; simp, hlen⟩, fun x hx => ?_⟩, by simp, fun x hx => List.mem_append_left _ hx⟩
    rcases List.mem_append.mp hx with hx | hx
    · exact ok x hx
    · have : x = e := by simpa using hx
      rw [this]
      exact he
theorem Keys.more {H2 : Hp} {d : Addr} {ks : List Door} {n : Int} {m m' : Nat} (h : Keys H2 d ks n m) (hm : m ≤ m') : Keys H2 d ks n m' := let ⟨⟨kvs, h1, h2, h3⟩, ok⟩ := h; ⟨⟨kvs, h1, h2, by omega⟩, ok⟩
noncomputable def flipD (n : Int) (d : Door) : Door := (n - 1 - d.2, n - 1 - d.1)
theorem good_flip {n : Int} {ds es : List Door} (G : Good n ds) (hp : es.Perm (ds.map (flipD n))) (hr : Rising es) : Good n es := by
  refine ⟨G.lo, G.hi, fun x hx => ?_, hr, conn_flip G.conn fun d hd => (hp.mem_iff).mpr (List.mem_map.mpr ⟨d, hd, rfl⟩)⟩
  obtain ⟨d, hd, rfl⟩ := List.mem_map.mp ((hp.mem_iff).mp hx)
  have := G.doors d hd
  simp only [flipD]
  omega
theorem nodup_flip {n : Int} {ds : List Door} (h : ds.Nodup) : (ds.map (flipD n)).Nodup := by
  refine List.pairwise_map.mpr (h.imp fun {x y} hne e => hne ?_)
  simp only [flipD, Prod.mk.injEq] at e
  exact Prod.ext (by omega) (by omega)
noncomputable def ringD (n : Int) : List Door := ((rng (n - 1)).map fun k => (k, k + 1)) ++ [(0, n - 1)]
theorem ring_nodup {n : Int} (h : 3 ≤ n) : (ringD n).Nodup := by
  unfold ringD
  rw [List.nodup_append]
  refine ⟨List.pairwise_map.mpr ((?_ : (rng (n - 1)).Nodup).imp fun {x y} hne e => hne (by simpa using e)), by simp, fun a ha b hb e => ?_⟩
  · unfold rng
    exact List.pairwise_map.mpr (List.nodup_range.imp fun {x y} hne e => hne (by omega))
  · obtain ⟨k, hk, rfl⟩ := List.mem_map.mp ha
    have : b = (0, n - 1) := by simpa using hb
    rw [this] at e
    simp only [Prod.mk.injEq] at e
    omega
theorem good_ring {n : Int} {es : List Door} (h3 : 3 ≤ n) (h6 : n ≤ 6) (hp : es.Perm (ringD n)) (hr : Rising es) : Good n es := by
  refine ⟨by omega, h6, fun x hx => ?_, hr, conn_chain fun p h1 h2 => (hp.mem_iff).mpr (List.mem_append_left _ (List.mem_map.mpr ⟨p, mem_rng.mpr (by omega), rfl⟩))⟩
  rcases List.mem_append.mp ((hp.mem_iff).mp hx) with hx | hx
  · obtain ⟨k, hk, rfl⟩ := List.mem_map.mp hx
    have := mem_rng.mp hk
    show 0 ≤ k ∧ k < k + 1 ∧ k + 1 < n
    omega
  · have : x = (0, n - 1) := by simpa using hx
    rw [this]
    show (0 : Int) ≤ 0 ∧ 0 < n - 1 ∧ n - 1 < n
    omega
noncomputable def Found (H : Hp) (a : Addr) (most : Int) (σ : St) (H2 : Hp) : Prop := ∃ (n : Int) (l : Addr) (ds : List Door) (v3 v4 v5 v6 v7 : Option V), σ = [some (.ref a), some (.int most), some (.int n), v3, v4, v5, v6, v7, some (.ref l)] ∧ H l = none ∧ Same H H2 ∧ DoorsAt H2 l ds ∧ Good n ds ∧ (n ≤ most ∨ n ≤ 3) ∧ ds.length ≤ 20
theorem ok_by (T : LwT K mg) : FnOk P w K mg base CX0 2 T.fB T.fdB ["script", "most"] (spBy K) := by
  have GC : FnOk P w K mg base CX0 1 T.fC T.fdC ["script", "k"] (spCell K) := ok_cell T.cell.F T.zlen
  refine T.byS.F.ok sc_by (fun vs H Q E h => ?_) (fun cdv A outer s H vs Q E hr h => ?_)
  · obtain ⟨a, ns, most, rfl, _⟩ := h
    rfl
  · obtain ⟨a, ns, most, rfl, hS, hm, k⟩ := h
    have hu := hu_of hr
    refine ⟨_, pss_cons (ps_set (i := 2) sc_by.nd rfl (Or.inr rfl) (pe_op op_add pe_int (pe_op op_mod (pe_df T.cell GC hr (pa_cons (pv 0) (pa_cons pe_int pa_nil))) (pv 1))))
      (pss_cons (ps_set (i := 3) sc_by.nd rfl (Or.inl rfl) pe_dnewT)
      (pss_cons (ps_for PassesOwn.never rfl (pi_range2 rfl T.zrange (pa_cons pe_int (pa_cons (pv 2) pa_nil))) (pg_name (i := 4) sc_by.nd rfl (Or.inl rfl))
        (pss_one (ps_dput hu (pv 3) (pe_tup (pa_cons (pe_op op_mod (pe_df T.cell GC hr (pa_cons (pv 0) (pa_cons (pv 4) pa_nil))) (pv 4)) (pa_cons (pv 4) pa_nil))) pe_bl rfl)))
      (pss_cons (ps_for PassesOwn.never rfl (pi_range1 rfl T.zrange (pa_cons (pe_op op_mod (pe_df T.cell GC hr (pa_cons (pv 0) (pa_cons pe_int pa_nil))) pe_int) pa_nil)) (pg_name (i := 5) sc_by.nd rfl (Or.inl rfl))
        (pss_cons (ps_set (i := 6) sc_by.nd rfl (Or.inl rfl) (pe_op op_mod (pe_df T.cell GC hr (pa_cons (pv 0) (pa_cons (pe_op op_add pe_int (pe_op op_mul pe_int (pv 5))) pa_nil))) (pv 2)))
        (pss_cons (ps_set (i := 7) sc_by.nd rfl (Or.inl rfl) (pe_op op_mod (pe_df T.cell GC hr (pa_cons (pv 0) (pa_cons (pe_op op_add pe_int (pe_op op_mul pe_int (pv 5))) pa_nil))) (pv 2)))
        (pss_one (ps_if (pt_cmpR op_ne (pv 6) (pv 7) (nomark _)) (pss_one (ps_dput hu (pv 3) (pe_tup (pa_cons (pe_callB (call_min2 rfl) (by rfl) T.zmin PyProof.Rows.boot_min (pa_cons (pv 6) (pa_cons (pv 7) pa_nil)))
          (pa_cons (pe_callB (call_max2 rfl) (by rfl) T.zmax PyProof.Rows.boot_max (pa_cons (pv 6) (pa_cons (pv 7) pa_nil))) pa_nil))) pe_bl rfl)) pss_nil)))))
      (pss_cons (ps_cut (ps_set (i := 8) sc_by.nd rfl (Or.inl rfl) (pe_callB (call_sortedD rfl) (by rfl) T.zsorted PyProof.Rows.boot_sorted (pa_cons (pv 3) pa_nil))))
      (pss_cons (ps_cut (ps_if (pt_cmpR op_eq (pe_op op_mod (pe_df T.cell GC hr (pa_cons (pv 0) (pa_cons pe_int pa_nil))) pe_int) pe_int (nomark _))
        (pss_one (ps_set (i := 8) sc_by.nd rfl (Or.inl rfl) (pe_callB call_sortedP (by rfl) T.zsorted PyProof.Rows.boot_sorted (pa_cons (pe_comp bs_by1 rfl (pi_list (pv 8))
          (fun _ _ _ _ _ => pg_tupK (K := K) (n := 2) rfl rfl (pgs_cons (pg_name (i := 0) bs_by1.nd rfl (Or.inl rfl) (Or.inr rfl)) (pgs_cons (pg_name (i := 1) bs_by1.nd rfl (Or.inl rfl) (Or.inr rfl)) pgs_nil)))
          (fun _ _ _ _ _ => pfs_nil)
          (fun _ _ _ _ _ => pe_tup (pa_cons (pe_op op_sub (pe_op op_sub (pv 2) pe_int) (pv 1)) (pa_cons (pe_op op_sub (pe_op op_sub (pv 2) pe_int) (pv 0)) pa_nil)))) pa_nil)))) pss_nil))
      (pss_cons (ps_cut (ps_if (pt_cmpR op_eq (pe_op op_mod (pe_op op_fdiv (pe_df T.cell GC hr (pa_cons (pv 0) (pa_cons pe_int pa_nil))) pe_int) pe_int) pe_int (nomark _))
        (pss_cons (ps_set (i := 2) sc_by.nd rfl (Or.inr rfl) (pe_callB (call_max2 rfl) (by rfl) T.zmax PyProof.Rows.boot_max (pa_cons pe_int (pa_cons (pv 2) pa_nil))))
        (pss_one (ps_set (i := 8) sc_by.nd rfl (Or.inl rfl) (pe_callB call_sortedP (by rfl) T.zsorted PyProof.Rows.boot_sorted (pa_cons (pe_op op_cat (pe_comp bs_by2 rfl (pi_range1 rfl T.zrange (pa_cons (pe_op op_sub (pv 2) pe_int) pa_nil))
          (fun _ _ _ _ _ => pg_name (i := 0) bs_by2.nd rfl (Or.inl rfl) (Or.inr rfl)) (fun _ _ _ _ _ => pfs_nil) (fun _ _ _ _ _ => pe_tup (pa_cons (pv 0) (pa_cons (pe_op op_add (pv 0) pe_int) pa_nil))))
          (pe_lst (pa_cons (pe_tup (pa_cons pe_int (pa_cons (pe_op op_sub (pv 2) pe_int) pa_nil))) pa_nil))) pa_nil))))) pss_nil))
      (pss_one (ps_ret (pe_tup (pa_cons (pv 2) (pa_cons (pv 8) pa_nil))))))))))), ?_⟩
    have hmod : ∀ c m : Int, 0 < m → 0 ≤ c % m ∧ c % m < m := fun c m h => ⟨Int.emod_nonneg _ (by omega), Int.emod_lt_of_pos _ h⟩
    refine (L2.em1_3 rfl a ns 0 ⟨rfl, hS, by omega, L2.ea rfl (L2.eb rfl rfl ⟨(by show (0 : Int) < most; omega), L2.eb rfl rfl ?_⟩)⟩)
    obtain ⟨hc0, hc1⟩ := hmod (cell ns 0) most (by omega)
    dsimp only
    generalize en : 1 + cell ns 0 % most = n
    have hn1 : 1 ≤ n := by omega
    have hnm : n ≤ most := by omega
    intro d hd
    have s1 : Same H (upd H d (.dT [])) := Same.new hd
    refine (L2.em1_2 rfl 1 n ⟨rfl, by omega, ?_⟩)
    refine for_range (fun i σ H2 => ∃ (ks : List Door) (v4 : Option V), σ = [some (.ref a), some (.int most), some (.int n), some (.ref d), v4, none, none, none, none] ∧ Same H H2 ∧ Keys H2 d ks n i ∧ ∀ p : Int, 1 ≤ p → p < 1 + (i : Int) → ∃ c, 0 ≤ c ∧ c < p ∧ (c, p) ∈ ks)
      ⟨[], none, rfl, s1, ⟨⟨[], upd_same, rfl, Nat.le_refl _⟩, fun _ h => nomatch h⟩, fun p h1 h2 => by omega⟩ ?_ ?_
    · rintro i σ H2 hi ⟨ks, v4, rfl, sm, kk, tr⟩
      refine (L2.em3_3 rfl rfl rfl a ns (1 + (i : Int)) ⟨rfl, sm.seq hS, by omega, L2.ea rfl (L2.eb rfl rfl ⟨(by show (0 : Int) < 1 + (i : Int); omega), L2.ea rfl ⟨(by show 2 ≤ sizeLine; decide), fun t ht => ?_⟩⟩)⟩)
      obtain ⟨q0, q1⟩ := hmod (cell ns (1 + (i : Int))) (1 + (i : Int)) (by omega)
      obtain ⟨H4, put, keep, ks', kk', hin, hsub⟩ := kk.put (e := (cell ns (1 + (i : Int)) % (1 + (i : Int)), 1 + (i : Int))) (v := .bl true) (by omega) (Same.new ht) upd_same ⟨q0, q1, by show 1 + (i : Int) < n; omega⟩
      refine ⟨d, H4, rfl, put, ks', L2.ea rfl ⟨fun b o e => ?_, kk', fun p h1 h2 => ?_⟩⟩
      · rw [keep b (ne_of_none e hd)]
        exact (sm.trans (Same.new ht)) b o e
      · by_cases hp : p = 1 + (i : Int)
        · rw [hp]
          exact ⟨_, q0, q1, hin⟩
        · obtain ⟨c, c0, c1, c2⟩ := tr p h1 (by omega)
          exact ⟨c, c0, c1, hsub _ c2⟩
    · rintro σ H2 ⟨ks, v4, rfl, sm, kk, tr⟩
      have tr' : ∀ p : Int, 1 ≤ p → p < n → ∃ c, 0 ≤ c ∧ c < p ∧ (c, p) ∈ ks := fun p h1 h2 => tr p h1 (by omega)
      refine (L2.em1_3 rfl a ns 6 ⟨rfl, sm.seq hS, by omega, L2.eb rfl rfl ⟨(by show (0 : Int) < 8; decide), L2.ea rfl ?_⟩⟩)
      obtain ⟨g0, g1⟩ := hmod (cell ns 6) 8 (by decide)
      refine ⟨by omega, by omega, ?_⟩
      have km : (n - 1).toNat ≤ 5 := by omega
      refine for_range (fun i σ H2 => ∃ (ks : List Door) (v4 v5 v6 v7 : Option V), σ = [some (.ref a), some (.int most), some (.int n), some (.ref d), v4, v5, v6, v7, none] ∧ Same H H2 ∧ Keys H2 d ks n ((n - 1).toNat + i) ∧ ∀ p : Int, 1 ≤ p → p < n → ∃ c, 0 ≤ c ∧ c < p ∧ (c, p) ∈ ks)
        ⟨ks, v4, none, none, none, rfl, sm, kk, tr'⟩ ?_ ?_
      · rintro i σ H2 hi ⟨ks, v4, v5, v6, v7, rfl, sm, kk, tr⟩
        have hi8 : i < 8 := by omega
        have two : CMul 2 (0 + (i : Int)) := .inl ⟨by decide, by decide⟩
        refine (L2.ea2 rfl rfl (L2.eb rfl rfl ⟨two, L2.eb rfl rfl (L2.ex3 a ns _ ⟨rfl, sm.seq hS, by omega, L2.ea rfl (L2.eb rfl rfl ⟨(by show (0 : Int) < n; omega), ?_⟩)⟩)⟩))
        refine (L2.ea2 rfl rfl (L2.eb rfl rfl ⟨two, L2.eb rfl rfl (L2.ex3 a ns _ ⟨rfl, sm.seq hS, by omega, L2.ea rfl (L2.eb rfl rfl ⟨(by show (0 : Int) < n; omega), ?_⟩)⟩)⟩))
        dsimp only
        obtain ⟨a0, a1⟩ := hmod (cell ns (7 + 2 * (0 + (i : Int)))) n (by omega)
        obtain ⟨b0, b1⟩ := hmod (cell ns (8 + 2 * (0 + (i : Int)))) n (by omega)
        generalize cell ns (7 + 2 * (0 + (i : Int))) % n = one at a0 a1 ⊢
        generalize cell ns (8 + 2 * (0 + (i : Int))) % n = other at b0 b1 ⊢
        refine (L2.ea2 rfl rfl ⟨rfl, L2.ea rfl ?_⟩)
        refine ite2 (fun h => ?_) (fun h => ?_)
        · have hne : one ≠ other := by simpa using h
          refine (L2.em3_2 rfl rfl rfl _ _ ⟨rfl, L2.em2_2 rfl rfl _ _ ⟨rfl, (by show 2 ≤ sizeLine; decide), fun t ht => ?_⟩⟩)
          have he : 0 ≤ (if other < one then other else one) ∧ (if other < one then other else one) < (if other > one then other else one) ∧ (if other > one then other else one) < n := by
            refine ⟨?_, ?_, ?_⟩ <;> repeat' split
            all_goals omega
          obtain ⟨H4, put, keep, ks', kk', hin, hsub⟩ := kk.put (e := (if other < one then other else one, if other > one then other else one)) (v := .bl true) (by omega) (Same.new ht) upd_same he
          refine ⟨d, H4, rfl, put, ks', L2.ex4 _ _ _ _ ⟨rfl, fun b o e => ?_, kk', fun p h1 h2 => ?_⟩⟩
          · rw [keep b (ne_of_none e hd)]
            exact (sm.trans (Same.new ht)) b o e
          · obtain ⟨c, c0, c1, c2⟩ := tr p h1 h2
            exact ⟨c, c0, c1, hsub _ c2⟩
        · exact ⟨ks, L2.ex4 _ _ _ _ ⟨rfl, sm, kk.more (by omega), tr⟩⟩
      · rintro σ H2 ⟨ks, v4, v5, v6, v7, rfl, sm, kk, tr⟩
        refine ⟨Found H a most, ?_, ?_⟩
        · obtain ⟨⟨kvs, hdk, hkk, hlk⟩, okk⟩ := kk
          have hlen : ks.length ≤ 12 := by
            have := congrArg List.length hkk
            simp only [List.length_map] at this
            omega
          refine (L2.ea rfl ⟨d, kvs, ks, rfl, hdk, hkk, by omega, fun l bs es hl perm rise pairs => ?_⟩)
          refine ⟨n, l, es, L2.ex5 _ _ _ _ _ ⟨rfl, sm.free hl, sm.trans (Same.new hl), ⟨bs, upd_same, PairsAre.same (Same.new hl) pairs⟩, ⟨hn1, by omega, fun x hx => okk x ((perm.mem_iff).mp hx), rise, conn_sub (conn_tree tr) fun x hx => (perm.mem_iff).mpr hx⟩, .inl hnm, by rw [perm.length_eq]; omega⟩⟩
        · rintro σ2 H3 F1
          refine ⟨Found H a most, ?_, ?_⟩
          · -- the flip
            obtain ⟨n, l, ds, v3, v4, v5, v6, v7, rfl, hl, sm, hD, G, hb, hz⟩ := F1
            refine (L2.em1_3 rfl a ns 23 ⟨rfl, sm.seq hS, by omega, L2.eb rfl rfl ⟨(by show (0 : Int) < 2; decide), rfl, L2.ea rfl ?_⟩⟩)
            refine ite2 (fun _ => ?_) (fun _ => (L2.ex6 n l ds _ _ _ (L2.ex2 _ _ ⟨rfl, hl, sm, hD, G, hb, hz⟩)))
            obtain ⟨as, hL, hP⟩ := id hD
            refine (L2.em1_1 rfl l ⟨rfl, ⟨_, SqL.of hL⟩, ?_⟩)
            refine comp_map (src := as.zip ds) (emb := fun p => V.ref p.1) (src_pairs hL hP) (by rw [List.length_zip]; omega) (fun p => some (flipD n p.2)) RelP RelP.mono (fun p hp acc ys H' ha sm' hy C C0 hC _ => ?_) (fun acc ys H' ha sm' hy hp => ?_)
            · have pr := sm' _ _ (Paired.zip_mem hP p hp)
              refine ⟨p.1, L2.ea rfl ⟨SqT.of pr, rfl, L2.ex2 _ _ ⟨rfl, L2.eb rfl rfl ⟨.no (.no (.yes .nil)), ?_⟩⟩⟩⟩
              refine (L2.ea rfl (L2.eb rfl rfl (L2.ea rfl (L2.eb rfl rfl (L2.ea rfl (L2.eb rfl rfl (L2.ea rfl (L2.eb rfl rfl ⟨(by show 2 ≤ sizeLine; decide), fun t ht => hC _ _ _ rfl (Same.new ht) ⟨t, rfl, del_new ht hy⟩⟩))))))))
            · rw [fm_some] at hp
              obtain ⟨bs, rfl, hp'⟩ := relP_split hp
              have e2 : (as.zip ds).map (fun p => flipD n p.2) = ds.map (flipD n) := by
                have := (Paired.zip_fst hP).2
                have e3 : (as.zip ds).map (fun p => flipD n p.2) = ((as.zip ds).map (·.2)).map (flipD n) := by rw [List.map_map]; rfl
                rw [e3, this]
              rw [e2] at hp'
              refine ⟨acc, bs, ds.map (flipD n), rfl, hy, PairsAre.same (del_same _ _) hp', nodup_flip (nodup_of_rising G.rise), by rw [List.length_map]; omega, fun l2 bs2 es hl2 perm rise pairs => ?_⟩
              refine ⟨n, l2, es, L2.ex5 _ _ _ _ _ ⟨rfl, (sm.trans sm').free hl2, (sm.trans sm').trans (Same.new hl2), ⟨bs2, upd_same, PairsAre.same (Same.new hl2) pairs⟩, good_flip G perm rise, hb, by rw [perm.length_eq, List.length_map]; omega⟩⟩
          · rintro σ3 H4 F2
            refine ⟨Found H a most, ?_, ?_⟩
            · -- the ring
              obtain ⟨n, l, ds, v3, v4, v5, v6, v7, rfl, hl, sm, hD, G, hb, hz⟩ := F2
              refine (L2.em1_3 rfl a ns 23 ⟨rfl, sm.seq hS, by omega, L2.eb rfl rfl ⟨⟨by decide, by decide⟩, L2.eb rfl rfl ⟨(by show (0 : Int) < 6; decide), rfl, L2.ea rfl ?_⟩⟩⟩)
              refine ite2 (fun _ => ?_) (fun _ => (L2.ex6 n l ds _ _ _ (L2.ex2 _ _ ⟨rfl, hl, sm, hD, G, hb, hz⟩)))
              refine (L2.em1_2 rfl _ _ ⟨rfl, ?_⟩)
              dsimp only
              have g1 := G.lo
              have g2 := G.hi
              have hb' : (if n > 3 then n else 3) ≤ most ∨ (if n > 3 then n else 3) ≤ 3 := by split <;> omega
              have h3' : 3 ≤ (if n > 3 then n else 3) := by split <;> omega
              have h6' : (if n > 3 then n else 3) ≤ 6 := by split <;> omega
              generalize (if n > 3 then n else 3) = n' at hb' h3' h6' ⊢
              refine (L2.ea rfl (L2.eb rfl rfl (L2.ea rfl ⟨by omega, by omega, ?_⟩)))
              refine comp_map (src_rng (n' - 1)) (rng_len (by omega)) (fun k => some (k, k + 1)) RelP RelP.mono (fun p hp acc ys H' ha sm' hy C C0 hC _ => ?_) (fun acc ys H' ha sm' hy hp => ?_)
              · refine ⟨.no .nil, L2.ea2 rfl rfl (L2.eb rfl rfl ⟨(by show 2 ≤ sizeLine; decide), fun t ht => hC _ _ _ rfl (Same.new ht) ⟨t, rfl, del_new ht hy⟩⟩)⟩
              · rw [fm_some] at hp
                obtain ⟨bs, rfl, hp'⟩ := relP_split hp
                have hp2 := PairsAre.same (del_same _ _) hp'
                refine (L2.ea rfl (L2.eb rfl rfl ⟨(by show 2 ≤ sizeLine; decide), fun t ht => ⟨(by show 1 ≤ sizeLine; decide), fun l3 hl3 => ?_⟩⟩))
                have st : Same H' (upd H' t (.tup [.int 0, .int (n' - 1)])) := Same.new ht
                have s3 := st.trans (Same.new hl3 (o := .lst [.ref t]))
                have hlb := hp2.length
                have hlr : (ringD n').length ≤ 20 := by
                  unfold ringD
                  rw [List.length_append, List.length_map, rng_length]
                  simp
                  omega
                have big : (20 : Nat) < sizeLine := by decide
                refine (L2.ex4 acc l3 _ _ ⟨rfl, rfl, s3 _ _ hy, upd_same, ?_, fun q hq => ?_⟩)
                · rw [List.length_map, hlb, List.length_map, rng_length]
                  show _ + 1 ≤ _
                  omega
                · have s4 := s3.trans (Same.new hq (o := .lst (bs.map V.ref ++ [.ref t])))
                  have pt : PairAt (upd (upd (upd H' t (.tup [.int 0, .int (n' - 1)])) l3 (.lst [.ref t])) q (.lst (bs.map V.ref ++ [.ref t]))) t (0, n' - 1) := ((Same.new hl3).trans (Same.new hq)) _ _ upd_same
                  refine ⟨q, bs ++ [t], ringD n', rfl, by rw [upd_same, List.map_append]; rfl, PairsAre.append (PairsAre.same s4 hp2) (.cons pt .nil), ring_nodup h3', by omega, fun l2 bs2 es hl2 perm rise pairs => ?_⟩
                  have s5 := ((sm.trans sm').trans s4)
                  refine ⟨n', l2, es, L2.ex5 _ _ _ _ _ ⟨rfl, s5.free hl2, s5.trans (Same.new hl2), ⟨bs2, upd_same, PairsAre.same (Same.new hl2) pairs⟩, good_ring h3' h6' perm rise, hb', by rw [perm.length_eq]; exact hlr⟩⟩
            · rintro σ4 H5 ⟨n, l, ds, v3, v4, v5, v6, v7, rfl, hl, sm, hD, G, hb, hz⟩
              refine (L2.ea2 rfl rfl ⟨(by show 2 ≤ sizeLine; decide), fun t ht => ?_⟩)
              exact k t l n ds _ hl (sm.trans (Same.new ht)) upd_same (hD.same (Same.new ht)) G hb hz
end
end Cn

set_option Elab.async false
set_option linter.all false
set_option maxRecDepth 100000
namespace L2
open PySem PySem.Spec PyProof.Rows
section
variable {X : Cx}
theorem call_rng1 : CallR X (.type "range") (fun xs H Q => ∃ j : Int, xs = [.int j] ∧ ∀ p, H p = none → Q (.ref p) (upd H p (.rng 0 j))) := by
  intro pins s σ H xs us Q I r h
  obtain ⟨j, rfl, q⟩ := h
  obtain ⟨u, rfl, t, rfl⟩ := vals1 r
  refine call_range_1 ⟨.ref s.heap.objs.size, _, I.laid (o := .rng 0 j) (fun b o e => Heap.get?_push_of_some _ e) (Nat.le_refl _) ⟨_, _, _, Heap.get?_push_size _ rfl⟩, rfl, q _ I.fresh⟩
theorem call_listR (hc : X.calm = true) : CallR X (.type "list") (fun xs H Q => ∃ (p : Addr) (n : Int), xs = [.ref p] ∧ H p = some (.rng 0 n) ∧ (0 ≤ n ∧ n ≤ 1000) ∧ ∀ l, H l = none → Q (.ref l) (upd H l (.lst ((Cf.rng n).map V.int)))) := by
  intro pins s σ H xs us Q I r h
  obtain ⟨p, n, rfl, hp, hn, q⟩ := h
  obtain ⟨u, rfl, ru⟩ := vals1 r
  cases ru
  obtain ⟨t, u, v, e⟩ := I.hok _ _ hp
  refine call_list_range (n := n.toNat) (I.ok.hd hc) e (small_one (by omega) (by omega) (by omega) (by omega)) (by rw [rangeSize_one]; split <;> omega) (by omega) fun h' tk acc c' hk hS hacc => ?_
  refine ⟨.ref s.heap.objs.size, _, I.laid (t' := tk) (o := .lst ((Cf.rng n).map V.int)) hk (Nat.le_refl _) ⟨?_, acc.toList, c', ?_, by simpa using hS⟩, rfl, q _ I.fresh⟩
  · rw [List.length_map, Cf.rng_length]
    have : (1000 : Nat) < sizeLine := by decide
    omega
  · have gen : ∀ (l : List Value) (k : Nat), (∀ j v, l[j]? = some v → ∃ t, v = Value.int (0 + ((k + j : Nat) : Int) * 1) t) → Vals ((List.range' k l.length).map fun (i : Nat) => V.int (i : Int)) l := by
      intro l
      induction l with
      | nil => intro k _; exact .nil
      | cons x r ih =>
        intro k hx
        rw [List.length_cons, List.range'_succ, List.map_cons]
        refine .cons ?_ (ih (k + 1) fun j v hj => ?_)
        · obtain ⟨t, e⟩ := hx 0 x rfl
          exact ⟨t, by rw [e]; simp⟩
        · obtain ⟨t, e⟩ := hx (j + 1) v (by simpa using hj)
          exact ⟨t, by rw [e]; congr 3; omega⟩
    have := gen acc.toList 0 fun j v hj => by
      obtain ⟨t, e⟩ := hacc.2 j v (by simpa using hj)
      exact ⟨t, by rw [e]; simp⟩
    have e1 : ((List.range' 0 acc.toList.length).map fun (i : Nat) => V.int (i : Int)) = (Cf.rng n).map V.int := by
      unfold Cf.rng
      rw [List.map_map, Array.length_toList, hacc.1, List.range_eq_range']
      rfl
    rw [e1] at this
    exact this
noncomputable def Ite (K : PySem.W.Frag) (a : Addr) : It :=
  ⟨fun i H => ∃ xs x, SqL K H a xs ∧ xs[i]? = some x, fun i H x H' => ∃ t y, H t = none ∧ x = .ref t ∧ H' = upd H t (.tup [.int i, y]) ∧ ∀ xs, SqL K H a xs → xs[i]? = some y, fun i H => ∃ xs, SqL K H a xs ∧ xs.length ≤ i⟩
theorem turn_enum {P : Program} {w : World} {K : PySem.W.Frag} {elts : List Expr} {k : Nat} {pos : Pos} (a e it : Addr) (hei : e ≠ it) : Turn P w K (.Tuple elts k pos) (Ite K a) [e, it] e (fun i h => (∃ old, IsEnum h e it i old) ∧ h.IsListIter it a i) where
  mem := by simp
  obj := fun i h st b hb => by
    obtain ⟨⟨old, he⟩, o, eo, c, d⟩ := st
    have hb' : b = e ∨ b = it := by simpa using hb
    rcases hb' with rfl | rfl
    · exact ⟨_, he, fun v z => by cases z⟩
    · exact ⟨o, eo, fun v z => by rw [d] at z; cases z⟩
  keep := fun i h h' st hk => ⟨let ⟨old, he⟩ := st.1; ⟨old, hk e (by simp) _ he⟩, st.2.at fun o eo => hk it (by simp) o eo⟩
  item := by
    intro X hP hw hK hcm i pins s σ H E I hf st hg
    subst hP hw hK
    obtain ⟨xs, x, hq, hx⟩ := hg
    obtain ⟨⟨old, he⟩, hit⟩ := st
    obtain ⟨its, rv, pl, hz⟩ := I.list hq
    obtain ⟨u, hu, ru⟩ := rv.get hx
    refine wpAny_pyNext_enum_item he hit pl.isList (x := u) (by simpa using hu) hei fun h' out hit' htup hsz hk => ?_
    refine ⟨.ref s.heap.objs.size, rfl, wpAny_letOwnedTupleGo_enum (s := { s with heap := h', toks := s.toks + 1 }) out fun h'' he' hs' => ?_⟩
    have fe := hf e (by simp)
    have fi := hf it (by simp)
    have fresh : H s.heap.objs.size = none := I.fresh
    have kp : ∀ b o, b ≠ e → b ≠ it → s.heap.get? b = some o → h''.get? b = some o := fun b o h1 h2 q => (hs'.2 b h1).trans (hk b o h1 h2 q)
    have ht'' : h''.get? s.heap.objs.size = some { cls := .type "tuple", data := .seq #[.int i s.toks, u] } := by
      refine (hs'.2 _ ?_).trans htup
      exact Nat.ne_of_gt (Heap.lt_size he)
    have tr : ∀ b v, H b = some v → b ≠ e ∧ b ≠ it := fun b v q => ⟨fun z => (by rw [z, fe.1] at q; cases q), fun z => (by rw [z, fi.1] at q; cases q)⟩
    have ne : ∀ b v, H b = some v → b ≠ s.heap.objs.size := fun b v q z => by rw [z, fresh] at q; cases q
    have I2 : Inv X pins σ (upd H s.heap.objs.size (.tup [.int i, x])) { s with heap := h'', toks := s.toks + 1 } := by
      refine I.step (g' := s.gens) (d' := s.drawn) (ch := [e, it]) (fun b hb => ?_) (fun b o _ _ hc q _ => kp b o (fun z => hc (by simp [z])) (fun z => hc (by simp [z])) q) (fun b o _ _ hc q _ => ⟨o.slots, kp b o (fun z => hc (by simp [z])) (fun z => hc (by simp [z])) q⟩)
        (fun b o _ q n => by rw [upd_ne (Nat.ne_of_lt (Heap.lt_size q))]; exact n) (fun b o hc q => ⟨o, kp b o (fun z => hc (by simp [z])) (fun z => hc (by simp [z])) q⟩) (fun b ys q => by rw [upd_ne (ne b _ q)]; exact q) (fun b o v q => by rw [upd_ne (ne b _ q)]; exact q) (fun b ps q => ⟨#[], by rw [upd_ne (ne b _ q), q]; simp⟩) (fun m hm => ?_) (fun b v q => ?_) I.bare
      · have hb' : b = e ∨ b = it := by simpa using hb
        rcases hb' with rfl | rfl
        · exact ⟨fe.2.2.2.1, fe.2.1, fe.2.2.2.2.1, fe.2.2.2.2.2⟩
        · exact ⟨fi.2.2.2.1, fi.2.1, fi.2.2.2.2.1, fi.2.2.2.2.2⟩
      · obtain ⟨o, es, ep, ho, r⟩ := hm
        exact ⟨o, es, ep, kp _ o (Ne.symm fe.2.1) (Ne.symm fi.2.1) ho, r⟩
      · by_cases hb : b = s.heap.objs.size
        · subst hb
          rw [upd_same] at q; cases q
          exact ⟨by show 2 ≤ sizeLine; decide, [.int i s.toks, u], .cons ⟨_, rfl⟩ (.cons ru .nil), _, ht'', rfl, _, rfl⟩
        · rw [upd_ne hb] at q
          refine (I.hok b v q).stay (fun c v' hc z => ?_) (fun c z => by rw [upd_ne (ne c _ z)]; exact z) fun c ys z => by rw [upd_ne (ne c _ z)]; exact z
          rcases hc with rfl | hc
          · exact kp _ _ (tr _ _ q).1 (tr _ _ q).2 z
          · exact kp _ _ (tr _ _ hc).1 (tr _ _ hc).2 z
    refine ⟨.ref s.heap.objs.size, _, I2, rfl, ⟨_, x, fresh, rfl, rfl, fun ys hy => by rw [I.list_inj hy hq]; exact hx⟩, ⟨⟨_, by simpa using he'⟩, hit'.at fun o z => (hs'.2 it (Ne.symm hei)).trans z⟩, fun b hb => ?_⟩
    have hb' : b = e ∨ b = it := by simpa using hb
    have hlt : b < s.heap.objs.size := by
      rcases hb' with rfl | rfl
      · exact Heap.lt_size he
      · obtain ⟨_, z, _⟩ := hit; exact Heap.lt_size z
    rw [upd_ne (Nat.ne_of_lt hlt)]
    exact (hf b hb).1
  done := by
    intro X hP hw hK hcm i pins s σ H E I hf st hg
    subst hP hw hK
    obtain ⟨xs, hq, hx⟩ := hg
    obtain ⟨⟨old, he⟩, hit⟩ := st
    obtain ⟨its, rv, pl, hz⟩ := I.list hq
    have hl := rv.length
    obtain ⟨f0, f1, f2, f3, f4, f5⟩ := hf it (by simp)
    exact wpAny_pyNext_enum_end (I.ok.hd hcm) he hit pl.isList (by simp; omega) fun h' eb => ⟨rfl, I.turned (t' := s.toks) (fun b o hb z => eb b o hb z) f0 f1 f3 f4 f5⟩
  self := fun _ _ _ _ _ st h => let ⟨⟨_, he⟩, _⟩ := st; wpAny_pyIter_enum he h
noncomputable def iEnum (K : PySem.W.Frag) (ta : TA) : TI := fun σ H R => ta σ H fun vs H1 => ∃ a, vs = [.ref a] ∧ (∃ xs, SqL K H1 a xs) ∧ R (Ite K a) H1
theorem pi_enum {a : Expr} {ta : TA} {p pos tpos : Pos} {elts : List Expr} {k : Nat} (hg : Gl X "enumerate") (hm : X.mg "enumerate" = none) (ha : PA X [a] ta) (hs : starEach [a] X.env = [(false, eval a X.env)] := by rfl) :
    PI X (.Tuple elts k tpos) (.Call (.Name "enumerate" p) [a] [] pos) (iEnum X.K ta) := by
  intro pins s σ H R I h
  refine Call_ (ld_blt I hg hm boot_enumerate (PyProof.Rows.callWith_type1 (thn (ha pos pins s σ H _ I h) fun us s1 hq_ => ?_) hs rfl))
  obtain ⟨vs, H1, I1, r1, q1⟩ := hq_
  obtain ⟨a, e, ⟨xs, hq⟩, q⟩ := q1
  subst e
  obtain ⟨u, rfl, ru⟩ := vals1 r1
  cases ru
  obtain ⟨its, rv, pl, hz⟩ := I1.list hq
  refine call_enumerate_list pl.isList fun h' he hit hsz hk => wpAny_pyIter_enum (s := { s1 with heap := h' }) he ?_
  have I2 : Inv X pins σ H1 { s1 with heap := h' } := I1.kept (t' := s1.toks) hk
  refine ⟨s1.heap.objs.size + 1, [s1.heap.objs.size + 1, s1.heap.objs.size], _, Ite X.K a, H1, rfl, I2, turn_enum a (s1.heap.objs.size + 1) s1.heap.objs.size (Nat.succ_ne_self _), ⟨⟨_, by simpa using he⟩, hit⟩, fun b hb => ?_, q⟩
  have hb' : b = s1.heap.objs.size + 1 ∨ b = s1.heap.objs.size := by simpa using hb
  rcases hb' with rfl | rfl
  · exact I1.fpOk (by first | exact Nat.le_refl _ | exact Nat.le_succ _) (I1.hok.fresh (by first | exact Nat.le_refl _ | exact Nat.le_succ _))
  · exact I1.fpOk (by first | exact Nat.le_refl _ | exact Nat.le_succ _) (I1.hok.fresh (by first | exact Nat.le_refl _ | exact Nat.le_succ _))
end
end L2

set_option Elab.async false
set_option linter.all false
set_option maxRecDepth 100000
namespace L2
open PySem PySem.Spec PyProof.Rows
section
variable {prog : Program} {w : World} {A : Around} {E : Value → Shared → Prop} {s : Shared} {κ : Type} [DecidableEq κ] {knd : HeapKind prog w κ} {a b : Addr} {xa xb : List (κ × Addr × Value)}
theorem same_heap {nm : String} {r : Nat → Bool} {Q : Bool → Shared → Prop} (ha : (a == sysModules) = false) (hb : (b == sysModules) = false) (da : s.heap.DictOfH knd a xa) (db : s.heap.DictOfH knd b xb) (hk : xa.map (·.1) = xb.map (·.1)) (hu : knd.room A)
    (he : ∀ (i : Nat) (p q : κ × Addr × Value), xa[i]? = some p → xb[i]? = some q → SeqAt.EqAt A s p.2.2 q.2.2 (r i)) (h : Q ((List.range xa.length).all r) s) : wpAny (model prog w) A (Builtin.Dict.samePairs nm a b) Q E s := by
  obtain ⟨oa, ea, pa, hoa, _, hda, hea, hia, nda⟩ := da
  obtain ⟨ob, eb, pb, hob, _, hdb, heb, hib, ndb⟩ := db
  have hlen : xa.length = xb.length := by have := congrArg List.length hk; simpa using this
  have za : ea.size = xa.length := size_of_entries hea
  have zb : eb.size = xb.length := size_of_entries heb
  unfold Builtin.Dict.samePairs Builtin.Dict.showsAll
  rw [if_neg (show ¬ (a == sysModules) = true by rw [ha]; exact Bool.false_ne_true), if_neg (show ¬ (b == sysModules) = true by rw [hb]; exact Bool.false_ne_true)]
  refine wpAny_bind (wpAny_pure (wpAny_bind (wpAny_pure (wpAny_bind (wpAny_dictEntries hoa hda ?_)))))
  dsimp only
  refine wpAny_bind (wpAny_dictEntries hob hdb ?_)
  rw [if_neg (by rw [za, zb, hlen]; simp)]
  refine wpAny_bind (wpAny_dictEpoch hoa hda (wpAny_bind ?_))
  rw [Std.Legacy.Range.forIn_eq_forIn_range']
  simp only [Std.Legacy.Range.size, Nat.sub_zero, Nat.add_sub_cancel, Nat.div_one]
  refine wpAny_forIn_list _ (fun rest q s' => s' = s ∧ q = (none, ()) ∧ ∃ i, rest = List.range' i (ea.size - i) ∧ i ≤ ea.size ∧ ∀ j, j < i → r j = true) _ ?_ ?_ _ _ ⟨rfl, rfl, 0, by simp, Nat.zero_le _, fun j hj => absurd hj (Nat.not_lt_zero _)⟩
  · rintro x rest q s' ⟨rfl, rfl, i, hr, hi, hall⟩
    have hlt : i < ea.size := by
      rcases Nat.lt_or_ge i ea.size with z | z
      · exact z
      · rw [Nat.sub_eq_zero_of_le z] at hr; simp at hr
    obtain ⟨rfl, hrest⟩ : x = i ∧ rest = List.range' (i + 1) (ea.size - (i + 1)) := by
      have e : ea.size - i = (ea.size - (i + 1)) + 1 := by first | exact (Nat.sub_add_cancel (Nat.sub_pos_of_lt hlt)).symm | exact (Nat.sub_add_cancel (Nat.sub_pos_of_lt z)).symm
      rw [e, List.range'_succ] at hr
      injection hr with h1 h2
      exact ⟨h1, h2⟩
    refine wpAny_bind (wpAny_dictEntries hoa hda ?_)
    rw [Array.getElem?_eq_getElem hlt]
    have ia : x < xa.length := by omega
    have ib : x < xb.length := by omega
    have ee : ea[x] = entryOfKey knd xa[x] := by
      have := entry_at hea x
      rw [Array.getElem?_eq_getElem hlt, List.getElem?_eq_getElem ia] at this
      simpa using this
    have kk : xa[x].1 = xb[x].1 := by
      have := congrArg (fun l => l[x]?) hk
      simpa [ia, ib] using this
    show wpAny _ _ (holding [ea[x].key, ea[x].val] _ >>= _) _ _ _
    rw [ee]
    refine wpAny_bind (wpAny_holding (wpAny_bind (wpAny_dictFind_heap (xs := xb) hu (hia _ (List.getElem_mem ia)) hob hdb heb hib ndb (fun hno => ?_) fun j p hj => ?_)))
    · exact absurd (by rw [List.getElem?_eq_getElem ib, kk]) (hno x xb[x].2)
    · have hjx : j = x := idxH_unique ndb hj (q := xb[x].2) (by rw [List.getElem?_eq_getElem ib, kk])
      subst hjx
      have ep : xb[j]? = some xb[j] := List.getElem?_eq_getElem ib
      refine wpAny_bind (wpAny_dictEntries hob hdb ?_)
      have ee' : eb[j]? = some (entryOfKey knd xb[j]) := by rw [entry_at heb j, ep]; rfl
      rw [ee']
      have eq := he j xa[j] xb[j] (List.getElem?_eq_getElem ia) ep
      refine wpAny_holding (eq prog w _ _ ?_)
      cases e : r j with
      | false =>
        have : (List.range xa.length).all r = false := by
          rw [Bool.eq_false_iff]
          intro z
          have := List.all_eq_true.mp z j (List.mem_range.mpr ia)
          rw [e] at this; cases this
        rw [this] at h
        show wpAny _ _ (if (!false) = true then _ else _) _ _ _
        rw [if_pos (by decide)]
        exact wpAny_pure (wpAny_pure h)
      | true =>
        show wpAny _ _ (if (!true) = true then _ else _) _ _ _
        rw [if_neg (by decide)]
        refine wpAny_bind (wpAny_dictEpoch hoa hda ?_)
        rw [if_neg (by simp)]
        refine wpAny_pure ⟨rfl, rfl, j + 1, hrest, hlt, fun l hl => ?_⟩
        by_cases hlj : l = j
        · rw [hlj]; exact e
        · exact hall l (by omega)
  · rintro q s' ⟨rfl, rfl, i, hr, hi, hall⟩
    have hin : i = ea.size := by
      rcases Nat.lt_or_ge i ea.size with z | z
      · have e : ea.size - i = (ea.size - (i + 1)) + 1 := by first | exact (Nat.sub_add_cancel (Nat.sub_pos_of_lt hlt)).symm | exact (Nat.sub_add_cancel (Nat.sub_pos_of_lt z)).symm
        rw [e, List.range'_succ] at hr; exact nomatch hr
      · exact Nat.le_antisymm hi z
    refine wpAny_pure ?_
    have : (List.range xa.length).all r = true := List.all_eq_true.mpr fun j hj => hall j (by rw [hin, za]; exact List.mem_range.mp hj)
    rw [this] at h
    exact h
theorem ne_heap {r : Nat → Bool} {Q : Value → Shared → Prop} (ha : (a == sysModules) = false) (hb : (b == sysModules) = false) (da : s.heap.DictOfH knd a xa) (db : s.heap.DictOfH knd b xb) (hk : xa.map (·.1) = xb.map (·.1)) (hu : knd.room A.in1) (hu2 : A.units < cLine)
    (he : ∀ (i : Nat) (p q : κ × Addr × Value), xa[i]? = some p → xb[i]? = some q → SeqAt.EqAt A.in1 s p.2.2 q.2.2 (r i)) (h : Q (.bool (!(List.range xa.length).all r)) s) : wpAny (model prog w) A (compareOp .NotEq (.ref a) (.ref b)) Q E s := by
  refine wpAny_richCompare_same_room (op := .NotEq) da.typeIs db.typeIs PySem.F.slot_dict_ne (wpAny_call_entry PySem.F.slot_dict_ne da.typeIs PySem.F.entry_dict_ne ?_ (PySem.F.args_dict_ne_2 _ _)) hu2
  show wpAny _ _ (Builtin.Dict.dictSlotArgs "__ne__" ⟨[.ref a, .ref b], []⟩ >>= _) _ _ s
  refine wpAny_bind ?_
  unfold Builtin.Dict.dictSlotArgs
  refine wpAny_bind (wpAny_notOrdered_dict da.typeIs ?_)
  show wpAny _ _ (pure (Value.ref a, Value.ref b)) _ _ s
  refine wpAny_pure (wpAny_bind (wpAny_isInstance (T := "dict") db.typeIs PySem.F.sub_dict_dict ?_))
  simp only [Bool.not_true, Bool.false_eq_true, if_false]
  refine wpAny_bind (wpAny_pure (wpAny_bind (wpAny_pure (wpAny_bind (same_heap ha hb da db hk hu he ?_)))))
  refine wpAny_pure (L2.ea rfl ?_)
  constructor
  · intro x; cases x
  · simpa using h
end
section
variable {X : Cx}
noncomputable def rNeT : R2 := fun x y H Q => ∃ (a b : Addr) (ka kb : List (List Key × V)) (da db : List PyData), x = .ref a ∧ y = .ref b ∧ H a = some (.dT ka) ∧ H b = some (.dT kb) ∧ ka.map (·.1) = kb.map (·.1) ∧ Reps H (ka.map (·.2)) da ∧ Reps H (kb.map (·.2)) db ∧
  (∀ d ∈ da, SeqAt.shaped d = true) ∧ (∀ d ∈ db, SeqAt.shaped d = true) ∧ Q (.bl (!(List.range ka.length).all fun i => PyData.eqv (da.getD i .none) (db.getD i .none))) H
theorem Reps.get {H : Hp} : ∀ {vs : List V} {ds : List PyData} {i : Nat} {v : V}, Reps H vs ds → vs[i]? = some v → ∃ d, ds[i]? = some d ∧ Rep H v d
  | _, _, _, _, .nil, e => by simp at e
  | _, _, 0, _, .cons r _, e => by simp at e; subst e; exact ⟨_, rfl, r⟩
  | _, _, i + 1, v, .cons _ t, e => by
    obtain ⟨d, h1, h2⟩ := Reps.get (i := i) (v := v) t (by simpa using e)
    exact ⟨d, by simpa using h1, h2⟩
theorem op_neT (hu : X.A.units + 70 < cLine) : OpR X (compareOp .NotEq) rNeT := by
  intro pins s σ H x y v u Q I rx ry h
  obtain ⟨a, b, ka, kb, da, db, rfl, rfl, ha, hb, hk, ra, rb, sa, sb, q⟩ := h
  cases rx
  cases ry
  obtain ⟨_, loa, xa, rela, dda⟩ := dt_of I.hok ha
  obtain ⟨_, lob, xb, relb, ddb⟩ := dt_of I.hok hb
  have la := Paired.length rela
  have lb := Paired.length relb
  have key : ∀ {kvs : List (List Key × V)} {xs : List (List Key × Addr × Value)}, KT H kvs xs → kvs.map (·.1) = xs.map (·.1) := by
    intro kvs xs r
    induction r with
    | nil => rfl
    | cons h _ ih => simp [h.1, ih]
  refine ne_heap (knd := tupleKind (mixKind X.prog X.w)) (r := fun i => PyData.eqv (da.getD i .none) (db.getD i .none)) loa lob dda ddb (by rw [← key rela, ← key relb]; exact hk) (tupleKind_room_in1 (by omega)) (by omega) (fun i p q' hp hq => ?_) ⟨.bl _, H, I, ?_, q⟩
  · have hia : i < ka.length := by rw [la]; exact (List.getElem?_eq_some_iff.mp hp).1
    have hib : i < kb.length := by rw [lb]; exact (List.getElem?_eq_some_iff.mp hq).1
    obtain ⟨p', hp', f⟩ := Paired.get rela (List.getElem?_eq_getElem hia)
    obtain ⟨q2, hq2, g⟩ := Paired.get relb (List.getElem?_eq_getElem hib)
    rw [hp] at hp'; cases hp'
    rw [hq] at hq2; cases hq2
    obtain ⟨d1, e1, r1⟩ := ra.get (i := i) (v := ka[i].2) (by simp [hia])
    obtain ⟨d2, e2, r2⟩ := rb.get (i := i) (v := kb[i].2) (by simp [hib])
    obtain ⟨as, w1⟩ := r1.reads I.hok f.2.2
    obtain ⟨bs, w2⟩ := r2.reads I.hok g.2.2
    have g1 : da.getD i .none = d1 := by rw [List.getD_eq_getElem?_getD, e1]; rfl
    have g2 : db.getD i .none = d2 := by rw [List.getD_eq_getElem?_getD, e2]; rfl
    show SeqAt.EqAt _ _ _ _ (PyData.eqv (da.getD i .none) (db.getD i .none))
    rw [g1, g2]
    exact PySem.W.keq_at (A := X.A) w1 w2 (sa _ (List.mem_of_getElem? e1)) (sb _ (List.mem_of_getElem? e2)) (by show X.A.units + 1 + 64 < cLine; omega)
  · show Value.bool _ = Value.bool _
    rw [la]
end
end L2

set_option Elab.async false
set_option linter.all false
set_option maxRecDepth 100000
namespace L2
open PySem PySem.Spec PyProof.Rows Cf
structure SameQ (H H' : Hp) : Prop where
  lst : ∀ b xs, H b = some (.lst xs) → H' b = some (.lst xs)
  tup : ∀ b xs, H b = some (.tup xs) → H' b = some (.tup xs)
theorem Same.q {H H' : Hp} (e : Same H H') : SameQ H H' := ⟨fun b xs h => e _ _ h, fun b xs h => e _ _ h⟩
theorem SameQ.refl (H : Hp) : SameQ H H := ⟨fun _ _ h => h, fun _ _ h => h⟩
theorem SameQ.trans {H H' H'' : Hp} (a : SameQ H H') (b : SameQ H' H'') : SameQ H H'' := ⟨fun _ _ h => b.lst _ _ (a.lst _ _ h), fun _ _ h => b.tup _ _ (a.tup _ _ h)⟩
theorem SameQ.at {H : Hp} {p : Addr} {u o : HO} (h : H p = some u) (nl : ∀ xs, u ≠ .lst xs) (nt : ∀ xs, u ≠ .tup xs) : SameQ H (upd H p o) :=
  ⟨fun b xs e => by rw [upd_ne (fun z => by rw [z, h] at e; cases e; exact nl _ rfl)]; exact e, fun b xs e => by rw [upd_ne (fun z => by rw [z, h] at e; cases e; exact nt _ rfl)]; exact e⟩
theorem SameQ.dT {H : Hp} {p : Addr} {kvs : List (List Key × V)} {o : HO} (h : H p = some (.dT kvs)) : SameQ H (upd H p o) := SameQ.at h (fun _ z => nomatch z) (fun _ z => nomatch z)
theorem SameQ.frz {H : Hp} {p : Addr} {ob : Obj} {u o : HO} (h : H p = some (.frz ob u)) : SameQ H (upd H p o) := SameQ.at h (fun _ z => nomatch z) (fun _ z => nomatch z)
theorem same_thaw {H H2 : Hp} {a : Addr} {o : Obj} {u : HO} (h : H a = some u) (s : Same (upd H a (.frz o u)) H2) : Same H (upd H2 a u) := fun b v e => by
  by_cases hb : b = a
  · subst hb
    rw [h] at e; cases e
    exact upd_same
  · rw [upd_ne hb]
    exact s _ _ (by rw [upd_ne hb]; exact e)
theorem frz_at {H H2 : Hp} {a : Addr} {o : HO} (s : Same (upd H a o) H2) : H2 a = some o := s _ _ upd_same
noncomputable def TupAt (H : Hp) (t : Addr) (c : List Int) : Prop := H t = some (.tup (c.map V.int))
noncomputable def ListsAt (H : Hp) (a : Addr) (ls : List (List Int)) : Prop := ∃ as : List Addr, H a = some (.lst (as.map V.ref)) ∧ Paired (fun b ns => IntsAt H b ns) as ls
noncomputable def TupsAt (H : Hp) (a : Addr) (cs : List (List Int)) : Prop := ∃ as : List Addr, H a = some (.lst (as.map V.ref)) ∧ Paired (fun t c => TupAt H t c) as cs
theorem IntsAt.q {H H' : Hp} {a : Addr} {ns : List Int} (e : SameQ H H') (h : IntsAt H a ns) : IntsAt H' a ns := e.lst _ _ h
theorem TupAt.q {H H' : Hp} {a : Addr} {ns : List Int} (e : SameQ H H') (h : TupAt H a ns) : TupAt H' a ns := e.tup _ _ h
theorem ListsAt.q {H H' : Hp} {a : Addr} {ls : List (List Int)} (e : SameQ H H') (h : ListsAt H a ls) : ListsAt H' a ls := let ⟨as, h1, h2⟩ := h; ⟨as, e.lst _ _ h1, Paired.mapP h2 fun _ _ q => IntsAt.q e q⟩
theorem Paired.get' {α β : Type} {F : α → β → Prop} : ∀ {l₁ : List α} {l₂ : List β} {i : Nat} {b : β}, Paired F l₁ l₂ → l₂[i]? = some b → ∃ a, l₁[i]? = some a ∧ F a b
  | _, _, _, _, .nil, e => by simp at e
  | _, _, 0, _, .cons r _, e => by simp at e; subst e; exact ⟨_, rfl, r⟩
  | _, _, i + 1, v, .cons _ t, e => by
    obtain ⟨d, h1, h2⟩ := Paired.get' (i := i) (b := v) t (by simpa using e)
    exact ⟨d, by simpa using h1, h2⟩
noncomputable def ov : Option Nat → V
  | some k => .int k
  | none => .non
noncomputable def od : Option Nat → PyData
  | some k => .int k
  | none => .none
theorem ov_non (o : Option Nat) : decide (ov o = .non) = o.isNone := by cases o <;> simp [ov]
theorem ov_rep (H : Hp) (o : Option Nat) : Rep H (ov o) (od o) := by
  cases o with
  | none => exact .non
  | some k => exact .int _
theorem ov_reps (H : Hp) : ∀ l : List (Option Nat), Reps H (l.map ov) (l.map od)
  | [] => .nil
  | o :: r => .cons (ov_rep H o) (ov_reps H r)
theorem od_shaped (o : Option Nat) : SeqAt.shaped (od o) = true := by cases o <;> rfl
theorem od_shapeds (l : List (Option Nat)) : SeqAt.shaped (.list (l.map od)) = true := by
  have h1 : ∀ l : List (Option Nat), PyData.canLayAll0 (l.map od) = true := by
    intro l
    induction l with
    | nil => rfl
    | cons d r ih => cases d <;> simp [PyData.canLayAll0, ih, od, PyData.canLay0]
  have h2 : ∀ l : List (Option Nat), PyData.depthAll (l.map od) ≤ 1 := by
    intro l
    induction l with
    | nil => simp [PyData.depthAll]
    | cons d r ih => cases d <;> simp [PyData.depthAll, od, PyData.depth] <;> omega
  have := h2 l
  simp only [SeqAt.shaped, PyData.canLay0, h1 l, Bool.true_and, decide_eq_true_eq]
  unfold PyData.depth
  omega
theorem od_eqv (a b : Option Nat) : PyData.eqv (od a) (od b) = decide (a = b) := by
  cases a <;> cases b <;> simp [od, PyData.eqv]
  rename_i a b
  by_cases h : a = b
  · simp [h]
  · have : ¬ (a : Int) = (b : Int) := by omega
    simp [h, this]
theorem od_eqvs : ∀ (l m : List (Option Nat)), l.length = m.length → PyData.eqv (.list (l.map od)) (.list (m.map od)) = decide (l = m) := by
  have key : ∀ (l m : List (Option Nat)), l.length = m.length → PyData.eqvAll (l.map od) (m.map od) = decide (l = m) := by
    intro l
    induction l with
    | nil => intro m h; cases m with | nil => rfl | cons _ _ => simp at h
    | cons a r ih =>
      intro m h
      cases m with
      | nil => simp at h
      | cons b t =>
        simp only [List.map_cons, PyData.eqvAll, od_eqv, ih t (by simpa using h)]
        by_cases h1 : a = b <;> by_cases h2 : r = t <;> simp [h1, h2]
  intro l m h
  simp only [PyData.eqv]
  exact key l m h
theorem atI_rng {n r : Int} {g : Int → V} (h : 0 ≤ r ∧ r < n) : atI ((rng n).map g) r = some (g r) := by
  have c : ((r.toNat : Nat) : Int) = r := by omega
  have e : ((rng n).map g)[r.toNat]? = some (g r) := by
    rw [List.getElem?_map, rng_get (show r.toNat < n.toNat by omega)]
    simp [c]
  have := atI_nat e
  rwa [c] at this
noncomputable def RksAt (H : Hp) (l : Addr) (n : Int) (f : Int → Option Nat) : Prop := H l = some (.lst ((rng n).map fun r => ov (f r)))
theorem RksAt.q {H H' : Hp} {a : Addr} {n : Int} {f : Int → Option Nat} (e : SameQ H H') (h : RksAt H a n f) : RksAt H' a n f := e.lst _ _ h
theorem for_enum {K : PySem.W.Frag} {a : Addr} {xs : List V} {g : TG} {tb : TS} {D : Ends} {σ : St} {H : Hp} (Pv : Nat → St → Hp → Prop) (h0 : Pv 0 σ H) (hl : ∀ i σ H, i ≤ xs.length → Pv i σ H → SqL K H a xs)
    (hs : ∀ i x σ H, xs[i]? = some x → Pv i σ H → ∀ t, H t = none → g (.ref t) σ (upd H t (.tup [.int i, x])) fun σ2 H2 => tb { D with nx := Pv (i + 1), ct := Pv (i + 1), bk := D.nx } σ2 H2) (hd : ∀ σ H, Pv xs.length σ H → D.nx σ H) :
    ∃ W : Nat → Nat → St → Hp → Prop, (∃ m, W 0 m σ H) ∧ ∀ i m σ H, W i m σ H →
      ((Ite K a).stop i H ∧ D.nx σ H) ∨ ((Ite K a).go i H ∧ ∃ N : St → Hp → Prop, (∀ σ' H', N σ' H' → ∃ m', m' < m ∧ W (i + 1) m' σ' H') ∧ ∀ x H', (Ite K a).yld i H x H' → g x σ H' fun σ2 H2 => tb { D with nx := N, ct := N, bk := D.nx } σ2 H2) := by
  refine ⟨fun i m σ H => m = xs.length - i ∧ i ≤ xs.length ∧ Pv i σ H, ⟨xs.length, by simp, Nat.zero_le _, h0⟩, ?_⟩
  rintro i m σ H ⟨rfl, hi, p⟩
  have q := hl i σ H hi p
  by_cases hlt : i < xs.length
  · refine .inr ⟨⟨xs, xs[i], q, by simp [hlt]⟩, Pv (i + 1), fun σ' H' p' => ⟨xs.length - (i + 1), Nat.sub_lt_sub_left hlt (Nat.lt_succ_self i), rfl, hlt, p'⟩, fun x H' y => ?_⟩
    obtain ⟨t, z, ht, rfl, rfl, y⟩ := y
    exact hs i z σ _ (y xs q) p t ht
  · have e : i = xs.length := by omega
    subst e
    exact .inl ⟨⟨xs, q, Nat.le_refl _⟩, hd σ H p⟩
theorem for_dict {a : Addr} {o : Obj} {u : HO} {as : List Addr} {g : TG} {tb : TS} {D : Ends} {σ : St} {H : Hp} (Pv : Nat → St → Hp → Prop) (h0 : Pv 0 σ H) (hl : ∀ i σ H, i ≤ as.length → Pv i σ H → H a = some (.frz o u))
    (hs : ∀ i b σ H, as[i]? = some b → Pv i σ H → g (.ref b) σ H fun σ2 H2 => tb { D with nx := Pv (i + 1), ct := Pv (i + 1), bk := D.nx } σ2 H2) (hd : ∀ σ H, Pv as.length σ H → D.nx σ H) :
    ∃ W : Nat → Nat → St → Hp → Prop, (∃ m, W 0 m σ H) ∧ ∀ i m σ H, W i m σ H →
      ((Itd a o u as).stop i H ∧ D.nx σ H) ∨ ((Itd a o u as).go i H ∧ ∃ N : St → Hp → Prop, (∀ σ' H', N σ' H' → ∃ m', m' < m ∧ W (i + 1) m' σ' H') ∧ ∀ x H', (Itd a o u as).yld i H x H' → g x σ H' fun σ2 H2 => tb { D with nx := N, ct := N, bk := D.nx } σ2 H2) := by
  refine ⟨fun i m σ H => m = as.length - i ∧ i ≤ as.length ∧ Pv i σ H, ⟨as.length, by simp, Nat.zero_le _, h0⟩, ?_⟩
  rintro i m σ H ⟨rfl, hi, p⟩
  have q := hl i σ H hi p
  by_cases hlt : i < as.length
  · refine .inr ⟨⟨hlt, q⟩, Pv (i + 1), fun σ' H' p' => ⟨as.length - (i + 1), Nat.sub_lt_sub_left hlt (Nat.lt_succ_self i), rfl, hlt, p'⟩, fun x H' y => ?_⟩
    obtain ⟨rfl, h, rfl⟩ := y
    exact hs i _ σ _ (by simp [hlt]) p
  · have e : i = as.length := by omega
    subst e
    exact .inl ⟨⟨Nat.le_refl _, q⟩, hd σ H p⟩
theorem src_paired {K : PySem.W.Frag} {δ : Type} {F : Addr → δ → Prop} {H1 : Hp} {a : Addr} {as : List Addr} {ds : List δ} (h : H1 a = some (.lst (as.map V.ref))) (hp : Paired F as ds) : Src (Itl K a) ((as.zip ds).map fun p => V.ref p.1) H1 := by
  have e : ((as.zip ds).map fun p => V.ref p.1) = as.map V.ref := by
    have := (Paired.zip_fst hp).1
    have e2 : ((as.zip ds).map fun p => V.ref p.1) = ((as.zip ds).map (·.1)).map V.ref := by rw [List.map_map]; rfl
    rw [e2, this]
  rw [e]
  exact src_list h
theorem zip_snd_map {α β γ : Type} {F : α → β → Prop} {as : List α} {bs : List β} (h : Paired F as bs) (f : β → γ) : (as.zip bs).map (fun p => f p.2) = bs.map f := by
  have := (Paired.zip_fst h).2
  have e3 : (as.zip bs).map (fun p => f p.2) = ((as.zip bs).map (·.2)).map f := by rw [List.map_map]; rfl
  rw [e3, this]
noncomputable def kc (c : List Int) : List Key := c.map Sum.inl
theorem kc_v (c : List Int) : (kc c).map kV = c.map V.int := by unfold kc; rw [List.map_map]; rfl
theorem kc_inj {a b : List Int} (h : kc a = kc b) : a = b := by
  unfold kc at h
  induction a generalizing b with
  | nil => cases b with | nil => rfl | cons _ _ => simp at h
  | cons x r ih =>
    cases b with
    | nil => simp at h
    | cons y t =>
      simp only [List.map_cons, List.cons.injEq, Sum.inl.injEq] at h
      rw [h.1, ih h.2]
theorem TupAt.key {H : Hp} {t : Addr} {c : List Int} (h : TupAt H t c) : H t = some (.tup ((kc c).map kV)) := by rw [kc_v]; exact h
theorem inV_ints (i : Int) (ns : List Int) : inV (.int i) (ns.map V.int) = ns.contains i := by
  unfold inV
  induction ns with
  | nil => rfl
  | cons x r ih =>
    rw [List.map_cons, List.any_cons, ih, List.contains_cons]
    congr 1
    show (x == i) = (i == x)
    by_cases h : x = i
    · simp [h]
    · have : ¬ i = x := fun z => h z.symm
      rw [beq_eq_false_iff_ne.mpr h, beq_eq_false_iff_ne.mpr this]
theorem flat_ints (ns : List Int) : (ns.map V.int).all flatV = true := by
  rw [List.all_eq_true]
  intro x hx
  obtain ⟨i, _, rfl⟩ := List.mem_map.mp hx
  rfl
end L2

set_option Elab.async false
set_option linter.all false
set_option maxRecDepth 100000
namespace Cn
open PySem L2 Cf
noncomputable abbrev s_widened : Stmt := top 13
noncomputable abbrev s_wranks : Stmt := top 14
noncomputable abbrev s_lostr : Stmt := top 15
noncomputable abbrev s_is_lost : Stmt := top 16
noncomputable abbrev s_choices : Stmt := top 18
noncomputable def isLostM (near : Int → List Int) (f : Int → Option Nat) (r : Int) : Bool := decide (f r = some 0) || (near r).all fun p => (f p).isSome
noncomputable def lostM (n : Int) (near : Int → List Int) (f : Int → Option Nat) : List Int := (rng n).filter (isLostM near f)
structure NearOk (n : Int) (near : Int → List Int) : Prop where
  lo : 0 ≤ n
  hi : n ≤ 6
  go : ∀ p q, 0 ≤ p → p < n → q ∈ near p → 0 ≤ q ∧ q < n
  len : ∀ p, (near p).length ≤ 6
noncomputable def NearsAt (H : Hp) (a : Addr) (n : Int) (near : Int → List Int) : Prop := ListsAt H a ((rng n).map near)
theorem NearsAt.get {H : Hp} {a : Addr} {n : Int} {near : Int → List Int} (h : NearsAt H a n near) {p : Int} (hp : 0 ≤ p ∧ p < n) : ∃ xs b, H a = some (.lst xs) ∧ atI xs p = some (.ref b) ∧ IntsAt H b (near p) := by
  obtain ⟨as, h1, h2⟩ := h
  have c : ((p.toNat : Nat) : Int) = p := by omega
  have e : ((rng n).map near)[p.toNat]? = some (near p) := by
    rw [List.getElem?_map, rng_get (show p.toNat < n.toNat by omega)]
    simp [c]
  obtain ⟨b, hb, hi⟩ := Paired.get' h2 e
  refine ⟨_, b, h1, ?_, hi⟩
  rw [← c]
  exact atI_nat (by rw [List.getElem?_map, hb]; rfl)
section
variable {P : Program} {w : World} {K : PySem.W.Frag} {mg : Str → Option Value} {base : Heap}
noncomputable def spIsLost : Sp := fun vs H Q _ => ∃ (a l : Addr) (n r : Int) (near : Int → List Int) (f : Int → Option Nat), vs = [.ref a, .ref l, .int r] ∧ NearsAt H a n near ∧ NearOk n near ∧ RksAt H l n f ∧ (0 ≤ r ∧ r < n) ∧ ∀ H', Same H H' → Q (.bl (isLostM near f r)) H'
theorem sc_is_lost : FnScope ["near", "ranks", "runner"] ["near", "ranks", "runner"] (defScope s_is_lost) := ⟨rfl, rfl, rfl, by decide +kernel, rfl, by decide +kernel, by decide +kernel⟩
theorem bs_is_lost : BlkScope (defScope s_is_lost) ["near", "ranks", "runner"] (cscope (arg 0 (retE (stAt (defBody s_is_lost) 1)))) ["place"] [("ranks", 1)] := ⟨rfl, rfl, by decide +kernel, by decide +kernel, by decide +kernel, by decide +kernel, by decide +kernel⟩
theorem ok_is_lost {f : Addr} {fd : FuncData} (F : Fun K "is_lost" "is_lost" s_is_lost f fd) (za : mg "all" = none) : FnOk P w K mg base CX0 1 f fd ["near", "ranks", "runner"] spIsLost := by
  refine F.ok sc_is_lost (fun vs H Q E h => ?_) (fun cdv A outer s H vs Q E hr h => ?_)
  · obtain ⟨a, l, n, r, near, f, rfl, _⟩ := h
    rfl
  · obtain ⟨a, l, n, r, near, f, rfl, hN, ok, hl, hr', k⟩ := h
    have hu := hr.u64
    refine ⟨_, pss_cons (ps_if (pt_cmpR (op_eqD hu) (pe_ix ix_list (pv 1) (pv 2) (fun _ _ => rfl)) pe_int (nomark _)) (pss_one (ps_ret pe_bl)) pss_nil)
      (pss_one (ps_ret (pe_callB (call_all rfl) (by rfl) za PyProof.Rows.boot_all (pa_cons (pe_comp bs_is_lost rfl (pi_list (pe_ix ix_list (pv 0) (pv 2) (fun _ _ => rfl)))
        (fun _ _ _ _ _ => pg_name (i := 0) bs_is_lost.nd rfl (Or.inl rfl) (Or.inr rfl)) (fun _ _ _ _ _ => pfs_nil)
        (fun _ _ _ _ _ => pe_cmpR op_notN (pe_ix (ix_listK (K := K) rfl) (pv 1) (pv 0) (fun _ _ => rfl)) pe_non (nomark _))) pa_nil)))), ?_⟩
    refine (L2.ea2 rfl rfl ⟨l, _, r, ov (f r), rfl, rfl, SqL.of hl, atI_rng hr', od (f r), od (some 0), ov_rep _ _, .int _, od_shaped _, od_shaped _, L2.ea rfl ?_⟩)
    rw [od_eqv]
    unfold isLostM at k
    refine ite2 (fun h1 => ?_) (fun h1 => ?_)
    · rw [h1, Bool.true_or] at k
      exact k H (Same.refl H)
    · rw [Bool.not_eq_true] at h1
      rw [h1, Bool.false_or] at k
      obtain ⟨xs, b, hx, hb, hi⟩ := hN.get hr'
      refine (L2.em2_4 rfl rfl a _ r (.ref b) ⟨rfl, rfl, SqL.of hx, hb, b, rfl, ⟨_, SqL.of hi⟩, ?_⟩)
      refine comp_vals (src := near r) (emb := V.int) (src_list hi) (by have := ok.len r; omega) (fun p => some (.bl ((f p).isSome))) (fun p hp H' sm C C0 hC h0 => ?_) (fun acc H' ha sm e => ?_)
      · refine ⟨.no (.yes .nil), L2.ea2 rfl rfl ⟨l, _, p, ov (f p), rfl, rfl, SqL.of (sm _ _ hl), atI_rng (ok.go r p hr'.1 hr'.2 hp), rfl, ?_⟩⟩
        rw [ov_non]
        refine hC _ _ ?_ (Same.refl _)
        cases f p <;> rfl
      · rw [fm_some] at e
        refine ⟨acc, (near r).map fun p => (f p).isSome, rfl, by rw [e, List.map_map]; rfl, ?_⟩
        have : ((near r).map fun p => (f p).isSome).all id = (near r).all fun p => (f p).isSome := by rw [List.all_map]; rfl
        rw [this]
        exact k H' sm
noncomputable def spLostR : Sp := fun vs H Q _ => ∃ (a l : Addr) (n : Int) (near : Int → List Int) (f : Int → Option Nat), vs = [.ref a, .ref l] ∧ NearsAt H a n near ∧ NearOk n near ∧ RksAt H l n f ∧ ∀ (b : Addr) (H' : Hp), H b = none → Same H H' → IntsAt H' b (lostM n near f) → Q (.ref b) H'
theorem sc_lostr : FnScope ["near", "ranks"] ["near", "ranks"] (defScope s_lostr) := ⟨rfl, rfl, rfl, by decide +kernel, rfl, by decide +kernel, by decide +kernel⟩
theorem bs_lostr : BlkScope (defScope s_lostr) ["near", "ranks"] (cscope (retE (stAt (defBody s_lostr) 0))) ["runner"] [("near", 0), ("ranks", 1)] := ⟨rfl, rfl, by decide +kernel, by decide +kernel, by decide +kernel, by decide +kernel, by decide +kernel⟩
theorem ok_lostr {f fL : Addr} {fd fdL : FuncData} (F : Fun K "lost_runners" "lost_runners" s_lostr f fd) (DL : Df K mg "is_lost" s_is_lost ["near", "ranks", "runner"] fL fdL) (za : mg "all" = none) (zr : mg "range" = none) (zl : mg "len" = none) :
    FnOk P w K mg base CX0 2 f fd ["near", "ranks"] spLostR := by
  have GL : FnOk P w K mg base CX0 1 fL fdL ["near", "ranks", "runner"] spIsLost := ok_is_lost DL.F za
  refine F.ok sc_lostr (fun vs H Q E h => ?_) (fun cdv A outer s H vs Q E hr h => ?_)
  · obtain ⟨a, l, n, near, f, rfl, _⟩ := h
    rfl
  · obtain ⟨a, l, n, near, f, rfl, hN, ok, hl, k⟩ := h
    refine ⟨_, pss_one (ps_ret (pe_comp bs_lostr rfl (pi_range1 rfl zr (pa_cons (pe_callB call_len_seq (by rfl) zl PySem.boot_len (pa_cons (pv 1) pa_nil)) pa_nil)) (fun _ _ _ _ _ => pg_name (i := 0) bs_lostr.nd rfl (Or.inl rfl) (Or.inr rfl))
      (fun _ _ _ _ _ => pfs_one (pt_val (pe_df DL GL hr (pa_cons (pv 1) (pa_cons (pv 2) (pa_cons (pv 0) pa_nil)))))) (fun _ _ _ _ _ => pv 0))), ?_⟩
    have hlo := ok.lo
    have hhi := ok.hi
    have en : (((rng n).map fun r => ov (f r)).length : Int) = n := by rw [List.length_map, rng_length]; omega
    refine (L2.em1_2 rfl l _ ⟨rfl, .inl (SqL.of hl), L2.ea rfl ⟨by omega, by omega, ?_⟩⟩)
    rw [en]
    refine comp_vals (src_rng n) (rng_len (by omega)) (fun i => if isLostM near f i = true then some (.int i) else none) (fun i hi H' sm C C0 hC h0 => ?_) (fun acc H' ha sm e => k acc H' ha sm ?_)
    · refine ⟨.no (.yes (.yes .nil)), L2.ea3 rfl rfl rfl ?_⟩
      refine ⟨a, l, n, i, near, f, rfl, hN.q sm.q, ok, hl.q sm.q, mem_rng.mp hi, fun H3 s3 => (L2.ea rfl ?_)⟩
      cases e : isLostM near f i with
      | true => exact iteT ⟨_, rfl, hC _ _ (by rw [e]; rfl) s3⟩
      | false => exact iteF (h0 _ (by rw [e]; rfl) s3)
    · rw [fm_filter] at e
      exact e
noncomputable def wideM (f : Int → Option Nat) (Ls : List (List Int)) (t : Nat) (r : Int) : Option Nat := if (f r).isNone && Ls.any (·.contains r) then some t else f r
noncomputable def spWide : Sp := fun vs H Q _ => ∃ (l g : Addr) (n : Int) (f : Int → Option Nat) (Ls : List (List Int)) (t : Nat), vs = [.ref l, .ref g, .int t] ∧ RksAt H l n f ∧ n ≤ 100 ∧ ListsAt H g Ls ∧ Ls.length ≤ 1000 ∧ ∀ (b : Addr) (H' : Hp), H b = none → Same H H' → RksAt H' b n (wideM f Ls t) → Q (.ref b) H'
noncomputable abbrev nWr : List Str := ["ranks", "lost_by_going", "turns", "wider", "runner", "known"]
theorem sc_wr : FnScope nWr ["ranks", "lost_by_going", "turns"] (defScope s_wranks) := ⟨rfl, rfl, rfl, by decide +kernel, rfl, by decide +kernel, by decide +kernel⟩
noncomputable def ifT : Stmt → Expr | .If t _ _ _ => t | _ => non
noncomputable def boolAt (i : Nat) : Expr → Expr | .BoolOp _ es _ => es.getD i non | _ => non
theorem bs_wr : BlkScope (defScope s_wranks) nWr (cscope (arg 0 (boolAt 1 (ifT (stAt (forB (stAt (defBody s_wranks) 1)) 0))))) ["lost"] [("runner", 4)] := ⟨rfl, rfl, by decide +kernel, by decide +kernel, by decide +kernel, by decide +kernel, by decide +kernel⟩
theorem ok_wr {f : Addr} {fd : FuncData} (F : Fun K "widened_ranks" "widened_ranks" s_wranks f fd) (za : mg "any" = none) (ze : mg "enumerate" = none) : FnOk P w K mg base CX0 1 f fd ["ranks", "lost_by_going", "turns"] spWide := by
  refine F.ok sc_wr (fun vs H Q E h => ?_) (fun cdv A outer s H vs Q E hr h => ?_)
  · obtain ⟨l, g, n, f, Ls, t, rfl, _⟩ := h
    rfl
  · obtain ⟨l, g, n, f, Ls, t, rfl, hl, hn, hG, hz, k⟩ := h
    refine ⟨_, pss_cons (ps_set (i := 3) sc_wr.nd rfl (Or.inl rfl) (pe_lst pa_nil))
      (pss_cons (ps_for PassesOwn.never rfl (pi_enum rfl ze (pa_cons (pv 0) pa_nil)) (pg_tup (n := 2) rfl (pgs_cons (pg_name (i := 4) sc_wr.nd rfl (Or.inr rfl)) (pgs_cons (pg_name (i := 5) sc_wr.nd rfl (Or.inl rfl)) pgs_nil)))
        (pss_one (ps_if (PW.pt (pw_and (pt_cmpR op_isN (pv 5) pe_non (nomark _)) (pw_and1 (pt_val (pe_callB (call_any rfl) (by rfl) za PyProof.Rows.boot_any (pa_cons (pe_comp bs_wr rfl (pi_list (pv 1)) (fun _ _ _ _ _ => pg_name (i := 0) bs_wr.nd rfl (Or.inl rfl) (Or.inr rfl)) (fun _ _ _ _ _ => pfs_nil)
          (fun _ _ _ _ _ => pe_cmpR (op_inK (K := K) rfl) (pv 1) (pv 0) (by with_unfolding_all rfl))) pa_nil))))))
          (pss_one (ps_expr (pe_bm PySem.F.plainAttrs_list PySem.F.slot_list_append PySem.F.type_list_append mt_append (pv 3) (pa_cons (pv 2) pa_nil))))
          (pss_one (ps_expr (pe_bm PySem.F.plainAttrs_list PySem.F.slot_list_append PySem.F.type_list_append mt_append (pv 3) (pa_cons (pv 5) pa_nil)))))))
      (pss_one (ps_ret (pv 3)))), ?_⟩
    refine ⟨(by show 0 ≤ sizeLine; decide), fun b hb => ?_⟩
    refine (L2.em1_1 rfl l ⟨rfl, ⟨_, SqL.of (Same.new hb _ _ hl)⟩, ?_⟩)
    have lenR : ((rng n).map fun r => ov (f r)).length = n.toNat := by rw [List.length_map, rng_length]
    refine for_enum (xs := (rng n).map fun r => ov (f r)) (fun i σ H2 => ∃ (v4 v5 : Option V), σ = [some (.ref l), some (.ref g), some (.int t), some (.ref b), v4, v5] ∧ Same H H2 ∧ H2 b = some (.lst (((rng n).take i).map fun r => ov (wideM f Ls t r))))
      ⟨none, none, rfl, Same.new hb, upd_same⟩ (fun i σ H2 _ ⟨_, _, _, sm, _⟩ => SqL.of (sm _ _ hl)) ?_ ?_
    · rintro i x σ H2 hi ⟨v4, v5, rfl, sm, hB⟩ tt ht
      obtain ⟨hi', rfl⟩ : i < n.toNat ∧ ov (f (i : Int)) = x := by
        rw [List.getElem?_map] at hi
        have hlt : i < n.toNat := by
          rcases Nat.lt_or_ge i n.toNat with z | z
          · exact z
          · rw [List.getElem?_eq_none (by rw [rng_length]; exact z)] at hi; cases hi
        rw [rng_get hlt] at hi
        exact ⟨hlt, by simpa using hi⟩
      have tk : (rng n).take (i + 1) = (rng n).take i ++ [(i : Int)] := by
        rw [List.take_add_one, rng_get hi']; rfl
      have big : (1000 : Nat) < sizeLine := by decide
      have lenT : (((rng n).take i).map fun r => ov (wideM f Ls t r)).length < sizeLine := by
        rw [List.length_map, List.length_take, rng_length]; omega
      have fin : ∀ (H3 : Hp) (v : V), Same H2 H3 → v = ov (wideM f Ls t i) → ∃ (v4 v5 : Option V), [some (V.ref l), some (.ref g), some (.int t), some (.ref b), some (.int i), some (ov (f i))] = [some (.ref l), some (.ref g), some (.int t), some (.ref b), v4, v5] ∧ Same H (upd H3 b (.lst ((((rng n).take i).map fun r => ov (wideM f Ls t r)) ++ [v]))) ∧ (upd H3 b (.lst ((((rng n).take i).map fun r => ov (wideM f Ls t r)) ++ [v]))) b = some (.lst (((rng n).take (i + 1)).map fun r => ov (wideM f Ls t r))) := fun H3 v s3 e =>
        ⟨_, _, rfl, (sm.trans s3).set hb, by rw [upd_same, tk, List.map_append, e]; rfl⟩
      have st := Same.new ht (o := .tup [.int i, ov (f i)])
      refine ⟨tt, L2.ea rfl ⟨SqT.of upd_same, rfl, L2.ex2 _ _ ⟨rfl, L2.eb rfl rfl ?_⟩⟩⟩
      refine (L2.ea rfl ⟨rfl, L2.ea rfl ?_⟩)
      rw [ov_non]
      refine ite2 (fun h1 => ?_) (fun h1 => ?_)
      · obtain ⟨as, hg1, hg2⟩ := id hG
        have s2 := sm.trans st
        refine (L2.em1_1 rfl g ⟨rfl, ⟨_, SqL.of (s2 _ _ hg1)⟩, ?_⟩)
        have hg2' : Paired (fun b ns => IntsAt (upd H2 tt (.tup [.int i, ov (f i)])) b ns) as Ls := Paired.mapP hg2 fun _ _ q => q.same s2
        have hlen : as.length = Ls.length := by have := Paired.length hg2; exact this
        refine comp_vals (src := as.zip Ls) (emb := fun p => V.ref p.1) (src_paired (s2 _ _ hg1) hg2') (by rw [List.length_zip]; omega) (fun p => some (.bl (p.2.contains (i : Int)))) (fun p hp H' sm' C C0 hC h0 => ?_) (fun acc H' ha sm' e => ?_)
        · refine ⟨.no (.yes .nil), L2.ea2 rfl rfl ⟨p.1, L2.ea rfl ⟨.inl (SqL.of ((Paired.zip_mem hg2' p hp).same sm')), rfl, flat_ints _, ?_⟩⟩⟩
          rw [inV_ints]
          exact hC _ _ rfl (Same.refl _)
        · rw [fm_some, zip_snd_map hg2' (fun z => V.bl (z.contains (i : Int)))] at e
          refine ⟨acc, Ls.map fun z => z.contains (i : Int), rfl, by rw [e, List.map_map]; rfl, L2.ea rfl ?_⟩
          have eq : (Ls.map fun z => z.contains (i : Int)).any id = Ls.any (·.contains (i : Int)) := by rw [List.any_map]; rfl
          rw [eq]
          have hB' := sm' _ _ (st _ _ hB)
          refine ite2 (fun h2 => ?_) (fun h2 => ?_)
          · refine (L2.ea rfl ⟨.inl ⟨rfl, _, SqL.of hB'⟩, L2.em1_3 rfl b _ _ ⟨rfl, rfl, hB', lenT, ?_⟩⟩)
            exact fin _ _ (st.trans sm') (by unfold wideM; rw [h1, h2]; rfl)
          · refine (L2.ea rfl ⟨.inl ⟨rfl, _, SqL.of hB'⟩, L2.em1_3 rfl b _ _ ⟨rfl, rfl, hB', lenT, ?_⟩⟩)
            rw [Bool.not_eq_true] at h2
            exact fin _ _ (st.trans sm') (by unfold wideM; rw [h2, Bool.and_false]; rfl)
      · have hB' := st _ _ hB
        refine iteF (L2.ea rfl ⟨.inl ⟨rfl, _, SqL.of hB'⟩, L2.em1_3 rfl b _ _ ⟨rfl, rfl, hB', lenT, ?_⟩⟩)
        rw [Bool.not_eq_true] at h1
        exact fin _ _ st (by unfold wideM; rw [h1, Bool.false_and]; rfl)
    · rintro σ H2 ⟨v4, v5, rfl, sm, hB⟩
      refine (L2.ea rfl (k b H2 hb sm ?_))
      rw [lenR] at hB
      unfold RksAt
      rw [hB, List.take_of_length_le (by rw [rng_length]; exact Nat.le_refl _)]
end
end Cn

set_option Elab.async false
set_option linter.all false
set_option maxRecDepth 100000
namespace Cn
open PySem L2 Cf
theorem choices_snoc (ls : List (List Int)) (l : List Int) : choicesM (ls ++ [l]) = (choicesM ls).flatMap fun b => l.map fun p => b ++ [p] := by
  unfold choicesM
  rw [List.foldl_append]
  rfl
theorem choices_take (ls : List (List Int)) (i : Nat) (l : List Int) (h : ls[i]? = some l) : choicesM (ls.take (i + 1)) = (choicesM (ls.take i)).flatMap fun b => l.map fun p => b ++ [p] := by
  rw [List.take_add_one, h]
  exact choices_snoc _ _
theorem flat_len {α β : Type} (f : α → List β) (m : Nat) : ∀ l : List α, (∀ x ∈ l, (f x).length ≤ m) → (l.flatMap f).length ≤ l.length * m
  | [], _ => by simp
  | a :: r, h => by
    rw [List.flatMap_cons, List.length_append, List.length_cons]
    have h1 := h a (by simp)
    have h2 := flat_len f m r fun x hx => h x (by simp [hx])
    rw [Nat.succ_mul]
    omega
theorem choices_len {ls : List (List Int)} (hl : ∀ l ∈ ls, l.length ≤ 6) : ∀ i, (choicesM (ls.take i)).length ≤ 6 ^ i
  | 0 => by simp [choicesM]
  | i + 1 => by
    cases e : ls[i]? with
    | none =>
      have : ls.take (i + 1) = ls.take i := by rw [List.take_add_one, e]; simp
      rw [this]
      exact Nat.le_trans (choices_len hl i) (Nat.pow_le_pow_right (by decide) (Nat.le_succ i))
    | some l =>
      rw [choices_take ls i l e]
      have h1 := flat_len (fun b => l.map fun p => b ++ [p]) 6 (choicesM (ls.take i)) fun x _ => by rw [List.length_map]; exact hl l (List.mem_of_getElem? e)
      have h2 := choices_len hl i
      have h3 : 6 ^ (i + 1) = 6 ^ i * 6 := Nat.pow_succ 6 i
      have h4 := Nat.mul_le_mul_right 6 h2
      omega
section
variable {P : Program} {w : World} {K : PySem.W.Frag} {mg : Str → Option Value} {base : Heap}
noncomputable def spCh : Sp := fun vs H Q _ => ∃ (a : Addr) (ls : List (List Int)), vs = [.ref a] ∧ ListsAt H a ls ∧ ls.length ≤ 2 ∧ (∀ l ∈ ls, l.length ≤ 6) ∧ ∀ (b : Addr) (H' : Hp), H b = none → Same H H' → TupsAt H' b (choicesM ls) → Q (.ref b) H'
noncomputable abbrev nCh : List Str := ["place_lists", "found", "places", "longer", "begun"]
theorem sc_ch : FnScope nCh ["place_lists"] (defScope s_choices) := ⟨rfl, rfl, rfl, by decide +kernel, rfl, by decide +kernel, by decide +kernel⟩
structure SameQ' (H H' : Hp) : Prop where
  tup : ∀ b xs, H b = some (.tup xs) → H' b = some (.tup xs)
noncomputable def exprE : Stmt → Expr | .Expr e _ => e | _ => non
theorem bs_ch : BlkScope (defScope s_choices) nCh (cscope (arg 0 (exprE (stAt (forB (stAt (forB (stAt (defBody s_choices) 1)) 1)) 0)))) ["place"] [("begun", 4)] := ⟨rfl, rfl, by decide +kernel, by decide +kernel, by decide +kernel, by decide +kernel, by decide +kernel⟩
noncomputable def RelT (H : Hp) (v : V) (c : List Int) : Prop := ∃ b, v = .ref b ∧ TupAt H b c
theorem RelT.mono (H H' : Hp) (v : V) (d : List Int) (e : Same H H') (h : RelT H v d) : RelT H' v d := let ⟨b, h1, h2⟩ := h; ⟨b, h1, e _ _ h2⟩
theorem relT_split {H : Hp} : ∀ {ys : List V} {ds : List (List Int)}, Paired (RelT H) ys ds → ∃ bs : List Addr, ys = bs.map V.ref ∧ Paired (fun t c => TupAt H t c) bs ds
  | _, _, .nil => ⟨[], rfl, .nil⟩
  | _, _, .cons ⟨b, e, h⟩ r => by
    obtain ⟨bs, e', h'⟩ := relT_split r
    exact ⟨b :: bs, by rw [e, e']; rfl, .cons h h'⟩
theorem Paired.append' {α β : Type} {F : α → β → Prop} : ∀ {as bs : List α} {ds es : List β}, Paired F as ds → Paired F bs es → Paired F (as ++ bs) (ds ++ es)
  | _, _, _, _, .nil, h => h
  | _, _, _, _, .cons h t, r => .cons h (Paired.append' t r)
theorem ok_ch {f : Addr} {fd : FuncData} (F : Fun K "choices" "choices" s_choices f fd) : FnOk P w K mg base CX0 1 f fd ["place_lists"] spCh := by
  refine F.ok sc_ch (fun vs H Q E h => ?_) (fun cdv A outer s H vs Q E hr h => ?_)
  · obtain ⟨a, ls, rfl, _⟩ := h
    rfl
  · obtain ⟨a, ls, rfl, hA, h2, h6, k⟩ := h
    refine ⟨_, pss_cons (ps_set (i := 1) sc_ch.nd rfl (Or.inl rfl) (pe_lst (pa_cons (pe_tup pa_nil) pa_nil)))
      (pss_cons (ps_for PassesOwn.never rfl (pi_list (pv 0)) (pg_name (i := 2) sc_ch.nd rfl (Or.inl rfl))
        (pss_cons (ps_set (i := 3) sc_ch.nd rfl (Or.inl rfl) (pe_lst pa_nil))
        (pss_cons (ps_for PassesOwn.never rfl (pi_list (pv 1)) (pg_name (i := 4) sc_ch.nd rfl (Or.inr rfl))
          (pss_one (ps_expr (pe_bm PySem.F.plainAttrs_list PySem.F.slot_list_extend PySem.F.type_list_extend mt_extend (pv 3) (pa_cons (pe_comp bs_ch rfl (pi_list (pv 2)) (fun _ _ _ _ _ => pg_name (i := 0) bs_ch.nd rfl (Or.inl rfl) (Or.inr rfl)) (fun _ _ _ _ _ => pfs_nil)
            (fun _ _ _ _ _ => pe_op ((op_catTK (K := K) rfl).or (op_catT0K (K := K) rfl)) (pv 1) (pe_tup (pa_cons (pv 0) pa_nil)))) pa_nil)))))
        (pss_one (ps_set (i := 1) sc_ch.nd rfl (Or.inl rfl) (pv 3))))))
      (pss_one (ps_ret (pv 1)))), ?_⟩
    obtain ⟨as, hL, hP⟩ := id hA
    have hlen := Paired.length hP
    refine ⟨(by show 0 ≤ sizeLine; decide), fun t0 ht0 => ⟨(by show 1 ≤ sizeLine; decide), fun f0 hf0 => ?_⟩⟩
    have s0 : Same H (upd (upd H t0 (.tup [])) f0 (.lst [.ref t0])) := (Same.new ht0).trans (Same.new hf0)
    have hf0' : H f0 = none := (Same.new ht0).free hf0
    refine (L2.em1_1 rfl a ⟨rfl, ⟨_, SqL.of (s0 _ _ hL)⟩, ?_⟩)
    refine for_list (xs := as.map V.ref) (fun i σ H2 => ∃ (fa : Addr) (v2 v3 v4 : Option V), σ = [some (.ref a), some (.ref fa), v2, v3, v4] ∧ Same H H2 ∧ H fa = none ∧ TupsAt H2 fa (choicesM (ls.take i)))
      ⟨f0, none, none, none, rfl, s0, hf0', [t0], upd_same, .cons (by show upd _ _ _ t0 = _; rw [upd_ne (fun z => by rw [← z, upd_same] at hf0; cases hf0)]; exact upd_same) .nil⟩ (fun i σ H2 _ ⟨_, _, _, _, _, sm, _⟩ => SqL.of (sm _ _ hL)) ?_ ?_
    · rintro i x σ H2 hi ⟨fa, v2, v3, v4, rfl, sm, hfa, hT⟩
      rw [List.getElem?_map] at hi
      cases ei : as[i]? with
      | none => rw [ei] at hi; cases hi
      | some pl =>
        rw [ei] at hi
        cases hi
        obtain ⟨l, hl, hI⟩ := Paired.get hP ei
        have hi2 : i < 2 := by have := (List.getElem?_eq_some_iff.mp ei).1; omega
        have hl6 := h6 l (List.mem_of_getElem? hl)
        have hcl := choices_len h6 i
        have hp6 : 6 ^ i ≤ 6 := by
          have : i = 0 ∨ i = 1 := by omega
          rcases this with rfl | rfl <;> decide
        refine ⟨(by show 0 ≤ sizeLine; decide), fun lo hlo => ?_⟩
        obtain ⟨ts, hF, hQ⟩ := id hT
        have htl := Paired.length hQ
        have s2 := Same.new hlo (o := .lst [])
        have nfl : fa ≠ lo := ne_of_none hF hlo
        refine (L2.ea rfl ⟨fa, rfl, ⟨_, SqL.of (s2 _ _ hF)⟩, ?_⟩)
        refine for_list (xs := ts.map V.ref) (fun j σ H3 => ∃ (bs : List Addr) (v4 : Option V), σ = [some (.ref a), some (.ref fa), some (.ref pl), some (.ref lo), v4] ∧ Same H2 H3 ∧ H3 lo = some (.lst (bs.map V.ref)) ∧ Paired (fun t c => TupAt H3 t c) bs (((choicesM (ls.take i)).take j).flatMap fun b => l.map fun p => b ++ [p]))
          ⟨[], _, rfl, s2, upd_same, by simpa using Paired.nil⟩ (fun j σ H3 _ ⟨_, _, _, sm3, _⟩ => SqL.of (sm3 _ _ hF)) ?_ ?_
        · rintro j x σ H3 hj ⟨bs, v4, rfl, sm3, hB, hBP⟩
          rw [List.getElem?_map] at hj
          cases ej : ts[j]? with
          | none => rw [ej] at hj; cases hj
          | some t =>
            rw [ej] at hj
            cases hj
            obtain ⟨c, hc, hTc⟩ := Paired.get hQ ej
            have hclen : c.length ≤ 2 := by
              have hg := mem_choices.mp (List.mem_of_getElem? hc)
              have := hg.len
              rw [List.length_take] at this
              omega
            refine (L2.ea rfl ⟨.inl ⟨rfl, _, SqL.of hB⟩, L2.ea rfl ⟨pl, rfl, ⟨_, SqL.of (hI.same (sm.trans sm3))⟩, ?_⟩⟩)
            refine comp_map (src := l) (emb := V.int) (src_list (hI.same (sm.trans sm3))) (by omega) (fun p => some (c ++ [p])) RelT RelT.mono (fun p hp acc ys H' ha sm' hy C C0 hC _ => ?_) (fun acc ys H' ha sm' hy hp => ?_)
            · refine ⟨.no (.yes .nil), L2.ea2 rfl rfl ⟨(by show 1 ≤ sizeLine; decide), fun q hq => ?_⟩⟩
              have hTc' : TupAt (upd H' q (.tup [.int p])) t c := (Same.new hq) _ _ (sm' _ _ (sm3 _ _ hTc))
              by_cases ce : c = []
              · subst ce
                exact .inr (L2.ex3 t q _ ⟨rfl, rfl, SqT.of hTc', SqT.of upd_same, hC _ _ _ rfl (Same.new hq) ⟨q, rfl, del_new hq hy⟩⟩)
              · refine .inl (L2.ex4 t q _ _ ⟨rfl, rfl, SqT.of hTc', SqT.of upd_same, by simpa using ce, ?_, ⟨fun z => (by cases z), fun _ u hu => ?_⟩⟩)
                · rw [List.length_map]
                  show c.length + 1 ≤ _
                  have : (3 : Nat) ≤ sizeLine := by decide
                  omega
                · refine hC _ _ _ rfl ((Same.new hq).trans (Same.new hu)) ⟨u, rfl, ?_⟩
                  show del _ _ u = _
                  rw [del_new hu ((Same.new hq) _ _ hy), List.map_append]
                  rfl
            · rw [fm_some] at hp
              obtain ⟨cs', rfl, hp'⟩ := relT_split hp
              have hp2 := Paired.mapP hp' fun _ _ (q : TupAt _ _ _) => (q.q (del_same _ _).q)
              have lb := Paired.length hBP
              have lc := Paired.length hp2
              have ll := flat_len (fun b => l.map fun p => b ++ [p]) 6 ((choicesM (ls.take i)).take j) fun x _ => by rw [List.length_map]; exact hl6
              have lt : ((choicesM (ls.take i)).take j).length ≤ 6 := by rw [List.length_take]; omega
              rw [List.length_map] at lc
              have hB' := sm' _ _ hB
              refine ⟨lo, L2.ex3 acc _ _ ⟨rfl, rfl, hB', hy, ?_, bs ++ cs', L2.ea rfl ⟨?_, by rw [upd_same, List.map_append], ?_⟩⟩⟩
              · rw [List.length_map, List.length_map]
                have : (1000 : Nat) ≤ sizeLine := by decide
                omega
              · exact (sm3.trans sm').set hlo
              · have sq : SameQ' H' (upd H' lo (.lst (bs.map V.ref ++ cs'.map V.ref))) := ⟨fun b xs e => by rw [upd_ne (fun z => by rw [z, hB'] at e; cases e)]; exact e⟩
                have tk : (choicesM (ls.take i)).take (j + 1) = (choicesM (ls.take i)).take j ++ [c] := by rw [List.take_add_one, hc]; rfl
                rw [tk, List.flatMap_append]
                refine Paired.append' (Paired.mapP hBP fun _ _ q => sq.tup _ _ (sm' _ _ q)) ?_
                rw [List.flatMap_cons, List.flatMap_nil, List.append_nil]
                exact Paired.mapP hp2 fun _ _ q => sq.tup _ _ q
        · rintro σ H3 ⟨bs, v4, rfl, sm3, hB, hBP⟩
          refine (L2.ea rfl ⟨lo, L2.ex3 _ _ _ ⟨rfl, sm.trans sm3, sm.free hlo, bs, hB, ?_⟩⟩)
          rw [List.length_map, htl, List.take_length] at hBP
          rw [choices_take ls i l hl]
          exact hBP
    · rintro σ H2 ⟨fa, v2, v3, v4, rfl, sm, hfa, hT⟩
      refine (L2.ea rfl (k fa H2 hfa sm ?_))
      rw [List.length_map, hlen, List.take_length] at hT
      exact hT
end
end Cn

set_option Elab.async false
set_option linter.all false
set_option maxRecDepth 100000
namespace Cn
open PySem L2 Cf
noncomputable abbrev DicP (G : V → List Int → Prop) (kvs : List (List Key × V)) (cs : List (List Int)) : Prop := Paired (fun (p : List Key × V) c => p.1 = kc c ∧ G p.2 c) kvs cs
theorem DicP.get {G : V → List Int → Prop} {c : List Int} : ∀ {kvs : List (List Key × V)} {cs : List (List Int)}, DicP G kvs cs → c ∈ cs → ∃ v, valV kvs (kc c) = some v ∧ G v c
  | _, _, .nil, h => by cases h
  | p :: r, c0 :: t, .cons ⟨h1, h2⟩ q, h => by
    by_cases e : p.1 = kc c
    · have ec : c0 = c := kc_inj (h1.symm.trans e)
      subst ec
      exact ⟨p.2, valV_pos e, h2⟩
    · rw [valV_neg e]
      refine DicP.get q ?_
      rcases List.mem_cons.mp h with rfl | h
      · exact absurd h1 e
      · exact h
theorem DicP.none {G : V → List Int → Prop} {c : List Int} : ∀ {kvs : List (List Key × V)} {cs : List (List Int)}, DicP G kvs cs → c ∉ cs → valV kvs (kc c) = none
  | _, _, .nil, h => rfl
  | p :: r, c0 :: t, .cons ⟨h1, h2⟩ q, h => by
    have e : ¬ p.1 = kc c := fun z => h (by rw [kc_inj (h1.symm.trans z)]; simp)
    rw [valV_neg e]
    exact DicP.none q fun z => h (List.mem_cons_of_mem _ z)
theorem DicP.map {G G' : V → List Int → Prop} {kvs : List (List Key × V)} {cs : List (List Int)} (h : DicP G kvs cs) (f : ∀ v c, G v c → G' v c) : DicP G' kvs cs := Paired.mapP h fun _ _ q => ⟨q.1, f _ _ q.2⟩
theorem DicP.put {G : V → List Int → Prop} {kvs : List (List Key × V)} {cs : List (List Int)} {c : List Int} {v : V} (h : DicP G kvs cs) (hc : c ∉ cs) (g : G v c) : DicP G (putK kvs (kc c) v) (cs ++ [c]) := by
  rw [putK_new v (h.none hc)]
  exact Paired.snoc' h ⟨rfl, g⟩
theorem take_notin {α : Type} {cs : List α} (nd : cs.Nodup) {i : Nat} {c : α} (h : cs[i]? = some c) : c ∉ cs.take i := by
  intro hm
  obtain ⟨j, hj, e⟩ := List.getElem_of_mem hm
  have hji : j < i := by rw [List.length_take] at hj; omega
  have hi : i < cs.length := (List.getElem?_eq_some_iff.mp h).1
  have e1 : cs[i] = c := (List.getElem?_eq_some_iff.mp h).2
  have e2 : cs[j] = c := by rw [← e, List.getElem_take]
  exact List.pairwise_iff_getElem.mp nd j i (by omega) hi hji (e2.trans e1.symm)
noncomputable def RkV (H : Hp) (n : Int) (T : List Int → Int → Option Nat) (v : V) (c : List Int) : Prop := ∃ l, v = .ref l ∧ RksAt H l n (T c)
noncomputable def InV (H : Hp) (g : List Int → List Int) (v : V) (c : List Int) : Prop := ∃ l, v = .ref l ∧ IntsAt H l (g c)
theorem RkV.q {H H' : Hp} {n : Int} {T : List Int → Int → Option Nat} {v : V} {c : List Int} (e : SameQ H H') (h : RkV H n T v c) : RkV H' n T v c := let ⟨l, a, b⟩ := h; ⟨l, a, b.q e⟩
theorem InV.q {H H' : Hp} {g : List Int → List Int} {v : V} {c : List Int} (e : SameQ H H') (h : InV H g v c) : InV H' g v c := let ⟨l, a, b⟩ := h; ⟨l, a, b.q e⟩
noncomputable def TabAt (H : Hp) (a : Addr) (n : Int) (cs : List (List Int)) (T : List Int → Int → Option Nat) : Prop := ∃ kvs, H a = some (.dT kvs) ∧ DicP (RkV H n T) kvs cs
theorem TabAt.same {H H' : Hp} {a : Addr} {n : Int} {cs : List (List Int)} {T : List Int → Int → Option Nat} (e : Same H H') (h : TabAt H a n cs T) : TabAt H' a n cs T := let ⟨kvs, a, b⟩ := h; ⟨kvs, e _ _ a, b.map fun _ _ q => q.q e.q⟩
structure CsOk (n : Int) (near : Int → List Int) (cs : List (List Int)) : Prop where
  nd : cs.Nodup
  len : cs.length ≤ 100
  two : ∀ c ∈ cs, c.length ≤ 2
  on : ∀ c ∈ cs, ∀ p ∈ c, 0 ≤ p ∧ p < n
  go : ∀ c ∈ cs, ∀ g, Goes (c.map near) g → g ∈ cs
noncomputable def wideT (n : Int) (near : Int → List Int) (T : List Int → Int → Option Nat) (t : Nat) (c : List Int) (r : Int) : Option Nat := wideM (T c) ((choicesM (c.map near)).map fun g => lostM n near (T g)) t r
section
variable {P : Program} {w : World} {K : PySem.W.Frag} {mg : Str → Option Value} {base : Heap}
set_option genInjectivity false in
set_option genSizeOf false in
structure TbT (K : PySem.W.Frag) (mg : Str → Option Value) where
  fL : Addr
  fdL : FuncData
  lost : Df K mg "is_lost" s_is_lost ["near", "ranks", "runner"] fL fdL
  fR : Addr
  fdR : FuncData
  lostR : Df K mg "lost_runners" s_lostr ["near", "ranks"] fR fdR
  fW : Addr
  fdW : FuncData
  wr : Df K mg "widened_ranks" s_wranks ["ranks", "lost_by_going", "turns"] fW fdW
  fC : Addr
  fdC : FuncData
  ch : Df K mg "choices" s_choices ["place_lists"] fC fdC
  fD : Addr
  fdD : FuncData
  wd : Df K mg "widened" s_widened ["near", "table", "turns"] fD fdD
  zall : mg "all" = none
  zany : mg "any" = none
  zrange : mg "range" = none
  zlen : mg "len" = none
  zlist : mg "list" = none
  ztuple : mg "tuple" = none
  zenum : mg "enumerate" = none
noncomputable def spWd : Sp := fun vs H Q _ => ∃ (na ta : Addr) (n : Int) (near : Int → List Int) (cs : List (List Int)) (T : List Int → Int → Option Nat) (t : Nat), vs = [.ref na, .ref ta, .int t] ∧ NearsAt H na n near ∧ NearOk n near ∧ TabAt H ta n cs T ∧ CsOk n near cs ∧
  ∀ (b : Addr) (H' : Hp), H b = none → Same H H' → TabAt H' b n cs (wideT n near T t) → Q (.ref b) H'
noncomputable abbrev nWd : List Str := ["near", "table", "turns", "lost", "chasers", "wider", "goings"]
theorem sc_wd : FnScope nWd ["near", "table", "turns"] (defScope s_widened) := ⟨rfl, rfl, rfl, by decide +kernel, rfl, by decide +kernel, by decide +kernel⟩
theorem bs_wd1 : BlkScope (defScope s_widened) nWd (cscope (arg 0 (asgE (stAt (forB (stAt (defBody s_widened) 3)) 0)))) ["place"] [("near", 0)] := ⟨rfl, rfl, by decide +kernel, by decide +kernel, by decide +kernel, by decide +kernel, by decide +kernel⟩
theorem bs_wd2 : BlkScope (defScope s_widened) nWd (cscope (arg 1 (asgE (stAt (forB (stAt (defBody s_widened) 3)) 1)))) ["going"] [("lost", 3)] := ⟨rfl, rfl, by decide +kernel, by decide +kernel, by decide +kernel, by decide +kernel, by decide +kernel⟩
noncomputable def RelI (H : Hp) (v : V) (c : List Int) : Prop := ∃ b, v = .ref b ∧ IntsAt H b c
theorem RelI.mono (H H' : Hp) (v : V) (d : List Int) (e : Same H H') (h : RelI H v d) : RelI H' v d := let ⟨b, h1, h2⟩ := h; ⟨b, h1, e _ _ h2⟩
theorem relI_split {H : Hp} : ∀ {ys : List V} {ds : List (List Int)}, Paired (RelI H) ys ds → ∃ bs : List Addr, ys = bs.map V.ref ∧ Paired (fun t c => IntsAt H t c) bs ds
  | _, _, .nil => ⟨[], rfl, .nil⟩
  | _, _, .cons ⟨b, e, h⟩ r => by
    obtain ⟨bs, e', h'⟩ := relI_split r
    exact ⟨b :: bs, by rw [e, e']; rfl, .cons h h'⟩
theorem relI_lists {H' : Hp} {acc : Addr} {ys : List V} {ds : List (List Int)} (hy : H' acc = some (.lst ys)) (hp : Paired (RelI (del H' acc)) ys ds) : ListsAt H' acc ds := by
  obtain ⟨bs, rfl, h⟩ := relI_split hp
  exact ⟨bs, hy, Paired.mapP h fun _ _ q => q.same (del_same _ _)⟩
theorem del_keep {H : Hp} {acc b : Addr} {o u : HO} (h : H b = some o) (ha : H acc = some u) (ne : b ≠ acc) : del H acc b = some o := by rw [del_ne ne]; exact h
theorem ok_wd (T : TbT K mg) : FnOk P w K mg base CX0 3 T.fD T.fdD ["near", "table", "turns"] spWd := by
  have GR : FnOk P w K mg base CX0 2 T.fR T.fdR ["near", "ranks"] spLostR := ok_lostr T.lostR.F T.lost T.zall T.zrange T.zlen
  have GC : FnOk P w K mg base CX0 1 T.fC T.fdC ["place_lists"] spCh := ok_ch T.ch.F
  have GW : FnOk P w K mg base CX0 1 T.fW T.fdW ["ranks", "lost_by_going", "turns"] spWide := ok_wr T.wr.F T.zany T.zenum
  refine T.wd.F.ok sc_wd (fun vs H Q E h => ?_) (fun cdv A outer s H vs Q E hr h => ?_)
  · obtain ⟨na, ta, n, near, cs, T', t, rfl, _⟩ := h
    rfl
  · obtain ⟨na, ta, n, near, cs, R, t, rfl, hN, ok, hT, cok, k⟩ := h
    have hr1 := hr.mono (show 1 ≤ 2 by decide)
    have hu := hu_of hr
    refine ⟨_, pss_cons (ps_set (i := 3) sc_wd.nd rfl (Or.inr rfl) pe_dnewT)
      (pss_cons (ps_ghost (ps_for PassesOwn.never rfl (pi_dict (pv 1)) (pg_name (i := 4) sc_wd.nd rfl (Or.inl rfl))
        (pss_one (ps_dput hu (pv 3) (pv 4) (pe_df T.lostR GR hr (pa_cons (pv 0) (pa_cons (pe_dget hu (pv 1) (pv 4) (by intro _ _; rfl)) pa_nil))) rfl))))
      (pss_cons (ps_set (i := 5) sc_wd.nd rfl (Or.inl rfl) pe_dnewT)
      (pss_cons (ps_ghost (ps_for PassesOwn.never rfl (pi_dict (pv 1)) (pg_name (i := 4) sc_wd.nd rfl (Or.inl rfl))
        (pss_cons (ps_set (i := 6) sc_wd.nd rfl (Or.inl rfl) (pe_df T.ch GC hr1 (pa_cons (pe_comp bs_wd1 rfl (pi_tup (pv 4)) (fun _ _ _ _ _ => pg_name (i := 0) bs_wd1.nd rfl (Or.inl rfl) (Or.inr rfl)) (fun _ _ _ _ _ => pfs_nil)
          (fun _ _ _ _ _ => pe_ix (ix_listK (K := K) rfl) (pv 1) (pv 0) (fun _ _ => rfl))) pa_nil)))
        (pss_one (ps_dput hu (pv 5) (pv 4) (pe_df T.wr GW hr1 (pa_cons (pe_dget hu (pv 1) (pv 4) (by intro _ _; rfl)) (pa_cons (pe_comp bs_wd2 rfl (pi_list (pv 6)) (fun _ _ _ _ _ => pg_name (i := 0) bs_wd2.nd rfl (Or.inl rfl) (Or.inr rfl)) (fun _ _ _ _ _ => pfs_nil)
          (fun _ _ _ _ _ => pe_dget hu (pv 1) (pv 0) (by intro _ _; rfl))) (pa_cons (pv 2) pa_nil)))) rfl)))))
      (pss_one (ps_ret (pv 5)))))), ?_⟩
    intro ld hld
    obtain ⟨kvs, hta, hD⟩ := hT
    have dlen : kvs.length = cs.length := Paired.length hD
    have nta : ta ≠ ld := ne_of_none hta hld
    have big : (1000 : Nat) < sizeLine := by decide
    have clen := cok.len
    have h0 : ∀ o u, H ta ≠ some (.frz o u) := fun o u z => by rw [hta] at z; cases z
    refine (L2.em1_2 rfl ta kvs ⟨rfl, by rw [upd_ne nta]; exact hta, fun o as hP => ?_⟩)
    have keyAt : ∀ {Hx : Hp} {as : List Addr} {ld : Addr} {i : Nat} {b : Addr}, Paired (fun b (p : List Key × V) => upd Hx ld (.dT []) b = some (.tup (p.1.map kV))) as kvs → as[i]? = some b → ∃ c, cs[i]? = some c ∧ TupAt Hx b c := fun {Hx as ld i b} hP hb => by
      obtain ⟨p, hp, ht⟩ := Paired.get hP hb
      obtain ⟨c, hc, e, _⟩ := Paired.get hD hp
      refine ⟨c, hc, ?_⟩
      have nb : b ≠ ld := fun z => by rw [z, upd_same] at ht; cases ht
      rw [upd_ne nb, e, kc_v] at ht
      exact ht
    have tkc : ∀ {i : Nat} {c : List Int}, cs[i]? = some c → cs.take (i + 1) = cs.take i ++ [c] := fun {i c} h => by rw [List.take_add_one, h]; rfl
    have alen : as.length = cs.length := (Paired.length hP).trans dlen
    have fq : SameQ H (upd H ta (.frz o (.dT kvs))) := SameQ.dT hta
    refine for_dict (fun i σ H2 => ∃ (lk : List (List Key × V)) (v4 : Option V), σ = [some (.ref na), some (.ref ta), some (.int t), some (.ref ld), v4, none, none] ∧ Same (upd H ta (.frz o (.dT kvs))) H2 ∧ H2 ld = some (.dT lk) ∧ DicP (InV H2 (fun c => lostM n near (R c))) lk (cs.take i))
      ⟨[], none, rfl, fun b v e => ?_, by rw [upd_ne nta.symm]; exact upd_same, .nil⟩ (fun i σ H2 _ ⟨_, _, _, sm, _⟩ => frz_at sm) ?_ ?_
    · by_cases hb : b = ta
      · subst hb
        rw [upd_same] at e ⊢
        exact e
      · rw [upd_ne hb] at e ⊢
        rw [upd_ne (ne_of_none e hld)]
        exact e
    · rintro i b σ H2 hb ⟨lk, v4, rfl, sm, hL, hLP⟩
      obtain ⟨c, hc, htc⟩ := keyAt hP hb
      have hcm := List.mem_of_getElem? hc
      obtain ⟨v, hv, l, rfl, hRl⟩ := hD.get hcm
      have q2 : SameQ H H2 := fq.trans sm.q
      refine (L2.em3_2 rfl rfl rfl ta _ ⟨rfl, .inr ⟨kvs, kc c, b, .inr ⟨o, frz_at sm⟩, rfl, (htc.q q2).key, hv.symm⟩, L2.ex5 na l n near (R c) ⟨rfl, hN.q q2, ok, hRl.q q2, fun bl H3 hbl s3 hI => ?_⟩⟩)
      have hL3 := s3 _ _ hL
      have llen : lk.length < sizeLine := by
        have := Paired.length hLP
        rw [List.length_take] at this
        omega
      refine (L2.em2_2 rfl rfl ld _ ⟨rfl, DPut.t hL3 ((htc.q q2).q s3.q).key llen, L2.ex2 _ _ ⟨rfl, (sm.trans s3).set (by rw [upd_ne nta.symm]; exact hld), upd_same, ?_⟩⟩)
      rw [tkc hc]
      refine DicP.put (hLP.map fun _ _ q => (q.q s3.q).q (SameQ.dT hL3)) (take_notin cok.nd hc) ⟨bl, rfl, hI.q (SameQ.dT hL3)⟩
    · rintro σ H2 ⟨lk, v4, rfl, sm, hL, hLP⟩
      rw [alen, List.take_length] at hLP
      refine ⟨_, gh_thaw (frz_at sm) (fun _ z => nomatch z) (fun _ z => nomatch z) h0, ?_⟩
      have sm3 : Same H (upd H2 ta (.dT kvs)) := same_thaw hta sm
      have hL3 : upd H2 ta (.dT kvs) ld = some (.dT lk) := by rw [upd_ne nta.symm]; exact hL
      have hLP3 : DicP (InV (upd H2 ta (.dT kvs)) (fun c => lostM n near (R c))) lk cs := hLP.map fun _ _ q => q.q (SameQ.frz (frz_at sm))
      have hta3 : upd H2 ta (.dT kvs) ta = some (.dT kvs) := upd_same
      generalize upd H2 ta (.dT kvs) = H3 at sm3 hL3 hLP3 hta3 ⊢
      intro wd hwd
      have ntw : ta ≠ wd := ne_of_none hta3 hwd
      have nlw : ld ≠ wd := ne_of_none hL3 hwd
      refine (L2.em1_2 rfl ta kvs ⟨rfl, by rw [upd_ne ntw]; exact hta3, fun o2 as2 hP2 => ?_⟩)
      have alen2 : as2.length = cs.length := (Paired.length hP2).trans dlen
      have fq3 : SameQ H3 (upd H3 ta (.frz o2 (.dT kvs))) := SameQ.dT hta3
      refine for_dict (fun i σ H2 => ∃ (wk : List (List Key × V)) (v4 v6 : Option V), σ = [some (.ref na), some (.ref ta), some (.int t), some (.ref ld), v4, some (.ref wd), v6] ∧ Same (upd H3 ta (.frz o2 (.dT kvs))) H2 ∧ H2 wd = some (.dT wk) ∧ DicP (RkV H2 n (wideT n near R t)) wk (cs.take i))
        ⟨[], _, none, rfl, fun b v e => ?_, by rw [upd_ne ntw.symm]; exact upd_same, .nil⟩ (fun i σ H2 _ ⟨_, _, _, _, sm, _⟩ => frz_at sm) ?_ ?_
      · by_cases hb : b = ta
        · subst hb
          rw [upd_same] at e ⊢
          exact e
        · rw [upd_ne hb] at e ⊢
          rw [upd_ne (ne_of_none e hwd)]
          exact e
      · rintro i b σ H4 hb ⟨wk, v4, v6, rfl, sm, hW, hWP⟩
        obtain ⟨c, hc, htc⟩ := keyAt hP2 hb
        have hcm := List.mem_of_getElem? hc
        have q34 : SameQ H3 H4 := fq3.trans sm.q
        have q4 : SameQ H H4 := sm3.q.trans q34
        have hL4 : H4 ld = some (.dT lk) := sm _ _ (by rw [upd_ne nta.symm]; exact hL3)
        have htc4 : TupAt H4 b c := htc.q q34
        have c2 := cok.two c hcm
        refine (L2.em1_1 rfl b ⟨rfl, ⟨_, SqT.of htc4⟩, ?_⟩)
        refine comp_map (src := c) (emb := V.int) (src_tup htc4) (by omega) (fun p => some (near p)) RelI RelI.mono (fun p hp acc ys H' ha sm' hy C C0 hC _ => ?_) (fun acc ys H' ha sm' hy hp => ?_)
        · obtain ⟨xs, bb, hx, hbb, hi⟩ := NearsAt.get (ListsAt.q q4 hN) (cok.on c hcm p hp)
          refine ⟨.no (.yes .nil), L2.em2_4 rfl rfl na xs p (.ref bb) ⟨rfl, rfl, SqL.of (sm' _ _ hx), hbb, ?_⟩⟩
          exact hC _ _ _ rfl (Same.refl _) ⟨bb, rfl, del_keep (sm' _ _ hi) hy (ne_of_none hi ha)⟩
        · rw [fm_some] at hp
          refine ⟨acc, c.map near, rfl, relI_lists hy hp, by rw [List.length_map]; exact c2, fun l hl => ?_, fun g H5 hg s5 hTu => ?_⟩
          · obtain ⟨p, _, rfl⟩ := List.mem_map.mp hl
            exact ok.len p
          · have s45 : Same H4 H5 := sm'.trans s5
            obtain ⟨v, hv, l, rfl, hRl⟩ := hD.get hcm
            have q5 : SameQ H H5 := q4.trans s45.q
            refine (L2.em2_2 rfl rfl ta _ ⟨rfl, .inr ⟨kvs, kc c, b, .inr ⟨o2, s45 _ _ (frz_at sm)⟩, rfl, (htc4.q s45.q).key, hv.symm⟩, ?_⟩)
            obtain ⟨gs, hg1, hg2⟩ := id hTu
            have glen := Paired.length hg2
            have chl : (choicesM (c.map near)).length ≤ 36 := by
              have := choices_len (ls := c.map near) (fun l hl => by obtain ⟨p, _, rfl⟩ := List.mem_map.mp hl; exact ok.len p) 2
              rw [List.take_of_length_le (by rw [List.length_map]; exact c2)] at this
              simpa using this
            refine (L2.em1_1 rfl g ⟨rfl, ⟨_, SqL.of hg1⟩, ?_⟩)
            refine comp_map (src := gs.zip (choicesM (c.map near))) (emb := fun p => V.ref p.1) (src_paired hg1 hg2) (by rw [List.length_zip]; omega) (fun p => some (lostM n near (R p.2))) RelI RelI.mono (fun p hp acc2 ys H' ha sm' hy C C0 hC _ => ?_) (fun acc2 ys H' ha sm' hy hp => ?_)
            · have htp : TupAt H5 p.1 p.2 := Paired.zip_mem hg2 p hp
              have hpm : p.2 ∈ cs := cok.go c hcm p.2 (mem_choices.mp (List.of_mem_zip hp).2)
              obtain ⟨v2, hv2, l2, rfl, hl2⟩ := hLP3.get hpm
              have hl5 : IntsAt H5 l2 (lostM n near (R p.2)) := hl2.q (q34.trans s45.q)
              refine ⟨.no (.yes .nil), L2.em2_2 rfl rfl ld _ ⟨rfl, .inr ⟨lk, kc p.2, p.1, .inl (sm' _ _ (s45 _ _ hL4)), rfl, (htp.q sm'.q).key, hv2.symm⟩, ?_⟩⟩
              exact hC _ _ _ rfl (Same.refl _) ⟨l2, rfl, del_keep (sm' _ _ hl5) hy (ne_of_none hl5 ha)⟩
            · rw [fm_some, zip_snd_map hg2 (fun z => lostM n near (R z))] at hp
              refine (L2.ea rfl ⟨l, acc2, L2.ex4 n (R c) _ t ⟨rfl, (hRl.q q5).q sm'.q, by have := ok.hi; omega, relI_lists hy hp, by rw [List.length_map]; omega, fun bl H6 hbl s6 hRk => ?_⟩⟩)
              have s46 : Same H4 H6 := s45.trans (sm'.trans s6)
              have hW6 := s46 _ _ hW
              have wlen : wk.length < sizeLine := by
                have := Paired.length hWP
                rw [List.length_take] at this
                omega
              refine (L2.ea2 rfl rfl ⟨wd, L2.ea rfl ⟨DPut.t hW6 (htc4.q s46.q).key wlen, L2.ex3 _ _ _ ⟨rfl, (sm.trans s46).set (by rw [upd_ne ntw.symm]; exact hwd), upd_same, ?_⟩⟩⟩)
              rw [tkc hc]
              exact DicP.put (hWP.map fun _ _ q => (q.q s46.q).q (SameQ.dT hW6)) (take_notin cok.nd hc) ⟨bl, rfl, hRk.q (SameQ.dT hW6)⟩
      · rintro σ H4 ⟨wk, v4, v6, rfl, sm, hW, hWP⟩
        rw [alen2, List.take_length] at hWP
        refine ⟨_, gh_thaw (frz_at sm) (fun _ z => nomatch z) (fun _ z => nomatch z) h0, ?_⟩
        refine (L2.ea rfl (k wd _ (sm3.free hwd) (sm3.trans (same_thaw hta3 sm)) ⟨wk, by rw [upd_ne ntw.symm]; exact hW, hWP.map fun _ _ q => q.q (SameQ.frz (frz_at sm))⟩))
end
end Cn

set_option Elab.async false
set_option linter.all false
set_option maxRecDepth 100000
namespace Cn
open PySem L2 Cf
theorem rk_zero {near : Int → List Int} {c : List Int} {r : Int} : ∀ k, rk near c r k = some 0 ↔ r ∈ c
  | 0 => by
    unfold rk
    constructor
    · intro h
      split at h
      · rename_i hw; exact win_zero.mp hw
      · cases h
    · intro h
      rw [if_pos (win_zero.mpr h)]
  | k + 1 => by
    have ih := rk_zero (near := near) (c := c) (r := r) k
    unfold rk
    cases e : rk near c r k with
    | some j =>
      rw [e] at ih
      exact ih
    | none =>
      rw [e] at ih
      constructor
      · intro h
        simp only at h
        split at h
        · cases h
        · cases h
      · intro h
        exact absurd (ih.mpr h) (by simp)
theorem rk_step {n : Int} {near : Int → List Int} (ok : NearOk n near) {k : Nat} {c : List Int} {r : Int} (hr : 0 ≤ r ∧ r < n) : wideT n near (fun c r => rk near c r k) (k + 1) c r = rk near c r (k + 1) := by
  unfold wideT wideM
  have lost : ∀ g, (lostM n near (fun p => rk near g p k)).contains r = (g.contains r || (near r).all fun r' => winB near k g r') := fun g => by
    rw [Bool.eq_iff_iff, Bool.or_eq_true]
    have m : (lostM n near (fun p => rk near g p k)).contains r = true ↔ isLostM near (fun p => rk near g p k) r = true := by
      unfold lostM
      simp only [List.contains_iff_mem, List.mem_filter, mem_rng]
      exact ⟨fun h => h.2, fun h => ⟨hr, h⟩⟩
    rw [m]
    unfold isLostM
    rw [Bool.or_eq_true, decide_eq_true_eq, rk_zero, List.contains_iff_mem]
    simp only [rk_isSome]
  rw [List.any_map]
  have e1 : ((fun x : List Int => x.contains r) ∘ fun g => lostM n near (fun p => rk near g p k)) = fun g => (g.contains r || (near r).all fun r' => winB near k g r') := by
    funext g
    exact lost g
  rw [e1]
  rw [show rk near c r (k + 1) = (match rk near c r k with | some j => some j | none => if winB near (k + 1) c r then some (k + 1) else none) from rfl]
  cases e : rk near c r k with
  | some j => simp [e]
  | none =>
    have hw : winB near k c r = false := rk_none e
    have : winB near (k + 1) c r = (choicesM (c.map near)).any fun g => g.contains r || (near r).all fun r' => winB near k g r' := by
      rw [winB, hw, Bool.false_or]
    rw [this]
    simp [e]
theorem nodup_choices : ∀ (ls : List (List Int)), (∀ l ∈ ls, l.Nodup) → (choicesM ls).Nodup := by
  intro ls
  have key : ∀ i, i ≤ ls.length → (∀ l ∈ ls, l.Nodup) → (choicesM (ls.take i)).Nodup := by
    intro i
    induction i with
    | zero => intro _ _; simp [choicesM]
    | succ i ih =>
      intro hi hl
      have e := List.getElem?_eq_getElem (show i < ls.length by omega)
      rw [choices_take ls i _ e]
      have nd := ih (by omega) hl
      unfold List.Nodup at nd ⊢
      rw [List.pairwise_flatMap]
      refine ⟨fun a _ => ?_, nd.imp fun {a b} hab => ?_⟩
      · rw [List.pairwise_map]
        refine (hl _ (List.getElem_mem _)).imp fun {p q} hpq => ?_
        intro z
        have := List.append_inj_right' z rfl
        simp at this
        exact hpq this
      · intro x hx y hy z
        obtain ⟨p, _, rfl⟩ := List.mem_map.mp hx
        obtain ⟨q, _, rfl⟩ := List.mem_map.mp hy
        exact hab (List.append_inj_left' z rfl)
  intro hl
  have := key ls.length (Nat.le_refl _) hl
  rwa [List.take_length] at this
theorem rng_nodup (n : Int) : (rng n).Nodup := by
  unfold rng List.Nodup
  rw [List.pairwise_map]
  refine (List.nodup_range).imp fun {a b} h => ?_
  intro z
  exact h (by omega)
theorem goes_rep {l : List Int} : ∀ {m : Nat} {c : List Int}, Goes (List.replicate m l) c ↔ c.length = m ∧ ∀ p ∈ c, p ∈ l
  | 0, c => by
    constructor
    · intro h
      cases h
      exact ⟨rfl, fun p hp => by cases hp⟩
    · rintro ⟨h, _⟩
      have : c = [] := List.length_eq_zero_iff.mp h
      rw [this]
      exact .nil
  | m + 1, c => by
    rw [List.replicate_succ]
    constructor
    · intro h
      cases h with
      | cons hp hg =>
        obtain ⟨h1, h2⟩ := goes_rep.mp hg
        refine ⟨by simp [h1], fun q hq => ?_⟩
        rcases List.mem_cons.mp hq with rfl | hq
        · exact hp
        · exact h2 q hq
    · rintro ⟨h1, h2⟩
      cases c with
      | nil => simp at h1
      | cons p r => exact .cons (h2 p (by simp)) (goes_rep.mpr ⟨by simpa using h1, fun q hq => h2 q (by simp [hq])⟩)
theorem goes_on {n : Int} {near : Int → List Int} (ok : NearOk n near) : ∀ {c g : List Int}, (∀ p ∈ c, 0 ≤ p ∧ p < n) → Goes (c.map near) g → g.length = c.length ∧ ∀ p ∈ g, 0 ≤ p ∧ p < n
  | [], g, _, h => by
    cases h
    exact ⟨rfl, fun p hp => by cases hp⟩
  | x :: c, g, hc, h => by
    rw [List.map_cons] at h
    cases h with
    | cons hp hg =>
      obtain ⟨h1, h2⟩ := goes_on ok (fun p hp => hc p (by simp [hp])) hg
      have hx := hc x (by simp)
      refine ⟨by simp [h1], fun q hq => ?_⟩
      rcases List.mem_cons.mp hq with rfl | hq
      · exact ok.go x _ hx.1 hx.2 hp
      · exact h2 q hq
noncomputable def csM (n : Int) (m : Nat) : List (List Int) := choicesM (List.replicate m (rng n))
theorem mem_csM {n : Int} {m : Nat} {c : List Int} : c ∈ csM n m ↔ c.length = m ∧ ∀ p ∈ c, 0 ≤ p ∧ p < n := by
  unfold csM
  rw [mem_choices, goes_rep]
  simp only [mem_rng]
theorem cs_ok {n : Int} {near : Int → List Int} (ok : NearOk n near) {m : Nat} (hm : m ≤ 2) : CsOk n near (csM n m) where
  nd := nodup_choices _ fun l hl => by rw [List.eq_of_mem_replicate hl]; exact rng_nodup n
  len := by
    have := choices_len (ls := List.replicate m (rng n)) (fun l hl => by rw [List.eq_of_mem_replicate hl, rng_length]; have := ok.hi; omega) m
    rw [List.take_of_length_le (by rw [List.length_replicate]; exact Nat.le_refl _)] at this
    have p : 6 ^ m ≤ 6 ^ 2 := Nat.pow_le_pow_right (by decide) hm
    unfold csM
    omega
  two := fun c hc => by rw [(mem_csM.mp hc).1]; exact hm
  on := fun c hc => (mem_csM.mp hc).2
  go := fun c hc g hg => by
    obtain ⟨h1, h2⟩ := mem_csM.mp hc
    obtain ⟨g1, g2⟩ := goes_on ok h2 hg
    exact mem_csM.mpr ⟨by rw [g1, h1], g2⟩
theorem near_ok {n : Int} {ds : List Door} (h0 : 0 ≤ n) (h6 : n ≤ 6) : NearOk n (nearP n ds) where
  lo := h0
  hi := h6
  go := fun p q _ _ hq => (mem_near.mp hq).1
  len := fun p => by
    unfold nearP
    have := List.length_filter_le (isNear ds p) (rng n)
    rw [rng_length] at this
    omega
theorem dom_cs {n : Int} {near : Int → List Int} (ok : NearOk n near) {m : Nat} (hm : m ≤ 2) : Dom near (fun c => c ∈ csM n m) (fun r => 0 ≤ r ∧ r < n) where
  go := fun c g hc hg => (cs_ok ok hm).go c hc g hg
  fl := fun r r' hr h => ok.go r r' hr.1 hr.2 h
noncomputable def cnt (n : Int) (near : Int → List Int) (cs : List (List Int)) (k : Nat) : Nat := ((cs.flatMap fun c => (rng n).map fun r => (c, r)).filter fun p => (rk near p.1 p.2 k).isNone).length
theorem cnt_lt {n : Int} {near : Int → List Int} {cs : List (List Int)} {k : Nat} {c : List Int} {r : Int} (hc : c ∈ cs) (hr : r ∈ rng n) (h : rk near c r (k + 1) ≠ rk near c r k) : cnt n near cs (k + 1) < cnt n near cs k := by
  have st : ∀ c r, rk near c r (k + 1) = (match rk near c r k with | some j => some j | none => if winB near (k + 1) c r then some (k + 1) else none) := fun _ _ => rfl
  unfold cnt
  refine filter_len_lt (x := (c, r)) (fun y _ hy => ?_) (List.mem_flatMap.mpr ⟨c, hc, List.mem_map.mpr ⟨r, hr, rfl⟩⟩) ?_ ?_
  · rw [st] at hy
    cases e : rk near y.1 y.2 k with
    | none => rfl
    | some j => rw [e] at hy; cases hy
  · show (rk near c r (k + 1)).isNone = false
    cases e : rk near c r (k + 1) with
    | some j => rfl
    | none =>
      exfalso
      apply h
      rw [e]
      rw [st] at e
      cases e2 : rk near c r k with
      | none => rfl
      | some j => rw [e2] at e; cases e
  · show (rk near c r k).isNone = true
    cases e2 : rk near c r k with
    | none => rfl
    | some j =>
      exfalso
      apply h
      rw [st, e2]
noncomputable def tabD (n : Int) (T : List Int → Int → Option Nat) (c : List Int) : PyData := .list (((rng n).map (T c)).map od)
theorem tab_reps {H : Hp} {n : Int} {T : List Int → Int → Option Nat} : ∀ {kvs : List (List Key × V)} {cs : List (List Int)}, DicP (RkV H n T) kvs cs → Reps H (kvs.map (·.2)) (cs.map (tabD n T))
  | _, _, .nil => .nil
  | p :: r, c :: t, .cons ⟨_, l, e, h⟩ q => by
    refine .cons ?_ (tab_reps q)
    show Rep H p.2 _
    rw [e]
    have h' : H l = some (.lst (((rng n).map (T c)).map ov)) := by rw [List.map_map]; exact h
    exact .lst h' (ov_reps H _)
theorem tab_keys {G : V → List Int → Prop} : ∀ {kvs : List (List Key × V)} {cs : List (List Int)}, DicP G kvs cs → kvs.map (·.1) = cs.map kc
  | _, _, .nil => rfl
  | p :: r, c :: t, .cons ⟨h, _⟩ q => by rw [List.map_cons, List.map_cons, h, tab_keys q]
theorem tab_eq {n : Int} {T T' : List Int → Int → Option Nat} (cs : List (List Int)) (m : Nat) (hm : m = cs.length) : ((List.range m).all fun i => PyData.eqv ((cs.map (tabD n T)).getD i .none) ((cs.map (tabD n T')).getD i .none)) = true ↔ ∀ c ∈ cs, ∀ r ∈ rng n, T c r = T' c r := by
  subst hm
  have key : ∀ c, PyData.eqv (tabD n T c) (tabD n T' c) = true ↔ ∀ r ∈ rng n, T c r = T' c r := fun c => by
    unfold tabD
    rw [od_eqvs _ _ (by rw [List.length_map, List.length_map]), decide_eq_true_eq]
    constructor
    · intro h r hr
      exact List.map_inj_left.mp h r hr
    · intro h
      exact List.map_inj_left.mpr h
  rw [List.all_eq_true]
  constructor
  · intro h c hc
    obtain ⟨i, hi, rfl⟩ := List.getElem_of_mem hc
    have := h i (List.mem_range.mpr hi)
    rw [List.getD_eq_getElem?_getD, List.getD_eq_getElem?_getD, List.getElem?_map, List.getElem?_map, List.getElem?_eq_getElem hi] at this
    exact (key _).mp this
  · intro h i hi
    have hi' := List.mem_range.mp hi
    rw [List.getD_eq_getElem?_getD, List.getD_eq_getElem?_getD, List.getElem?_map, List.getElem?_map, List.getElem?_eq_getElem hi']
    exact (key _).mpr (h _ (List.getElem_mem hi'))
theorem TabAt.congr {H : Hp} {a : Addr} {n : Int} {cs : List (List Int)} {T T' : List Int → Int → Option Nat} (h : TabAt H a n cs T) (e : ∀ c, ∀ r ∈ rng n, T c r = T' c r) : TabAt H a n cs T' := by
  obtain ⟨kvs, h1, h2⟩ := h
  refine ⟨kvs, h1, h2.map fun v c q => ?_⟩
  obtain ⟨l, e1, e2⟩ := q
  refine ⟨l, e1, ?_⟩
  unfold RksAt at e2 ⊢
  rw [e2]
  congr 2
  exact List.map_congr_left fun r hr => by rw [e c r hr]
end Cn

set_option Elab.async false
set_option linter.all false
set_option maxRecDepth 100000
namespace Cn
open PySem L2 Cf
noncomputable abbrev s_isst : Stmt := top 9
noncomputable abbrev s_caught : Stmt := top 10
noncomputable abbrev s_rank : Stmt := top 11
noncomputable abbrev s_table : Stmt := top 12
section
variable {P : Program} {w : World} {K : PySem.W.Frag} {mg : Str → Option Value} {base : Heap}
noncomputable def spTab (C : Addr) : Sp := fun vs H Q _ => ∃ (p : Addr) (n : Int) (ds : List Door) (m : Nat), vs = [.ref p, .int m] ∧ FloorAt C H p n ds ∧ (1 ≤ n ∧ n ≤ 6) ∧ m ≤ 2 ∧
  ∀ (b : Addr) (H' : Hp) (T : List Int → Int → Option Nat), H b = none → Same H H' → TabAt H' b n (csM n m) T → (∀ c ∈ csM n m, ∀ r, 0 ≤ r → r < n → IsRank (Cf.nearP n ds) c r (T c r)) → Q (.ref b) H'
noncomputable abbrev nTb : List Str := ["floor", "count", "places", "near", "table", "chasers", "turns", "wider"]
theorem sc_tb : FnScope nTb ["floor", "count"] (defScope s_table) := ⟨rfl, rfl, rfl, by decide +kernel, rfl, by decide +kernel, by decide +kernel⟩
theorem bs_tb1 : BlkScope (defScope s_table) nTb (cscope (asgE (stAt (defBody s_table) 1))) ["place"] [("floor", 0)] := ⟨rfl, rfl, by decide +kernel, by decide +kernel, by decide +kernel, by decide +kernel, by decide +kernel⟩
theorem bs_tb2 : BlkScope (defScope s_table) nTb (cscope (arg 0 (forI (stAt (defBody s_table) 3)))) ["chaser"] [("places", 2)] := ⟨rfl, rfl, by decide +kernel, by decide +kernel, by decide +kernel, by decide +kernel, by decide +kernel⟩
theorem bs_tb3 : BlkScope (defScope s_table) nTb (cscope (asgE (stAt (forB (stAt (defBody s_table) 3)) 0))) ["runner"] [("chasers", 5)] := ⟨rfl, rfl, by decide +kernel, by decide +kernel, by decide +kernel, by decide +kernel, by decide +kernel⟩
set_option genInjectivity false in
set_option genSizeOf false in
structure RkT (K : PySem.W.Frag) (mg : Str → Option Value) where
  fl : FlT K mg
  tb : TbT K mg
  fT : Addr
  fdT : FuncData
  tab : Df K mg "rank_table" s_table ["floor", "count"] fT fdT
  fS : Addr
  fdS : FuncData
  st : Df K mg "is_standing" s_isst ["floor", "chasers", "runner"] fS fdS
  fC : Addr
  fdC : FuncData
  ct : Df K mg "is_caught" s_caught ["floor", "chasers", "runner"] fC fdC
  fR : Addr
  fdR : FuncData
  rk : Df K mg "rank" s_rank ["floor", "chasers", "runner"] fR fdR
  most : ∃ u, mg "MOST_CHASERS" = some u ∧ RelV (.int 2) u
theorem ok_tb (T : RkT K mg) : FnOk P w K mg base CX0 4 T.fT T.fdT ["floor", "count"] (spTab T.fl.C) := by
  have GE : FnOk P w K mg base CX0 3 T.fl.fE T.fl.fdE ["self", "place"] (spNr T.fl.C) := ok_nr T.fl
  have GC : FnOk P w K mg base CX0 1 T.tb.fC T.tb.fdC ["place_lists"] spCh := ok_ch T.tb.ch.F
  have GD : FnOk P w K mg base CX0 3 T.tb.fD T.tb.fdD ["near", "table", "turns"] spWd := ok_wd T.tb
  refine T.tab.F.ok sc_tb (fun vs H Q E h => ?_) (fun cdv A outer s H vs Q E hr h => ?_)
  · obtain ⟨p, n, ds, m, rfl, _⟩ := h
    rfl
  · obtain ⟨p, n, ds, m, rfl, hF, hn, hm, k⟩ := h
    have hr1 := hr.mono (show 1 ≤ 3 by decide)
    have hu := hu_of hr
    have hu70 : (A.deeper (PyProof.Rows.envOfC "rank_table" (defScope s_table) s.heap.objs.size T.fT cdv)).units + 70 < cLine := by have := hr.un; omega
    refine ⟨_, pss_cons (ps_set (i := 2) sc_tb.nd rfl (Or.inr rfl) (pe_callTy (call_listR rfl) (by rfl) T.fl.zlist PyProof.Rows.boot_list (pa_cons (pe_callTy call_rng1 (by rfl) T.fl.zrange PyProof.Rows.boot_range (pa_cons (pe_fld (pv 0) rfl) pa_nil)) pa_nil)))
      (pss_cons (ps_setComp bs_tb1 rfl sc_tb.nd (i := 3) rfl rfl rfl (pi_list (pv 2)) (fun _ _ _ _ _ => pg_name (i := 0) bs_tb1.nd rfl (Or.inl rfl) (Or.inr rfl)) (fun _ _ _ _ _ => pfs_nil)
        (fun _ _ _ _ _ => pe_meth (pv 1) T.fl.cl T.fl.mE GE hr T.fl.bE .nil pass0 (pa_cons (pv 0) pa_nil)))
      (pss_cons (ps_set (i := 4) sc_tb.nd rfl (Or.inl rfl) pe_dnewT)
      (pss_cons (ps_for PassesOwn.never rfl (pi_list (pe_df T.tb.ch GC hr1 (pa_cons (pe_comp bs_tb2 rfl (pi_range1 rfl T.fl.zrange (pa_cons (pv 1) pa_nil)) (fun _ _ _ _ _ => pg_name (i := 0) bs_tb2.nd rfl (Or.inl rfl) (Or.inr rfl)) (fun _ _ _ _ _ => pfs_nil) (fun _ _ _ _ _ => pv 1)) pa_nil)))
        (pg_name (i := 5) sc_tb.nd rfl (Or.inr rfl))
        (pss_one (ps_dput hu (pv 4) (pv 5) (pe_comp bs_tb3 rfl (pi_list (pv 2)) (fun _ _ _ _ _ => pg_name (i := 0) bs_tb3.nd rfl (Or.inl rfl) (Or.inr rfl)) (fun _ _ _ _ _ => pfs_nil)
          (fun _ _ _ _ _ => pe_ifExp (pt_cmpR (op_inK (K := K) rfl) (pv 0) (pv 1) (by with_unfolding_all rfl)) pe_int pe_non)) rfl)))
      (pss_cons (ps_set (i := 6) sc_tb.nd rfl (Or.inl rfl) pe_int)
      (pss_cons (ps_set (i := 7) sc_tb.nd rfl (Or.inl rfl) (pe_df T.tb.wd GD hr (pa_cons (pv 3) (pa_cons (pv 4) (pa_cons (pv 6) pa_nil)))))
      (pss_cons (ps_while PassesOwn.never (pt_cmpR (op_neT hu70) (pv 7) (pv 4) (nomark _))
        (pss_cons (ps_set (i := 4) sc_tb.nd rfl (Or.inl rfl) (pv 7))
        (pss_cons (ps_set (i := 6) sc_tb.nd rfl (Or.inl rfl) (pe_op op_add (pv 6) pe_int))
        (pss_one (ps_set (i := 7) sc_tb.nd rfl (Or.inl rfl) (pe_df T.tb.wd GD hr (pa_cons (pv 3) (pa_cons (pv 4) (pa_cons (pv 6) pa_nil)))))))))
      (pss_one (ps_ret (pv 4))))))))), ?_⟩
    obtain ⟨hn1, hn6⟩ := hn
    obtain ⟨dx, d, hF1, hFD⟩ := id hF
    have ok : NearOk n (Cf.nearP n ds) := near_ok (by omega) hn6
    have cok := cs_ok (near := Cf.nearP n ds) ok hm
    have big : (1000 : Nat) < sizeLine := by decide
    refine (L2.em1_5 rfl p T.fl.C dx _ _ ⟨rfl, hF1, T.fl.cl, T.fl.nPl, fflds_places _ _, n, rfl, fun q hq => (L2.ex2 q n ⟨rfl, upd_same, by omega, fun l hl => ?_⟩)⟩)
    have s2 : Same H (upd (upd H q (.rng 0 n)) l (.lst ((rng n).map V.int))) := (Same.new hq).trans (Same.new hl)
    have hl2 : IntsAt (upd (upd H q (.rng 0 n)) l (.lst ((rng n).map V.int))) l (rng n) := upd_same
    generalize upd (upd H q (.rng 0 n)) l (.lst ((rng n).map V.int)) = H2 at s2 hl2 ⊢
    refine (L2.em1_1 rfl l ⟨rfl, ⟨_, SqL.of hl2⟩, ?_⟩)
    refine comp_map (src := rng n) (emb := V.int) (src_list hl2) (rng_len (by omega)) (fun x => some (Cf.nearP n ds x)) RelI RelI.mono (fun x hx acc ys H' ha sm' hy C C0 hC _ => ?_) (fun na ys H3 ha sm3 hy hp => ?_)
    · have sF := s2.trans sm'
      refine ⟨.no (.yes .nil), L2.em1_3 rfl p dx _ ⟨rfl, sF _ _ hF1, fflds_no _ _ (by decide +kernel) (by decide +kernel), L2.em1_4 rfl p n ds x ⟨rfl, hF.same sF, mem_rng.mp hx, hn6, fun l3 H3 hl3 s3 hI => ?_⟩⟩⟩
      exact hC _ _ _ rfl s3 ⟨l3, rfl, del_keep hI (s3 _ _ hy) (ne_of_none hy hl3).symm⟩
    · rw [fm_some] at hp
      have hN : NearsAt H3 na n (Cf.nearP n ds) := relI_lists hy hp
      have s03 : Same H H3 := s2.trans sm3
      have hl3 : IntsAt H3 l (rng n) := hl2.same sm3
      intro td htd
      have htq : SameQ H3 (upd H3 td (.dT [])) := (Same.new htd).q
      have hl4 := hl3.q htq
      refine (L2.em1_1 rfl (m : Int) ⟨rfl, by omega, by omega, ?_⟩)
      refine comp_map (src_rng (m : Int)) (rng_len (by omega)) (fun _ => some (rng n)) RelI RelI.mono (fun x hx acc ys H' ha sm' hy C C0 hC _ => ?_) (fun acc ys H4 ha sm4 hy hp => ?_)
      · exact ⟨.no (.yes .nil), L2.ea rfl (hC _ _ _ rfl (Same.refl _) ⟨l, rfl, del_keep (hl4.same sm') hy (ne_of_none hl4 ha)⟩)⟩
      · rw [fm_some] at hp
        have hls := relI_lists hy hp
        have er : (rng (m : Int)).map (fun _ => rng n) = List.replicate m (rng n) := by
          rw [List.map_const', rng_length]; simp
        rw [er] at hls
        refine (L2.ex2 acc _ ⟨rfl, hls, by rw [List.length_replicate]; exact hm, fun z hz => by rw [List.eq_of_mem_replicate hz, rng_length]; omega, fun g H5 hg s5 hTu => ?_⟩)
        have s35 : Same (upd H3 td (.dT [])) H5 := sm4.trans s5
        obtain ⟨gs, hg1, hg2⟩ := id hTu
        have glen : gs.length = (csM n m).length := Paired.length hg2
        refine ⟨g, rfl, ⟨_, SqL.of hg1⟩, ?_⟩
        refine for_list (xs := gs.map V.ref) (fun i σ H2 => ∃ (tk : List (List Key × V)) (v5 : Option V), σ = [some (.ref p), some (.int m), some (.ref l), some (.ref na), some (.ref td), v5, none, none] ∧ SameQ H5 H2 ∧ Same H3 H2 ∧ H2 td = some (.dT tk) ∧ DicP (RkV H2 n (fun c r => Cf.rk (Cf.nearP n ds) c r 0)) tk ((csM n m).take i))
          ⟨[], none, rfl, SameQ.refl _, (Same.new htd).trans s35, s35 _ _ upd_same, .nil⟩ (fun i σ H2 _ ⟨_, _, _, sq, _⟩ => SqL.of (sq.lst _ _ hg1)) ?_ ?_
        · rintro i x σ H6 hi ⟨tk, v5, rfl, sq, sm, hT, hTP⟩
          rw [List.getElem?_map] at hi
          cases ei : gs[i]? with
          | none => rw [ei] at hi; cases hi
          | some b =>
            rw [ei] at hi
            cases hi
            obtain ⟨c, hc, htc⟩ := Paired.get hg2 ei
            have htc6 : TupAt H6 b c := htc.q sq
            have hl6 : IntsAt H6 l (rng n) := hl3.same sm
            refine (L2.em1_1 rfl l ⟨rfl, ⟨_, SqL.of hl6⟩, ?_⟩)
            refine comp_vals (src := rng n) (emb := V.int) (src_list hl6) (rng_len (by omega)) (fun r => some (ov (Cf.rk (Cf.nearP n ds) c r 0))) (fun r hr H' sm' C C0 hC h0 => ?_) (fun acc2 H7 ha2 sm7 e => ?_)
            · refine ⟨.no (.yes .nil), L2.em2_2 rfl rfl b _ ⟨rfl, .inr (SqT.of (htc6.q sm'.q)), rfl, flat_ints _, L2.ea rfl ?_⟩⟩
              rw [inV_ints]
              have e0 : Cf.rk (Cf.nearP n ds) c r 0 = if c.contains r = true then some 0 else none := rfl
              refine ite2 (fun (h1 : c.contains r = true) => ?_) (fun (h1 : ¬ c.contains r = true) => ?_)
              · exact hC _ _ (by rw [e0, if_pos h1]; rfl) (Same.refl _)
              · exact hC _ _ (by rw [e0, if_neg h1]; rfl) (Same.refl _)
            · rw [fm_some] at e
              have hT7 := sm7 _ _ hT
              have tlen : tk.length < sizeLine := by
                have h1 := Paired.length hTP
                have h2 := cok.len
                rw [List.length_take] at h1
                omega
              refine (L2.em2_2 rfl rfl td _ ⟨rfl, DPut.t hT7 (htc6.q sm7.q).key tlen, L2.ex2 _ _ ⟨rfl, (sq.trans sm7.q).trans (SameQ.dT hT7), (sm.trans sm7).set htd, upd_same, ?_⟩⟩)
              have tkc : (csM n m).take (i + 1) = (csM n m).take i ++ [c] := by
                have hc' : (csM n m)[i]? = some c := hc
                rw [List.take_add_one, hc']; rfl
              rw [tkc]
              exact DicP.put (hTP.map fun _ _ q => (q.q sm7.q).q (SameQ.dT hT7)) (take_notin cok.nd hc) ⟨acc2, rfl, RksAt.q (SameQ.dT hT7) e⟩
        · rintro σ H6 ⟨tk, v5, rfl, sq, sm, hT, hTP⟩
          rw [List.length_map, glen, List.take_length] at hTP
          have tab0 : TabAt H6 td n (csM n m) (fun c r => Cf.rk (Cf.nearP n ds) c r 0) := ⟨tk, hT, hTP⟩
          have stp : ∀ (k : Nat) {Hx : Hp} {b : Addr}, TabAt Hx b n (csM n m) (wideT n (Cf.nearP n ds) (fun c r => Cf.rk (Cf.nearP n ds) c r k) (k + 1)) → TabAt Hx b n (csM n m) (fun c r => Cf.rk (Cf.nearP n ds) c r (k + 1)) := fun k {Hx b} h => h.congr fun c r hr => rk_step ok (mem_rng.mp hr)
          refine (L2.em3_6 rfl rfl rfl na td n (Cf.nearP n ds) (csM n m) _ ⟨1, rfl, hN.q sm.q, ok, tab0, cok, fun wa H7 hwa s7 hW => ?_⟩)
          refine ⟨fun μ σ H2 => ∃ (j : Nat) (ta wa : Addr) (v5 : Option V), σ = [some (.ref p), some (.int m), some (.ref l), some (.ref na), some (.ref ta), v5, some (.int ((j + 1 : Nat) : Int)), some (.ref wa)] ∧ Same H3 H2 ∧ H3 ta = none ∧ H3 wa = none ∧ TabAt H2 ta n (csM n m) (fun c r => Cf.rk (Cf.nearP n ds) c r j) ∧ TabAt H2 wa n (csM n m) (fun c r => Cf.rk (Cf.nearP n ds) c r (j + 1)) ∧ μ = cnt n (Cf.nearP n ds) (csM n m) j,
            ⟨_, 0, td, wa, v5, rfl, sm.trans s7, htd, sm.free hwa, tab0.same s7, stp 0 hW, rfl⟩, ?_⟩
          rintro μ σ H8 ⟨j, ta, wa2, v5', rfl, sm8, hta, hwa2, hTa, hWa, rfl⟩
          obtain ⟨kt, ht1, ht2⟩ := id hTa
          obtain ⟨kw, hw1, hw2⟩ := id hWa
          have lkw : kw.length = (csM n m).length := Paired.length hw2
          refine (L2.ea2 rfl rfl ⟨wa2, ta, kw, kt, L2.eb rfl rfl ⟨hw1, ht1, by rw [tab_keys ht2, tab_keys hw2], tab_reps hw2, tab_reps ht2, fun d hd => ?_, fun d hd => ?_, L2.ea rfl ?_⟩⟩)
          · obtain ⟨c, _, rfl⟩ := List.mem_map.mp hd
            exact od_shapeds _
          · obtain ⟨c, _, rfl⟩ := List.mem_map.mp hd
            exact od_shapeds _
          refine ite2 (fun h1 => ?_) (fun h1 => ?_)
          · have ne : ¬ ∀ c ∈ csM n m, ∀ r ∈ rng n, Cf.rk (Cf.nearP n ds) c r (j + 1) = Cf.rk (Cf.nearP n ds) c r j := fun z => by
              rw [(tab_eq (csM n m) kw.length lkw).mpr z] at h1
              cases h1
            have lt : cnt n (Cf.nearP n ds) (csM n m) (j + 1) < cnt n (Cf.nearP n ds) (csM n m) j := by
              apply Classical.byContradiction
              intro nl
              refine ne fun c hc r hr => Classical.byContradiction fun z => nl (cnt_lt hc hr z)
            refine ⟨fun σ' H' => ∃ (ta wa : Addr) (v5 : Option V), σ' = [some (.ref p), some (.int m), some (.ref l), some (.ref na), some (.ref ta), v5, some (.int ((j + 1 + 1 : Nat) : Int)), some (.ref wa)] ∧ Same H3 H' ∧ H3 ta = none ∧ H3 wa = none ∧ TabAt H' ta n (csM n m) (fun c r => Cf.rk (Cf.nearP n ds) c r (j + 1)) ∧ TabAt H' wa n (csM n m) (fun c r => Cf.rk (Cf.nearP n ds) c r (j + 1 + 1)),
              fun σ' H' ⟨ta, wa, v5, e, q1, q2, q3, q4, q5⟩ => ⟨_, lt, j + 1, ta, wa, v5, e, q1, q2, q3, q4, q5, rfl⟩, ?_⟩
            refine (L2.ea2 rfl rfl (L2.eb rfl rfl (L2.ea3 rfl rfl rfl ⟨na, wa2, n, Cf.nearP n ds, csM n m, _, j + 1 + 1, rfl, hN.q sm8.q, ok, hWa, cok, fun wb H9 hwb s9 hW9 => ?_⟩)))
            exact ⟨wa2, wb, L2.ea rfl ⟨sm8.trans s9, hwa2, sm8.free hwb, hWa.same s9, stp (j + 1) hW9⟩⟩
          · have al := (tab_eq (n := n) (T := fun c r => Cf.rk (Cf.nearP n ds) c r (j + 1)) (T' := fun c r => Cf.rk (Cf.nearP n ds) c r j) (csM n m) kw.length lkw).mp (by simpa using h1)
            refine (L2.ea rfl (k ta H8 _ (s03.free hta) (s03.trans sm8) hTa fun c hc r r0 rn => ?_))
            exact isRank_of (dom_cs ok hm) (fun c r hc hr => al c hc r (mem_rng.mpr hr)) hc ⟨r0, rn⟩
noncomputable def OnF (n : Int) (c : List Int) (r : Int) : Prop := (1 ≤ c.length ∧ c.length ≤ 2) ∧ (∀ p ∈ c, 0 ≤ p ∧ p < n) ∧ 0 ≤ r ∧ r < n
noncomputable def spSt (C : Addr) : Sp := fun vs H Q _ => ∃ (p a : Addr) (n : Int) (ds : List Door) (c : List Int) (r : Int), vs = [.ref p, .ref a, .int r] ∧ FloorAt C H p n ds ∧ IntsAt H a c ∧ c.length ≤ 1000 ∧ ∀ H', Same H H' → Q (.bl (decide (1 ≤ c.length ∧ c.length ≤ 2) && (decide (0 ≤ r ∧ r < n) && c.all fun p => decide (0 ≤ p ∧ p < n)))) H'
theorem sc_st : FnScope ["floor", "chasers", "runner"] ["floor", "chasers", "runner"] (defScope s_isst) := ⟨rfl, rfl, rfl, by decide +kernel, rfl, by decide +kernel, by decide +kernel⟩
theorem bs_st : BlkScope (defScope s_isst) ["floor", "chasers", "runner"] (cscope (arg 0 (boolAt 1 (retE (stAt (defBody s_isst) 1))))) ["place"] [("floor", 0)] := ⟨rfl, rfl, by decide +kernel, by decide +kernel, by decide +kernel, by decide +kernel, by decide +kernel⟩
theorem ok_st (T : RkT K mg) : FnOk P w K mg base CX0 2 T.fS T.fdS ["floor", "chasers", "runner"] (spSt T.fl.C) := by
  have GH : FnOk P w K mg base CX0 1 T.fl.fH T.fl.fdH ["self", "place"] (spHas T.fl.C) := ok_has T.fl
  refine T.st.F.ok sc_st (fun vs H Q E h => ?_) (fun cdv A outer s H vs Q E hr h => ?_)
  · obtain ⟨p, a, n, ds, c, r, rfl, _⟩ := h
    rfl
  · obtain ⟨p, a, n, ds, c, r, rfl, hF, hA, hz, k⟩ := h
    obtain ⟨u2, m2, r2⟩ := T.most
    refine ⟨_, pss_cons (ps_if (PW.pt (pw_or (pt_cmpR op_lt (pe_callB call_len_seq (by rfl) T.fl.zlen PySem.boot_len (pa_cons (pv 1) pa_nil)) pe_int (nomark _)) (pw_or1 (pt_cmpR op_gt (pe_callB call_len_seq (by rfl) T.fl.zlen PySem.boot_len (pa_cons (pv 1) pa_nil)) (pe_glob rfl m2 r2) (nomark _))))) (pss_one (ps_ret pe_bl)) pss_nil)
      (pss_one (ps_ret (pe_and (pe_meth (pv 0) T.fl.cl T.fl.mH GH hr T.fl.bH .nil pass0 (pa_cons (pv 2) pa_nil)) (pe_one (pe_callB (call_all rfl) (by rfl) T.fl.zall PyProof.Rows.boot_all (pa_cons (pe_comp bs_st rfl (pi_list (pv 1))
        (fun _ _ _ _ _ => pg_name (i := 0) bs_st.nd rfl (Or.inl rfl) (Or.inr rfl)) (fun _ _ _ _ _ => pfs_nil) (fun _ _ _ _ _ => pe_meth (pv 1) T.fl.cl T.fl.mH GH hr T.fl.bH .nil pass0 (pa_cons (pv 0) pa_nil))) pa_nil)))))), ?_⟩
    obtain ⟨dx, d, hF1, hFD⟩ := id hF
    have hlen : (c.map V.int).length = c.length := List.length_map ..
    refine (L2.em1_2 rfl a _ ⟨rfl, .inl (SqL.of hA), L2.eb rfl rfl (L2.ea rfl ?_)⟩)
    rw [hlen]
    refine ite2 (fun h1 => ?_) (fun h1 => ?_)
    · have : ¬ (1 ≤ c.length ∧ c.length ≤ 2) := by have := of_decide_eq_true h1; omega
      rw [decide_eq_false this, Bool.false_and] at k
      exact k H (Same.refl H)
    · have h1' : ¬ ((c.length : Int) < 1) := fun z => h1 (decide_eq_true z)
      refine (L2.em1_2 rfl a _ ⟨rfl, .inl (SqL.of hA), L2.eb rfl rfl (L2.ea rfl ?_)⟩)
      rw [hlen]
      refine ite2 (fun h2 => ?_) (fun h2 => ?_)
      · have : ¬ (1 ≤ c.length ∧ c.length ≤ 2) := by have := of_decide_eq_true h2; omega
        rw [decide_eq_false this, Bool.false_and] at k
        exact k H (Same.refl H)
      · have h2' : ¬ ((c.length : Int) > 2) := fun z => h2 (decide_eq_true z)
        rw [decide_eq_true (show 1 ≤ c.length ∧ c.length ≤ 2 by omega), Bool.true_and] at k
        refine (L2.em1_3 rfl p dx _ ⟨rfl, hF1, fflds_no _ _ (by decide +kernel) (by decide +kernel), L2.em1_4 rfl p n ds r ⟨rfl, hF, L2.ea rfl ?_⟩⟩)
        refine ite2 (fun h3 => ?_) (fun h3 => ?_)
        · rw [h3, Bool.true_and] at k
          refine (L2.em1_1 rfl a ⟨rfl, ⟨_, SqL.of hA⟩, ?_⟩)
          refine comp_vals (src := c) (emb := V.int) (src_list hA) hz (fun x => some (.bl (decide (0 ≤ x ∧ x < n)))) (fun x hx H' sm C C0 hC h0 => ?_) (fun acc H' ha sm e => ?_)
          · exact ⟨.no (.yes .nil), L2.em1_3 rfl p dx _ ⟨rfl, sm _ _ hF1, fflds_no _ _ (by decide +kernel) (by decide +kernel), L2.em1_4 rfl p n ds x ⟨rfl, hF.same sm, hC _ _ rfl (Same.refl _)⟩⟩⟩
          · rw [fm_some] at e
            refine ⟨acc, c.map fun x => decide (0 ≤ x ∧ x < n), rfl, by rw [e, List.map_map]; rfl, ?_⟩
            have : (c.map fun x => decide (0 ≤ x ∧ x < n)).all id = c.all fun p => decide (0 ≤ p ∧ p < n) := by rw [List.all_map]; rfl
            rw [this]
            exact k H' sm
        · rw [Bool.not_eq_true] at h3
          rw [h3, Bool.false_and] at k
          exact k H (Same.refl H)
theorem onF_true {n : Int} {c : List Int} {r : Int} (h : OnF n c r) : (decide (1 ≤ c.length ∧ c.length ≤ 2) && (decide (0 ≤ r ∧ r < n) && c.all fun p => decide (0 ≤ p ∧ p < n))) = true := by
  obtain ⟨h1, h2, h3⟩ := h
  rw [decide_eq_true h1, decide_eq_true h3, Bool.true_and, Bool.true_and, List.all_eq_true]
  exact fun p hp => decide_eq_true (h2 p hp)
noncomputable def spCt (C : Addr) : Sp := fun vs H Q _ => ∃ (p a : Addr) (n : Int) (ds : List Door) (c : List Int) (r : Int), vs = [.ref p, .ref a, .int r] ∧ FloorAt C H p n ds ∧ IntsAt H a c ∧ OnF n c r ∧ ∀ H', Same H H' → Q (.bl (c.contains r)) H'
theorem sc_ct : FnScope ["floor", "chasers", "runner"] ["floor", "chasers", "runner"] (defScope s_caught) := ⟨rfl, rfl, rfl, by decide +kernel, rfl, by decide +kernel, by decide +kernel⟩
theorem ok_ct (T : RkT K mg) : FnOk P w K mg base CX0 3 T.fC T.fdC ["floor", "chasers", "runner"] (spCt T.fl.C) := by
  have GS : FnOk P w K mg base CX0 2 T.fS T.fdS ["floor", "chasers", "runner"] (spSt T.fl.C) := ok_st T
  refine T.ct.F.ok sc_ct (fun vs H Q E h => ?_) (fun cdv A outer s H vs Q E hr h => ?_)
  · obtain ⟨p, a, n, ds, c, r, rfl, _⟩ := h
    rfl
  · obtain ⟨p, a, n, ds, c, r, rfl, hF, hA, on, k⟩ := h
    refine ⟨_, pss_cons (ps_if (pt_not (pt_val (pe_df T.st GS hr (pa_cons (pv 0) (pa_cons (pv 1) (pa_cons (pv 2) pa_nil)))))) pss_never pss_nil)
      (pss_one (ps_ret (pe_cmpR op_in_seq (pv 2) (pv 1) (by with_unfolding_all rfl)))), ?_⟩
    refine (L2.em3_6 rfl rfl rfl p a n ds c r ⟨rfl, hF, hA, by have := on.1; omega, fun H1 s1 => (L2.ea rfl ?_)⟩)
    rw [onF_true on]
    refine iteF (L2.em2_2 rfl rfl a _ ⟨rfl, .inl (SqL.of (hA.same s1)), rfl, flat_ints _, ?_⟩)
    rw [inV_ints]
    exact k H1 s1
noncomputable def spRk (C : Addr) : Sp := fun vs H Q _ => ∃ (p a : Addr) (n : Int) (ds : List Door) (c : List Int) (r : Int), vs = [.ref p, .ref a, .int r] ∧ FloorAt C H p n ds ∧ (1 ≤ n ∧ n ≤ 6) ∧ IntsAt H a c ∧ OnF n c r ∧ ∀ (H' : Hp) (v : Option Nat), Same H H' → IsRank (Cf.nearP n ds) c r v → Q (ov v) H'
theorem sc_rk : FnScope ["floor", "chasers", "runner", "table"] ["floor", "chasers", "runner"] (defScope s_rank) := ⟨rfl, rfl, rfl, by decide +kernel, rfl, by decide +kernel, by decide +kernel⟩
theorem isRank_zero {near : Int → List Int} {c : List Int} {r : Int} (h : r ∈ c) : IsRank near c r (some 0) := ⟨fun z => (by cases z), fun k e => by cases e; exact ⟨win_zero.mpr h, fun j hj => absurd hj (Nat.not_lt_zero _)⟩⟩
theorem ok_rk (T : RkT K mg) : FnOk P w K mg base CX0 5 T.fR T.fdR ["floor", "chasers", "runner"] (spRk T.fl.C) := by
  have GC : FnOk P w K mg base CX0 3 T.fC T.fdC ["floor", "chasers", "runner"] (spCt T.fl.C) := ok_ct T
  have GT : FnOk P w K mg base CX0 4 T.fT T.fdT ["floor", "count"] (spTab T.fl.C) := ok_tb T
  refine T.rk.F.ok sc_rk (fun vs H Q E h => ?_) (fun cdv A outer s H vs Q E hr h => ?_)
  · obtain ⟨p, a, n, ds, c, r, rfl, _⟩ := h
    rfl
  · obtain ⟨p, a, n, ds, c, r, rfl, hF, hn, hA, on, k⟩ := h
    have hr3 := hr.mono (show 3 ≤ 4 by decide)
    have hu := hu_of hr
    refine ⟨_, pss_cons (ps_if (pt_val (pe_df T.ct GC hr3 (pa_cons (pv 0) (pa_cons (pv 1) (pa_cons (pv 2) pa_nil))))) (pss_one (ps_ret pe_int)) pss_nil)
      (pss_cons (ps_set (i := 3) sc_rk.nd rfl (Or.inl rfl) (pe_df T.tab GT hr (pa_cons (pv 0) (pa_cons (pe_callB call_len_seq (by rfl) T.fl.zlen PySem.boot_len (pa_cons (pv 1) pa_nil)) pa_nil))))
      (pss_one (ps_ret (pe_ix ix_list (pe_dget hu (pv 3) (pe_callTy call_tuple_of (by rfl) T.tb.ztuple PyProof.Rows.boot_tuple (pa_cons (pv 1) pa_nil)) (by intro _ _; rfl)) (pv 2) (fun _ _ => rfl))))), ?_⟩
    refine (L2.em3_6 rfl rfl rfl p a n ds c r ⟨rfl, hF, hA, on, fun H1 s1 => (L2.ea rfl ?_)⟩)
    refine ite2 (fun h1 => ?_) (fun h1 => ?_)
    · exact k H1 (some 0) s1 (isRank_zero (by simpa using h1))
    · have hA1 := hA.same s1
      have hlen : (c.map V.int).length = c.length := List.length_map ..
      refine (L2.em2_2 rfl rfl a _ ⟨rfl, .inl (SqL.of hA1), p, n, ds, c.length, by rw [hlen]; rfl, hF.same s1, hn, on.1.2, fun b H2 T' hb s2 hT hR => ?_⟩)
      have hA2 := hA1.same s2
      have hcm : c ∈ csM n c.length := mem_csM.mpr ⟨rfl, on.2.1⟩
      refine (L2.em2_2 rfl rfl a _ ⟨rfl, .inl ⟨SqL.of hA2, fun t ht => ?_⟩⟩)
      obtain ⟨kvs, hk1, hk2⟩ := hT
      obtain ⟨v, hv, l, rfl, hl⟩ := hk2.get hcm
      have st := Same.new ht (o := .tup (c.map V.int))
      have tk : TupAt (upd H2 t (.tup (c.map V.int))) t c := upd_same
      refine (L2.ex2 b _ ⟨rfl, .inr ⟨kvs, kc c, t, .inl (st _ _ hk1), rfl, tk.key, hv.symm⟩, L2.em1_4 rfl l _ r (ov (T' c r)) ⟨rfl, rfl, SqL.of (st _ _ hl), atI_rng on.2.2, ?_⟩⟩)
      exact k _ (T' c r) (s1.trans (s2.trans st)) (hR c hcm r on.2.2.1 on.2.2.2)
end
end Cn

set_option Elab.async false
set_option linter.all false
set_option maxRecDepth 100000
namespace L2
open PySem PySem.Spec PyProof.Rows
section
variable {X : Cx} {e st : Expr} {te ts : TE} {pos p2 : Pos}
noncomputable def tRev (K : PySem.W.Frag) (te ts : TE) : TE := fun σ H Q => te σ H fun x H1 => ts σ H1 fun y H2 => ∃ a xs, y = .int (-1) ∧ x = .ref a ∧ SqL K H2 a xs ∧ ∀ p, H2 p = none → Q (.ref p) (upd H2 p (.lst xs.reverse))
theorem call_isinst : CallR X (.builtin "isinstance") (fun xs H Q => ∃ x T t b, xs = [x, .ty T] ∧ TyOf X.K H x t ∧ PySem.W.kitOne X.K t (.type T) = some b ∧ Q (.bl b) H) := by
  intro pins s σ H xs us Q I r h
  obtain ⟨x, T, t, b, rfl, ty, e, q⟩ := h
  obtain ⟨u, v, rfl, ru, rv⟩ := vals2 r
  cases (show v = Value.type T from rv)
  exact isinst_ok I ru ty e fun tk => ⟨.bl b, H, I.tok tk, rfl, q⟩
end
theorem kit_non_int (K : PySem.W.Frag) : PySem.W.kitOne K (.type "NoneType") (.type "int") = some false := rfl
theorem kit_int_int (K : PySem.W.Frag) : PySem.W.kitOne K (.type "int") (.type "int") = some true := if_pos rfl
theorem kit_int_bool (K : PySem.W.Frag) : PySem.W.kitOne K (.type "int") (.type "bool") = some false := rfl
end L2

set_option Elab.async false
set_option linter.all false
set_option maxRecDepth 100000
namespace Cn
open PySem L2 Cf
theorem rank_zero {near : Int → List Int} {c : List Int} {r : Int} {k : Nat} (h : IsRank near c r (some k)) : k = 0 ↔ r ∈ c := by
  constructor
  · rintro rfl
    exact win_zero.mp (h.yes 0 rfl).1
  · intro hc
    rcases Nat.eq_zero_or_pos k with z | z
    · exact z
    · have := (h.yes k rfl).2 0 z
      rw [win_zero.mpr hc] at this
      cases this
end Cn

set_option Elab.async false
set_option linter.all false
set_option maxRecDepth 100000
namespace Cn
open PySem L2 Cf
noncomputable abbrev s_lnear : Stmt := top 38
theorem near_law {n : Int} {ds : List Door} (hd : Doors n ds) (p k : Int) : (decide (k = p) || ds.contains (if p < k then p else k, if p > k then p else k)) = isNear ds p k := by
  rw [Bool.eq_iff_iff, Bool.or_eq_true, decide_eq_true_eq, List.contains_iff_mem, near_iff]
  constructor
  · rintro (rfl | h)
    · exact .inl rfl
    · by_cases h1 : p < k
      · rw [if_pos h1, if_neg (by omega)] at h
        exact .inr (.inl h)
      · by_cases h2 : p > k
        · rw [if_neg h1, if_pos h2] at h
          exact .inr (.inr h)
        · exact .inl (by omega)
  · rintro (rfl | h | h)
    · exact .inl rfl
    · have := hd _ h
      right
      rw [if_pos (show p < k by omega), if_neg (by omega)]
      exact h
    · have := hd _ h
      right
      rw [if_neg (show ¬ p < k by omega), if_pos (show p > k by omega)]
      exact h
section
variable {P : Program} {w : World} {K : PySem.W.Frag} {mg : Str → Option Value} {base : Heap}
noncomputable def spLN : Sp := fun vs H Q _ => ∃ (a : Addr) (ds : List Door) (n p : Int), vs = [.int n, .ref a, .int p] ∧ DoorsAt H a ds ∧ Doors n ds ∧ (0 ≤ n ∧ n ≤ 100) ∧ ∀ (l : Addr) (H' : Hp), H l = none → Same H H' → IntsAt H' l (nearP n ds p) → Q (.ref l) H'
theorem sc_ln : FnScope ["places", "doors", "place"] ["places", "doors", "place"] (defScope s_lnear) := ⟨rfl, rfl, rfl, by decide +kernel, rfl, by decide +kernel, by decide +kernel⟩
theorem bs_ln : BlkScope (defScope s_lnear) ["places", "doors", "place"] (cscope (retE (stAt (defBody s_lnear) 0))) ["k"] [("doors", 1), ("place", 2)] := ⟨rfl, rfl, by decide +kernel, by decide +kernel, by decide +kernel, by decide +kernel, by decide +kernel⟩
theorem ok_ln {f : Addr} {fd : FuncData} (F : Fun K "_law_near" "_law_near" s_lnear f fd) (zr : mg "range" = none) (zmin : mg "min" = none) (zmax : mg "max" = none) : FnOk P w K mg base CX0 1 f fd ["places", "doors", "place"] spLN := by
  refine F.ok sc_ln (fun vs H Q E h => ?_) (fun cdv A outer s H vs Q E hr h => ?_)
  · obtain ⟨a, ds, n, p, rfl, _⟩ := h
    rfl
  · obtain ⟨a, ds, n, p, rfl, hD, hd, ⟨h0n, hn⟩, k⟩ := h
    have hu : (A.deeper (PyProof.Rows.envOfC "_law_near" (defScope s_lnear) s.heap.objs.size f cdv)).units + 65 < cLine := by have := hr.un; omega
    refine ⟨_, pss_one (ps_ret (pe_comp bs_ln rfl (pi_range1 rfl zr (pa_cons (pv 0) pa_nil)) (fun _ _ _ _ _ => pg_name (i := 0) bs_ln.nd rfl (Or.inl rfl) (Or.inr rfl))
      (fun _ _ _ _ _ => pfs_one (PW.pt (pw_or (pt_cmpR op_eq (pv 0) (pv 2) (nomark _)) (pw_or1 (pt_cmpR (op_inD hu) (pe_tup (pa_cons (pe_callB (call_min2 rfl) (by rfl) zmin PyProof.Rows.boot_min (pa_cons (pv 0) (pa_cons (pv 2) pa_nil))) (pa_cons (pe_callB (call_max2 rfl) (by rfl) zmax PyProof.Rows.boot_max (pa_cons (pv 0) (pa_cons (pv 2) pa_nil))) pa_nil))) (pv 1) (by with_unfolding_all rfl)))))) (fun _ _ _ _ _ => pv 0))), ?_⟩
    refine (L2.em1_1 rfl n ⟨rfl, by omega, by omega, ?_⟩)
    refine comp_vals (src_rng n) (rng_len hn) (fun i => if isNear ds p i = true then some (.int i) else none) (fun i hi H' sm C C0 hC h0 => ?_) (fun acc H' ha sm e => k acc H' ha sm ?_)
    · refine ⟨.no (.yes (.yes .nil)), L2.ea2 rfl rfl ⟨rfl, L2.ea rfl ?_⟩⟩
      have nl := near_law hd p i
      refine ite2 (fun h1 => ?_) (fun h1 => ?_)
      · have e1 : i = p := by simpa using h1
        have : isNear ds p i = true := by rw [← nl, decide_eq_true e1]; rfl
        exact (L2.ea rfl (hC _ _ (by rw [if_pos this]) (Same.refl _)))
      · have e1 : ¬ i = p := by simpa using h1
        rw [decide_eq_false e1, Bool.false_or] at nl
        refine (L2.em2_2 rfl rfl _ _ ⟨rfl, L2.em2_2 rfl rfl _ _ ⟨rfl, (by show 2 ≤ sizeLine; decide), fun t ht => (L2.ea rfl ⟨_, _, tup_rep upd_same, ((hD.same sm).same (Same.new ht)).rep, shaped_pd _, shaped_pds _, L2.ea rfl ?_⟩)⟩⟩)
        rw [any_pd, nl]
        cases e : isNear ds p i with
        | true => exact iteT ⟨_, rfl, hC _ _ (by rw [e]; rfl) (Same.new ht)⟩
        | false => exact iteF (h0 _ (by rw [e]; rfl) (Same.new ht))
    · rw [fm_filter] at e
      exact e
end
end Cn

set_option Elab.async false
set_option linter.all false
set_option maxRecDepth 100000
namespace Cn
open PySem L2 Cf
noncomputable abbrev s_whole : Stmt := top 35
section
variable {P : Program} {w : World} {K : PySem.W.Frag} {mg : Str → Option Value} {base : Heap}
noncomputable def spWh : Sp := fun vs H Q _ => ∃ v : Option Nat, vs = [ov v] ∧ Q (.bl v.isSome) H
theorem sc_wh : FnScope ["found"] ["found"] (defScope s_whole) := ⟨rfl, rfl, rfl, by decide +kernel, rfl, by decide +kernel, by decide +kernel⟩
noncomputable def spWhI : Sp := fun vs H Q _ => ∃ v : V, vs = [v] ∧ ((∃ i : Int, v = .int i ∧ Q (.bl true) H) ∨ (v = .non ∧ Q (.bl false) H))
theorem ok_whI {f : Addr} {fd : FuncData} (F : Fun K "_law_whole" "_law_whole" s_whole f fd) (zi : mg "isinstance" = none) (zn : mg "int" = none) (zb : mg "bool" = none) : FnOk P w K mg base CX0 1 f fd ["found"] spWhI := by
  refine F.ok sc_wh (fun vs H Q E h => ?_) (fun cdv A outer s H vs Q E hr h => ?_)
  · obtain ⟨v, rfl, _⟩ := h
    rfl
  · obtain ⟨v, rfl, k⟩ := h
    refine ⟨_, pss_one (ps_ret (pe_and (pe_callB call_isinst (by rfl) zi PyProof.Rows.boot_isinstance (pa_cons (pv 0) (pa_cons (pe_bltn (v := .ty "int") rfl zn PyProof.Rows.boot_int rfl) pa_nil)))
      (pe_one (pe_not (pe_callB call_isinst (by rfl) zi PyProof.Rows.boot_isinstance (pa_cons (pv 0) (pa_cons (pe_bltn (v := .ty "bool") rfl zb PyProof.Rows.boot_bool rfl) pa_nil))))))), ?_⟩
    rcases k with ⟨i, rfl, k⟩ | ⟨rfl, k⟩
    · exact (L2.em1_4 rfl _ _ _ _ ⟨rfl, .int _, kit_int_int _, L2.ea rfl (iteT (L2.em1_4 rfl _ _ _ _ ⟨rfl, .int _, kit_int_bool _, L2.ea rfl k⟩))⟩)
    · exact (L2.em1_4 rfl _ _ _ _ ⟨rfl, .non, kit_non_int _, L2.ea rfl (iteF k)⟩)
end
end Cn

set_option Elab.async false
set_option linter.all false
set_option maxRecDepth 100000
namespace Cn
open PySem L2 Cf
section
variable {P : Program} {w : World} {K : PySem.W.Frag} {mg : Str → Option Value} {base : Heap}
noncomputable def spSB (K : PySem.W.Frag) : Sp := fun vs H Q _ => ∃ (a : Addr) (ns : List Int) (i n m : Int), vs = [.ref a, .int i, .int n, .int m] ∧ SqL K H a (ns.map V.int) ∧ 0 ≤ i ∧ 1 ≤ n ∧ (0 ≤ m ∧ m ≤ 100) ∧
  ∀ (t l : Addr) (c : List Int) (r : Int) (H' : Hp), H l = none → Same H H' → H' t = some (.tup [.ref l, .int r]) → IntsAt H' l c → c.length = m.toNat → (∀ p ∈ c, 0 ≤ p ∧ p < n) → (0 ≤ r ∧ r < n) → Q (.ref t) H'
noncomputable abbrev nSB : List Str := ["script", "at", "places", "count", "chasers"]
theorem sc_sb : FnScope nSB ["script", "at", "places", "count"] (defScope s_standing) := ⟨rfl, rfl, rfl, by decide +kernel, rfl, by decide +kernel, by decide +kernel⟩
theorem bs_sb : BlkScope (defScope s_standing) nSB (cscope (asgE (stAt (defBody s_standing) 0))) ["k"] [("script", 0), ("at", 1), ("places", 2)] := ⟨rfl, rfl, by decide +kernel, by decide +kernel, by decide +kernel, by decide +kernel, by decide +kernel⟩
theorem ok_sb {f fC : Addr} {fd fdC : FuncData} (F : Fun K "_law_standing_by" "_law_standing_by" s_standing f fd) (DC : Df K mg "_law_cell_at" s_cell ["script", "k"] fC fdC) (zl : mg "len" = none) (zr : mg "range" = none) : FnOk P w K mg base CX0 2 f fd ["script", "at", "places", "count"] (spSB K) := by
  have GC : FnOk P w K mg base CX0 1 fC fdC ["script", "k"] (spCell K) := ok_cell DC.F zl
  refine F.ok sc_sb (fun vs H Q E h => ?_) (fun cdv A outer s H vs Q E hr h => ?_)
  · obtain ⟨a, ns, i, n, m, rfl, _⟩ := h
    rfl
  · obtain ⟨a, ns, i, n, m, rfl, hS, hi, hn, hm, k⟩ := h
    refine ⟨_, pss_cons (ps_setComp bs_sb rfl sc_sb.nd (i := 4) rfl rfl rfl (pi_range1 rfl zr (pa_cons (pv 3) pa_nil)) (fun _ _ _ _ _ => pg_name (i := 0) bs_sb.nd rfl (Or.inl rfl) (Or.inr rfl)) (fun _ _ _ _ _ => pfs_nil)
        (fun _ _ _ _ _ => pe_op op_mod (pe_df DC GC hr (pa_cons (pv 1) (pa_cons (pe_op op_add (pv 2) (pv 0)) pa_nil))) (pv 3)))
      (pss_one (ps_ret (pe_tup (pa_cons (pv 4) (pa_cons (pe_op op_mod (pe_df DC GC hr (pa_cons (pv 0) (pa_cons (pe_op op_add (pv 1) pe_int) pa_nil))) (pv 2)) pa_nil))))), ?_⟩
    have hmod : ∀ c : Int, 0 ≤ c % n ∧ c % n < n := fun c => ⟨Int.emod_nonneg _ (by omega), Int.emod_lt_of_pos _ (by omega)⟩
    refine (L2.em1_1 rfl m ⟨rfl, by omega, by omega, ?_⟩)
    refine comp_vals (src_rng m) (rng_len (by omega)) (fun j => some (.int (cell ns (i + j) % n))) (fun j hj H' sm C C0 hC h0 => ?_) (fun acc H' ha sm e => ?_)
    · have hj' := mem_rng.mp hj
      exact ⟨.no (.yes (.yes (.yes .nil))), L2.ea3 rfl rfl rfl (L2.eb rfl rfl (L2.ex3 a ns _ ⟨rfl, sm.seq hS, by omega, L2.ea rfl (L2.eb rfl rfl ⟨(by show (0 : Int) < n; omega), hC _ _ rfl (Same.refl _)⟩)⟩))⟩
    · rw [fm_some] at e
      refine (L2.ea3 rfl rfl rfl (L2.eb rfl rfl (L2.ex3 a ns _ ⟨rfl, sm.seq hS, by omega, L2.ea rfl (L2.eb rfl rfl ⟨(by show (0 : Int) < n; omega), (by show 2 ≤ sizeLine; decide), fun t ht => ?_⟩)⟩)))
      refine k t acc ((rng m).map fun j => cell ns (i + j) % n) _ _ ha (sm.trans (Same.new ht)) upd_same ?_ (by rw [List.length_map, rng_length]) (fun p hp => ?_) (hmod _)
      · refine IntsAt.same (Same.new ht) ?_
        unfold IntsAt
        rw [e, List.map_map]
        rfl
      · obtain ⟨j, _, rfl⟩ := List.mem_map.mp hp
        exact hmod _
end
end Cn

set_option Elab.async false
set_option linter.all false
set_option maxRecDepth 100000
namespace L2
open PySem PySem.Spec PyProof.Rows
noncomputable def Itz (a b : Addr) : It :=
  ⟨fun i H => ∃ xs ys x y, H a = some (.lst xs) ∧ H b = some (.lst ys) ∧ xs[i]? = some x ∧ ys[i]? = some y,
   fun i H v H' => ∃ t x y, H t = none ∧ v = .ref t ∧ H' = upd H t (.tup [x, y]) ∧ (∀ xs, H a = some (.lst xs) → xs[i]? = some x) ∧ (∀ ys, H b = some (.lst ys) → ys[i]? = some y),
   fun i H => ∃ xs ys, H a = some (.lst xs) ∧ H b = some (.lst ys) ∧ (xs.length ≤ i ∨ ys.length ≤ i)⟩
structure Zp (z TI TO i1 i2 : Addr) : Prop where
  TIz : TI ≠ z
  TOz : TO ≠ z
  i1z : i1 ≠ z
  i2z : i2 ≠ z
  TITO : TI ≠ TO
  TIi1 : TI ≠ i1
  TIi2 : TI ≠ i2
  TOi1 : TO ≠ i1
  TOi2 : TO ≠ i2
  i12 : i1 ≠ i2
theorem turn_zip {P : Program} {w : World} {K : PySem.W.Frag} {elts : List Expr} {k : Nat} {pos : Pos} (a b z TI TO i1 i2 : Addr) (D : Zp z TI TO i1 i2) : Turn P w K (.Tuple elts k pos) (Itz a b) [z, TI, TO, i1, i2] z
    (fun i h => IsZip h z TI TO .none ∧ IsPair h TI (.ref i1) (.ref i2) ∧ (∃ c d, IsPair h TO c d) ∧ h.IsListIter i1 a i ∧ h.IsListIter i2 b i) where
  mem := by simp
  obj := fun i h st c hc => by
    obtain ⟨hz, hTI, ⟨c', d', hTO⟩, ⟨o1, e1, _, d1⟩, ⟨o2, e2, _, d2⟩⟩ := st
    have hc' : c = z ∨ c = TI ∨ c = TO ∨ c = i1 ∨ c = i2 := by simpa using hc
    rcases hc' with q | q | q | q | q <;> rw [q] <;> clear hc q
    · exact ⟨_, hz, fun v q => by cases q⟩
    · exact ⟨_, hTI, fun v q => by cases q⟩
    · exact ⟨_, hTO, fun v q => by cases q⟩
    · exact ⟨o1, e1, fun v q => by rw [d1] at q; cases q⟩
    · exact ⟨o2, e2, fun v q => by rw [d2] at q; cases q⟩
  keep := fun i h h' st hk => by
    obtain ⟨hz, hTI, ⟨c', d', hTO⟩, h1, h2⟩ := st
    exact ⟨hk z (by simp) _ hz, hk TI (by simp) _ hTI, ⟨c', d', hk TO (by simp) _ hTO⟩, h1.at fun o e => hk i1 (by simp) o e, h2.at fun o e => hk i2 (by simp) o e⟩
  item := by
    intro X hP hw hK hcm i pins s σ H E I hf st hg
    subst hP hw hK
    obtain ⟨xs, ys, x, y, hA, hB, hx, hy⟩ := hg
    obtain ⟨hz, hTI, ⟨c', d', hTO⟩, h1, h2⟩ := st
    obtain ⟨its1, n1, r1, e1, z1⟩ := I.lst hA
    obtain ⟨its2, n2, r2, e2, z2⟩ := I.lst hB
    obtain ⟨u, hu, ru⟩ := r1.get hx
    obtain ⟨v, hv, rv⟩ := r2.get hy
    have fz := hf z (by simp)
    have fTI := hf TI (by simp)
    have fTO := hf TO (by simp)
    have f1 := hf i1 (by simp)
    have f2 := hf i2 (by simp)
    have ap : ∀ {c d : Addr} {o : HO}, H c = some o → H d = none → c ≠ d := fun e n q => by rw [q, n] at e; cases e
    have ZA : ZipApart z TI TO i1 i2 a b := ⟨D.TIz, D.TOz, D.i1z, D.i2z, D.TITO, D.TIi1, D.TIi2, D.TOi1, D.TOi2, D.i12, ap hA fz.1, ap hA fTO.1, ap hA f1.1, ap hA f2.1, ap hB fz.1, ap hB fTO.1, ap hB f1.1, ap hB f2.1⟩
    have hl1 : s.heap.IsList a its1.toArray := ⟨_, e1, rfl, n1, rfl⟩
    have hl2 : s.heap.IsList b its2.toArray := ⟨_, e2, rfl, n2, rfl⟩
    refine wpAny_pyNext_zip_item ZA hz hTI hTO h1 h2 hl1 hl2 (x := u) (y := v) (by simpa using hu) (by simpa using hv) fun h' a1 a2 a3 a4 a5 a6 hk => ?_
    refine ⟨.ref s.heap.objs.size, rfl, wpAny_letOwnedTupleGo_zip (s := { s with heap := h' }) a1 fun h'' hz' hs' => ?_⟩
    have fresh : H s.heap.objs.size = none := I.fresh
    have kp : ∀ c o, c ≠ z → c ≠ TO → c ≠ i1 → c ≠ i2 → s.heap.get? c = some o → h''.get? c = some o := fun c o q1 q2 q3 q4 q => (hs'.2 c q1).trans (hk c o q1 q2 q3 q4 q)
    have ht'' : h''.get? s.heap.objs.size = some { cls := .type "tuple", data := .seq #[u, v] } := by
      refine (hs'.2 _ ?_).trans a5
      exact Nat.ne_of_gt (Heap.lt_size hz)
    have tr : ∀ c o, H c = some o → c ≠ z ∧ c ≠ TO ∧ c ≠ i1 ∧ c ≠ i2 := fun c o q => ⟨ap q fz.1, ap q fTO.1, ap q f1.1, ap q f2.1⟩
    have ne : ∀ c o, H c = some o → c ≠ s.heap.objs.size := fun c o q => ap q fresh
    have nch : ∀ c, c ∉ [z, TO, i1, i2] → c ≠ z ∧ c ≠ TO ∧ c ≠ i1 ∧ c ≠ i2 := fun c hc => ⟨fun q => hc (by simp [q]), fun q => hc (by simp [q]), fun q => hc (by simp [q]), fun q => hc (by simp [q])⟩
    have I2 : Inv X pins σ (upd H s.heap.objs.size (.tup [x, y])) { s with heap := h'' } := by
      refine I.step (g' := s.gens) (d' := s.drawn) (t' := s.toks) (ch := [z, TO, i1, i2]) (fun c hc => ?_) (fun c o _ _ hc q _ => kp c o (nch c hc).1 (nch c hc).2.1 (nch c hc).2.2.1 (nch c hc).2.2.2 q) (fun c o _ _ hc q _ => ⟨o.slots, kp c o (nch c hc).1 (nch c hc).2.1 (nch c hc).2.2.1 (nch c hc).2.2.2 q⟩)
        (fun c o _ q n => by rw [upd_ne (Nat.ne_of_lt (Heap.lt_size q))]; exact n) (fun c o hc q => ⟨o, kp c o (nch c hc).1 (nch c hc).2.1 (nch c hc).2.2.1 (nch c hc).2.2.2 q⟩) (fun c zs q => by rw [upd_ne (ne c _ q)]; exact q) (fun c o v q => by rw [upd_ne (ne c _ q)]; exact q) (fun c ps q => ⟨#[], by rw [upd_ne (ne c _ q), q]; simp⟩) (fun m hm => ?_) (fun c v q => ?_) I.bare
      · have hc' : c = z ∨ c = TO ∨ c = i1 ∨ c = i2 := by simpa using hc
        rcases hc' with q | q | q | q <;> rw [q]
        · exact ⟨fz.2.2.2.1, fz.2.1, fz.2.2.2.2.1, fz.2.2.2.2.2⟩
        · exact ⟨fTO.2.2.2.1, fTO.2.1, fTO.2.2.2.2.1, fTO.2.2.2.2.2⟩
        · exact ⟨f1.2.2.2.1, f1.2.1, f1.2.2.2.2.1, f1.2.2.2.2.2⟩
        · exact ⟨f2.2.2.2.1, f2.2.1, f2.2.2.2.2.1, f2.2.2.2.2.2⟩
      · obtain ⟨o, es, ep, ho, r⟩ := hm
        exact ⟨o, es, ep, kp _ o (Ne.symm fz.2.1) (Ne.symm fTO.2.1) (Ne.symm f1.2.1) (Ne.symm f2.2.1) ho, r⟩
      · by_cases hb : c = s.heap.objs.size
        · subst hb
          rw [upd_same] at q; cases q
          exact ⟨by show 2 ≤ sizeLine; decide, [u, _], .cons ru (.cons rv .nil), _, ht'', rfl, _, rfl⟩
        · rw [upd_ne hb] at q
          refine (I.hok c v q).stay (fun d v' hd q' => ?_) (fun d q' => by rw [upd_ne (ne d _ q')]; exact q') fun d zs q' => by rw [upd_ne (ne d _ q')]; exact q'
          rcases hd with rfl | hd
          · obtain ⟨t1, t2, t3, t4⟩ := tr _ _ q
            exact kp _ _ t1 t2 t3 t4 q'
          · obtain ⟨t1, t2, t3, t4⟩ := tr _ _ hd
            exact kp _ _ t1 t2 t3 t4 q'
    refine ⟨.ref s.heap.objs.size, _, I2, rfl, ⟨_, x, y, fresh, rfl, rfl, fun xs' h' => ?_, fun ys' h' => ?_⟩, ⟨hz', (hs'.2 _ D.TIz).trans (hk _ _ D.TIz D.TITO D.TIi1 D.TIi2 hTI), ⟨_, _, (hs'.2 _ D.TOz).trans a2⟩, a3.at fun o q => (hs'.2 _ D.i1z).trans q, a4.at fun o q => (hs'.2 _ D.i2z).trans q⟩, fun c hc => ?_⟩
    · rw [hA] at h'; cases h'; exact hx
    · rw [hB] at h'; cases h'; exact hy
    · have hc' : c = z ∨ c = TI ∨ c = TO ∨ c = i1 ∨ c = i2 := by simpa using hc
      have hlt : c < s.heap.objs.size := by
        rcases hc' with q | q | q | q | q <;> rw [q]
        · exact Heap.lt_size hz
        · exact Heap.lt_size hTI
        · exact Heap.lt_size hTO
        · obtain ⟨_, q, _⟩ := h1; exact Heap.lt_size q
        · obtain ⟨_, q, _⟩ := h2; exact Heap.lt_size q
      rw [upd_ne (Nat.ne_of_lt hlt)]
      exact (hf c hc).1
  done := by
    intro X hP hw hK hcm i pins s σ H E I hf st hg
    subst hP hw hK
    obtain ⟨xs, ys, hA, hB, hx⟩ := hg
    obtain ⟨hz, hTI, ⟨c', d', hTO⟩, h1, h2⟩ := st
    obtain ⟨its1, n1, r1, e1, z1⟩ := I.lst hA
    obtain ⟨its2, n2, r2, e2, z2⟩ := I.lst hB
    have l1 := r1.length
    have l2 := r2.length
    have fz := hf z (by simp)
    have fTO := hf TO (by simp)
    have f1 := hf i1 (by simp)
    have f2 := hf i2 (by simp)
    have ap : ∀ {c d : Addr} {o : HO}, H c = some o → H d = none → c ≠ d := fun e n q => by rw [q, n] at e; cases e
    have ZA : ZipApart z TI TO i1 i2 a b := ⟨D.TIz, D.TOz, D.i1z, D.i2z, D.TITO, D.TIi1, D.TIi2, D.TOi1, D.TOi2, D.i12, ap hA fz.1, ap hA fTO.1, ap hA f1.1, ap hA f2.1, ap hB fz.1, ap hB fTO.1, ap hB f1.1, ap hB f2.1⟩
    have hl1 : s.heap.IsList a its1.toArray := ⟨_, e1, rfl, n1, rfl⟩
    have hl2 : s.heap.IsList b its2.toArray := ⟨_, e2, rfl, n2, rfl⟩
    refine wpAny_pyNext_zip_end (I.ok.hd hcm) ZA hz hTI hTO h1 h2 hl1 hl2 (hx.imp (fun q => by simp; omega) (fun q => by simp; omega)) fun h' kp => ⟨rfl, ?_⟩
    have tr : ∀ c o, H c = some o → c ≠ z ∧ c ≠ TO ∧ c ≠ i1 ∧ c ≠ i2 := fun c o q => ⟨ap q fz.1, ap q fTO.1, ap q f1.1, ap q f2.1⟩
    have nch : ∀ c, c ∉ [z, TO, i1, i2] → c ≠ z ∧ c ≠ TO ∧ c ≠ i1 ∧ c ≠ i2 := fun c hc => ⟨fun q => hc (by simp [q]), fun q => hc (by simp [q]), fun q => hc (by simp [q]), fun q => hc (by simp [q])⟩
    refine I.step (g' := s.gens) (d' := s.drawn) (t' := s.toks) (ch := [z, TO, i1, i2]) (fun c hc => ?_) (fun c o _ _ hc q _ => kp c o (nch c hc).1 (nch c hc).2.1 (nch c hc).2.2.1 (nch c hc).2.2.2 q) (fun c o _ _ hc q _ => ⟨o.slots, kp c o (nch c hc).1 (nch c hc).2.1 (nch c hc).2.2.1 (nch c hc).2.2.2 q⟩)
      (fun c o _ q n => n) (fun c o hc q => ⟨o, kp c o (nch c hc).1 (nch c hc).2.1 (nch c hc).2.2.1 (nch c hc).2.2.2 q⟩) (fun c zs q => q) (fun c o v q => q) (fun c ps q => ⟨#[], by rw [q]; simp⟩) (fun m hm => ?_) (fun c v q => ?_) I.bare
    · have hc' : c = z ∨ c = TO ∨ c = i1 ∨ c = i2 := by simpa using hc
      rcases hc' with rfl | rfl | rfl | rfl
      · exact ⟨fz.2.2.2.1, fz.2.1, fz.2.2.2.2.1, fz.2.2.2.2.2⟩
      · exact ⟨fTO.2.2.2.1, fTO.2.1, fTO.2.2.2.2.1, fTO.2.2.2.2.2⟩
      · exact ⟨f1.2.2.2.1, f1.2.1, f1.2.2.2.2.1, f1.2.2.2.2.2⟩
      · exact ⟨f2.2.2.2.1, f2.2.1, f2.2.2.2.2.1, f2.2.2.2.2.2⟩
    · obtain ⟨o, es, ep, ho, r⟩ := hm
      exact ⟨o, es, ep, kp _ o (Ne.symm fz.2.1) (Ne.symm fTO.2.1) (Ne.symm f1.2.1) (Ne.symm f2.2.1) ho, r⟩
    · refine (I.hok c v q).stay (fun d v' hd q' => ?_) (fun _ q' => q') fun _ _ q' => q'
      rcases hd with rfl | hd
      · obtain ⟨t1, t2, t3, t4⟩ := tr _ _ q
        exact kp _ _ t1 t2 t3 t4 q'
      · obtain ⟨t1, t2, t3, t4⟩ := tr _ _ hd
        exact kp _ _ t1 t2 t3 t4 q'
  self := fun _ _ _ _ _ st h => wpAny_pyIter_zip st.1 h
section
variable {X : Cx}
noncomputable def iZip (ta : TA) : TI := fun σ H R => ta σ H fun vs H1 => ∃ a b, vs = [.ref a, .ref b] ∧ (∃ xs, H1 a = some (.lst xs)) ∧ (∃ ys, H1 b = some (.lst ys)) ∧ R (Itz a b) H1
theorem pi_zip {a b : Expr} {ta : TA} {p pos tpos : Pos} {elts : List Expr} {k : Nat} (hg : Gl X "zip") (hm : X.mg "zip" = none) (ha : PA X [a, b] ta) (hs : starEach [a, b] X.env = [(false, eval a X.env), (false, eval b X.env)] := by rfl) (hs2 : starEach [b] X.env = [(false, eval b X.env)] := by rfl) :
    PI X (.Tuple elts k tpos) (.Call (.Name "zip" p) [a, b] [] pos) (iZip ta) := by
  intro pins s σ H R I h
  refine Call_ (ld_blt I hg hm boot_zip (PyProof.Rows.callWith_type1 (thn (ha pos pins s σ H _ I h) fun us s1 hq_ => ?_) (by rw [hs, hs2]) (by rw [hs2]; rfl)))
  obtain ⟨vs, H1, I1, r1, q1⟩ := hq_
  obtain ⟨a, b, e, ⟨xs, hA⟩, ⟨ys, hB⟩, q⟩ := q1
  subst e
  obtain ⟨u, v, rfl, ru, rv⟩ := r1.two
  cases ru
  cases rv
  obtain ⟨its1, n1, r1, e1, z1⟩ := I1.lst hA
  obtain ⟨its2, n2, r2, e2, z2⟩ := I1.lst hB
  have hl1 : s1.heap.IsList a its1.toArray := ⟨_, e1, rfl, n1, rfl⟩
  have hl2 : s1.heap.IsList b its2.toArray := ⟨_, e2, rfl, n2, rfl⟩
  refine call_zip_2 hl1 hl2 fun h' hz hTI hTO h1 h2 hsz hk => wpAny_pyIter_zip (s := { s1 with heap := h' }) hz ?_
  have I2 : Inv X pins σ H1 { s1 with heap := h' } := I1.kept (t' := s1.toks) hk
  have D : Zp (s1.heap.objs.size + 4) (s1.heap.objs.size + 2) (s1.heap.objs.size + 3) s1.heap.objs.size (s1.heap.objs.size + 1) := by
    constructor <;> (intro q; have q' : (_ : Nat) = _ := q; omega)
  refine ⟨s1.heap.objs.size + 4, [s1.heap.objs.size + 4, s1.heap.objs.size + 2, s1.heap.objs.size + 3, s1.heap.objs.size, s1.heap.objs.size + 1], _, Itz a b, H1, rfl, I2, turn_zip a b _ _ _ _ _ D, ⟨hz, hTI, ⟨_, _, hTO⟩, h1, h2⟩, fun c hc => ?_, q⟩
  have hc' : s1.heap.objs.size ≤ c := by
    have hc' : c = s1.heap.objs.size + 4 ∨ c = s1.heap.objs.size + 2 ∨ c = s1.heap.objs.size + 3 ∨ c = s1.heap.objs.size ∨ c = s1.heap.objs.size + 1 := by simpa using hc
    show (_ : Nat) ≤ _
    rcases hc' with rfl | rfl | rfl | rfl | rfl <;> omega
  exact I1.fpOk hc' (I1.hok.fresh hc')
theorem for_zip {a b : Addr} {xs ys : List V} {g : TG} {tb : TS} {D : Ends} {σ : St} {H : Hp} (Pv : Nat → St → Hp → Prop) (h0 : Pv 0 σ H) (hl : ∀ i σ H, i ≤ xs.length → Pv i σ H → H a = some (.lst xs) ∧ H b = some (.lst ys)) (hxy : xs.length = ys.length)
    (hs : ∀ i x y σ H t, xs[i]? = some x → ys[i]? = some y → Pv i σ H → H t = none → g (.ref t) σ (upd H t (.tup [x, y])) fun σ2 H2 => tb { D with nx := Pv (i + 1), ct := Pv (i + 1), bk := D.nx } σ2 H2) (hd : ∀ σ H, Pv xs.length σ H → D.nx σ H) :
    ∃ W : Nat → Nat → St → Hp → Prop, (∃ m, W 0 m σ H) ∧ ∀ i m σ H, W i m σ H →
      ((Itz a b).stop i H ∧ D.nx σ H) ∨ ((Itz a b).go i H ∧ ∃ N : St → Hp → Prop, (∀ σ' H', N σ' H' → ∃ m', m' < m ∧ W (i + 1) m' σ' H') ∧ ∀ x H', (Itz a b).yld i H x H' → g x σ H' fun σ2 H2 => tb { D with nx := N, ct := N, bk := D.nx } σ2 H2) := by
  refine ⟨fun i m σ H => m = xs.length - i ∧ i ≤ xs.length ∧ Pv i σ H, ⟨xs.length, by simp, Nat.zero_le _, h0⟩, ?_⟩
  rintro i m σ H ⟨rfl, hi, p⟩
  obtain ⟨qa, qb⟩ := hl i σ H hi p
  by_cases hlt : i < xs.length
  · have ex : xs[i]? = some xs[i] := List.getElem?_eq_getElem hlt
    have ey : ys[i]? = some (ys[i]'(by omega)) := List.getElem?_eq_getElem (by omega)
    refine .inr ⟨⟨xs, ys, _, _, qa, qb, ex, ey⟩, Pv (i + 1), fun σ' H' hp => ⟨xs.length - (i + 1), by omega, rfl, by omega, hp⟩, ?_⟩
    rintro v H' ⟨t, x, y, ht, rfl, rfl, hx, hy⟩
    exact hs i x y σ H t (hx xs qa) (hy ys qb) p ht
  · have e : i = xs.length := by omega
    exact .inl ⟨⟨xs, ys, qa, qb, .inl (by omega)⟩, hd σ H (e ▸ p)⟩
noncomputable def rRemove : V → List V → Hp → VK → Prop := fun x vs H Q => ∃ (l : Addr) (ns : List Int) (k : Int), x = .ref l ∧ vs = [.int k] ∧ H l = some (.lst (ns.map V.int)) ∧ k ∈ ns ∧ Q .non (upd H l (.lst ((ns.erase k).map V.int)))
end
end L2

set_option Elab.async false
set_option linter.all false
set_option maxRecDepth 100000
namespace Cn
open PySem L2 Cf
noncomputable abbrev s_nlike : Stmt := top 36
theorem kit_list_list (K : PySem.W.Frag) : PySem.W.kitOne K (.type "list") (.type "list") = some true := if_pos rfl
section
variable {P : Program} {w : World} {K : PySem.W.Frag} {mg : Str → Option Value} {base : Heap}
noncomputable def spNl : Sp := fun vs H Q _ => ∃ (a b : Addr) (xs : List Int), vs = [.ref a, .ref b] ∧ IntsAt H a xs ∧ IntsAt H b xs ∧ xs.length ≤ 1000 ∧ ∀ H', Same H H' → Q (.bl true) H'
noncomputable abbrev nNl : List Str := ["found", "due", "one", "other"]
theorem sc_nl : FnScope nNl ["found", "due"] (defScope s_nlike) := ⟨rfl, rfl, rfl, by decide +kernel, rfl, by decide +kernel, by decide +kernel⟩
theorem ok_nl {f : Addr} {fd : FuncData} (F : Fun K "_law_numbers_like" "_law_numbers_like" s_nlike f fd) (zi : mg "isinstance" = none) (zn : mg "int" = none) (zb : mg "bool" = none) (zl : mg "list" = none) (ze : mg "len" = none) (zz : mg "zip" = none) : FnOk P w K mg base CX0 1 f fd ["found", "due"] spNl := by
  refine F.ok sc_nl (fun vs H Q E h => ?_) (fun cdv A outer s H vs Q E hr h => ?_)
  · obtain ⟨a, b, xs, rfl, _⟩ := h
    rfl
  · obtain ⟨a, b, xs, rfl, hA, hB, hl, k⟩ := h
    refine ⟨_, pss_cons (ps_if (PW.pt (pw_or (pt_not (pt_val (pe_callB call_isinst (by rfl) zi PyProof.Rows.boot_isinstance (pa_cons (pv 0) (pa_cons (pe_bltn (v := .ty "list") rfl zl PyProof.Rows.boot_list rfl) pa_nil)))))
        (pw_or1 (pt_cmpR op_ne (pe_callB call_len_seq (by rfl) ze PySem.boot_len (pa_cons (pv 0) pa_nil)) (pe_callB call_len_seq (by rfl) ze PySem.boot_len (pa_cons (pv 1) pa_nil)) (nomark _))))) (pss_one (ps_ret pe_bl)) pss_nil)
      (pss_cons (ps_for PassesOwn.never rfl (pi_zip rfl zz (pa_cons (pv 0) (pa_cons (pv 1) pa_nil))) (pg_tup (n := 2) rfl (pgs_cons (pg_name (i := 2) sc_nl.nd rfl (Or.inl rfl)) (pgs_cons (pg_name (i := 3) sc_nl.nd rfl (Or.inl rfl)) pgs_nil)))
        (pss_one (ps_if (PW.pt (pw_or (pt_not (pt_val (pe_callB call_isinst (by rfl) zi PyProof.Rows.boot_isinstance (pa_cons (pv 2) (pa_cons (pe_bltn (v := .ty "int") rfl zn PyProof.Rows.boot_int rfl) pa_nil)))))
          (pw_or (pt_val (pe_callB call_isinst (by rfl) zi PyProof.Rows.boot_isinstance (pa_cons (pv 2) (pa_cons (pe_bltn (v := .ty "bool") rfl zb PyProof.Rows.boot_bool rfl) pa_nil))))
          (pw_or1 (pt_cmpR op_ne (pv 2) (pv 3) (nomark _)))))) (pss_one (ps_ret pe_bl)) pss_nil)))
      (pss_one (ps_ret pe_bl))), ?_⟩
    refine (L2.em1_4 rfl _ _ _ _ ⟨rfl, .lst hA, kit_list_list _, L2.ea rfl ?_⟩)
    refine iteF ?_
    refine (L2.em1_2 rfl a _ ⟨rfl, .inl (SqL.of hA), L2.em1_2 rfl b _ ⟨rfl, .inl (SqL.of hB), rfl, L2.ea rfl ?_⟩⟩)
    rw [decide_eq_true rfl]
    refine iteF ?_
    refine (L2.em2_2 rfl rfl a b ⟨rfl, ⟨_, hA⟩, ⟨_, hB⟩, ?_⟩)
    refine for_zip (xs := xs.map V.int) (ys := xs.map V.int) (fun i σ H2 => ∃ (v2 v3 : Option V), σ = [some (.ref a), some (.ref b), v2, v3] ∧ Same H H2) ⟨none, none, rfl, Same.refl H⟩ (fun i σ H2 _ ⟨_, _, _, sm⟩ => ⟨hA.same sm, hB.same sm⟩) rfl ?_ ?_
    · rintro i x y σ H2 t hx hy ⟨v2, v3, rfl, sm⟩ ht
      rw [hx] at hy
      cases hy
      obtain ⟨z, rfl⟩ : ∃ z, x = V.int z := by
        have := List.mem_of_getElem? hx
        obtain ⟨z, _, e⟩ := List.mem_map.mp this
        exact ⟨z, e.symm⟩
      refine (L2.ex2 t _ ⟨rfl, SqT.of upd_same, rfl, L2.ex2 _ _ ⟨rfl, L2.eb rfl rfl ?_⟩⟩)
      refine (L2.em1_4 rfl _ _ _ _ ⟨rfl, .int _, kit_int_int _, L2.ea rfl ?_⟩)
      refine iteF ?_
      refine (L2.em1_4 rfl _ _ _ _ ⟨rfl, .int _, kit_int_bool _, L2.ea rfl ?_⟩)
      refine iteF ?_
      refine (L2.ea2 rfl rfl ⟨rfl, L2.ea rfl ?_⟩)
      rw [decide_eq_true rfl]
      exact iteF (L2.ex2 _ _ ⟨rfl, sm.trans (Same.new ht)⟩)
    · rintro σ H2 ⟨v2, v3, rfl, sm⟩
      exact k H2 sm
end
end Cn

set_option Elab.async false
set_option linter.all false
namespace Cf
noncomputable def maxL (l : List Nat) : Nat := l.foldl max 0
theorem foldl_max_ge (l : List Nat) : ∀ a, a ≤ l.foldl max a ∧ ∀ z ∈ l, z ≤ l.foldl max a := by
  induction l with
  | nil => intro a; exact ⟨Nat.le_refl _, fun z hz => by cases hz⟩
  | cons x r ih =>
    intro a
    obtain ⟨h1, h2⟩ := ih (max a x)
    rw [List.foldl_cons]
    refine ⟨by omega, fun z hz => ?_⟩
    rcases List.mem_cons.mp hz with rfl | hz
    · omega
    · exact h2 z hz
theorem foldl_max_mem (l : List Nat) : ∀ a, l.foldl max a = a ∨ l.foldl max a ∈ l := by
  induction l with
  | nil => intro a; exact .inl rfl
  | cons x r ih =>
    intro a
    rw [List.foldl_cons]
    rcases ih (max a x) with h | h
    · rw [h]
      by_cases hx : a ≤ x
      · right
        rw [Nat.max_eq_right hx]
        simp
      · left
        exact Nat.max_eq_left (by omega)
    · exact .inr (List.mem_cons_of_mem _ h)
theorem maxL_eq {l : List Nat} {M : Nat} (hm : M ∈ l) (hu : ∀ z ∈ l, z ≤ M) : maxL l = M := by
  have h1 := (foldl_max_ge l 0).2 M hm
  unfold maxL
  rcases foldl_max_mem l 0 with h | h
  · rw [h] at h1 ⊢
    omega
  · have := hu _ h
    omega
noncomputable def grM (l : List (Option Nat)) : Option Nat := if none ∈ l then none else some (maxL (l.map fun o => o.getD 0))
theorem gr_none {l : List (Option Nat)} : grM l = none ↔ none ∈ l := by
  unfold grM
  by_cases h : none ∈ l
  · rw [if_pos h]
    exact ⟨fun _ => h, fun _ => rfl⟩
  · rw [if_neg h]
    exact ⟨fun z => (by cases z), fun z => absurd z h⟩
theorem maxL_mem {l : List Nat} (h : l ≠ []) : maxL l ∈ l := by
  match l, h with
  | a :: r, _ =>
    unfold maxL
    rw [List.foldl_cons, Nat.max_eq_right (Nat.zero_le a)]
    rcases foldl_max_mem r a with h | h
    · rw [h]; simp
    · exact List.mem_cons_of_mem _ h
theorem gr_mem {l : List (Option Nat)} (h : l ≠ []) : grM l ∈ l := by
  by_cases hn : none ∈ l
  · rw [gr_none.mpr hn]
    exact hn
  · unfold grM
    rw [if_neg hn]
    have := maxL_mem (l := l.map fun o => o.getD 0) (by simpa using h)
    obtain ⟨o, ho, e⟩ := List.mem_map.mp this
    cases o with
    | none => exact absurd ho hn
    | some k =>
      rw [← e]
      exact ho
theorem gr_some {l : List (Option Nat)} {M : Nat} (hm : some M ∈ l) (hu : ∀ o ∈ l, ∃ z, o = some z ∧ z ≤ M) : grM l = some M := by
  have hn : none ∉ l := fun h => by
    obtain ⟨z, e, _⟩ := hu _ h
    cases e
  unfold grM
  rw [if_neg hn]
  congr 1
  refine maxL_eq (List.mem_map.mpr ⟨_, hm, rfl⟩) fun z hz => ?_
  obtain ⟨o, ho, rfl⟩ := List.mem_map.mp hz
  obtain ⟨z', rfl, hz'⟩ := hu o ho
  exact hz'
theorem gr_le {l : List (Option Nat)} {M : Nat} (h : grM l = some M) : ∀ o ∈ l, ∃ z, o = some z ∧ z ≤ M := by
  have hn : none ∉ l := fun z => by rw [gr_none.mpr z] at h; cases h
  intro o ho
  cases o with
  | none => exact absurd ho hn
  | some z =>
    refine ⟨z, rfl, ?_⟩
    unfold grM at h
    rw [if_neg hn] at h
    cases h
    exact (foldl_max_ge _ 0).2 z (List.mem_map.mpr ⟨_, ho, rfl⟩)
end Cf

set_option Elab.async false
set_option linter.all false
namespace L2
theorem atI_head {α : Type} (x : α) (xs : List α) : atI (x :: xs) 0 = some x := atI_nat (j := 0) rfl
end L2

set_option Elab.async false
set_option linter.all false
set_option maxRecDepth 100000
namespace Cn
open PySem L2 Cf
noncomputable abbrev s_great : Stmt := top 17
noncomputable abbrev s_behind : Stmt := top 23
noncomputable abbrev s_refuse : Stmt := top 22
noncomputable abbrev s_flight : Stmt := top 21
theorem flat_ovl (l : List (Option Nat)) : (l.map ov).all flatV = true := by
  rw [List.all_map, List.all_eq_true]
  intro o _
  cases o <;> rfl
theorem in_ovs (l : List (Option Nat)) : inV .non (l.map ov) = decide (none ∈ l) := by
  unfold inV
  rw [Bool.eq_iff_iff, List.any_eq_true, decide_eq_true_eq]
  constructor
  · rintro ⟨v, hv, h⟩
    obtain ⟨o, ho, rfl⟩ := List.mem_map.mp hv
    cases o with
    | none => exact ho
    | some k => cases h
  · intro h
    exact ⟨.non, List.mem_map.mpr ⟨none, h, rfl⟩, rfl⟩
section
variable {P : Program} {w : World} {K : PySem.W.Frag} {mg : Str → Option Value} {base : Heap}
noncomputable def spGr : Sp := fun vs H Q _ => ∃ (a : Addr) (l : List (Option Nat)), vs = [.ref a] ∧ H a = some (.lst (l.map ov)) ∧ l ≠ [] ∧ Q (ov (grM l)) H
theorem sc_gr : FnScope ["ranks"] ["ranks"] (defScope s_great) := ⟨rfl, rfl, rfl, by decide +kernel, rfl, by decide +kernel, by decide +kernel⟩
theorem ok_gr {f : Addr} {fd : FuncData} (F : Fun K "greatest_rank" "greatest_rank" s_great f fd) (zm : mg "max" = none) : FnOk P w K mg base CX0 1 f fd ["ranks"] spGr := by
  refine F.ok sc_gr (fun vs H Q E h => ?_) (fun cdv A outer s H vs Q E hr h => ?_)
  · obtain ⟨a, l, rfl, _⟩ := h
    rfl
  · obtain ⟨a, l, rfl, hA, hne, k⟩ := h
    refine ⟨_, pss_one (ps_ret (pe_ifExp (pt_cmpR op_in_seq pe_non (pv 0) (by with_unfolding_all rfl)) pe_non (pe_callB (call_maxL rfl) (by rfl) zm PyProof.Rows.boot_max (pa_cons (pv 0) pa_nil)))), ?_⟩
    refine (L2.em1_2 rfl a _ ⟨rfl, .inl (SqL.of hA), rfl, flat_ovl l, L2.ea rfl ?_⟩)
    rw [show (if false = true then !inV .non (l.map ov) else inV .non (l.map ov)) = inV .non (l.map ov) from rfl, in_ovs]
    refine ite2 (fun h1 => ?_) (fun h1 => ?_)
    · rw [gr_none.mpr (of_decide_eq_true h1)] at k
      exact k
    · have hn : none ∉ l := fun z => h1 (decide_eq_true z)
      have e : l.map ov = (l.map fun o => ((o.getD 0 : Nat) : Int)).map V.int := by
        rw [List.map_map]
        refine List.map_congr_left fun o ho => ?_
        cases o with
        | none => exact absurd ho hn
        | some k => rfl
      rw [e] at hA
      refine (L2.em1_2 rfl a _ ⟨rfl, hA, by simpa using hne, fun M hM hu => ?_⟩)
      obtain ⟨o, ho, rfl⟩ := List.mem_map.mp hM
      cases o with
      | none => exact absurd ho hn
      | some m =>
        have := gr_some ho fun o ho' => by
          cases o with
          | none => exact absurd ho' hn
          | some z =>
            refine ⟨z, rfl, ?_⟩
            have := hu _ (List.mem_map.mpr ⟨_, ho', rfl⟩)
            simpa using this
        rw [this] at k
        exact k
noncomputable def spRb : Sp := fun vs H Q _ => ∃ (l a : Addr) (n : Int) (f : Int → Option Nat) (fl : List Int), vs = [.ref l, .ref a] ∧ RksAt H l n f ∧ IntsAt H a fl ∧ fl ≠ [] ∧ fl.length ≤ 1000 ∧ (∀ p ∈ fl, 0 ≤ p ∧ p < n) ∧ ∀ H', Same H H' → Q (ov (grM (fl.map f))) H'
theorem sc_rb : FnScope ["ranks", "flights"] ["ranks", "flights"] (defScope s_behind) := ⟨rfl, rfl, rfl, by decide +kernel, rfl, by decide +kernel, by decide +kernel⟩
theorem bs_rb : BlkScope (defScope s_behind) ["ranks", "flights"] (cscope (arg 0 (retE (stAt (defBody s_behind) 0)))) ["place"] [("ranks", 0)] := ⟨rfl, rfl, by decide +kernel, by decide +kernel, by decide +kernel, by decide +kernel, by decide +kernel⟩
theorem ok_rb {f fG : Addr} {fd fdG : FuncData} (F : Fun K "rank_behind" "rank_behind" s_behind f fd) (DG : Df K mg "greatest_rank" s_great ["ranks"] fG fdG) (zm : mg "max" = none) : FnOk P w K mg base CX0 2 f fd ["ranks", "flights"] spRb := by
  have GG : FnOk P w K mg base CX0 1 fG fdG ["ranks"] spGr := ok_gr DG.F zm
  refine F.ok sc_rb (fun vs H Q E h => ?_) (fun cdv A outer s H vs Q E hr h => ?_)
  · obtain ⟨l, a, n, f, fl, rfl, _⟩ := h
    rfl
  · obtain ⟨l, a, n, f, fl, rfl, hR, hA, hne, hl, hon, k⟩ := h
    refine ⟨_, pss_one (ps_ret (pe_df DG GG hr (pa_cons (pe_comp bs_rb rfl (pi_list (pv 1)) (fun _ _ _ _ _ => pg_name (i := 0) bs_rb.nd rfl (Or.inl rfl) (Or.inr rfl)) (fun _ _ _ _ _ => pfs_nil)
      (fun _ _ _ _ _ => pe_ix (ix_listK (K := K) rfl) (pv 1) (pv 0) (fun _ _ => rfl))) pa_nil))), ?_⟩
    refine (L2.em1_1 rfl a ⟨rfl, ⟨_, SqL.of hA⟩, ?_⟩)
    refine comp_vals (src := fl) (emb := V.int) (src_list hA) hl (fun p => some (ov (f p))) (fun p hp H' sm C C0 hC h0 => ?_) (fun acc H' ha sm e => ?_)
    · exact ⟨.no (.yes .nil), L2.ea2 rfl rfl ⟨l, _, p, ov (f p), rfl, rfl, SqL.of (sm _ _ hR), atI_rng (hon p hp), hC _ _ rfl (Same.refl _)⟩⟩
    · rw [fm_some] at e
      exact ⟨acc, fl.map f, rfl, by rw [e, List.map_map]; rfl, by simpa using hne, k H' sm⟩
set_option genInjectivity false in
set_option genSizeOf false in
structure PlT (K : PySem.W.Frag) (mg : Str → Option Value) where
  rt : RkT K mg
  fG : Addr
  fdG : FuncData
  gr : Df K mg "greatest_rank" s_great ["ranks"] fG fdG
  fB : Addr
  fdB : FuncData
  rb : Df K mg "rank_behind" s_behind ["ranks", "flights"] fB fdB
  fF : Addr
  fdF : FuncData
  rf : Df K mg "refuse_caught" s_refuse ["floor", "chasers", "runner"] fF fdF
  fS : Addr
  fdS : FuncData
  fs : Df K mg "flight_step" s_flight ["floor", "chasers", "runner"] fS fdS
  zmax : mg "max" = none
noncomputable def spRf (C : Addr) : Sp := fun vs H Q _ => ∃ (p a : Addr) (n : Int) (ds : List Door) (c : List Int) (r : Int), vs = [.ref p, .ref a, .int r] ∧ FloorAt C H p n ds ∧ IntsAt H a c ∧ OnF n c r ∧ c.contains r = false ∧ ∀ H', Same H H' → Q .non H'
theorem sc_rf : FnScope ["floor", "chasers", "runner"] ["floor", "chasers", "runner"] (defScope s_refuse) := ⟨rfl, rfl, rfl, by decide +kernel, rfl, by decide +kernel, by decide +kernel⟩
theorem ok_rf (T : PlT K mg) : FnOk P w K mg base CX0 4 T.fF T.fdF ["floor", "chasers", "runner"] (spRf T.rt.fl.C) := by
  have GC : FnOk P w K mg base CX0 3 T.rt.fC T.rt.fdC ["floor", "chasers", "runner"] (spCt T.rt.fl.C) := ok_ct T.rt
  refine T.rf.F.ok sc_rf (fun vs H Q E h => ?_) (fun cdv A outer s H vs Q E hr h => ?_)
  · obtain ⟨p, a, n, ds, c, r, rfl, _⟩ := h
    rfl
  · obtain ⟨p, a, n, ds, c, r, rfl, hF, hA, on, hno, k⟩ := h
    refine ⟨_, pss_one (ps_if (pt_val (pe_df T.rt.ct GC hr (pa_cons (pv 0) (pa_cons (pv 1) (pa_cons (pv 2) pa_nil))))) pss_never pss_nil), ?_⟩
    refine (L2.em3_6 rfl rfl rfl p a n ds c r ⟨rfl, hF, hA, on, fun H1 s1 => (L2.ea rfl ?_)⟩)
    rw [hno]
    exact iteF (k H1 s1)
noncomputable def FlyTo (n : Int) (ds : List Door) (c : List Int) (r q : Int) : Prop := ∃ f : Int → Option Nat, (∀ r', 0 ≤ r' → r' < n → IsRank (Cf.nearP n ds) c r' (f r')) ∧ ((Cf.nearP n ds r).filter fun p => decide (f p = grM ((Cf.nearP n ds r).map f))).head? = some q
noncomputable def spFs (C : Addr) : Sp := fun vs H Q _ => ∃ (p a : Addr) (n : Int) (ds : List Door) (c : List Int) (r : Int), vs = [.ref p, .ref a, .int r] ∧ FloorAt C H p n ds ∧ (1 ≤ n ∧ n ≤ 6) ∧ IntsAt H a c ∧ OnF n c r ∧ c.contains r = false ∧
  ∀ (H' : Hp) (q : Int), Same H H' → FlyTo n ds c r q → Q (.int q) H'
noncomputable abbrev nFs : List Str := ["floor", "chasers", "runner", "ranks", "flights", "greatest", "steps"]
theorem sc_fs : FnScope nFs ["floor", "chasers", "runner"] (defScope s_flight) := ⟨rfl, rfl, rfl, by decide +kernel, rfl, by decide +kernel, by decide +kernel⟩
theorem bs_fs : BlkScope (defScope s_flight) nFs (cscope (asgE (stAt (defBody s_flight) 4))) ["place"] [("ranks", 3), ("greatest", 5)] := ⟨rfl, rfl, by decide +kernel, by decide +kernel, by decide +kernel, by decide +kernel, by decide +kernel⟩
theorem dec_ov (a b : Option Nat) : decide (ov a = ov b) = decide (a = b) := by
  cases a <;> cases b <;> simp [ov] <;> omega
theorem ov_same (a b : Option Nat) : scal (ov a) (ov b) = true := by
  cases a <;> cases b <;> rfl
theorem ok_fs (T : PlT K mg) : FnOk P w K mg base CX0 5 T.fS T.fdS ["floor", "chasers", "runner"] (spFs T.rt.fl.C) := by
  have GF : FnOk P w K mg base CX0 4 T.fF T.fdF ["floor", "chasers", "runner"] (spRf T.rt.fl.C) := ok_rf T
  have GT : FnOk P w K mg base CX0 4 T.rt.fT T.rt.fdT ["floor", "count"] (spTab T.rt.fl.C) := ok_tb T.rt
  have GE : FnOk P w K mg base CX0 3 T.rt.fl.fE T.rt.fl.fdE ["self", "place"] (spNr T.rt.fl.C) := ok_nr T.rt.fl
  have GB : FnOk P w K mg base CX0 2 T.fB T.fdB ["ranks", "flights"] spRb := ok_rb T.rb.F T.gr T.zmax
  refine T.fs.F.ok sc_fs (fun vs H Q E h => ?_) (fun cdv A outer s H vs Q E hr h => ?_)
  · obtain ⟨p, a, n, ds, c, r, rfl, _⟩ := h
    rfl
  · obtain ⟨p, a, n, ds, c, r, rfl, hF, hn, hA, on, hno, k⟩ := h
    have hr3 := hr.mono (show 3 ≤ 4 by decide)
    have hr2 := hr.mono (show 2 ≤ 4 by decide)
    have hu := hu_of hr
    refine ⟨_, pss_cons (ps_expr (pe_df T.rf GF hr (pa_cons (pv 0) (pa_cons (pv 1) (pa_cons (pv 2) pa_nil)))))
      (pss_cons (ps_set (i := 3) sc_fs.nd rfl (Or.inr rfl) (pe_dget hu (pe_df T.rt.tab GT hr (pa_cons (pv 0) (pa_cons (pe_callB call_len_seq (by rfl) T.rt.fl.zlen PySem.boot_len (pa_cons (pv 1) pa_nil)) pa_nil))) (pe_callTy call_tuple_of (by rfl) T.rt.tb.ztuple PyProof.Rows.boot_tuple (pa_cons (pv 1) pa_nil)) (by intro _ _; rfl)))
      (pss_cons (ps_set (i := 4) sc_fs.nd rfl (Or.inl rfl) (pe_meth (pv 0) T.rt.fl.cl T.rt.fl.mE GE hr3 T.rt.fl.bE .nil pass0 (pa_cons (pv 2) pa_nil)))
      (pss_cons (ps_set (i := 5) sc_fs.nd rfl (Or.inr rfl) (pe_df T.rb GB hr2 (pa_cons (pv 3) (pa_cons (pv 4) pa_nil))))
      (pss_cons (ps_setComp bs_fs rfl sc_fs.nd (i := 6) rfl rfl rfl (pi_list (pv 4)) (fun _ _ _ _ _ => pg_name (i := 0) bs_fs.nd rfl (Or.inl rfl) (Or.inr rfl))
        (fun _ _ _ _ _ => pfs_one (pt_cmpR op_eq (pe_ix (ix_listK (K := K) rfl) (pv 1) (pv 0) (fun _ _ => rfl)) (pv 2) (nomark _))) (fun _ _ _ _ _ => pv 0))
      (pss_one (ps_ret (pe_ix ix_list (pv 6) pe_int (fun _ _ => rfl)))))))), ?_⟩
    obtain ⟨hn1, hn6⟩ := hn
    refine (L2.em3_6 rfl rfl rfl p a n ds c r ⟨rfl, hF, hA, on, hno, fun H1 s1 => ?_⟩)
    have hA1 := hA.same s1
    have hF1 := hF.same s1
    have hlen : (c.map V.int).length = c.length := List.length_map ..
    refine (L2.em2_2 rfl rfl a _ ⟨rfl, .inl (SqL.of hA1), p, n, ds, c.length, by rw [hlen]; rfl, hF1, ⟨hn1, hn6⟩, on.1.2, fun b H2 T' hb s2 hT hR => ?_⟩)
    have hA2 := hA1.same s2
    have hcm : c ∈ csM n c.length := mem_csM.mpr ⟨rfl, on.2.1⟩
    refine (L2.em1_2 rfl a _ ⟨rfl, .inl ⟨SqL.of hA2, fun t ht => ?_⟩⟩)
    obtain ⟨kvs, hk1, hk2⟩ := hT
    obtain ⟨v, hv, l, rfl, hl⟩ := hk2.get hcm
    have st := Same.new ht (o := .tup (c.map V.int))
    have tk : TupAt (upd H2 t (.tup (c.map V.int))) t c := upd_same
    refine (L2.ex2 b _ ⟨rfl, .inr ⟨kvs, kc c, t, .inl (st _ _ hk1), rfl, tk.key, hv.symm⟩, ?_⟩)
    have hl3 : RksAt (upd H2 t (.tup (c.map V.int))) l n (T' c) := st _ _ hl
    have s3 := s1.trans (s2.trans st)
    generalize upd H2 t (.tup (c.map V.int)) = H3 at hl3 s3 ⊢
    have hF3 := hF.same s3
    obtain ⟨dx, d, hF31, hFD⟩ := id hF3
    refine (L2.em1_3 rfl p dx _ ⟨rfl, hF31, fflds_no _ _ (by decide +kernel) (by decide +kernel), L2.em1_4 rfl p n ds r ⟨rfl, hF3, on.2.2, hn6, fun fl H4 hfl s4 hI => ?_⟩⟩)
    have ok : NearOk n (Cf.nearP n ds) := near_ok (by omega) hn6
    have hne : Cf.nearP n ds r ≠ [] := fun z => by
      have : r ∈ Cf.nearP n ds r := mem_near.mpr ⟨on.2.2, near_self ds r⟩
      rw [z] at this
      cases this
    have hon : ∀ q ∈ Cf.nearP n ds r, 0 ≤ q ∧ q < n := fun q hq => ok.go r q on.2.2.1 on.2.2.2 hq
    have hlen6 := ok.len r
    have hl4 := hl3.q s4.q
    refine (L2.em2_5 rfl rfl l fl n (T' c) _ ⟨rfl, hl4, hI, hne, by omega, hon, fun H5 s5 => ?_⟩)
    have hl5 := hl4.q s5.q
    have hI5 := hI.same s5
    refine (L2.em1_1 rfl fl ⟨rfl, ⟨_, SqL.of hI5⟩, ?_⟩)
    refine comp_vals (src := Cf.nearP n ds r) (emb := V.int) (src_list hI5) (by omega) (fun q => if decide (T' c q = grM ((Cf.nearP n ds r).map (T' c))) = true then some (.int q) else none) (fun q hq H' sm C C0 hC h0 => ?_) (fun acc H' ha sm e => ?_)
    · refine ⟨.no (.yes (.yes .nil)), L2.em2_4 rfl rfl l _ q (ov (T' c q)) ⟨rfl, rfl, SqL.of (sm _ _ hl5), atI_rng (hon q hq), L2.ea rfl ⟨ov_same _ _, L2.ea rfl ?_⟩⟩⟩
      rw [dec_ov]
      refine ite2 (fun h1 => ?_) (fun h1 => ?_)
      · exact (L2.ea rfl (hC _ _ (if_pos h1) (Same.refl _)))
      · exact h0 _ (if_neg h1) (Same.refl _)
    · rw [fm_filter] at e
      have hgm := gr_mem (l := (Cf.nearP n ds r).map (T' c)) (by simpa using hne)
      obtain ⟨q0, hq0, eq0⟩ := List.mem_map.mp hgm
      have hin : q0 ∈ (Cf.nearP n ds r).filter fun q => decide (T' c q = grM ((Cf.nearP n ds r).map (T' c))) := List.mem_filter.mpr ⟨hq0, decide_eq_true eq0⟩
      cases ef : (Cf.nearP n ds r).filter fun q => decide (T' c q = grM ((Cf.nearP n ds r).map (T' c))) with
      | nil =>
        rw [ef] at hin
        cases hin
      | cons q qs =>
        rw [ef] at e
        refine (L2.em1_4 rfl acc _ 0 (.int q) ⟨rfl, rfl, SqL.of e, atI_head _ _, ?_⟩)
        refine k H' q (s3.trans (s4.trans (s5.trans sm))) ⟨T' c, fun r' h0 h1 => hR c hcm r' h0 h1, ?_⟩
        rw [ef]
        rfl
end
end Cn

set_option Elab.async false
set_option linter.all false
set_option maxRecDepth 100000
namespace L2
open PySem PySem.Spec PyProof.Rows
noncomputable def TrV (h base : Heap) (e : Addr) (cls fl : Value) : Prop :=
  ∃ oe vs T oT ts, h.get? e = some oe ∧ (oe.cls = cls ∧ oe.dict = none) ∧ oe.data = .fields vs ∧ vs[1]? = some (.ref T) ∧ vs[2]? = some .none ∧ base.get? T = none ∧ T ≠ e ∧ h.get? T = some oT ∧ oT.data = .fields ts ∧ ts[3]? = some fl
noncomputable def FlyV (base : Heap) (l : List Env) (e : Addr) (cls fl : Value) (h : Heap) : Prop := base.StaysIn h ∧ base.get? e = none ∧ h.FunFrames base l ∧ TrV h base e cls fl
section
variable {M : Model} {A : Around} {E : Value → Shared → Prop} {s : Shared}
theorem entryV {base : Heap} {env : Env} {outer : List Env} {L e : Addr} {oe : Obj} {vs : Array Value} {head : Value} {hadNext : Bool} {Q : Unit → Shared → Prop}
    (hfr : A.frames = some (env :: outer)) (hl : s.heap.FunFrames base (env :: outer)) (hf : env.frame = some L)
    (he : s.heap.get? e = some oe) (hkb : base.StaysIn s.heap) (hen : base.get? e = none) (hdn : oe.dict = none) (hd : oe.data = .fields vs) (h1 : 1 < vs.size) (h2 : vs[2]? = some .none)
    (h : ∀ h', FlyV base (env :: outer) e oe.cls (rawInt L) h' → s.heap.UpToSlots h' → Q () { s with heap := h' }) :
    wpAny M A (do let a ← frameOf env; let pl ← entryPlaceOf L hadNext; let b ← EntryCells.newEntry head a .none (rawInt L) .none pl; setField (.ref e) 1 b) Q E s := by
  have hene : e ∉ (env :: outer).filterMap (·.frame) := fun hm => by
    obtain ⟨_, o, ho, hnf⟩ := hl.mem hm
    rw [he] at ho; cases ho; exact hnf vs hd
  refine wpAny_bind (wpAny_frameOf_fun hfr hl hf fun h₁ hs₁ => wpAny_bind (wpAny_entryPlaceOf fun pl hpl => ?_))
  unfold EntryCells.newEntry newFields
  refine wpAny_bind (wpAny_newObj_type ?_ (hpl.sizeOk5 _ _ _ _ _))
  generalize hob : ({ cls := .type "traceback", dict := none, data := .fields ([head, .ref L, .none, rawInt L, .none] ++ (if pl.isEmpty then List.replicate 6 Value.none else pl)).toArray } : Obj) = ob
  have he₁ : h₁.get? e = some oe := (hs₁.2.1 e hene).trans he
  have he₂ := Heap.get?_push_of_some (h := h₁) ob he₁
  refine wpAny_setField he₂ hd h1 (h _ ⟨?_, hen, ?_, ?_⟩ ?_)
  all_goals
    have hTe : h₁.objs.size ≠ e := Nat.ne_of_gt (Heap.lt_size he₁)
    have keep : ∀ b o, b ≠ e → h₁.get? b = some o → ((h₁.push ob).update e (Obj.mapFields (·.setIfInBounds 1 (Value.ref h₁.objs.size)))).get? b = some o := fun b o hbe hb => by
      rw [Heap.get?_update_other _ _ (Ne.symm hbe)]
      exact Heap.get?_push_of_some _ hb
    have nrec : ∀ b o, s.heap.get? b = some o → (∀ vs, o.data ≠ .fields vs) → b ≠ e := fun b o hb hnf q => by
      rw [q, he] at hb; cases hb; exact hnf vs hd
  · intro b o hbo
    refine keep b o (fun q => by rw [q, hen] at hbo; cases hbo) ?_
    exact (hs₁.2.1 b fun hm => by rw [(hl.mem hm).1] at hbo; cases hbo).trans (hkb b o hbo)
  · refine hl.of_keeps fun b o hb hnf => ?_
    obtain ⟨sl, hs⟩ := hs₁.2.2 b o hb
    exact ⟨_, keep b _ (nrec b o hb hnf) hs, rfl⟩
  · have hd₃ := Obj.data_mapFields hd (·.setIfInBounds 1 (Value.ref h₁.objs.size))
    have kb₁ : base.StaysIn h₁ := fun b o hbo => (hs₁.2.1 b fun hm => by rw [(hl.mem hm).1] at hbo; cases hbo).trans (hkb b o hbo)
    refine ⟨_, _, h₁.objs.size, ob, _, Heap.get?_update_self _ he₂ (Obj.isFreed_of_fields hd₃), ⟨Obj.cls_mapFields _ _, by unfold Obj.mapFields; split <;> exact hdn⟩, hd₃, by simp [h1], ?_, kb₁.fresh, hTe, ?_, by rw [← hob], ?_⟩
    · rw [Array.getElem?_setIfInBounds_ne (by decide)]
      exact h2
    · rw [Heap.get?_update_other _ _ (Ne.symm hTe)]
      exact Heap.get?_push_size h₁ (by rw [← hob]; rfl)
    · rcases hpl with rfl | ⟨_, _, _, _, _, _, _, rfl⟩ <;> simp
  · intro b o hb hnf
    obtain ⟨sl, hs⟩ := hs₁.2.2 b o hb
    exact ⟨sl, keep b _ (nrec b o hb hnf) hs⟩
theorem flightV {base : Heap} {l : List Env} {e : Addr} {cls fl : Value} {Q : Unit → Shared → Prop} (hh : FlyV base l e cls fl s.heap)
    (hQ : ∀ h', FlyV base l e cls .none h' → s.heap.UpToSlots h' → Q () { s with heap := h' }) : wpAny M A (setFlight (.ref e) none) Q E s := by
  obtain ⟨f1, f2, f3, oe, vs, T, oT, ts, he, hc, hd, h1, h2, hb, hT, ho, hdT, h3⟩ := hh
  unfold setFlight
  refine wpAny_bind (wpAny_field he hd h1 ?_)
  rw [if_pos (show (Value.ref T != Value.none) = true from by simp)]
  refine wpAny_setField ho hdT (Array.getElem?_eq_some_iff.mp h3).1 (hQ _ ⟨?_, f2, ?_, ?_⟩ ?_)
  all_goals
    have other : ∀ b, b ≠ T → (s.heap.update T (Obj.mapFields (·.setIfInBounds 3 ((none : Option Addr).elim Value.none fun f => rawInt f)))).get? b = s.heap.get? b := fun b hb => Heap.get?_update_other _ _ (Ne.symm hb)
    have nrec : ∀ b o, s.heap.get? b = some o → (∀ vs, o.data ≠ .fields vs) → b ≠ T := fun b o hb hnf q => by
      rw [q, ho] at hb; cases hb; exact hnf ts hdT
  · intro b o hbo
    exact (other b fun q => by rw [q, hb] at hbo; cases hbo).trans (f1 b o hbo)
  · exact f3.of_keeps fun b o hb hnf => ⟨o, (other b (nrec b o hb hnf)).trans hb, rfl⟩
  · have hd₃ := Obj.data_mapFields hdT (·.setIfInBounds 3 ((none : Option Addr).elim Value.none fun f => rawInt f))
    exact ⟨oe, vs, T, _, _, (other e (Ne.symm hT)).trans he, hc, hd, h1, h2, hb, hT, Heap.get?_update_self _ ho (Obj.isFreed_of_fields hd₃), hd₃, by simp [(Array.getElem?_eq_some_iff.mp h3).1]⟩
  · intro b o hb hnf
    exact ⟨o.slots, (other b (nrec b o hb hnf)).trans hb⟩
theorem note_first {base h : Heap} {env : Env} {outer : List Env} {L e : Addr} {cls : Value} {args : List Value} {Q : Unit → Shared → Prop}
    (hfr : A.frames = some (env :: outer)) (hf : env.frame = some L) (hkb : base.StaysIn h) (hl : h.FunFrames base (env :: outer)) (hx : Heap.MadeExcOf h s.heap e cls args)
    (hQ : ∀ h', FlyV base (env :: outer) e cls (rawInt L) h' → s.heap.UpToSlots h' → Q () { s with heap := h' }) : wpAny M A (noteFrame (.ref e) env) Q E s := by
  obtain ⟨t, he, htn, ht⟩ := hx.there
  have fresh : base.get? e = none := by
    cases hq : base.get? e with
    | none => rfl
    | some o' => have := hkb e o' hq; rw [hx.new] at this; cases this
  unfold noteFrame
  simp only [hf]
  refine wpAny_bind (wpAny_field he rfl (x := .none) rfl ?_)
  rw [if_neg (by decide)]
  exact entryV hfr (hl.of_keeps fun b o hb _ => ⟨o, hx.keeps b o hb, rfl⟩) hf he (fun b o hb => hx.keeps b o (hkb b o hb)) fresh rfl rfl (by simp) rfl hQ
theorem note_next {base : Heap} {env : Env} {outer : List Env} {L e : Addr} {cls : Value} {Q : Unit → Shared → Prop}
    (hfr : A.frames = some (env :: outer)) (hf : env.frame = some L) (hfl : FlyV base (env :: outer) e cls .none s.heap)
    (hQ : ∀ h', FlyV base (env :: outer) e cls (rawInt L) h' → s.heap.UpToSlots h' → Q () { s with heap := h' }) : wpAny M A (noteFrame (.ref e) env) Q E s := by
  obtain ⟨f1, f2, f3, oe, vs, T, oT, ts, he, ⟨rfl, hdn⟩, hd, h1, h2, hb, hT, ho, hdT, h3⟩ := hfl
  unfold noteFrame
  simp only [hf]
  refine wpAny_bind (wpAny_field he hd h1 ?_)
  rw [if_pos (show (Value.ref T != Value.none) = true from by simp)]
  refine wpAny_bind (wpAny_field ho hdT h3 ?_)
  rw [if_neg (show ¬ ((Value.none == rawInt L) = true) from by simp [rawInt])]
  refine wpAny_bind (wpAny_setField ho hdT (Array.getElem?_eq_some_iff.mp h3).1 ?_)
  have other : ∀ b, b ≠ T → (s.heap.update T (Obj.mapFields (·.setIfInBounds 3 Value.none))).get? b = s.heap.get? b := fun b hb => Heap.get?_update_other _ _ (Ne.symm hb)
  have nrec : ∀ b o, s.heap.get? b = some o → (∀ vs, o.data ≠ .fields vs) → b ≠ T := fun b o hb hnf q => by
    rw [q, ho] at hb; cases hb; exact hnf ts hdT
  refine entryV hfr (f3.of_keeps fun b o hb hnf => ⟨o, (other b (nrec b o hb hnf)).trans hb, rfl⟩) hf ((other e (Ne.symm hT)).trans he) (fun b o hbo => (other b fun q => by rw [q, hb] at hbo; cases hbo).trans (f1 b o hbo)) f2 hdn hd (Array.getElem?_eq_some_iff.mp h1).1 h2
    fun h' x1 x2 => hQ h' x1 fun b o hb hnf => x2 b o ((other b (nrec b o hb hnf)).trans hb) hnf
theorem FlyV.tail {base : Heap} {env : Env} {outer : List Env} {e : Addr} {cls fl : Value} {h : Heap} (x : FlyV base (env :: outer) e cls fl h) : FlyV base outer e cls fl h := let ⟨a, b, ⟨_, _, c⟩, d⟩ := x; ⟨a, b, c, d⟩
theorem leave_first {base h : Heap} {env : Env} {outer : List Env} {L e : Addr} {cls : Value} {args : List Value} {Q : Unit → Shared → Prop}
    (hfr : A.frames = some (env :: outer)) (hf : env.frame = some L) (hkb : base.StaysIn h) (hl : h.FunFrames base (env :: outer)) (hx : Heap.MadeExcOf h s.heap e cls args)
    (hQ : ∀ h', FlyV base outer e cls .none h' → s.heap.UpToSlots h' → Q () { s with heap := h' }) : wpAny M A (leaving env (.ref e)) Q E s := by
  unfold leaving
  exact wpAny_bind (note_first hfr hf hkb hl hx fun h1 x1 x2 => flightV (s := { s with heap := h1 }) x1 fun h2 y1 y2 => hQ h2 y1.tail (x2.trans y2))
theorem leave_next {base : Heap} {env : Env} {outer : List Env} {L e : Addr} {cls : Value} {Q : Unit → Shared → Prop}
    (hfr : A.frames = some (env :: outer)) (hf : env.frame = some L) (hfl : FlyV base (env :: outer) e cls .none s.heap)
    (hQ : ∀ h', FlyV base outer e cls .none h' → s.heap.UpToSlots h' → Q () { s with heap := h' }) : wpAny M A (leaving env (.ref e)) Q E s := by
  unfold leaving
  exact wpAny_bind (note_next hfr hf hfl fun h1 x1 x2 => flightV (s := { s with heap := h1 }) x1 fun h2 y1 y2 => hQ h2 y1.tail (x2.trans y2))
end
end L2

set_option Elab.async false
set_option linter.all false
set_option maxRecDepth 100000
namespace L2
open PySem PySem.Spec PyProof.Rows
noncomputable def CX1 (P : Program) (w : World) : CXT := fun outer H s E e s' => ∃ (x C : Addr) (B : Heap) (H' : Hp), e = .ref x ∧ s'.os = s.os ∧ AllBare s'.gens ∧ Un (frs outer) [] H H' s.heap s'.heap ∧ HOk P w H' s'.heap ∧ FlyV B outer x (.ref C) .none s'.heap ∧
  (∀ b u o, H' b = some u → s'.heap.get? b = some o → B.get? b = some o) ∧ (∀ b o, s.heap.get? b = some o → H b = none → b ∉ frs outer → B.get? b = some o) ∧ (∀ b o, s.heap.get? b = some o → b ∉ frs outer → ∃ o', B.get? b = some o') ∧ E (.ref C) none H'
structure Moved (B h h' : Heap) : Prop where
  stay : B.StaysIn h'
  up : h.UpToSlots h'
section
variable {P : Program} {w : World} {H : Hp} {B h h' : Heap}
theorem HOk.moved (ok : HOk P w H h) (hB : ∀ b u o, H b = some u → h.get? b = some o → B.get? b = some o) (m : Moved B h h') : HOk P w H h' := fun b u q =>
  (ok b u q).stay (fun c v hc e => by
    rcases hc with rfl | hc
    · exact m.stay c v (hB c u v q e)
    · exact m.stay c v (hB c _ v hc e)) (fun _ z => z) fun _ _ z => z
theorem tracked_moved (ok : HOk P w H h) (hB : ∀ b u o, H b = some u → h.get? b = some o → B.get? b = some o) (m : Moved B h h') : ∀ b u o, H b = some u → h'.get? b = some o → B.get? b = some o := fun b u o q e => by
  obtain ⟨ob, e'⟩ := (ok b u q).there
  have hb := hB b u ob q e'
  rw [m.stay b ob hb] at e
  cases e
  exact hb
end
section
variable {P : Program} {w : World} {K : PySem.W.Frag} {mg : Str → Option Value} {base : Heap} {N : List Str} {qual : Str} {scope : Scope} {f : Addr} {cd : Value} {A : Around} {outer : List Env} {s₀ : Shared} {H₀ : Hp} {E : XK}
theorem pass1 : Passes (CX1 P w) (cxOf (CX1 P w) P w K mg base N qual scope f cd A outer s₀ H₀ E) E := by
  intro pins σ H s e s' I hx
  obtain ⟨x, C, B, H', rfl, hos, hbare, un, hok, fly, tr, old, ex, hE⟩ := hx
  show wpAny (model P w) (A.deeper (envOfC qual scope s₀.heap.objs.size f cd)) (leaving (envOfC qual scope s₀.heap.objs.size f cd) (.ref x)) _ _ s'
  have hfr : (A.deeper (envOfC qual scope s₀.heap.objs.size f cd)).frames = some (envOfC qual scope s₀.heap.objs.size f cd :: outer) := I.ok.frames
  refine leave_next hfr rfl fly fun h'' fly' up => ?_
  have m : Moved B s'.heap h'' := ⟨fly'.1, up⟩
  have nl : ∀ b o, s₀.heap.get? b = some o → b ≠ s₀.heap.objs.size := fun b o q z => absurd (Heap.lt_size q) (by rw [z]; exact Nat.lt_irrefl _)
  have ns : ∀ b o, s₀.heap.get? b = some o → b ∉ frs outer → b ∉ frs (envOfC qual scope s₀.heap.objs.size f cd :: outer) := fun b o q hb z => by
    rcases List.mem_cons.mp (I.stkSub b z) with z | z
    · exact nl b o q z
    · exact hb z
  have base := I.base
  have sub : ∀ b, b ∈ frs outer → b ∈ frs (envOfC qual scope s₀.heap.objs.size f cd :: outer) := fun b hb => by unfold frs at hb ⊢; rw [List.filterMap_cons]; exact List.mem_cons_of_mem _ hb
  refine ⟨x, C, B, H', rfl, hos.trans I.os, hbare, ⟨fun b o q n hb _ => ?_, fun b o q n hb _ => ?_, fun b o q n _ => ?_, fun b o q _ => ?_, fun b xs q => un.tups b xs (base.tups b xs q), fun b o u q => un.frzs b o u (base.frzs b o u q), fun b ps q => ?_⟩, hok.moved tr m, fly', tracked_moved hok tr m, fun b o q n hb => ?_, fun b o q hb => ?_, hE⟩
  · exact m.stay b o (old b o (base.keep b o q n hb (by simp [cxOf])) (base.free b o q n (by simp [cxOf])) (ns b o q hb))
  · obtain ⟨sl, e1⟩ := base.slot b o q n hb (by simp [cxOf])
    obtain ⟨sl2, e2⟩ := un.slot b _ e1 (base.free b o q n (by simp [cxOf])) (sub b hb) (by simp)
    obtain ⟨_, o', ho', hnf⟩ := I.ok.funs.mem hb
    have : o' = o := Option.some.inj (ho'.symm.trans q)
    subst this
    obtain ⟨sl3, e3⟩ := up b _ e2 hnf
    exact ⟨sl3, e3⟩
  · obtain ⟨o', e1⟩ := base.there b o q (by simp [cxOf])
    exact un.free b o' e1 (base.free b o q n (by simp [cxOf])) (by simp)
  · by_cases n : H₀ b = none
    · by_cases hb : b ∈ frs outer
      · obtain ⟨sl, e1⟩ := base.slot b o q n hb (by simp [cxOf])
        obtain ⟨sl2, e2⟩ := un.slot b _ e1 (base.free b o q n (by simp [cxOf])) (sub b hb) (by simp)
        obtain ⟨_, o', ho', hnf⟩ := I.ok.funs.mem hb
        have : o' = o := Option.some.inj (ho'.symm.trans q)
        subst this
        obtain ⟨sl3, e3⟩ := up b _ e2 hnf
        exact ⟨_, e3⟩
      · exact ⟨_, m.stay b o (old b o (base.keep b o q n hb (by simp [cxOf])) (base.free b o q n (by simp [cxOf])) (ns b o q hb))⟩
    · have hb : b ∉ frs outer := fun z => n (I.ok.frf b z)
      obtain ⟨o1, e1⟩ := base.there b o q (by simp [cxOf])
      obtain ⟨o2, e2⟩ := ex b o1 e1 (ns b o q hb)
      exact ⟨_, m.stay b o2 e2⟩
  · obtain ⟨m1, e1⟩ := base.tbls b ps q
    obtain ⟨m2, e2⟩ := un.tbls b _ e1
    exact ⟨m1 ++ m2, by rw [e2, Array.append_assoc]⟩
  · exact old b o (base.keep b o q n hb (by simp [cxOf])) (base.free b o q n (by simp [cxOf])) (ns b o q hb)
  · obtain ⟨o1, e1⟩ := base.there b o q (by simp [cxOf])
    exact ex b o1 e1 (ns b o q hb)
theorem leave1 {pins : List (Addr × Obj)} {σ : St} {H : Hp} {s : Shared} {h' : Heap} {x C : Addr} {vs : List Value} (I : Inv (cxOf (CX1 P w) P w K mg base N qual scope f cd A outer s₀ H₀ E) pins σ H s) (hx : Heap.MadeExcOf s.heap h' x (.ref C) vs) (hE : E (.ref C) none H) :
    (cxOf (CX1 P w) P w K mg base N qual scope f cd A outer s₀ H₀ E).xe (.ref x) { s with heap := h' } := by
  show wpAny (model P w) (A.deeper (envOfC qual scope s₀.heap.objs.size f cd)) (leaving (envOfC qual scope s₀.heap.objs.size f cd) (.ref x)) _ _ { s with heap := h' }
  have hfr : (A.deeper (envOfC qual scope s₀.heap.objs.size f cd)).frames = some (envOfC qual scope s₀.heap.objs.size f cd :: outer) := I.ok.frames
  have stk : s.heap.FunFrames base (envOfC qual scope s₀.heap.objs.size f cd :: outer) := I.stack
  have hin : ∀ env ∈ (envOfC qual scope s₀.heap.objs.size f cd :: outer), ∀ a, env.frame = some a → a ∈ frs (envOfC qual scope s₀.heap.objs.size f cd :: outer) := fun env he a ha => by unfold frs; exact List.mem_filterMap.mpr ⟨env, he, ha⟩
  refine leave_first (base := PySem.W.hideAll s.heap (frs (envOfC qual scope s₀.heap.objs.size f cd :: outer))) hfr rfl (fun b o q => PySem.W.of_hideAll _ q) (PySem.W.funFrames_hide stk hin) hx fun h'' fly up => ?_
  have up2 : s.heap.UpToSlots h'' := (Heap.UpToSlots.of_keeps hx.keeps).trans up
  have m : Moved (PySem.W.hideAll s.heap (frs (envOfC qual scope s₀.heap.objs.size f cd :: outer))) s.heap h'' := ⟨fly.1, up2⟩
  have tr : ∀ b u o, H b = some u → s.heap.get? b = some o → (PySem.W.hideAll s.heap (frs (envOfC qual scope s₀.heap.objs.size f cd :: outer))).get? b = some o := fun b u o q e =>
    PySem.W.hideAll_get _ e fun z => by have := I.stkFree b z; rw [q] at this; cases this
  have nl : ∀ b o, s₀.heap.get? b = some o → b ≠ s₀.heap.objs.size := fun b o q z => absurd (Heap.lt_size q) (by rw [z]; exact Nat.lt_irrefl _)
  have ns : ∀ b o, s₀.heap.get? b = some o → b ∉ frs outer → b ∉ frs (envOfC qual scope s₀.heap.objs.size f cd :: outer) := fun b o q hb z => by
    rcases List.mem_cons.mp (I.stkSub b z) with z | z
    · exact nl b o q z
    · exact hb z
  have base := I.base
  have old : ∀ b o, s₀.heap.get? b = some o → H₀ b = none → b ∉ frs outer → (PySem.W.hideAll s.heap (frs (envOfC qual scope s₀.heap.objs.size f cd :: outer))).get? b = some o := fun b o q n hb =>
    PySem.W.hideAll_get _ (base.keep b o q n hb (by simp [cxOf])) (ns b o q hb)
  have ex : ∀ b o, s₀.heap.get? b = some o → b ∉ frs outer → ∃ o', (PySem.W.hideAll s.heap (frs (envOfC qual scope s₀.heap.objs.size f cd :: outer))).get? b = some o' := fun b o q hb => by
    obtain ⟨o1, e1⟩ := base.there b o q (by simp [cxOf])
    exact ⟨o1, PySem.W.hideAll_get _ e1 (ns b o q hb)⟩
  have slot : ∀ b o, s₀.heap.get? b = some o → H₀ b = none → b ∈ frs outer → ∃ sl, h''.get? b = some { o with slots := sl } := fun b o q n hb => by
    obtain ⟨sl, e1⟩ := base.slot b o q n hb (by simp [cxOf])
    obtain ⟨_, o', ho', hnf⟩ := I.ok.funs.mem hb
    have : o' = o := Option.some.inj (ho'.symm.trans q)
    subst this
    obtain ⟨sl3, e3⟩ := up2 b _ e1 hnf
    exact ⟨sl3, e3⟩
  refine ⟨x, C, _, H, rfl, I.os, I.bare, ⟨fun b o q n hb _ => m.stay b o (old b o q n hb), fun b o q n hb _ => slot b o q n hb, fun b o q n _ => base.free b o q n (by simp [cxOf]), fun b o q _ => ?_, base.tups, base.frzs, base.tbls⟩, HOk.moved I.hok tr m, fly, tracked_moved I.hok tr m, old, ex, hE⟩
  by_cases hb : b ∈ frs outer
  · obtain ⟨sl, e⟩ := slot b o q (I.ok.frf b hb) hb
    exact ⟨_, e⟩
  · obtain ⟨o', e'⟩ := ex b o q hb
    exact ⟨_, m.stay b o' e'⟩
end
end L2

set_option Elab.async false
set_option linter.all false
set_option maxRecDepth 100000
namespace L2
open PySem PySem.Spec PyProof.Rows
theorem exc_m6 {o : Option Obj} {f : Option Addr → _ → Array (Option Value) → Bool} (q : PySem.W.excIn.match_6 (fun _ => Bool) o (fun dd cd sl => f dd cd sl) (fun _ => false) = true) :
    ∃ dd cd sl, o = some ⟨.type "type", dd, .cls cd, sl⟩ ∧ f dd cd sl = true := by
  cases o with
  | none => exact Bool.noConfusion (show false = true from q)
  | some o =>
    obtain ⟨cls, dd, data, sl⟩ := o
    cases cls with
    | type s =>
      by_cases hs : s = "type"
      · subst hs
        cases data with
        | cls cd => exact ⟨dd, cd, sl, rfl, q⟩
        | _ => exact Bool.noConfusion (show false = true from q)
      · delta PySem.W.excIn.match_6 at q
        exact Bool.noConfusion ((dif_neg hs : dite (s = "type") _ (fun _ => false) = false).symm.trans q)
    | _ => exact Bool.noConfusion (show false = true from q)
theorem exc_m1 {m : List Value} {l : List (Option Value)} {f : Addr → List Value → Option Value → Option Value → Option Value → Option Value → String → Option Value → Bool} (q : PySem.W.excIn.match_1 (fun _ _ => Bool) m l (fun C bm a b c d n e => f C bm a b c d n e) (fun _ _ => false) = true) :
    ∃ C bm a b c d n e, m = .ref C :: bm ∧ l = [a, b, c, d, some (.builtin n), e] ∧ f C bm a b c d n e = true := by
  rcases m with _ | ⟨v, bm⟩
  · exact Bool.noConfusion (show false = true from q)
  cases v with
  | ref C' =>
    rcases l with _ | ⟨k0, _ | ⟨k1, _ | ⟨k2, _ | ⟨k3, _ | ⟨_ | k4, l⟩⟩⟩⟩⟩
    iterate 6 exact Bool.noConfusion (show false = true from q)
    cases k4 with
    | builtin n =>
      rcases l with _ | ⟨k5, _ | ⟨_, _⟩⟩
      · exact Bool.noConfusion (show false = true from q)
      · exact ⟨C', bm, k0, k1, k2, k3, n, k5, rfl, rfl, q⟩
      · exact Bool.noConfusion (show false = true from q)
    | _ => exact Bool.noConfusion (show false = true from q)
  | _ => exact Bool.noConfusion (show false = true from q)
theorem exc_at {K : PySem.W.Frag} {h : Heap} {C : Addr} {bmB : List Value} {newId : String} (X : K.In h) (q : PySem.W.excIn K C bmB newId = true) :
    ∃ bm N nm q bs hdct sn sub ab col dd k0 k1 k2 k3 k5 mN, h.get? C = some (excClassObj nm q C N bs bm hdct sn sub ab col dd k0 k1 k2 k3 k5 newId) ∧ h.Ns N mN ∧ mN "__init__" = none ∧ OwnTail h bmB bm := by
  unfold PySem.W.excIn at q
  obtain ⟨dd, cd, sl, ho, q1⟩ := exc_m6 q
  obtain ⟨C', bm, k0, k1, k2, k3, n, k5, hm, hl, q2⟩ := exc_m1 q1
  obtain ⟨nm, bs, mro, ns, qn, hd, sn, sub, ab, col, del⟩ := cd
  obtain ⟨l⟩ := sl
  simp only [Bool.and_eq_true, beq_iff_eq, Bool.not_eq_true'] at q2
  dsimp only at hm hl q2
  obtain ⟨⟨⟨⟨⟨rfl, rfl⟩, rfl⟩, ht⟩, hok⟩, hni⟩ := q2
  subst hm hl
  exact L2.ex6 bm ns nm qn bs hd (L2.ex6 sn sub ab col dd k0 (L2.ex5 k1 k2 k3 k5 _ ⟨X _ _ ho, .of_isNs (PySem.W.isNs_of_in X hok), PySem.W.nsMap_none_of_in X hok hni, PySem.W.tail_of_in X ht⟩))
section
variable {X : Cx}
noncomputable def tRaise (W : Hp → Prop) (t : TA) : TS := fun _ σ H => t σ H fun vs H1 => vs.length ≤ sizeLine ∧ W H1
theorem ps_raise {W : Hp → Prop} {x : Str} {C : Addr} {B newId initId : String} {bmB : List Value} {np cpos pos : Pos} {e : Expr} {es : List Expr} {t : TA} (hc : X.calm = true) (hg : Gl X x) (hm : X.mg x = some (.ref C)) (hq : PySem.W.excIn X.K C bmB newId = true) (FB : ExcBaseFacts B newId initId bmB)
    (hl : ∀ (pins : List (Addr × Obj)) (σ : St) (H : Hp) (s : Shared) (h' : Heap) (a : Addr) (vs : List Value), Inv X pins σ H s → Heap.MadeExcOf s.heap h' a (.ref C) vs → W H → X.xe (.ref a) { s with heap := h' })
    (ha : PA X (e :: es) t) (hdb : (x == ("__debug__" : Str)) = false := by decide) (hst : starEach (e :: es) X.env = (false, eval e X.env) :: starEach es X.env := by rfl) (hpl : (backTo cpos (starEach es X.env)).any (·.1) = false := by rfl) :
    PS X (.Raise (some (.Call (.Name x np) (e :: es) [] cpos)) none pos) (tRaise W t) := by
  intro pins s σ H D I h
  obtain ⟨tl, N, nm, q, bs, hdct, sn, sub, ab, col, dd, k0, k1, k2, k3, k5, mN, hC, hN, hni, T⟩ := exc_at I.mod.kin hq
  refine wpAny_Raise_call_subT (C := C) (nm := nm) (q := q) (N := N) (bs := bs) (bm := tl) (hdct := hdct) (sn := sn) (sub := sub) (ab := ab) (col := col) (dd := dd) (k0 := k0) (k1 := k1) (k2 := k2) (k3 := k3) (k5 := k5)
    FB (mN := mN) (T.hasType FB.hasBase) (I.ok.hd hc) (by rw [hst]; show (false || (backTo cpos (starEach es X.env)).any (·.1)) = false; rw [hpl]; rfl) hni (ld_glob I hg hm ⟨rfl, ?_⟩ hdb)
  have hA := ha cpos pins s σ H _ I h
  rw [hst] at hA ⊢
  refine Calls.evalArgs_plain (thn hA fun us s2 hq_ => ?_)
  obtain ⟨vs, H2, I2, r2, z, q2⟩ := hq_
  exact ⟨rfl, by rw [← r2.length]; exact z, I2.bk _ _ hC, hN.keeps I2.bk, T.keeps I2.bk, fun h' a hx => hl pins σ H2 s2 h' a us I2 hx q2⟩
end
end L2

set_option Elab.async false
set_option linter.all false
set_option maxRecDepth 100000
namespace L2
open PySem PySem.Spec PyProof.Rows
section
variable {X : Cx}
noncomputable def tFI (ta : TE) : TE := fun σ H Q => ta σ H fun v H1 => ∃ i : Int, v = .int i ∧ i.natAbs.log2 < 100 ∧ ∀ y : Str, y.length ≤ 101 → Q (.str y) H1
theorem pe_fmtI {e : Expr} {ta : TE} {pos : Pos} (he : PE X e ta) : PE X (.FormattedValue e (-1) none pos) (tFI ta) := by
  intro pins s σ H Q I h
  refine wpAny_FormattedValue_plain (thn (he pins s σ H _ I h) fun v s1 hq_ => ?_)
  obtain ⟨x, H1, I1, r1, i, ex, hi, q⟩ := hq_
  subst ex
  obtain ⟨t, rfl⟩ := r1
  refine wpAny_formatField_int (by omega) ⟨.str (Str.ofString (toString i)), H1, I1.tok _, ⟨_, rfl⟩, q _ ?_⟩
  rw [PySem.ofString_length]
  exact int_text_length_le (by decide) hi
noncomputable def tJs : List TE → St → Hp → Nat → (Hp → Prop) → Prop
  | [], _, H, _, R => R H
  | t :: r, σ, H, n, R => t σ H fun v H1 => ∃ (y : Str) (m : Nat), v = .str y ∧ y.length ≤ m ∧ n + m ≤ sizeLine ∧ tJs r σ H1 (n + m) R
noncomputable def PEs (X : Cx) (es : List Expr) (ts : List TE) : Prop := Paired (fun e t => PE X e t) es ts
theorem joins_of {E' : Value → Shared → Prop} {pins : List (Addr × Obj)} {σ : St} {R : Hp → Prop} {Q : Str → Shared → Prop} (hE : E' = X.xe) (fin : ∀ (out : Str) (s : Shared) (H : Hp), Inv X pins σ H s → out.length ≤ sizeLine → R H → Q out s) :
    ∀ {es : List Expr} {ts : List TE}, PEs X es ts → ∀ (acc : Str) (n : Nat) (s : Shared) (H : Hp), Inv X pins σ H s → acc.length ≤ n → n ≤ sizeLine → tJs ts σ H n R → Joins (model X.prog X.w) X.A E' (evalEach es X.env) acc Q s
  | _, _, .nil, acc, n, s, H, I, ha, hn, h => fin acc s H I (by omega) h
  | _, _, .cons he r, acc, n, s, H, I, ha, hn, h => by
    subst hE
    refine thn (he pins s σ H _ I h) fun v s1 hq_ => ?_
    obtain ⟨x, H1, I1, r1, y, m, ex, hy, hz, q⟩ := hq_
    subst ex
    obtain ⟨t, rfl⟩ := r1
    have hl := strLen_append acc y
    exact ⟨y, t, rfl, by omega, joins_of rfl fin r (acc ++ y) (n + m) s1 H1 I1 (by omega) hz q⟩
noncomputable def tFs (ts : List TE) : TE := fun σ H Q => tJs ts σ H 0 fun H1 => ∀ y : Str, Q (.str y) H1
theorem pe_fstr {v₁ v₂ : Expr} {rest : List Expr} {ts : List TE} {pos : Pos} (h : PEs X (v₁ :: v₂ :: rest) ts) : PE X (.JoinedStr (v₁ :: v₂ :: rest) pos) (tFs ts) := by
  intro pins s σ H Q I hw
  refine wpAny_JoinedStr (joins_of rfl (fun out s1 H1 I1 hz q => ⟨hz, .str out, H1, I1.tok _, ⟨_, rfl⟩, q out⟩) h Str.empty 0 s H I (by decide) (Nat.zero_le _) hw)
end
end L2

set_option Elab.async false
set_option linter.all false
set_option maxRecDepth 100000
namespace L2
open PySem PySem.Spec PyProof.Rows
theorem un_moved {fs : List Addr} {H H' : Hp} {h h1 h2 B : Heap} (un : Un fs [] H H' h h1) (old : ∀ b o, h.get? b = some o → H b = none → b ∉ fs → B.get? b = some o) (ex : ∀ b o, h.get? b = some o → b ∉ fs → ∃ o', B.get? b = some o')
    (nf : ∀ b ∈ fs, H b = none ∧ ∃ o, h.get? b = some o ∧ ∀ vs, o.data ≠ .fields vs) (m : Moved B h1 h2) : Un fs [] H H' h h2 where
  keep := fun b o q n hb _ => m.stay b o (old b o q n hb)
  slot := fun b o q n hb hx => by
    obtain ⟨sl, e⟩ := un.slot b o q n hb hx
    obtain ⟨_, o', q', hd⟩ := nf b hb
    rw [q] at q'; cases q'
    obtain ⟨sl2, e2⟩ := m.up b _ e hd
    exact ⟨sl2, e2⟩
  free := un.free
  there := fun b o q hx => by
    by_cases hb : b ∈ fs
    · obtain ⟨n, o', q', hd⟩ := nf b hb
      rw [q] at q'; cases q'
      obtain ⟨sl, e⟩ := un.slot b o q n hb hx
      obtain ⟨sl2, e2⟩ := m.up b _ e hd
      exact ⟨_, e2⟩
    · obtain ⟨o', e⟩ := ex b o q hb
      exact ⟨_, m.stay b o' e⟩
  tups := un.tups
  frzs := un.frzs
  tbls := un.tbls
noncomputable abbrev Cx.marked (X : Cx) (a : Addr) (E : Value → Shared → Prop) : Cx := { X with A := X.A.mark (some (.ref a)), calm := false, xe := E }
section
variable {X : Cx} {pins : List (Addr × Obj)} {σ : St} {H : Hp} {s : Shared} {a : Addr} {E : Value → Shared → Prop}
theorem Inv.marked (I : Inv X pins σ H s) (a : Addr) (E : Value → Shared → Prop) : Inv (X.marked a E) pins σ H s :=
  ⟨⟨I.ok.mod, I.ok.kind, I.ok.glob, I.ok.blt, I.ok.above, I.ok.inj, I.ok.has, I.ok.cab, (fun z => by cases z), I.ok.frames, I.ok.stk, I.ok.exf, I.ok.bs, I.ok.bsz, I.ok.noex, I.ok.exfs, I.ok.funs, I.ok.frf⟩, I.os, I.bare, I.base, I.loc, I.cell, I.free, I.freeC, I.pin, I.hok, I.len⟩
theorem Inv.unmarked (I : Inv (X.marked a E) pins σ H s) (hd : X.calm = true → X.A.handled = none) : Inv X pins σ H s :=
  ⟨⟨I.ok.mod, I.ok.kind, I.ok.glob, I.ok.blt, I.ok.above, I.ok.inj, I.ok.has, I.ok.cab, hd, I.ok.frames, I.ok.stk, I.ok.exf, I.ok.bs, I.ok.bsz, I.ok.noex, I.ok.exfs, I.ok.funs, I.ok.frf⟩, I.os, I.bare, I.base, I.loc, I.cell, I.free, I.freeC, I.pin, I.hok, I.len⟩
theorem Inv.track {o : HO} (I : Inv X pins σ H s) (hn : H a = none) (h0 : X.s₀.heap.get? a = none) (hl : a ≠ X.env.locals) (hc : ∀ x c, X.env.cells.lookup x = some c → c ≠ a) (hp : ∀ p ∈ X.pn ++ pins, p.1 ≠ a) (new : ObjOk X.prog X.w (upd H a o) s.heap a o) :
    Inv X pins σ (upd H a o) s := by
  have up : ∀ b u, H b = some u → upd H a o b = some u := fun b u e => by rw [upd_ne (ne_of_none e hn)]; exact e
  refine ⟨I.ok, I.os, I.bare, ⟨I.base.keep, I.base.slot, fun b ob e n hx => ?_, I.base.there, fun b xs e => up _ _ (I.base.tups b xs e), fun b ob u e => up _ _ (I.base.frzs b ob u e), fun b ps e => ?_⟩, I.loc, I.cell, ?_, fun x c e => ?_, fun p q => ?_, fun b u e => ?_, I.len⟩
  · rw [upd_ne (fun z => by rw [z, h0] at e; cases e)]
    exact I.base.free b ob e n hx
  · obtain ⟨m, e'⟩ := I.base.tbls b ps e
    exact ⟨m, up _ _ e'⟩
  · rw [upd_ne hl.symm]; exact I.free
  · rw [upd_ne (hc x c e)]; exact I.freeC x c e
  · obtain ⟨e, n, ne, nf, d⟩ := I.pin p q
    exact ⟨e, by rw [upd_ne (hp p q)]; exact n, ne, nf, d⟩
  · by_cases hb : b = a
    · subst hb; rw [upd_same] at e; cases e; exact new
    · rw [upd_ne hb] at e
      exact (I.hok b u e).stay (fun _ _ _ q => q) (fun c q => up _ _ q) fun c xs q => up _ _ q
theorem name_goes {M : Model} {A : Around} {E' : Value → Shared → Prop} {i : Nat} {x : Str} {pos : Pos} {Q : Unit → Shared → Prop} (I : Inv X pins σ H s) (hN : X.N.Nodup) (hi : X.N[i]? = some x) (hk : X.env.scope.names.lookup x = some .local) (h : ∀ s', Inv X pins (σ.set i none) H s' → Q () s') :
    wpAny M A (do bindName X.env x .none; unbindBehindTheSuite X.env x pos) Q E' s := by
  obtain ⟨m, hn, hl⟩ := id I.loc
  have hcls : (X.env.scope.kind == .class || (X.env.scope.kind == .module && X.env.locals != X.env.globals)) = false := by rw [I.ok.kind]; rfl
  have hiσ : i < σ.length := by rw [I.len]; exact (List.getElem?_eq_some_iff.mp hi).1
  refine wpAny_nameGoes_keeps hk hn hcls fun h' v hn' hs => h _ ?_
  have hok : HOk X.prog X.w H h' := fun b ob e => by
    refine (I.hok b ob e).stay (fun c w' hc q => (hs.2 c ?_).trans q) (fun _ q => q) fun _ _ q => q
    rintro rfl
    rcases hc with rfl | hc
    · rw [I.free] at e; cases e
    · rw [I.free] at hc; cases hc
  refine ⟨I.ok, I.os, I.bare, ⟨fun b o e n hb hx => ?_, fun b o e n hb hx => ?_, I.base.free, fun b o e hx => ?_, I.base.tups, I.base.frzs, I.base.tbls⟩, ⟨_, hn', fun j y v' e1 e2 e3 => ?_⟩, fun y c e => ?_, I.free, I.freeC, fun p hp => ?_, hok, by simpa using I.len⟩
  · exact (hs.2 b (Nat.ne_of_lt (Nat.lt_of_lt_of_le (Heap.lt_size e) I.ok.above))).trans (I.base.keep b o e n hb hx)
  · obtain ⟨sl, e1⟩ := I.base.slot b o e n hb hx
    exact ⟨sl, (hs.2 b (Nat.ne_of_lt (Nat.lt_of_lt_of_le (Heap.lt_size e) I.ok.above))).trans e1⟩
  · obtain ⟨o', e1⟩ := I.base.there b o e hx
    exact ⟨o', (hs.2 b (Nat.ne_of_lt (Nat.lt_of_lt_of_le (Heap.lt_size e) I.ok.above))).trans e1⟩
  · by_cases hj : j = i
    · subst hj
      rw [List.getElem?_set_self hiσ] at e2
      cases e2
    · rw [List.getElem?_set_ne (Ne.symm hj)] at e2
      obtain ⟨u', r', q⟩ := hl j y v' e1 e2 e3
      refine ⟨u', r', ?_⟩
      rcases q with ⟨k, e⟩ | ⟨k, c, e, z⟩
      · refine .inl ⟨k, ?_⟩
        have : y ≠ x := fun e => hj (nodup_ix hN e1 (e ▸ hi))
        simp [this, e]
      · exact .inr ⟨k, c, e, z.sameBut hs (I.cne y c e)⟩
  · obtain ⟨w', z⟩ := I.cell y c e
    exact ⟨w', z.sameBut hs (I.cne y c e)⟩
  · obtain ⟨e, n, ne, nf, d⟩ := I.pin p hp
    exact ⟨(hs.2 p.1 ne).trans e, n, ne, nf, d⟩
end
end L2

set_option Elab.async false
set_option linter.all false
set_option maxRecDepth 100000
namespace L2
open PySem PySem.Spec PyProof.Rows
noncomputable def ExcO (C x : Addr) : HO := .ext fun h => ∃ oe vs, h.get? x = some oe ∧ (oe.cls = .ref C ∧ oe.dict = none) ∧ oe.data = .fields vs ∧ vs[2]? = some .none
theorem excO_ok {P : Program} {w : World} {H : Hp} {h B : Heap} {C x : Addr} {fl : Value} (t : TrV h B x (.ref C) fl) : ObjOk P w H h x (ExcO C x) := by
  obtain ⟨oe, vs, T, oT, ts, he, hc, hd, h1, h2, _⟩ := t
  exact ⟨⟨oe, vs, he, hc, hd, h2⟩, ⟨oe, he⟩, fun h1 h2 ⟨o, vs, e, r⟩ k => ⟨o, vs, k o e, r⟩⟩
noncomputable def catchE (X : Cx) (hs : List ExceptHandler) (Qf : Flow → Shared → Prop) : Value → Shared → Prop := fun e s₁ =>
  wpAny (model X.prog X.w) X.A (noteFrame e X.env) (fun _ s₂ => wpAny (model X.prog X.w) X.A (setFlight e none) (fun _ s₃ => wpAny (model X.prog X.w) X.A (handleBy e X.env hs) Qf X.xe s₃) X.xe s₂) X.xe s₁
noncomputable abbrev Cx.inTry (X : Cx) (pins : List (Addr × Obj)) (E : Value → Shared → Prop) : Cx := { X with pn := X.pn ++ pins, xe := E }
section
variable {X : Cx} {pins pins' : List (Addr × Obj)} {σ : St} {H : Hp} {s : Shared} {E : Value → Shared → Prop}
theorem Inv.inTry (I : Inv X pins σ H s) (E : Value → Shared → Prop) : Inv (X.inTry pins E) [] σ H s :=
  ⟨⟨I.ok.mod, I.ok.kind, I.ok.glob, I.ok.blt, I.ok.above, I.ok.inj, I.ok.has, I.ok.cab, I.ok.hd, I.ok.frames, I.ok.stk, I.ok.exf, I.ok.bs, I.ok.bsz, I.ok.noex, I.ok.exfs, I.ok.funs, I.ok.frf⟩, I.os, I.bare, I.base, I.loc, I.cell, I.free, I.freeC, (fun p hp => I.pin p (by simpa using hp)), I.hok, I.len⟩
theorem Inv.outTry (I : Inv (X.inTry pins E) pins' σ H s) : Inv X pins σ H s :=
  ⟨⟨I.ok.mod, I.ok.kind, I.ok.glob, I.ok.blt, I.ok.above, I.ok.inj, I.ok.has, I.ok.cab, I.ok.hd, I.ok.frames, I.ok.stk, I.ok.exf, I.ok.bs, I.ok.bsz, I.ok.noex, I.ok.exfs, I.ok.funs, I.ok.frf⟩, I.os, I.bare, I.base, I.loc, I.cell, I.free, I.freeC, (fun p hp => I.pin p (List.mem_append_left _ hp)), I.hok, I.len⟩
theorem SP.outTry {D : Ends} {f : Flow} {s' : Shared} (h : SP (X.inTry pins E) pins' D f s') : SP X pins D f s' := by
  cases f with
  | next => obtain ⟨σ', H', I, q⟩ := h; exact ⟨σ', H', I.outTry, q⟩
  | brk => obtain ⟨σ', H', I, q⟩ := h; exact ⟨σ', H', I.outTry, q⟩
  | cont => obtain ⟨σ', H', I, q⟩ := h; exact ⟨σ', H', I.outTry, q⟩
  | ret u => obtain ⟨v, σ', H', I, r, q⟩ := h; exact ⟨v, σ', H', I.outTry, r, q⟩
end
section
variable {X : Cx} {cx n : Str} {i : Nat} {Cc : Addr} {np hpos : Pos} {b0 : Stmt} {suite : List Stmt} {ts : Addr → TS}
noncomputable def caughtK (i len : Nat) (ok : Value → Prop) (ts : Addr → TS) (D : Ends) : XK := fun cls _ H' => ∃ C : Addr, cls = .ref C ∧ ok cls ∧ ∀ (x : Addr) (σ : St), σ.length = len → H' x = none →
  ts x { nx := fun σ' H2 => D.nx (σ'.set i none) H2, bk := fun σ' H2 => D.bk (σ'.set i none) H2, ct := fun σ' H2 => D.ct (σ'.set i none) H2, rt := D.rt } (σ.set i (some (.ref x))) (upd H' x (ExcO C x))
theorem pass_catch {pins : List (Addr × Obj)} {D : Ends} (hc : X.calm = true) (hex : X.ex = []) (hst : X.stack = X.env :: X.outer) (hfr : X.env.frame = some X.env.locals) (hN : X.N.Nodup) (hi : X.N[i]? = some n) (hk : X.env.scope.names.lookup n = some .local) (hg : Gl X cx) (hm : X.mg cx = some (.ref Cc)) (hdb : (cx == ("__debug__" : Str)) = false)
    (hs : ∀ x, PSs (X.marked x fun _ _ => False) (b0 :: suite) (ts x)) :
    Passes (CX1 X.prog X.w) (X.inTry pins (catchE X [.ExceptHandler (some (.Name cx np)) (some n) (b0 :: suite) hpos] (SP X pins D))) (caughtK i X.N.length (fun cls => PySem.W.exmOne X.K cls (.ref Cc) = some true) ts D) := by
  intro pins' σ H s e s' I0 hx
  have I := I0.outTry
  obtain ⟨x, C, B, H', rfl, hos, hbare, un, hok, fly, tr, old, ex, C', ec, hexm, hE⟩ := hx
  cases ec
  obtain ⟨hh, g, d, t, os'⟩ := s'
  obtain rfl : os' = s.os := hos
  have fly0 : FlyV B (X.env :: X.outer) x (.ref C) .none hh := by
    have := fly
    rw [show (X.inTry pins (catchE X [.ExceptHandler (some (.Name cx np)) (some n) (b0 :: suite) hpos] (SP X pins D))).stack = X.env :: X.outer from hst] at this
    exact this
  have hfrm : X.A.frames = some (X.env :: X.outer) := by rw [← hst]; exact I.ok.frames
  have hstk : X.env.frame = some X.env.locals := hfr
  refine note_next (s := ⟨hh, g, d, t, s.os⟩) hfrm hstk fly0 fun h1 f1 up1 => flightV (s := ⟨h1, g, d, t, s.os⟩) f1 fun h2 f2 up2 => ?_
  have m2 : Moved B hh h2 := ⟨f2.1, up1.trans up2⟩
  have nf : ∀ b ∈ frs X.stack, H b = none ∧ ∃ o, s.heap.get? b = some o ∧ ∀ vs, o.data ≠ .fields vs := fun b hb => ⟨I.stkFree b hb, (I.stack.mem hb).2⟩
  have un2 := un_moved un old ex nf m2
  have hok2 := HOk.moved hok tr m2
  have tr2 := tracked_moved hok tr m2
  have I2 : Inv X pins σ H' ⟨h2, g, d, t, s.os⟩ := I.call (h' := h2) (g' := g) (d' := d) (t' := t) (ch := []) un2 hok2 hbare (fun b z => absurd z (by simp))
  refine wpAny_handleBy_cons (codeAny_handlers_test (ld_glob (X := X.marked x fun _ _ => False) (I2.marked x _) hg hm ?_ hdb)) (by intro q; cases q)
  have LT : PySem.W.Looks (model X.prog X.w) h2 (typeOf (.ref x)) (.ref C) := by
    obtain ⟨oe, vs, T, oT, ts, he, hcl, _⟩ := f2.2.2.2
    rw [← hcl.1]
    exact (PySem.W.Looks.ld he).andThen .now
  refine PySem.W.Looks.here (s := ⟨h2, g, d, t, s.os⟩) (PySem.W.exm_one I2.kIn LT hexm) ?_
  refine codeAny_handlers_suite_as (flightV (s := ⟨h2, g, d, t, s.os⟩) f2 fun h3 f3 up3 => ?_)
  have m3 : Moved B hh h3 := ⟨f3.1, (up1.trans up2).trans up3⟩
  have un3 := un_moved un old ex nf m3
  have I3 : Inv X pins σ H' ⟨h3, g, d, t, s.os⟩ := I.call (h' := h3) (g' := g) (d' := d) (t' := t) (ch := []) un3 (HOk.moved hok tr m3) hbare (fun b z => absurd z (by simp))
  have hxB : B.get? x = none := f3.2.1
  have hxH : H' x = none := by
    cases q : H' x with
    | none => rfl
    | some u =>
      obtain ⟨ob, e⟩ := (hok x u q).there
      rw [tr x u ob q e] at hxB; cases hxB
  obtain ⟨oe, ws, T, oT, tts, hxo, hxc, hxd, _⟩ := id f3.2.2.2
  have nofr : x ∉ frs (X.env :: X.outer) := fun hb => by
    obtain ⟨_, o, ho, hd⟩ := f3.2.2.1.mem hb
    rw [hxo] at ho; cases ho
    exact hd _ hxd
  have nofr' : x ∉ frs X.stack := by rw [hst]; exact nofr
  have notB : ∀ b o, s.heap.get? b = some o → b ∉ frs X.stack → b ≠ x := fun b o q hb z => by
    obtain ⟨o', e⟩ := ex b o q hb
    rw [z, hxB] at e; cases e
  have h0 : X.s₀.heap.get? x = none := by
    cases q : X.s₀.heap.get? x with
    | none => rfl
    | some o =>
      obtain ⟨o1, e1⟩ := I.base.there x o q (by rw [hex]; simp)
      exact absurd rfl (notB x o1 e1 nofr')
  have hlx : x ≠ X.env.locals := fun z => nofr (by unfold frs; rw [List.filterMap_cons, hstk, z]; exact List.mem_cons_self)
  have I4 : Inv X pins σ (upd H' x (ExcO C x)) ⟨h3, g, d, t, s.os⟩ := I3.track hxH h0 hlx (fun y c e z => by
      obtain ⟨v, o, ho, hd⟩ := I3.cell y c e
      rw [z, hxo] at ho; cases ho; rw [hxd] at hd; cases hd) (fun p hp => by
      obtain ⟨e, _, nl, nf', _⟩ := I.pin p hp
      refine notB p.1 p.2 e fun z => ?_
      rcases List.mem_cons.mp (I.stkSub p.1 z) with z | z
      · exact nl z
      · exact nf' z) (excO_ok f3.2.2.2)
  refine store_ok (X := X.marked x fun _ _ => False) (I4.marked x _) hN hi (.inl hk) (show RelV (.ref x) (.ref x) from rfl) (fun s4 I5 => ?_) (.inr hk)
  refine wpAny_mono (hs x pins s4 _ _ _ I5 (hE x σ I.len hxH)) (fun f s5 sp => ?_) fun _ _ z => False.elim z
  have hd := I.ok.hd
  cases f with
  | next => obtain ⟨σ', H2, I6, q⟩ := sp; exact name_goes (I6.unmarked hd) hN hi hk fun s6 I7 => ⟨_, _, I7, q⟩
  | brk => obtain ⟨σ', H2, I6, q⟩ := sp; exact name_goes (I6.unmarked hd) hN hi hk fun s6 I7 => ⟨_, _, I7, q⟩
  | cont => obtain ⟨σ', H2, I6, q⟩ := sp; exact name_goes (I6.unmarked hd) hN hi hk fun s6 I7 => ⟨_, _, I7, q⟩
  | ret u => obtain ⟨v, σ', H2, I6, r, q⟩ := sp; exact name_goes (I6.unmarked hd) hN hi hk fun s6 I7 => ⟨_, _, _, I7, r, q⟩
noncomputable def tTry (K : PySem.W.Frag) (Cc : Addr) (i len : Nat) (tb : XK → TS) (ts : Addr → TS) : TS := fun D σ H => tb (caughtK i len (fun cls => PySem.W.exmOne K cls (.ref Cc) = some true) ts D) D σ H
theorem ps_try {body : List Stmt} {tb : XK → TS} {pos : Pos} (hc : X.calm = true) (hex : X.ex = []) (hst : X.stack = X.env :: X.outer) (hfr : X.env.frame = some X.env.locals) (hN : X.N.Nodup) (hi : X.N[i]? = some n) (hk : X.env.scope.names.lookup n = some .local) (hg : Gl X cx) (hm : X.mg cx = some (.ref Cc))
    (hb : ∀ (E : Value → Shared → Prop) (pins : List (Addr × Obj)) (W : XK), Passes (CX1 X.prog X.w) (X.inTry pins E) W → PSs (X.inTry pins E) body (tb W))
    (hs : ∀ x, PSs (X.marked x fun _ _ => False) (b0 :: suite) (ts x)) (hdb : (cx == ("__debug__" : Str)) = false := by decide) :
    PS X (.Try body [.ExceptHandler (some (.Name cx np)) (some n) (b0 :: suite) hpos] [] [] pos) (tTry X.K Cc i X.N.length tb ts) := by
  intro pins s σ H D I h
  refine wpAny_Try_except (wpAny_mono (hb _ pins _ (pass_catch (np := np) (hpos := hpos) (D := D) hc hex hst hfr hN hi hk hg hm hdb hs) [] s σ H D (I.inTry _) h) (fun f s1 sp => ?_) fun e s1 z => z)
  have sp' := sp.outTry
  cases f with
  | next => exact wpAny_execs_nil sp'
  | brk => exact sp'
  | cont => exact sp'
  | ret u => exact sp'
end
end L2

set_option Elab.async false
set_option linter.all false
set_option maxRecDepth 100000
namespace L2
open PySem PySem.Spec PyProof.Rows
section
variable {prog : Program} {w : World} {A : Around} {E : Value → Shared → Prop} {K : PySem.W.Frag} {C x : Addr} {ox : Obj} {h : Heap} {g : Array GenState} {d : Drawn} {t : Nat} {os : OsState}
theorem exc_entry {tk : Tok} {Q : Fin → Shared → Prop} (X : K.In h) (I : PySem.W.InstAt h x ox C none) (hx : h.get? x = some ox) (hc : ox.cls = .ref C) (fc : PySem.W.findIn K (.ref C) "__class__" = some (some (.builtin "object.__class__"))) (mr : PySem.W.mroIn K C (.type "object") = some true)
    (hq : Q (.done (.ret (.ref C))) ⟨h, g, d, t, os⟩) : wpAny (model prog w) A (Builtin.«object.__getattribute__» ⟨[.ref x, .str "__class__" tk], []⟩) Q E ⟨h, g, d, t, os⟩ := by
  have hT5 : (⟨h, g, d, t, os⟩ : Shared).TypeIs (.builtin "object.__class__") "getset_descriptor" := PySem.F.typeOf_object_class
  have f5 := PySem.F.typeOf_object_class
  have f6 := PySem.F.slot_gs_get.lookup
  have f7 := PySem.F.slot_gs_set.lookup
  have L1 := PySem.W.looks_findIn (M := model prog w) X fc
  repeat (any_goals (first | assumption | (with_reducible refine wpAny_loadPart_at hx ?_; rw [hc]) | (with_reducible refine L1.at ?_) | wp_step))
  exact PySem.W.class_get (s := ⟨h, g, d, t, os⟩) (ox := ox) (od := none) X I mr (by show wpAny _ _ (ret _) _ _ _; exact wpAny_pure hq)
theorem exc_call {tk : Tok} {R : Result → Shared → Prop} (X : K.In h) (I : PySem.W.InstAt h x ox C none) (hx : h.get? x = some ox) (hc : ox.cls = .ref C) (fc : PySem.W.findIn K (.ref C) "__class__" = some (some (.builtin "object.__class__"))) (mr : PySem.W.mroIn K C (.type "object") = some true) (sb : PySem.W.subIn K (.ref C) (.type "BaseException") = some true)
    (hq : R (.ok (.ret (.ref C))) ⟨h, g, d, t, os⟩) : codeAny (model prog w) A (.call (.builtin "BaseException.__getattribute__") ⟨[.ref x, .str "__class__" tk], []⟩) R ⟨h, g, d, t, os⟩ := by
  refine codeAny_call_builtin (by decide +kernel) PySem.F.entry_bexc_ga ?_
  have hk : builtinKind "BaseException.__getattribute__" = some .slot := by decide +kernel
  have hsplit : splitId "BaseException.__getattribute__" = some ("BaseException", "__getattribute__") := by decide +kernel
  have ha := PySem.F.args_bexc_ga (.ref x) (.str "__class__" tk)
  simp only [checkBuiltinCall, hk, hsplit]
  have L0 := I.type (M := model prog w)
  have L1 := PySem.W.looks_subIn (M := model prog w) X sb
  refine wpAny_bind ?_
  · unfold isInstance
    repeat (first | (with_reducible exact exc_entry X I hx hc fc mr hq) | (with_reducible refine L0.at ?_) | (with_reducible refine L1.at ?_) | wp_step)
theorem exc_by {tk : Tok} {fill expr : Bool} {Q : Value → Shared → Prop} (X : K.In h) (I : PySem.W.InstAt h x ox C none) (hx : h.get? x = some ox) (hc : ox.cls = .ref C) (fc : PySem.W.findIn K (.ref C) "__class__" = some (some (.builtin "object.__class__"))) (mr : PySem.W.mroIn K C (.type "object") = some true) (sb : PySem.W.subIn K (.ref C) (.type "BaseException") = some true)
    (fg : PySem.W.findIn K (.ref C) "__getattribute__" = some (some (.builtin "BaseException.__getattribute__"))) (fn : PySem.W.findIn K (.ref C) "__getattr__" = some none) (ga : Slot "ValueError" "__getattribute__" "BaseException.__getattribute__")
    (hq : Q (.ref C) ⟨h, g, d, t, os⟩) : wpAny (model prog w) A (getAttrBy (.ref x) (.str "__class__" tk) fill expr) Q E ⟨h, g, d, t, os⟩ := by
  have f3 := ga.bind (.ref x)
  have hx0 : (expr && onTheHeap (Value.builtin "BaseException.__getattribute__")) = false := by cases expr <;> rfl
  have hx2 : (Value.builtin "BaseException.__getattribute__" == Value.builtin "object.__getattribute__") = false := by decide +kernel
  have hx1 : (onTheHeap (Value.ref C) && Value.builtin "BaseException.__getattribute__" == Value.builtin "object.__getattribute__") = false := by rw [hx2]; rfl
  have L1 := PySem.W.looks_findIn (M := model prog w) X fg
  have L2 := PySem.W.looks_findIn (M := model prog w) X fn
  repeat (any_goals (first | assumption | (with_reducible refine wpAny_loadPart_at hx ?_; rw [hc]) | (with_reducible refine L1.at ?_) | (with_reducible refine L2.at ?_) | wp_step))
  refine exc_call X I hx hc fc mr sb ?_
  repeat (any_goals (first | assumption | wp_step))
theorem exc_class {Q : Option Value → Shared → Prop} (X : K.In h) (I : PySem.W.InstAt h x ox C none) (hx : h.get? x = some ox) (hc : ox.cls = .ref C) (fc : PySem.W.findIn K (.ref C) "__class__" = some (some (.builtin "object.__class__"))) (mr : PySem.W.mroIn K C (.type "object") = some true) (sb : PySem.W.subIn K (.ref C) (.type "BaseException") = some true)
    (fg : PySem.W.findIn K (.ref C) "__getattribute__" = some (some (.builtin "BaseException.__getattribute__"))) (fn : PySem.W.findIn K (.ref C) "__getattr__" = some none) (ga : Slot "ValueError" "__getattribute__" "BaseException.__getattribute__")
    (hq : Q (some (.ref C)) ⟨h, g, d, t + 1, os⟩) : wpAny (model prog w) A (getAttr? (.ref x) "__class__") Q E ⟨h, g, d, t, os⟩ := by
  unfold getAttr? getAttrBy?
  refine wpAny_bind (wpAny_mkText (wpAny_bind (wpAny_attempt (exc_by X I hx hc fc mr sb fg fn ga ?_))))
  exact wpAny_pure hq
end
structure ExcCls (K : PySem.W.Frag) (C : Addr) : Prop where
  hd : PySem.W.hasDictIn K C = true
  fc : PySem.W.findIn K (.ref C) "__class__" = some (some (.builtin "object.__class__"))
  fg : PySem.W.findIn K (.ref C) "__getattribute__" = some (some (.builtin "BaseException.__getattribute__"))
  fn : PySem.W.findIn K (.ref C) "__getattr__" = some none
  sb : PySem.W.subIn K (.ref C) (.type "BaseException") = some true
  mr : PySem.W.mroIn K C (.type "object") = some true
noncomputable def ExcAt (C x : Addr) (h : Heap) : Prop := ∃ oe vs, h.get? x = some oe ∧ (oe.cls = .ref C ∧ oe.dict = none) ∧ oe.data = .fields vs ∧ vs[2]? = some .none
theorem ExcAt.inst {C x : Addr} {h : Heap} (e : ExcAt C x h) : ∃ ox, PySem.W.InstAt h x ox C none := by
  obtain ⟨oe, vs, he, ⟨hc, hn⟩, hd, _⟩ := e
  exact ⟨oe, he, hc, by unfold PySem.W.notCls; rw [hd], by rw [hn]; trivial⟩
theorem kitx_exc {K : PySem.W.Frag} {C x : Addr} (c : ExcCls K C) : PySem.W.KitX K (.ref x) (.ref C) (ExcAt C x) where
  ty := fun _ _ _ e => let ⟨_, I⟩ := e.inst; I.type
  it := fun _ _ X _ => by
    obtain ⟨cdD, hcD, _⟩ := PySem.W.any_some c.hd
    unfold PySem.W.clsIn at hcD
    split at hcD
    · rename_i c' d' cd' sl' ho
      intro A' Q' E' s' k q
      unfold isType loadHead
      exact wpAny_bind (wpAny_loadPart (k _ _ (X _ _ ho)) (wpAny_pure q))
    · cases hcD
  ne := fun h tp dd its n sl X htp => by
    obtain ⟨cdD, hcD, _⟩ := PySem.W.any_some c.hd
    refine Bool.eq_false_iff.mpr fun q => ?_
    have e : C = tp := Value.ref.inj (beq_iff_eq.mp q)
    subst e
    unfold PySem.W.clsIn at hcD
    split at hcD
    · rename_i c' d' cd' sl' ho
      have z := (X _ _ ho).symm.trans htp
      cases z
    · cases hcD
  ca := fun {prog w A E Q s} X e k => by
    obtain ⟨oe, vs, he, ⟨hc, hn⟩, hd, hv⟩ := id e
    obtain ⟨ox, I⟩ := e.inst
    obtain ⟨hh, g, d, t, os⟩ := s
    have I' : PySem.W.InstAt hh x oe C none := ⟨he, hc, by unfold PySem.W.notCls; rw [hd], by rw [hn]; trivial⟩
    exact exc_class X I' he hc c.fc c.mr c.sb c.fg c.fn PySem.F.excAttr_ValueError.ga k
section
variable {X : Cx}
theorem call_isexc : CallR X (.builtin "isinstance") (fun xs H Q => ∃ (x C : Addr) (c : V) (u : Value) (b : Bool), xs = [.ref x, c] ∧ H x = some (ExcO C x) ∧ ExcCls X.K C ∧ (∀ u', RelV c u' → u' = u) ∧ PySem.W.kitOne X.K (.ref C) u = some b ∧ Q (.bl b) H) := by
  intro pins s σ H xs us Q I r h
  obtain ⟨x, C, c, u, b, rfl, hx, ec, hu, hk, q⟩ := h
  obtain ⟨ux, uc, rfl, rx, rc⟩ := vals2 r
  cases (show ux = Value.ref x from rx)
  cases hu uc rc
  obtain ⟨φ, _⟩ := I.hok x _ hx
  exact PySem.W.kia_one (kitx_exc ec) I.kIn φ hk (fun z => nomatch z) fun tk => ⟨.bl b, H, I.tok tk, rfl, q⟩
end
end L2

set_option Elab.async false
set_option linter.all false
set_option maxRecDepth 100000
namespace L2
open PySem PySem.Spec PyProof.Rows
theorem entry_unchain : entryFor table "proto.unchain" = some Builtin.«proto.unchain» := entryFor_of_tree (by kernel_rfl)
section
variable {prog : Program} {w : World} {A : Around} {E : Value → Shared → Prop} {s : Shared}
theorem unchain_none {C x e : Addr} {Q : Value → Shared → Prop} (ex : ExcAt C x s.heap) (h : Q .none s) : wpAny (model prog w) A (runValue (.builtin "proto.unchain" ⟨[.ref e, .ref x, .ref x, .bool false], []⟩)) Q E s := by
  obtain ⟨oe, vs, he, _, hd, h2⟩ := ex
  refine wpAny_runValue (codeAny_builtin entry_unchain ?_)
  unfold Builtin.«proto.unchain»
  show wpAny _ _ (field (.ref x) 2 >>= _) _ _ s
  refine wpAny_bind (wpAny_field he hd h2 ?_)
  rw [if_pos (by rfl)]
  first | exact wpAny_pure h | exact h | (refine wpAny_bind (wpAny_pure ?_); exact wpAny_pure h)
theorem raiseNew_handled {α : Type} {C x e : Addr} {oe : Obj} {vs : Array Value} {Q : α → Shared → Prop} (hh : A.handled = some (.ref x)) (hne : x ≠ e) (ex : ExcAt C x s.heap) (he : s.heap.get? e = some oe) (hd : oe.data = .fields vs) (hz : 2 < vs.size)
    (h : ∀ h', Heap.SameBut e s.heap h' → (∃ o', h'.get? e = some o' ∧ o'.cls = oe.cls) → E (.ref e) { s with heap := h' }) : wpAny (model prog w) A (raiseNew (.ref e) : Sem α) Q E s := by
  simp only [raiseNew]
  refine wpAny_bind (wpAny_handled ?_)
  rw [hh]
  have n1 : (Value.ref x != Value.ref e) = true := by simpa using hne
  simp only [n1, if_true]
  refine wpAny_bind (wpAny_holding (unchain_none (e := e) ex (wpAny_bind ?_)))
  show wpAny (model prog w) A (setField (.ref e) 2 (.ref x)) _ E s
  refine wpAny_setField he hd hz (wpAny_throw (h _ (Heap.SameBut.update ..) ⟨_, Heap.get?_update_self _ he (Obj.isFreed_of_fields (Obj.data_mapFields hd _)), Obj.cls_mapFields _ _⟩))
theorem range_end_handled {it C x : Addr} {v left step : Int} {Q : Option Value → Shared → Prop} (hh : A.handled = some (.ref x)) (ex : ExcAt C x s.heap) (hit : IsRangeIter s.heap it v left step) (hleft : left ≤ 0)
    (hQ : ∀ h', Heap.ExtBut it s.heap h' → Q none { s with heap := h' }) : wpAny (model prog w) A (pyNext (.ref it)) Q E s := by
  have hT : s.TypeIs (.ref it) "range_iterator" := ⟨_, hit, rfl⟩
  obtain ⟨oe, ws, he, hc, hd, h2⟩ := id ex
  unfold pyNext
  refine wpAny_bind (wpAny_attempt (wpAny_callSpecial?_slot (name := Str.ofString "__next__") hT F.slot_range_iterator_next (wpAny_call_entry F.slot_range_iterator_next hT F.entry_range_iterator_next ?_ (F.args_range_iterator_next_1 _))))
  show wpAny _ _ (field (.ref it) 0 >>= _) _ _ s
  refine wpAny_bind (wpAny_field hit rfl (x := rawInt v) rfl ?_)
  show wpAny _ _ (field (.ref it) 1 >>= _) _ _ s
  refine wpAny_bind (wpAny_field hit rfl (x := rawInt left) rfl ?_)
  show wpAny _ _ (field (.ref it) 2 >>= _) _ _ s
  refine wpAny_bind (wpAny_field hit rfl (x := rawInt step) rfl ?_)
  show wpAny _ _ (if left ≤ 0 then _ else _) _ _ s
  rw [if_pos hleft]
  refine wpAny_bind (wpAny_rule (wpAny_bind ?_))
  show wpAny _ _ (newExc (.type "StopIteration") [] >>= _) _ _ _
  refine wpAny_bind ?_
  simp only [newExc, newTuple]
  refine wpAny_bind (wpAny_newObj_type ?_ (by size_fits))
  refine wpAny_bind (m := firstArgMember _ _) (wpAny_of_eq (a := Value.none) (by first | rfl | (simp only [firstArgMember]; rfl)) ?_)
  refine wpAny_newObj_type ?_ (by size_fits)
  have k1 := fun (o : Obj) => Heap.get?_push_of_some (h := s.heap) o he
  refine raiseNew_handled (C := C) (x := x) (by exact hh) ?_ ⟨oe, ws, Heap.get?_push_of_some _ (Heap.get?_push_of_some _ he), hc, hd, h2⟩ (Heap.get?_push_size _ rfl) rfl (by simp; omega) fun h' sb ⟨o', ho', hc'⟩ => ?_
  · have hlt := Heap.lt_size he
    intro z
    rw [z] at hlt
    simp only [Heap.size_push] at hlt
    exact absurd hlt (Nat.not_lt.mpr (Nat.le_succ _))
  · refine wpAny_bind (wpAny_isInstance (T := "StopIteration") (b := true) ⟨_, ho', hc'⟩ isSubtype_stop ?_)
    refine wpAny_pure (hQ _ fun b o hb e => ?_)
    refine (sb.2 b fun z => ?_).trans (Heap.get?_push_of_some _ (Heap.get?_push_of_some _ e))
    have hlt := Heap.lt_size e
    rw [z] at hlt
    simp only [Heap.size_push] at hlt
    exact absurd hlt (Nat.not_lt.mpr (Nat.le_succ _))
end
end L2

set_option Elab.async false
set_option linter.all false
set_option maxRecDepth 100000
namespace L2
open PySem PySem.Spec PyProof.Rows
noncomputable def ItrH (C x : Addr) (lo : Int) (n : Nat) : It := ⟨fun i _ => i < n, fun i H v H' => H' = H ∧ v = .int (lo + i), fun i H => n ≤ i ∧ H x = some (ExcO C x)⟩
noncomputable def Handles (x : Addr) (X : Cx) : Prop := X.A.handled = some (.ref x)
theorem turn_rangeH {P : Program} {w : World} {K : PySem.W.Frag} {tg : Expr} {C x : Addr} (it : Addr) (lo : Int) (n : Nat) : TurnQ (Handles x) P w K tg (ItrH C x lo n) [it] it (fun i h => IsRangeIter h it (lo + (i : Nat) * 1) ((n : Int) - (i : Nat)) 1) where
  mem := by simp
  obj := fun i h st b hb => by
    have e : b = it := by simpa using hb
    subst e
    exact ⟨_, st, fun v z => by
      have z' : Data.fields _ = Data.cell v := z
      cases z'⟩
  keep := fun i h h' st k => k it (by simp) _ st
  item := by
    intro X hP hw hK hc i pins s σ H E I hf st hg
    subst hP hw hK
    obtain ⟨f0, f1, f2, f3, f4, f5⟩ := hf it (by simp)
    have hlt : i < n := hg
    refine wpAny_pyNext_range_item st (by omega) fun h' st' kk => ?_
    have I1 : Inv X pins σ H { s with heap := h', toks := s.toks + 1 } := I.turned (fun b o hb e => (kk.2 b hb).trans e) f0 f1 f3 f4 f5
    have st2 : IsRangeIter h' it (lo + ((i + 1 : Nat) : Int) * 1) ((n : Int) - ((i + 1 : Nat) : Int)) 1 := by
      have e1 : lo + ((i + 1 : Nat) : Int) * 1 = lo + (i : Nat) * 1 + 1 := by omega
      have e2 : (n : Int) - ((i + 1 : Nat) : Int) = (n : Int) - (i : Nat) - 1 := by omega
      rw [e1, e2]
      exact st'
    refine (L2.ea rfl (go_of (s := { s with heap := h', toks := s.toks + 1 }) (n := "range_iterator") st2 rfl rfl (by decide) ⟨.int (lo + i), H, I1, ⟨s.toks, ?_⟩, ⟨rfl, rfl⟩, st2, fun b hb => (hf b hb).1⟩))
    rw [Int.mul_one]
  done := by
    intro X hP hw hK hc i pins s σ H E I hf st hg
    subst hP hw hK
    obtain ⟨f0, f1, f2, f3, f4, f5⟩ := hf it (by simp)
    obtain ⟨hni, hx⟩ := hg
    obtain ⟨φ, _⟩ := I.hok x _ hx
    exact range_end_handled hc φ st (by omega) fun h' eb => ⟨rfl, I.turned (t' := s.toks) (fun b o hb e => eb b o hb e) f0 f1 f3 f4 f5⟩
  self := fun _ _ _ _ _ st h => wpAny_pyIter_rangeiter st h
noncomputable def iRngH (C x : Addr) (ta : TA) : TI := fun σ H R => ta σ H fun vs H1 => ∃ j : Int, vs = [.int j] ∧ -(2 ^ 62) ≤ j ∧ j < 2 ^ 62 ∧ R (ItrH C x 0 j.toNat) H1
section
variable {X : Cx} {tg : Expr}
theorem pi_rangeH {C x : Addr} {a : Expr} {ta : TA} {p pos : Pos} (hg : Gl X "range") (hm : X.mg "range" = none) (ha : PA X [a] ta) (hs : starEach [a] X.env = [(false, eval a X.env)] := by rfl) : PIQ (Handles x) X tg (.Call (.Name "range" p) [a] [] pos) (iRngH C x ta) := by
  intro pins s σ H R I h
  refine Call_ (ld_blt I hg hm boot_range (PyProof.Rows.callWith_type1 (thn (ha pos pins s σ H _ I h) fun us s1 hq_ => ?_) hs rfl))
  obtain ⟨vs, H1, I1, r1, q1⟩ := hq_
  obtain ⟨j, e, q1, q2, q⟩ := q1
  subst e
  obtain ⟨u, rfl, t, rfl⟩ := vals1 r1
  refine call_range_1 (wpAny_pyIter_range (IsRange.new ..) (small_one (by omega) (by omega) q1 q2) ?_)
  generalize hob : ({ cls := .type "range", data := .fields #[.int 0 s1.toks, .int j t, .int 1 (s1.toks + 1)] } : Obj) = ob
  have I2 : Inv X pins σ H1 { s1 with heap := s1.heap.push ob, toks := s1.toks + 2 } := I1.kept fun b o e => Heap.get?_push_of_some _ e
  refine ⟨(s1.heap.push ob).objs.size, [(s1.heap.push ob).objs.size], _, ItrH C x 0 j.toNat, H1, rfl, I2.kept (t' := s1.toks + 2) fun b o e => Heap.get?_push_of_some _ e, turn_rangeH _ 0 j.toNat, ?_, fun b hb => ?_, q⟩
  · have e1 : (0 : Int) + ((0 : Nat) : Int) * 1 = 0 := by simp
    have e2 : ((j.toNat : Nat) : Int) - ((0 : Nat) : Int) = Builtin.Range.rangeSize 0 j 1 := by rw [rangeSize_one]; split <;> omega
    show IsRangeIter _ _ ((0 : Int) + ((0 : Nat) : Int) * 1) (((j.toNat : Nat) : Int) - ((0 : Nat) : Int)) 1
    rw [e1, e2]
    exact Heap.get?_push_size _ rfl
  · have e : b = (s1.heap.push ob).objs.size := by simpa using hb
    subst e
    exact I2.fpOk (Nat.le_refl _) (I2.hok.fresh (Nat.le_refl _))
end
end L2

set_option Elab.async false
set_option linter.all false
set_option maxRecDepth 100000
namespace L2
open PySem PySem.Spec PyProof.Rows
structure RoomH (k : Nat) (x : Addr) (A : Around) : Prop where
  hd : A.handled = some (.ref x)
  dp : A.depth + 3 * k + 5 < recursionLimit
  un : A.units + 16 * k + 200 < cLine
noncomputable abbrev SpH := Addr → Sp
structure FnOkH (P : Program) (w : World) (K : PySem.W.Frag) (mg : Str → Option Value) (base : Heap) (k : Nat) (f : Addr) (fd : FuncData) (ps : List Str) (sp : SpH) : Prop where
  len : ∀ x vs H Q E, sp x vs H Q E → vs.length = ps.length
  run : ∀ (x : Addr) (A : Around) (outer : List Env) (s : Shared) (H : Hp) (args : Args) (us : List Value) (vs : List V) (Q : VK), RoomH k x A → Env0 P w K mg base A outer s H → BindsTo s fd args (ps.zip us) → Vals vs us → sp x vs H Q E0 →
    codeAny (model P w) A (.call (.ref f) args) (CR CX0 outer P w H s Q E0) s
noncomputable abbrev cxH (P : Program) (w : World) (K : PySem.W.Frag) (mg : Str → Option Value) (base : Heap) (N : List Str) (qual : Str) (scope : Scope) (f : Addr) (cd : Value) (A : Around) (outer : List Env) (s : Shared) (H : Hp) : Cx :=
  { cxOf CX0 P w K mg base N qual scope f cd A outer s H E0 with calm := false, xe := fun _ _ => False }
theorem Fun.okH {P : Program} {w : World} {K : PySem.W.Frag} {mg : Str → Option Value} {base : Heap} {x qual : Str} {st : Stmt} {f : Addr} {fd : FuncData} {N ps : List Str} {k : Nat} {sp : SpH} (F : Fun K x qual st f fd) (S : FnScope N ps (defScope st)) (len : ∀ a vs H Q E, sp a vs H Q E → vs.length = ps.length)
    (hbody : ∀ (a : Addr) (cdv : Value) (A : Around) (outer : List Env) (s : Shared) (H : Hp) (vs : List V) (Q : VK), RoomH k a (A.deeper (envOfC qual (defScope st) s.heap.objs.size f cdv)) → sp a vs H Q E0 →
      ∃ t, PSs (cxH P w K mg base N qual (defScope st) f cdv A outer s H) (defBody st) t ∧ t { nx := fun _ H' => Q .non H', rt := Q } (start N vs) H) : FnOkH P w K mg base (k + 1) f fd ps sp := by
  obtain ⟨oc, od, kV, doc, pm, an, cdv, ct, osl, rfl, lk, hcd⟩ := F.ex
  refine ⟨len, fun a A outer s H args us vs Q hr e0 hb r hsp => ?_⟩
  have hl := len _ _ _ _ _ hsp
  have KX : K.In s.heap := e0.mod.kin.keeps fun b o e => (e0.bs b o e).1
  have lim : s.heap.NoLimit := e0.mod.nolimit.keeps fun b o e => (e0.bs b o e).1
  have hkind : ∀ y ∈ ps.zip us, (defScope st).names.lookup y.1 = some .local ∨ ((defScope st).names.lookup y.1 = some .cell ∧ ((cellsFrom (s.heap.objs.size + 1) (defScope st).names []).lookup y.1).isSome = true) := fun ⟨n, v⟩ hy => by
    rcases S.par n (List.of_mem_zip hy).1 with q | q
    · exact .inl q
    · exact .inr ⟨q, PySem.W.cellsFrom_some _ _ _ (.inl q)⟩
  refine codeAny_call_function (by have := hr.dp; omega) (KX _ _ lk) rfl S.co S.gen rfl (PySem.W.codeRec_of KX hcd) (hb _ _ _ _ ?_)
  refine wpAny_newFunctionEnv_cells S.kind hkind fun env he s1 z => ?_
  subst he
  refine ⟨lim.keeps z.toInCall.keep, codeAny_func ?_⟩
  have hr' : RoomH k a (A.deeper (envOfC qual (defScope st) s.heap.objs.size f cdv)) := ⟨hr.hd, by have := hr.dp; show A.depth + 1 + 3 * k + 5 < _; omega, by have := hr.un; show A.units + 3 + 16 * k + 200 < _; omega⟩
  obtain ⟨t, ht, hq⟩ := hbody a cdv A outer s H vs Q hr' hsp
  have e1 : Env0 P w K mg base { A with handled := none } outer s H := ⟨e0.frames, e0.mod, e0.bs, e0.bsz, e0.funs, e0.frf, e0.hok, e0.bare⟩
  have I0 : Inv (cxOf CX0 P w K mg base N qual (defScope st) f cdv { A with handled := none } outer s H E0) [] (start N vs) H s1 := inv_start S rfl e1 hl r z
  have I : Inv (cxH P w K mg base N qual (defScope st) f cdv A outer s H) [] (start N vs) H s1 :=
    ⟨⟨I0.ok.mod, I0.ok.kind, I0.ok.glob, I0.ok.blt, I0.ok.above, I0.ok.inj, I0.ok.has, I0.ok.cab, (fun z => by cases z), Around.frames_deeper e0.frames, I0.ok.stk, I0.ok.exf, I0.ok.bs, I0.ok.bsz, I0.ok.noex, I0.ok.exfs, I0.ok.funs, I0.ok.frf⟩, I0.os, I0.bare, I0.base, I0.loc, I0.cell, I0.free, I0.freeC, I0.pin, I0.hok, I0.len⟩
  refine wpAny_mono (ht [] s1 (start N vs) H _ I hq) (fun fl s' hs => ?_) fun e s' hs => False.elim hs
  have fin : ∀ {σ' : St} {H' : Hp} {v : V} {u : Value}, Inv (cxH P w K mg base N qual (defScope st) f cdv A outer s H) [] σ' H' s' → RelV v u → Q v H' → CE outer P w H s Q u s' := fun {σ' H' v u} J rv q => ⟨v, H', J.os, J.bare, J.base, J.hok, rv, q⟩
  cases fl with
  | ret u => obtain ⟨v, σ', H', J, rv, q⟩ := hs; exact fin J rv q
  | next => obtain ⟨σ', H', J, q⟩ := hs; exact fin (v := V.non) (u := Value.none) J rfl q
  | brk => obtain ⟨_, _, _, q⟩ := hs; exact False.elim q
  | cont => obtain ⟨_, _, _, q⟩ := hs; exact False.elim q
section
variable {X : Cx}
theorem pe_dfH {a : Addr} {x : Str} {st : Stmt} {ps : List Str} {f : Addr} {fd : FuncData} {j : Nat} {sp : SpH} {e : Expr} {es : List Expr} {t : TA} {p pos : Pos} (D : Df X.K X.mg x st ps f fd) (G : FnOkH X.prog X.w X.K X.mg X.base j f fd ps sp) (hr : RoomH j a X.A) (ha : PA X (e :: es) t)
    (hg : Gl X x := by rfl) (hdb : (x == ("__debug__" : Str)) = false := by decide) (hst : starEach (e :: es) X.env = (false, eval e X.env) :: starEach es X.env := by rfl) (hpl : (backTo pos (starEach es X.env)).any (·.1) = false := by rfl) : PE X (.Call (.Name x p) (e :: es) [] pos) (tCall (sp a) [] E0 t) := by
  intro pins s σ H Q I h
  refine wpAny_Call_Name_kw (ld_glob I hg D.mg ?_ hdb)
  refine PySem.W.callWith_K (h₀ := X.base) I.ok.mod.kin D.F.kp (thn (ha pos pins s σ H _ I h) fun us s1 ⟨vs, H1, I1, r, q⟩ => ⟨I1.kIn, ?_⟩) hst hpl
  have q' : sp a vs H1 Q E0 := by
    have : sp a (vs ++ []) H1 Q E0 := q
    rwa [List.append_nil] at this
  have hl : us.length = ps.length := by rw [← r.length]; exact G.len _ _ _ _ _ q'
  have hb := D.b s1 us I1.kIn (by rw [List.append_nil]; exact hl)
  rw [List.append_nil] at hb
  refine wpAny_call (codeAny_mono (G.run a X.A X.stack s1 H1 ⟨us, []⟩ us vs Q hr I1.env0 hb r q') fun r s' hq => ?_)
  cases r with
  | error e => exact False.elim hq
  | ok fl =>
    cases fl with
    | ret u => exact I1.after hq
    | next => exact False.elim hq
    | brk => exact False.elim hq
    | cont => exact False.elim hq
end
end L2

set_option Elab.async false
set_option linter.all false
set_option maxRecDepth 100000
namespace Cn
open PySem L2 Cf
noncomputable abbrev s_other : Stmt := top 40
set_option genInjectivity false in
set_option genSizeOf false in
structure OtT (K : PySem.W.Frag) (mg : Str → Option Value) where
  cF : Addr
  cS : Addr
  cC : Addr
  cR : Addr
  cN : Addr
  gF : mg "NoFloor" = some (.ref cF)
  gS : mg "NoStanding" = some (.ref cS)
  gC : mg "Caught" = some (.ref cC)
  gR : mg "Free" = some (.ref cR)
  gN : mg "NoNumber" = some (.ref cN)
  zi : mg "isinstance" = none
  zv : mg "ValueError" = none
  zr : mg "range" = none
structure KindOf (K : PySem.W.Frag) {mg : Str → Option Value} (T : OtT K mg) (C : Addr) (i : Int) : Prop where
  cls : ExcCls K C
  k0 : PySem.W.kitOne K (.ref C) (.ref T.cF) = some (decide (i = 0))
  k1 : PySem.W.kitOne K (.ref C) (.ref T.cS) = some (decide (i = 1))
  k2 : PySem.W.kitOne K (.ref C) (.ref T.cC) = some (decide (i = 2))
  k3 : PySem.W.kitOne K (.ref C) (.ref T.cR) = some (decide (i = 3))
  k4 : PySem.W.kitOne K (.ref C) (.ref T.cN) = some (decide (i = 4))
  kv : PySem.W.kitOne K (.ref C) (.type "ValueError") = some true
section
variable {P : Program} {w : World} {K : PySem.W.Frag} {mg : Str → Option Value} {base : Heap}
noncomputable def spOt (T : OtT K mg) : SpH := fun x vs H Q _ => ∃ (C : Addr) (i : Int), vs = [.ref x, .int i] ∧ H x = some (ExcO C x) ∧ KindOf K T C i ∧ ∀ H', Same H H' → Q (.bl false) H'
theorem sc_ot : FnScope ["e", "wanted", "sorts"] ["e", "wanted"] (defScope s_other) := ⟨rfl, rfl, rfl, by decide +kernel, rfl, by decide +kernel, by decide +kernel⟩
theorem bs_ot : BlkScope (defScope s_other) ["e", "wanted", "sorts"] (cscope ((fun e => match e with | .Compare _ _ (c :: _) _ => c | _ => non) ((fun e => match e with | .BoolOp _ (a :: _) _ => a | _ => non) (retE (stAt (defBody s_other) 2))))) ["k"] [("wanted", 1)] := ⟨rfl, rfl, by decide +kernel, by decide +kernel, by decide +kernel, by decide +kernel, by decide +kernel⟩
theorem src_rngH {H1 : Hp} {C x : Addr} (n : Int) (hx : H1 x = some (ExcO C x)) : Src (ItrH C x 0 n.toNat) ((Cf.rng n).map V.int) H1 where
  go := fun i H e hi => (src_rng (H1 := H1) n).go i H e hi
  stop := fun H e => ⟨(src_rng (H1 := H1) n).stop H e, e _ _ hx⟩
theorem bls_shaped (bs : List Bool) : SeqAt.shaped (.list (bs.map PyData.bool)) = true := by
  have h1 : ∀ bs : List Bool, PyData.canLayAll0 (bs.map PyData.bool) = true := by
    intro bs
    induction bs with
    | nil => rfl
    | cons d r ih => simp [PyData.canLayAll0, ih, PyData.canLay0]
  have h2 : ∀ bs : List Bool, PyData.depthAll (bs.map PyData.bool) ≤ 1 := by
    intro bs
    induction bs with
    | nil => simp [PyData.depthAll]
    | cons d r ih => simp [PyData.depthAll, PyData.depth]; omega
  have := h2 bs
  simp only [SeqAt.shaped, PyData.canLay0, h1 bs, Bool.true_and, decide_eq_true_eq]
  unfold PyData.depth
  omega
end
end Cn

set_option Elab.async false
set_option linter.all false
set_option maxRecDepth 100000
namespace L2
open PySem PySem.Spec PyProof.Rows
theorem ints_reads {h : Heap} : ∀ {ns : List Int} {us : List Value}, Vals (ns.map V.int) us → ∃ as, ReadsAll h us (ns.map PyData.int) as
  | [], _, .nil => ⟨[], .nil⟩
  | n :: ns, _, .cons ⟨t, e⟩ r => by
    obtain ⟨as, q⟩ := ints_reads (h := h) r
    subst e
    exact ⟨[] ++ as, .cons (.int n t) q⟩
theorem ints_showable : ∀ {ns : List Int}, (∀ n ∈ ns, n.natAbs.log2 < 12) → PyData.showableAll (ns.map PyData.int) = true
  | [], _ => rfl
  | n :: ns, h => by
    have h1 := h n (by simp)
    simp only [List.map_cons, PyData.showableAll, PyData.showable, Bool.and_eq_true, decide_eq_true_eq]
    exact ⟨by omega, ints_showable fun m hm => h m (by simp [hm])⟩
theorem ints_short : ∀ {ns : List Int}, (∀ n ∈ ns, n.natAbs.log2 < 12) → PyData.intsShortAll 13 (ns.map PyData.int) = true
  | [], _ => rfl
  | n :: ns, h => by
    have h1 := h n (by simp)
    simp only [List.map_cons, PyData.intsShortAll, PyData.intsShort, Bool.and_eq_true, decide_eq_true_eq]
    refine ⟨?_, ints_short fun m hm => h m (by simp [hm])⟩
    simp only [PyData.shown]
    rw [PySem.ofString_length]
    exact int_text_length_le (by decide) h1
theorem ints_canLay (ns : List Int) : PyData.canLayAll0 (ns.map PyData.int) = true := by
  induction ns with
  | nil => rfl
  | cons n r ih => simp [PyData.canLayAll0, PyData.canLay0, ih]
theorem ints_depth (ns : List Int) : PyData.depthAll (ns.map PyData.int) ≤ 1 := by
  induction ns with
  | nil => simp [PyData.depthAll]
  | cons n r ih => simp [PyData.depthAll, PyData.depth]; omega
theorem ints_weight : ∀ {ns : List Int}, (∀ n ∈ ns, n.natAbs.log2 < 12) → PyData.weightAll (ns.map PyData.int) ≤ 13 * ns.length
  | [], _ => by simp [PyData.weightAll]
  | n :: ns, h => by
    have h1 := h n (by simp)
    have h2 := ints_weight (ns := ns) fun m hm => h m (List.mem_cons_of_mem _ hm)
    simp only [List.map_cons, PyData.weightAll, PyData.weight, List.length_cons]
    split <;> omega
theorem ints_shown {ns : List Int} (h : ∀ n ∈ ns, n.natAbs.log2 < 12) (hl : ns.length ≤ 100) : (PyData.list (ns.map PyData.int)).shown.length ≤ 15728653 := by
  have h1 := ints_weight h
  have h2 := ints_depth ns
  refine shown_le13 ?_ ?_
  · unfold PyData.layable0
    simp only [Bool.and_eq_true, decide_eq_true_eq]
    refine ⟨⟨?_, ?_⟩, ?_⟩
    · simp only [PyData.canLay0]; exact ints_canLay ns
    · unfold PyData.depth; omega
    · unfold PyData.weight
      have e : (2 : Nat) ^ 20 = 1048576 := by decide
      omega
  · simp only [PyData.intsShort]
    exact ints_short h
section
variable {X : Cx}
noncomputable def tFL (ta : TE) : TE := fun σ H Q => ta σ H fun v H1 => ∃ (a : Addr) (ns : List Int), v = .ref a ∧ H1 a = some (.lst (ns.map V.int)) ∧ (∀ n ∈ ns, n.natAbs.log2 < 12) ∧ ns.length ≤ 100 ∧ ∀ y : Str, y.length ≤ 15728653 → Q (.str y) H1
theorem pe_fmtL {e : Expr} {ta : TE} {pos : Pos} (hg : X.A.guards = some []) (hu : X.A.units + 10 < cLine) (he : PE X e ta) : PE X (.FormattedValue e (-1) none pos) (tFL ta) := by
  intro pins s σ H Q I h
  refine wpAny_FormattedValue_plain (thn (he pins s σ H _ I h) fun v s1 hq_ => ?_)
  obtain ⟨x, H1, I1, r1, a, ns, ex, hA, hn, hl, q⟩ := hq_
  subst ex
  cases r1
  obtain ⟨its, n, r, eo, z⟩ := I1.lst hA
  obtain ⟨as, ra⟩ := ints_reads (h := s1.heap) r
  have rd : Reads s1.heap (.ref a) (.list (ns.map PyData.int)) (a :: as) := .list eo rfl rfl (by simpa using ra)
  have hsz := ints_shown hn hl
  have hd := ints_depth ns
  have big : (15728653 : Nat) ≤ sizeLine := by decide
  refine formatField_of_reads rd (by simp only [PyData.showable]; exact ints_showable hn) ?_ hg ?_ (fun _ _ q => q) (fun h' u tk hk => ⟨.str _, H1, I1.kept (t' := tk) hk, ⟨_, rfl⟩, q _ hsz⟩) (Nat.le_trans hsz big)
  · intro z
    rw [PyData.hasDict_of_layable ?_] at z
    · cases z
    · have h1 := ints_weight hn
      unfold PyData.layable0
      simp only [Bool.and_eq_true, decide_eq_true_eq]
      refine ⟨⟨?_, ?_⟩, ?_⟩
      · simp only [PyData.canLay0]; exact ints_canLay ns
      · unfold PyData.depth; omega
      · unfold PyData.weight
        have e : (2 : Nat) ^ 20 = 1048576 := by decide
        omega
  · unfold PyData.depth
    omega
end
end L2
namespace L2
open PySem PySem.Spec PyProof.Rows
theorem pe_dfX {X : Cx} {CX : CXT} {E : XK} {x : Str} {st : Stmt} {ps : List Str} {f : Addr} {fd : FuncData} {j : Nat} {sp : Sp} {e : Expr} {es : List Expr} {t : TA} {p pos : Pos} (D : Df X.K X.mg x st ps f fd) (G : FnOk X.prog X.w X.K X.mg X.base CX j f fd ps sp) (hr : Room j X.A) (hx : Passes CX X E) (ha : PA X (e :: es) t)
    (hg : Gl X x := by rfl) (hdb : (x == ("__debug__" : Str)) = false := by decide) (hst : starEach (e :: es) X.env = (false, eval e X.env) :: starEach es X.env := by rfl) (hpl : (backTo pos (starEach es X.env)).any (·.1) = false := by rfl) : PE X (.Call (.Name x p) (e :: es) [] pos) (tCall sp [] E t) :=
  pe_call G hr hg D.mg D.F.kp D.b .nil hx ha hdb hst hpl
end L2

set_option Elab.async false
set_option linter.all false
namespace L2
open PySem PySem.Spec PyProof.Rows
theorem RoomH.of {j k : Nat} {A : Around} (r : Room k A) (h : j ≤ k) (x : Addr) : RoomH j x { A with handled := some (.ref x) } :=
  ⟨rfl, by have := r.dp; show A.depth + 3 * j + 5 < _; omega, by have := r.un; show A.units + 16 * j + 200 < _; omega⟩
end L2
namespace L2
open PySem PySem.Spec PyProof.Rows
theorem Room.u10 {k : Nat} {A : Around} (r : Room k A) : A.units + 10 < cLine := by have := r.un; omega
end L2

set_option Elab.async false
set_option linter.all false
set_option maxRecDepth 100000
namespace Cn
open PySem L2 Cf
theorem log_small {z : Int} (h : -2000 ≤ z ∧ z ≤ 2000) : z.natAbs.log2 < 12 := by
  by_cases h0 : z.natAbs = 0
  · rw [h0]; decide
  · rw [Nat.log2_lt h0]
    omega
section
variable {P : Program} {w : World} {K : PySem.W.Frag} {mg : Str → Option Value} {base : Heap}
noncomputable def spRfX (C cC : Addr) : Sp := fun vs H _ E => ∃ (p a : Addr) (n : Int) (ds : List Door) (c : List Int) (r : Int), vs = [.ref p, .ref a, .int r] ∧ FloorAt C H p n ds ∧ n ≤ 6 ∧ IntsAt H a c ∧ OnF n c r ∧ c.contains r = true ∧ ∀ H', Same H H' → E (.ref cC) none H'
theorem ok_rfX (T : PlT K mg) {cC : Addr} {bmB : List Value} {newId initId : String} (gC : mg "Caught" = some (.ref cC)) (hq : PySem.W.excIn K cC bmB newId = true) (FB : ExcBaseFacts "ValueError" newId initId bmB) : FnOk P w K mg base (CX1 P w) 4 T.fF T.fdF ["floor", "chasers", "runner"] (spRfX T.rt.fl.C cC) := by
  have GC : FnOk P w K mg base CX0 3 T.rt.fC T.rt.fdC ["floor", "chasers", "runner"] (spCt T.rt.fl.C) := ok_ct T.rt
  obtain ⟨oc, od, kV, doc, pm, an, cdv, ct, osl, hfd, lk, hcd⟩ := T.rf.F.ex
  rw [hfd]
  rw [hfd] at lk
  refine fn_of lk hcd sc_rf (fun vs H Q E h => ?_) (fun A outer s H vs Q E hr h => ?_)
  · obtain ⟨p, a, n, ds, c, r, rfl, _⟩ := h
    rfl
  · obtain ⟨p, a, n, ds, c, r, rfl, hF, hn6, hA, on, hyes, k⟩ := h
    refine ⟨_, pss_one (ps_if (pt_val (pe_df T.rt.ct GC hr (pa_cons (pv 0) (pa_cons (pv 1) (pa_cons (pv 2) pa_nil)))))
      (pss_one (ps_raise (W := fun H => E (.ref cC) none H) rfl rfl gC hq FB (fun pins σ H s h' a vs I hx hE => leave1 I hx hE) (pa_cons (pe_fstr (.cons pe_str (.cons (pe_fmtL hr.gd hr.u10 (pv 1)) (.cons pe_str (.cons (pe_fmtI (pv 2)) (.cons pe_str .nil)))))) pa_nil))) pss_nil), ?_⟩
    refine (L2.em3_6 rfl rfl rfl p a n ds c r ⟨rfl, hF, hA, on, fun H1 s1 => (L2.ea rfl ?_)⟩)
    rw [hyes]
    have hl := on.1
    have sm : ∀ z : Int, 0 ≤ z ∧ z < n → z.natAbs.log2 < 12 := fun z hz => log_small (by omega)
    refine iteT (L2.ex2 _ 1000 ⟨rfl, (by decide), (by decide), L2.em1_2 rfl a c ⟨rfl, hA.same s1, fun z hz => sm z (on.2.1 z hz), by omega, fun y hy => ⟨y, 15728653, rfl, hy, (by decide), L2.ex2 _ 1000 ⟨rfl, (by decide), (by decide), L2.em1_1 rfl r ⟨rfl, (by have := sm r on.2.2; omega), fun y2 hy2 => ⟨y2, 101, rfl, hy2, (by decide), L2.ex2 _ 1000 ⟨rfl, (by decide), (by decide), fun y3 => ⟨(by show 1 ≤ sizeLine; decide), k H1 s1⟩⟩⟩⟩⟩⟩⟩⟩)
end
end Cn

set_option Elab.async false
set_option linter.all false
set_option maxRecDepth 100000
namespace Cn
open PySem L2 Cf
noncomputable def stB (n : Int) (c : List Int) (r : Int) : Bool := decide (1 ≤ c.length ∧ c.length ≤ 2) && (decide (0 ≤ r ∧ r < n) && c.all fun p => decide (0 ≤ p ∧ p < n))
section
variable {P : Program} {w : World} {K : PySem.W.Frag} {mg : Str → Option Value} {base : Heap}
noncomputable def spCtX (C cS : Addr) : Sp := fun vs H _ E => ∃ (p a : Addr) (n : Int) (ds : List Door) (c : List Int) (r : Int), vs = [.ref p, .ref a, .int r] ∧ FloorAt C H p n ds ∧ IntsAt H a c ∧ c.length ≤ 100 ∧ (∀ z ∈ c, z.natAbs.log2 < 12) ∧ r.natAbs.log2 < 12 ∧ stB n c r = false ∧ ∀ H', Same H H' → E (.ref cS) none H'
theorem ok_ctX (T : RkT K mg) {cS : Addr} {bmB : List Value} {newId initId : String} (gS : mg "NoStanding" = some (.ref cS)) (hq : PySem.W.excIn K cS bmB newId = true) (FB : ExcBaseFacts "ValueError" newId initId bmB) : FnOk P w K mg base (CX1 P w) 3 T.fC T.fdC ["floor", "chasers", "runner"] (spCtX T.fl.C cS) := by
  have GS : FnOk P w K mg base CX0 2 T.fS T.fdS ["floor", "chasers", "runner"] (spSt T.fl.C) := ok_st T
  obtain ⟨oc, od, kV, doc, pm, an, cdv, ct, osl, hfd, lk, hcd⟩ := T.ct.F.ex
  rw [hfd]
  rw [hfd] at lk
  refine fn_of lk hcd sc_ct (fun vs H Q E h => ?_) (fun A outer s H vs Q E hr h => ?_)
  · obtain ⟨p, a, n, ds, c, r, rfl, _⟩ := h
    rfl
  · obtain ⟨p, a, n, ds, c, r, rfl, hF, hA, hl, hc, hrr, hno, k⟩ := h
    refine ⟨_, pss_cons (ps_if (pt_not (pt_val (pe_df T.st GS hr (pa_cons (pv 0) (pa_cons (pv 1) (pa_cons (pv 2) pa_nil))))))
      (pss_one (ps_raise (W := fun H => E (.ref cS) none H) rfl rfl gS hq FB (fun pins σ H s h' a vs I hx hE => leave1 I hx hE) (pa_cons (pe_fstr (.cons pe_str (.cons (pe_fmtL hr.gd hr.u10 (pv 1)) (.cons pe_str (.cons (pe_fmtI (pv 2)) (.cons pe_str .nil)))))) pa_nil))) pss_nil) pss_never, ?_⟩
    refine (L2.em3_6 rfl rfl rfl p a n ds c r ⟨rfl, hF, hA, by omega, fun H1 s1 => (L2.ea rfl ?_)⟩)
    rw [show (decide (1 ≤ c.length ∧ c.length ≤ 2) && (decide (0 ≤ r ∧ r < n) && c.all fun p => decide (0 ≤ p ∧ p < n))) = false from hno]
    refine iteT (L2.ex2 _ 1000 ⟨rfl, (by decide), (by decide), L2.em1_2 rfl a c ⟨rfl, hA.same s1, hc, hl, fun y hy => ⟨y, 15728653, rfl, hy, (by decide), L2.ex2 _ 1000 ⟨rfl, (by decide), (by decide), L2.em1_1 rfl r ⟨rfl, (by omega), fun y2 hy2 => ⟨y2, 101, rfl, hy2, (by decide), L2.ex2 _ 1000 ⟨rfl, (by decide), (by decide), fun y3 => ⟨(by show 1 ≤ sizeLine; decide), k H1 s1⟩⟩⟩⟩⟩⟩⟩⟩)
end
end Cn

set_option Elab.async false
set_option linter.all false
set_option maxRecDepth 100000
namespace Cn
open PySem L2 Cf
noncomputable abbrev s_chase : Stmt := top 20
noncomputable def goodG (n : Int) (ds : List Door) (T : List Int → Int → Option Nat) (r : Int) (k : Nat) (g : List Int) : Bool := g.contains r || decide (grM ((Cf.nearP n ds r).map (T g)) = some (k - 1))
noncomputable def StepTo (n : Int) (ds : List Door) (c : List Int) (r : Int) (k : Nat) (g : List Int) : Prop := ∃ T : List Int → Int → Option Nat, (∀ c' ∈ csM n c.length, ∀ r', 0 ≤ r' → r' < n → IsRank (Cf.nearP n ds) c' r' (T c' r')) ∧ ((choicesM (c.map (Cf.nearP n ds))).filter (goodG n ds T r k)).head? = some g
theorem good_ex {n : Int} {ds : List Door} {T : List Int → Int → Option Nat} {c : List Int} {r : Int} {k : Nat} (ok : NearOk n (Cf.nearP n ds)) (hT : ∀ c' ∈ csM n c.length, ∀ r', 0 ≤ r' → r' < n → IsRank (Cf.nearP n ds) c' r' (T c' r')) (hc : ∀ p ∈ c, 0 ≤ p ∧ p < n) (hr : 0 ≤ r ∧ r < n) (hno : c.contains r = false) (h : IsRank (Cf.nearP n ds) c r (some k)) :
    0 < k ∧ ∃ g ∈ choicesM (c.map (Cf.nearP n ds)), goodG n ds T r k g = true := by
  obtain ⟨h1, h2⟩ := h.yes k rfl
  have hk : 0 < k := by
    rcases Nat.eq_zero_or_pos k with rfl | z
    · rw [win_zero] at h1
      rw [List.contains_iff_mem.mpr h1] at hno
      cases hno
    · exact z
  refine ⟨hk, ?_⟩
  obtain ⟨j, rfl⟩ : ∃ j, k = j + 1 := ⟨k - 1, by omega⟩
  rcases win_succ.mp h1 with z | ⟨g, hg, z⟩
  · rw [h2 j (by omega)] at z
    cases z
  · refine ⟨g, mem_choices.mpr hg, ?_⟩
    unfold goodG
    by_cases hgr : r ∈ g
    · rw [List.contains_iff_mem.mpr hgr, Bool.true_or]
    · rcases z with z | z
      · exact absurd z hgr
      · have hgm : g ∈ csM n c.length := mem_csM.mpr (goes_on ok hc hg)
        have hrk : ∀ r' ∈ Cf.nearP n ds r, ∃ i, T g r' = some i ∧ i ≤ j := fun r' hr' => by
          have hb := ok.go r r' hr.1 hr.2 hr'
          have R := hT g hgm r' hb.1 hb.2
          cases e : T g r' with
          | none =>
            have := (e ▸ R).no rfl j
            rw [z r' hr'] at this
            cases this
          | some i =>
            refine ⟨i, rfl, ?_⟩
            rcases Nat.lt_or_ge j i with q | q
            · have := ((e ▸ R).yes i rfl).2 j q
              rw [z r' hr'] at this
              cases this
            · exact q
        have hne : (Cf.nearP n ds r).map (T g) ≠ [] := by
          have : r ∈ Cf.nearP n ds r := mem_near.mpr ⟨hr, near_self ds r⟩
          intro q
          rw [List.map_eq_nil_iff.mp q] at this
          cases this
        rw [Bool.or_eq_true]
        right
        rw [decide_eq_true_eq]
        have hmem := gr_mem hne
        obtain ⟨r0, hr0, e0⟩ := List.mem_map.mp hmem
        obtain ⟨i, ei, hi⟩ := hrk r0 hr0
        rw [← e0, ei]
        congr 1
        show i = j + 1 - 1
        have eM : grM ((Cf.nearP n ds r).map (T g)) = some i := by rw [← e0, ei]
        rcases Nat.lt_or_ge i j with q | q
        · -- then the rank were less
          have : winB (Cf.nearP n ds) (i + 1) c r = true := win_succ.mpr (.inr ⟨g, hg, .inr fun r' hr' => by
            obtain ⟨i', ei', _⟩ := hrk r' hr'
            obtain ⟨z', ez, hz⟩ := gr_le eM _ (List.mem_map.mpr ⟨r', hr', rfl⟩)
            have hb := ok.go r r' hr.1 hr.2 hr'
            exact win_le ((hT g hgm r' hb.1 hb.2).yes z' ez).1 hz⟩)
          rw [h2 (i + 1) (by omega)] at this
          cases this
        · omega
theorem del_keep' {H : Hp} {acc t : Addr} {c : List Int} {ys : List V} (h : TupAt H t c) (hy : H acc = some (.lst ys)) : TupAt (del H acc) t c := by
  show del _ _ _ = _
  have h' : H t = some (.tup (c.map V.int)) := h
  rw [del_ne (fun z => by rw [z, hy] at h'; cases h')]
  exact h
section
variable {P : Program} {w : World} {K : PySem.W.Frag} {mg : Str → Option Value} {base : Heap}
noncomputable def spCs (C : Addr) : Sp := fun vs H Q _ => ∃ (p a : Addr) (n : Int) (ds : List Door) (c : List Int) (r : Int) (k : Nat), vs = [.ref p, .ref a, .int r] ∧ FloorAt C H p n ds ∧ (1 ≤ n ∧ n ≤ 6) ∧ IntsAt H a c ∧ OnF n c r ∧ c.contains r = false ∧ IsRank (Cf.nearP n ds) c r (some k) ∧
  ∀ (l : Addr) (H' : Hp) (g : List Int), H l = none → Same H H' → IntsAt H' l g → StepTo n ds c r k g → Q (.ref l) H'
noncomputable abbrev nCs : List Str := ["floor", "chasers", "runner", "table", "turns", "flights", "goings", "steps"]
theorem sc_cs : FnScope nCs ["floor", "chasers", "runner"] (defScope s_chase) := ⟨rfl, rfl, rfl, by decide +kernel, rfl, by decide +kernel, by decide +kernel⟩
theorem bs_cs1 : BlkScope (defScope s_chase) nCs (cscope (arg 0 (asgE (stAt (defBody s_chase) 5)))) ["place"] [("floor", 0)] := ⟨rfl, rfl, by decide +kernel, by decide +kernel, by decide +kernel, by decide +kernel, by decide +kernel⟩
theorem bs_cs2 : BlkScope (defScope s_chase) nCs (cscope (asgE (stAt (defBody s_chase) 6))) ["going"] [("runner", 2), ("table", 3), ("flights", 5), ("turns", 4)] := ⟨rfl, rfl, by decide +kernel, by decide +kernel, by decide +kernel, by decide +kernel, by decide +kernel⟩
theorem ok_cs (T : PlT K mg) {f : Addr} {fd : FuncData} (F : Fun K "chase_step" "chase_step" s_chase f fd) : FnOk P w K mg base CX0 5 f fd ["floor", "chasers", "runner"] (spCs T.rt.fl.C) := by
  have GF : FnOk P w K mg base CX0 4 T.fF T.fdF ["floor", "chasers", "runner"] (spRf T.rt.fl.C) := ok_rf T
  have GT : FnOk P w K mg base CX0 4 T.rt.fT T.rt.fdT ["floor", "count"] (spTab T.rt.fl.C) := ok_tb T.rt
  have GE : FnOk P w K mg base CX0 3 T.rt.fl.fE T.rt.fl.fdE ["self", "place"] (spNr T.rt.fl.C) := ok_nr T.rt.fl
  have GB : FnOk P w K mg base CX0 2 T.fB T.fdB ["ranks", "flights"] spRb := ok_rb T.rb.F T.gr T.zmax
  have GC : FnOk P w K mg base CX0 1 T.rt.tb.fC T.rt.tb.fdC ["place_lists"] spCh := ok_ch T.rt.tb.ch.F
  refine F.ok sc_cs (fun vs H Q E h => ?_) (fun cdv A outer s H vs Q E hr h => ?_)
  · obtain ⟨p, a, n, ds, c, r, k, rfl, _⟩ := h
    rfl
  · obtain ⟨p, a, n, ds, c, r, k, rfl, hF, hn, hA, on, hno, hk, kk⟩ := h
    have hr3 := hr.mono (show 3 ≤ 4 by decide)
    have hr2 := hr.mono (show 2 ≤ 4 by decide)
    have hr1 := hr.mono (show 1 ≤ 4 by decide)
    have hu := hu_of hr
    refine ⟨_, pss_cons (ps_expr (pe_df T.rf GF hr (pa_cons (pv 0) (pa_cons (pv 1) (pa_cons (pv 2) pa_nil)))))
      (pss_cons (ps_set (i := 3) sc_cs.nd rfl (Or.inr rfl) (pe_df T.rt.tab GT hr (pa_cons (pv 0) (pa_cons (pe_callB call_len_seq (by rfl) T.rt.fl.zlen PySem.boot_len (pa_cons (pv 1) pa_nil)) pa_nil))))
      (pss_cons (ps_set (i := 4) sc_cs.nd rfl (Or.inr rfl) (pe_ix ix_list (pe_dget hu (pv 3) (pe_callTy call_tuple_of (by rfl) T.rt.tb.ztuple PyProof.Rows.boot_tuple (pa_cons (pv 1) pa_nil)) (by intro _ _; rfl)) (pv 2) (fun _ _ => rfl)))
      (pss_cons (ps_if (pt_cmpR op_isN (pv 4) pe_non (nomark _)) pss_never pss_nil)
      (pss_cons (ps_set (i := 5) sc_cs.nd rfl (Or.inr rfl) (pe_meth (pv 0) T.rt.fl.cl T.rt.fl.mE GE hr3 T.rt.fl.bE .nil pass0 (pa_cons (pv 2) pa_nil)))
      (pss_cons (ps_set (i := 6) sc_cs.nd rfl (Or.inl rfl) (pe_df T.rt.tb.ch GC hr1 (pa_cons (pe_comp bs_cs1 rfl (pi_list (pv 1)) (fun _ _ _ _ _ => pg_name (i := 0) bs_cs1.nd rfl (Or.inl rfl) (Or.inr rfl)) (fun _ _ _ _ _ => pfs_nil)
        (fun _ _ _ _ _ => pe_meth (pv 1) T.rt.fl.cl T.rt.fl.mE GE hr3 T.rt.fl.bE .nil pass0 (pa_cons (pv 0) pa_nil))) pa_nil)))
      (pss_cons (ps_setComp bs_cs2 rfl sc_cs.nd (i := 7) rfl rfl rfl (pi_list (pv 6)) (fun _ _ _ _ _ => pg_name (i := 0) bs_cs2.nd rfl (Or.inl rfl) (Or.inr rfl))
        (fun _ _ _ _ _ => pfs_one (PW.pt (pw_or (pt_cmpR (op_inK (K := K) rfl) (pv 1) (pv 0) (by with_unfolding_all rfl)) (pw_or1 (pt_cmpR op_eq (pe_df T.rb GB hr2 (pa_cons (pe_dget hu (pv 2) (pv 0) (by intro _ _; rfl)) (pa_cons (pv 3) pa_nil))) (pe_op op_sub (pv 4) pe_int) (nomark _)))))) (fun _ _ _ _ _ => pv 0))
      (pss_one (ps_ret (pe_callTy call_list_of (by rfl) T.rt.fl.zlist PyProof.Rows.boot_list (pa_cons (pe_ix ix_list (pv 7) pe_int (fun _ _ => rfl)) pa_nil)))))))))), ?_⟩
    obtain ⟨hn1, hn6⟩ := hn
    have ok : NearOk n (Cf.nearP n ds) := near_ok (by omega) hn6
    refine (L2.em3_6 rfl rfl rfl p a n ds c r ⟨rfl, hF, hA, on, hno, fun H1 s1 => ?_⟩)
    have hA1 := hA.same s1
    have hF1 := hF.same s1
    have hlen : (c.map V.int).length = c.length := List.length_map ..
    refine (L2.em2_2 rfl rfl a _ ⟨rfl, .inl (SqL.of hA1), p, n, ds, c.length, by rw [hlen]; rfl, hF1, ⟨hn1, hn6⟩, on.1.2, fun b H2 T' hb s2 hT hR => ?_⟩)
    have hA2 := hA1.same s2
    have hcm : c ∈ csM n c.length := mem_csM.mpr ⟨rfl, on.2.1⟩
    have ek : T' c r = some k := IsRank.unique (hR c hcm r on.2.2.1 on.2.2.2) hk
    obtain ⟨hk0, g0, hg0, gg0⟩ := good_ex (T := T') ok hR on.2.1 on.2.2 hno hk
    refine (L2.em2_2 rfl rfl a _ ⟨rfl, .inl ⟨SqL.of hA2, fun t ht => ?_⟩⟩)
    obtain ⟨kvs, hk1, hk2⟩ := id hT
    obtain ⟨v, hv, l, rfl, hl⟩ := hk2.get hcm
    have st := Same.new ht (o := .tup (c.map V.int))
    have tk : TupAt (upd H2 t (.tup (c.map V.int))) t c := upd_same
    refine (L2.ex2 b _ ⟨rfl, .inr ⟨kvs, kc c, t, .inl (st _ _ hk1), rfl, tk.key, hv.symm⟩, L2.em1_4 rfl l _ r (ov (T' c r)) ⟨rfl, rfl, SqL.of (st _ _ hl), atI_rng on.2.2, ?_⟩⟩)
    rw [ek]
    have hT3 : TabAt (upd H2 t (.tup (c.map V.int))) b n (csM n c.length) T' := hT.same st
    have s3 := s1.trans (s2.trans st)
    generalize upd H2 t (.tup (c.map V.int)) = H3 at hT3 s3 ⊢
    refine (L2.ea rfl ⟨rfl, L2.ea rfl (iteF ?_)⟩)
    have hF3 := hF.same s3
    obtain ⟨dx, d, hF31, hFD⟩ := id hF3
    refine (L2.em1_3 rfl p dx _ ⟨rfl, hF31, fflds_no _ _ (by decide +kernel) (by decide +kernel), L2.em1_4 rfl p n ds r ⟨rfl, hF3, on.2.2, hn6, fun fl H4 hfl s4 hI => ?_⟩⟩)
    have hne : Cf.nearP n ds r ≠ [] := fun z => by
      have : r ∈ Cf.nearP n ds r := mem_near.mpr ⟨on.2.2, near_self ds r⟩
      rw [z] at this
      cases this
    have hon : ∀ q ∈ Cf.nearP n ds r, 0 ≤ q ∧ q < n := fun q hq => ok.go r q on.2.2.1 on.2.2.2 hq
    have hlen6 := ok.len r
    have hA4 := (hA.same s3).same s4
    have hF4 := hF3.same s4
    refine (L2.em1_1 rfl a ⟨rfl, ⟨_, SqL.of hA4⟩, ?_⟩)
    have hcl := on.1
    refine comp_map (src := c) (emb := V.int) (src_list hA4) (by omega) (fun x => some (Cf.nearP n ds x)) RelI RelI.mono (fun x hx acc ys H' ha sm' hy C C0 hC _ => ?_) (fun na ys H5 ha sm5 hy hp => ?_)
    · have sF := s4.trans sm'
      refine ⟨.no (.yes .nil), L2.em1_3 rfl p dx _ ⟨rfl, sF _ _ hF31, fflds_no _ _ (by decide +kernel) (by decide +kernel), L2.em1_4 rfl p n ds x ⟨rfl, hF3.same sF, on.2.1 x hx, hn6, fun l3 H3 hl3 s3 hI => ?_⟩⟩⟩
      exact hC _ _ _ rfl s3 ⟨l3, rfl, del_keep hI (s3 _ _ hy) (ne_of_none hy hl3).symm⟩
    rw [fm_some] at hp
    have hN := relI_lists hy hp
    refine ⟨na, _, rfl, hN, by rw [List.length_map]; omega, fun z hz => by obtain ⟨q, _, rfl⟩ := List.mem_map.mp hz; exact ok.len q, fun ga H6 hga s6 hTu => ?_⟩
    have s46 := sm5.trans s6
    have hT6 : TabAt H6 b n (csM n c.length) T' := (hT3.same s4).same s46
    have hI6 := hI.same s46
    obtain ⟨gs, hg1, hg2⟩ := id hTu
    have hgl := Paired.length hg2
    have hcl2 := choices_len (ls := c.map (Cf.nearP n ds)) (fun z hz => by obtain ⟨q, _, rfl⟩ := List.mem_map.mp hz; exact ok.len q) c.length
    rw [List.take_of_length_le (by simp)] at hcl2
    have hp6 : 6 ^ c.length ≤ 36 := by
      have : c.length = 1 ∨ c.length = 2 := by omega
      rcases this with e | e <;> rw [e] <;> decide
    have goin : ∀ g ∈ choicesM (c.map (Cf.nearP n ds)), g ∈ csM n c.length := fun g hg => by
      have hg := mem_choices.mp hg
      exact mem_csM.mpr (goes_on ok on.2.1 hg)
    refine (L2.em1_1 rfl ga ⟨rfl, ⟨_, SqL.of hg1⟩, ?_⟩)
    refine comp_map (src := gs.zip (choicesM (c.map (Cf.nearP n ds)))) (emb := fun q => V.ref q.1) (src_paired hg1 hg2) (by rw [List.length_zip]; omega) (fun q => if goodG n ds T' r k q.2 = true then some q.2 else none) RelT RelT.mono (fun q hq acc ys H' ha sm' hy C C0 hC h0 => ?_) (fun sa ys H7 ha sm7 hy hp7 => ?_)
    · have htq : TupAt H' q.1 q.2 := sm' _ _ (Paired.zip_mem hg2 q hq)
      have hqin : q.2 ∈ choicesM (c.map (Cf.nearP n ds)) := List.of_mem_zip hq |>.2
      refine ⟨.no (.yes (.yes (.yes (.yes .nil)))), L2.em2_2 rfl rfl q.1 _ ⟨rfl, .inr (SqT.of htq), rfl, flat_ints _, L2.ea rfl ?_⟩⟩
      rw [show (if false = true then !inV (V.int r) (q.2.map V.int) else inV (V.int r) (q.2.map V.int)) = inV (V.int r) (q.2.map V.int) from rfl, inV_ints]
      refine ite2 (fun h1 => ?_) (fun h1 => ?_)
      · refine (L2.ea rfl (hC _ q.2 _ (if_pos ?_) (Same.refl _) ⟨q.1, rfl, del_keep' htq hy⟩))
        unfold goodG
        rw [h1, Bool.true_or]
      · obtain ⟨kvs6, hk61, hk62⟩ := hT6.same sm'
        obtain ⟨v6, hv6, l6, rfl, hl6⟩ := hk62.get (goin q.2 hqin)
        refine (L2.em2_2 rfl rfl b _ ⟨rfl, .inr ⟨kvs6, kc q.2, q.1, .inl hk61, rfl, htq.key, hv6.symm⟩, L2.ea rfl ⟨l6, fl, n, T' q.2, L2.ea rfl ⟨hl6, hI6.same sm', hne, by omega, hon, fun H8 s8 => ?_⟩⟩⟩)
        have e : V.int ((k : Int) - 1) = ov (some (k - 1)) := by
          show _ = V.int ((k - 1 : Nat) : Int)
          congr 1
          omega
        refine (L2.ea rfl (L2.eb rfl rfl ⟨(by show scal _ (V.int ((k : Int) - 1)) = true; rw [e]; exact ov_same _ _), L2.ea rfl ?_⟩))
        have hd : decide (ov (grM ((Cf.nearP n ds r).map (T' q.2))) = V.int ((k : Int) - 1)) = decide (grM ((Cf.nearP n ds r).map (T' q.2)) = some (k - 1)) := by rw [e, dec_ov]
        have hnc : q.2.contains r = false := by simpa using h1
        refine ite2 (fun h2 => ?_) (fun h2 => ?_)
        · refine (L2.ea rfl (hC _ q.2 _ (if_pos ?_) s8 ⟨q.1, rfl, del_keep' (s8 _ _ htq) (s8 _ _ hy)⟩))
          unfold goodG
          have h2' : decide (grM ((Cf.nearP n ds r).map (T' q.2)) = some (k - 1)) = true := by rw [← hd]; exact h2
          rw [h2', Bool.or_true]
        · refine h0 _ (if_neg ?_) s8
          unfold goodG
          rw [hnc, Bool.false_or, ← hd]
          exact h2
    · obtain ⟨bs, rfl, hp8⟩ := relT_split hp7
      have hp9 := Paired.mapP hp8 fun _ _ (q : TupAt _ _ _) => (q.q (del_same _ _).q)
      have e1 : (gs.zip (choicesM (c.map (Cf.nearP n ds)))).filterMap (fun q => if goodG n ds T' r k q.2 = true then some q.2 else none) = (choicesM (c.map (Cf.nearP n ds))).filter (goodG n ds T' r k) := by
        have e2 := (Paired.zip_fst hg2).2
        have e3 : (gs.zip (choicesM (c.map (Cf.nearP n ds)))).filterMap (fun q => if goodG n ds T' r k q.2 = true then some q.2 else none) = ((gs.zip (choicesM (c.map (Cf.nearP n ds)))).map (·.2)).filterMap (fun g => if goodG n ds T' r k g = true then some g else none) := by
          rw [List.filterMap_map]
          rfl
        rw [e3, e2, fm_filter (goodG n ds T' r k) (fun g => g), List.map_id']
      rw [e1] at hp9
      have hin : g0 ∈ (choicesM (c.map (Cf.nearP n ds))).filter (goodG n ds T' r k) := List.mem_filter.mpr ⟨hg0, gg0⟩
      cases ef : (choicesM (c.map (Cf.nearP n ds))).filter (goodG n ds T' r k) with
      | nil =>
        rw [ef] at hin
        cases hin
      | cons g rest =>
        rw [ef] at hp9
        cases hp9 with
        | @cons t _ bs' _ ht hrest =>
          refine (L2.em1_4 rfl sa _ 0 (.ref t) ⟨rfl, rfl, SqL.of hy, atI_head _ _, L2.ex2 t _ ⟨rfl, .inr (SqT.of ht), fun lr hlr => ?_⟩⟩)
          have s7 := (s3.trans (s4.trans s46)).trans sm7
          refine kk lr _ g (s7.free hlr) (s7.trans (Same.new hlr)) upd_same ⟨T', hR, ?_⟩
          rw [ef]
          rfl
end
end Cn

set_option Elab.async false
set_option linter.all false
set_option maxRecDepth 100000
namespace L2
open PySem PySem.Spec PyProof.Rows
noncomputable def ItlN (K : PySem.W.Frag) (a : Addr) : It :=
  ⟨fun i H => ∃ xs x, SqL K H a xs ∧ xs[i]? = some x, fun i H x H' => H' = H ∧ ∀ xs, SqL K H a xs → xs[i]? = some x, fun _ _ => False⟩
theorem turn_listN {P : Program} {w : World} {K : PySem.W.Frag} {tg : Expr} (a it : Addr) : TurnQ (fun _ => True) P w K tg (ItlN K a) [it] it (fun i h => h.IsListIter it a i) where
  mem := by simp
  obj := fun i h st b hb => by
    have e : b = it := by simpa using hb
    subst e
    obtain ⟨o, e, c, d⟩ := st
    exact ⟨o, e, fun v z => by rw [d] at z; cases z⟩
  keep := fun i h h' st k => st.at fun o e => k it (by simp) o e
  item := by
    intro X hP hw hK hc i pins s σ H E I hf st hg
    subst hP hw hK
    obtain ⟨xs, x, hq, hx⟩ := hg
    obtain ⟨its, rv, p, hz⟩ := I.list hq
    obtain ⟨u, hu, ru⟩ := rv.get hx
    obtain ⟨f0, f1, f2, f3, f4, f5⟩ := hf it (by simp)
    refine wpAny_pyNext_list_item st p.isList (x := u) (by simpa using hu) fun h' st' sb => ?_
    have I1 : Inv X pins σ H { s with heap := h' } := I.turned (t' := s.toks) (fun b o hb e => (sb.2 b hb).trans e) f0 f1 f3 f4 f5
    obtain ⟨o, e, c, d⟩ := id st'
    exact ⟨u, rfl, go_of (s := { s with heap := h' }) e c d (by decide) ⟨x, H, I1, ru, ⟨rfl, fun ys hy => by rw [I.list_inj hy hq]; exact hx⟩, st', fun b hb => (hf b hb).1⟩⟩
  done := by
    intro X hP hw hK hc i pins s σ H E I hf st hg
    exact False.elim hg
  self := fun _ _ _ _ _ st h => wpAny_pyIter_listiter st h
section
variable {X : Cx} {tg : Expr}
noncomputable def iListN (K : PySem.W.Frag) (tl : TE) : TI := fun σ H R => tl σ H fun x H1 => ∃ a, x = .ref a ∧ (∃ xs, SqL K H1 a xs) ∧ R (ItlN K a) H1
theorem pi_listN {l : Expr} {tl : TE} (hl : PE X l tl) : PIQ (fun _ => True) X tg l (iListN X.K tl) := by
  intro pins s σ H R I h
  refine thn (hl pins s σ H _ I h) fun v s1 hq_ => ?_
  obtain ⟨x, H1, I1, r1, q1⟩ := hq_
  obtain ⟨a, e, ⟨xs, hq⟩, q⟩ := q1
  subst e
  cases r1
  obtain ⟨its, rv, p, hz⟩ := I1.list hq
  refine wpAny_pyIter_list p.isList ?_
  refine ⟨s1.heap.objs.size, [s1.heap.objs.size], _, _, H1, rfl, I1.kept (t' := s1.toks) fun b o e => Heap.get?_push_of_some _ e, turn_listN a _, ⟨_, Heap.get?_push_size _ rfl, rfl, rfl⟩, fun b hb => ?_, q⟩
  have e : b = s1.heap.objs.size := by simpa using hb
  subst e
  exact I1.fpOk (Nat.le_refl _) (I1.hok.fresh (Nat.le_refl _))
theorem ps_forQ {κ : Cx → Prop} {iter : Expr} {body : List Stmt} {wi : TI} {g : TG} {tb : TS} {pos : Pos} (hp : PassesOwn (model X.prog X.w) X.A X.env X.xe) (hc : κ X) (hi : PIQ κ X tg iter wi) (hg : PG X tg g) (hb : PSs X body tb)
    (hs : ∀ x, foldedSetIterable iter X.env x = pure x := by intro _; rfl) : PS X (.For tg iter body [] pos) (tFor wi g tb) := by
  intro pins s σ H D I h
  refine wpAny_For (thn (hi pins s σ H _ I h) fun v s1 h1 => thn h1 fun itv s2 h2 => ?_) hs
  obtain ⟨it, fp, tn, J, H2, e, I2, T, st2, f2, W, ⟨m0, w0⟩, turn⟩ := h2
  subst e
  have stat : ∀ {H' : Hp}, (∀ b ∈ fp, H' b = none) → ∀ b ∈ fp, FpOk X pins H' b := fun hn b hb => ⟨hn b hb, (f2 b hb).2⟩
  refine codeAny_forLoop_any (fun n s' => ∃ i σ' H', Inv X pins σ' H' s' ∧ tn i s'.heap ∧ (∀ b ∈ fp, H' b = none) ∧ W i n σ' H') ?_ m0 ⟨0, σ, H2, I2, st2, fun b hb => (f2 b hb).1, w0⟩
  rintro n s3 ⟨i, σ3, H3, I3, st3, fr3, w3⟩
  rcases turn i n σ3 H3 w3 with ⟨stop, qn⟩ | ⟨go, N, hN, step⟩
  · refine wpAny_passesOwn hp (thn (T.done X rfl rfl rfl hc i pins s3 σ3 H3 X.xe I3 (stat fr3) st3 stop) fun r s4 hq_ => ?_)
    obtain ⟨hr, I4⟩ := hq_
    subst hr
    exact wpAny_execs_nil ⟨σ3, H3, I4, qn⟩
  · refine wpAny_passesOwn hp (thn (T.item X rfl rfl rfl hc i pins s3 σ3 H3 X.xe I3 (stat fr3) st3 go) fun r s4 hq_ => ?_)
    obtain ⟨u, hr, h4⟩ := hq_
    subst hr
    refine wpAny_passesOwn hp (thn h4 fun _ s5 hq_ => ?_)
    obtain ⟨x, H5, I5, r5, y5, st5, fr5⟩ := hq_
    have I5' := I5.pinned (stat fr5) (T.obj _ _ st5)
    refine wpAny_passesOwn hp (thn (hg _ s5 σ3 H5 x u _ I5' r5 (step x H5 y5)) fun _ s6 hq_ => ?_)
    obtain ⟨σ6, H6, I6, q6⟩ := hq_
    refine wpAny_passesOwn hp (thn (hb _ s6 σ6 H6 _ I6 q6) fun f s7 q7 => ?_)
    have again : ∀ {σ7 : St} {H7 : Hp}, Inv X (pins ++ pinsAt fp s5.heap) σ7 H7 s7 → N σ7 H7 → ∃ m, m < n ∧ ∃ i σ' H', Inv X pins σ' H' s7 ∧ tn i s7.heap ∧ (∀ b ∈ fp, H' b = none) ∧ W i m σ' H' := fun {σ7 H7} I7 n7 => by
      obtain ⟨m', hm, w7⟩ := hN σ7 H7 n7
      refine ⟨m', hm, i + 1, σ7, H7, I7.unpinned, T.keep _ _ _ st5 fun b hb o e => (I7.pin (b, o) (List.mem_append_right _ (List.mem_append_right _ (mem_pinsAt hb e)))).1, fun b hb => ?_, w7⟩
      obtain ⟨o, e, d⟩ := T.obj _ _ st5 b hb
      exact (I7.pin (b, o) (List.mem_append_right _ (List.mem_append_right _ (mem_pinsAt hb e)))).2.1
    cases f with
    | next => obtain ⟨σ7, H7, I7, n7⟩ := q7; exact again I7 n7
    | cont => obtain ⟨σ7, H7, I7, n7⟩ := q7; exact again I7 n7
    | brk => obtain ⟨σ7, H7, I7, q7⟩ := q7; exact ⟨σ7, H7, I7.unpinned, q7⟩
    | ret v => obtain ⟨x7, σ7, H7, I7, r7, q7⟩ := q7; exact ⟨x7, σ7, H7, I7.unpinned, r7, q7⟩
end
theorem for_listN {K : PySem.W.Frag} {a : Addr} {xs : List V} {g : TG} {tb : TS} {D : Ends} {σ : St} {H : Hp} (k : Nat) (hk : k < xs.length) (Pv : Nat → St → Hp → Prop) (h0 : Pv 0 σ H) (hl : ∀ i σ H, i ≤ k → Pv i σ H → SqL K H a xs)
    (hs : ∀ i x σ H, i < k → xs[i]? = some x → Pv i σ H → g x σ H fun σ2 H2 => tb { D with nx := Pv (i + 1), ct := Pv (i + 1), bk := D.nx } σ2 H2)
    (hd : ∀ x σ H, xs[k]? = some x → Pv k σ H → g x σ H fun σ2 H2 => tb { D with nx := fun _ _ => False, ct := fun _ _ => False, bk := D.nx } σ2 H2) :
    ∃ W : Nat → Nat → St → Hp → Prop, (∃ m, W 0 m σ H) ∧ ∀ i m σ H, W i m σ H →
      ((ItlN K a).stop i H ∧ D.nx σ H) ∨ ((ItlN K a).go i H ∧ ∃ N : St → Hp → Prop, (∀ σ' H', N σ' H' → ∃ m', m' < m ∧ W (i + 1) m' σ' H') ∧ ∀ x H', (ItlN K a).yld i H x H' → g x σ H' fun σ2 H2 => tb { D with nx := N, ct := N, bk := D.nx } σ2 H2) := by
  refine ⟨fun i m σ H => m = k - i ∧ i ≤ k ∧ Pv i σ H, ⟨k, by simp, Nat.zero_le _, h0⟩, ?_⟩
  rintro i m σ H ⟨rfl, hi, p⟩
  have q := hl i σ H hi p
  have ex : xs[i]? = some (xs[i]'(by omega)) := List.getElem?_eq_getElem (by omega)
  by_cases hlt : i < k
  · refine .inr ⟨⟨xs, _, q, ex⟩, Pv (i + 1), fun σ' H' p' => ⟨k - (i + 1), by omega, rfl, by omega, p'⟩, ?_⟩
    rintro x H' ⟨rfl, hx⟩
    exact hs i x σ H' hlt (hx xs q) p
  · have e : i = k := by omega
    subst e
    refine .inr ⟨⟨xs, _, q, ex⟩, fun _ _ => False, fun σ' H' p' => False.elim p', ?_⟩
    rintro x H' ⟨rfl, hx⟩
    exact hd x σ H' (hx xs q) p
theorem FnOk.or {P : Program} {w : World} {K : PySem.W.Frag} {mg : Str → Option Value} {base : Heap} {CX : CXT} {k : Nat} {f : Addr} {fd : FuncData} {ps : List Str} {sp sp' : Sp} (F : FnOk P w K mg base CX k f fd ps sp) (F' : FnOk P w K mg base CX k f fd ps sp') : FnOk P w K mg base CX k f fd ps (fun vs H Q E => sp vs H Q E ∨ sp' vs H Q E) :=
  ⟨fun vs H Q E h => h.elim (F.len vs H Q E) (F'.len vs H Q E), fun A outer s H args us vs Q E hr e0 hb r h => h.elim (F.run A outer s H args us vs Q E hr e0 hb r) (F'.run A outer s H args us vs Q E hr e0 hb r)⟩
theorem FnOk.up {P : Program} {w : World} {K : PySem.W.Frag} {mg : Str → Option Value} {base : Heap} {CX : CXT} {k : Nat} {f : Addr} {fd : FuncData} {ps : List Str} {sp : Sp} (F : FnOk P w K mg base CX0 k f fd ps sp) : FnOk P w K mg base CX k f fd ps sp :=
  ⟨F.len, fun A outer s H args us vs Q E hr e0 hb r h => codeAny_mono (F.run A outer s H args us vs Q E hr e0 hb r h) fun r s' hq => by
    cases r with
    | error e => exact False.elim hq
    | ok fl =>
      cases fl with
      | ret u => exact hq
      | next => exact False.elim hq
      | brk => exact False.elim hq
      | cont => exact False.elim hq⟩
end L2

set_option Elab.async false
set_option linter.all false
set_option maxRecDepth 100000
namespace Cn
open PySem L2 Cf
section
variable {P : Program} {w : World} {K : PySem.W.Frag} {mg : Str → Option Value} {base : Heap}
noncomputable def spOt2 (T : OtT K mg) : SpH := fun x vs H Q _ => ∃ (C : Addr) (i wn : Int), vs = [.ref x, .int wn] ∧ H x = some (ExcO C x) ∧ KindOf K T C i ∧ (0 ≤ i ∧ i < 5) ∧ (0 ≤ wn ∧ wn < 5) ∧ ∀ H', Same H H' → Q (.bl (decide (wn ≠ i))) H'
theorem five {i : Int} (h : 0 ≤ i ∧ i < 5) : i = 0 ∨ i = 1 ∨ i = 2 ∨ i = 3 ∨ i = 4 := by
  obtain ⟨n, rfl⟩ := Int.eq_ofNat_of_zero_le h.1
  have h2 : n < 5 := Int.ofNat_lt.mp h.2
  match n, h2 with
  | 0, _ => exact .inl rfl
  | 1, _ => exact .inr (.inl rfl)
  | 2, _ => exact .inr (.inr (.inl rfl))
  | 3, _ => exact .inr (.inr (.inr (.inl rfl)))
  | 4, _ => exact .inr (.inr (.inr (.inr rfl)))
theorem bls_eqv2 : ∀ {bs cs : List Bool}, bs.length = cs.length → PyData.eqv (.list (bs.map PyData.bool)) (.list (cs.map PyData.bool)) = decide (bs = cs) := by
  have key : ∀ (bs cs : List Bool), bs.length = cs.length → PyData.eqvAll (bs.map PyData.bool) (cs.map PyData.bool) = decide (bs = cs) := by
    intro bs
    induction bs with
    | nil => intro cs h; cases cs with | nil => rfl | cons _ _ => simp at h
    | cons d r ih =>
      intro cs h
      cases cs with
      | nil => simp at h
      | cons c t =>
        have e1 : PyData.eqv (.bool d) (.bool c) = decide (d = c) := by cases d <;> cases c <;> simp [PyData.eqv]
        simp only [List.map_cons, PyData.eqvAll, e1, ih t (by simpa using h)]
        by_cases h1 : d = c <;> by_cases h2 : r = t <;> simp [h1, h2]
  intro bs cs h
  simp only [PyData.eqv]
  exact key bs cs h
theorem ok_ot2 {f : Addr} {fd : FuncData} (F : Fun K "_law_other" "_law_other" s_other f fd) (T : OtT K mg) : FnOkH P w K mg base 1 f fd ["e", "wanted"] (spOt2 T) := by
  refine F.okH sc_ot (fun x vs H Q E h => ?_) (fun x cdv A outer s H vs Q hr h => ?_)
  · obtain ⟨C, i, wn, rfl, _⟩ := h
    rfl
  · obtain ⟨C, i, wn, rfl, hx, kk, hi, hwn, k⟩ := h
    have hu : (A.deeper (PyProof.Rows.envOfC "_law_other" (defScope s_other) s.heap.objs.size f cdv)).units + 64 < cLine := by have := hr.un; omega
    refine ⟨_, pss_cons (ps_set (i := 2) sc_ot.nd rfl (Or.inl rfl) (pe_lst (pa_cons (pe_callB call_isexc (by rfl) T.zi PyProof.Rows.boot_isinstance (pa_cons (pv 0) (pa_cons (pe_glob (v := .ref T.cF) rfl T.gF rfl) pa_nil)))
        (pa_cons (pe_callB call_isexc (by rfl) T.zi PyProof.Rows.boot_isinstance (pa_cons (pv 0) (pa_cons (pe_glob (v := .ref T.cS) rfl T.gS rfl) pa_nil)))
        (pa_cons (pe_callB call_isexc (by rfl) T.zi PyProof.Rows.boot_isinstance (pa_cons (pv 0) (pa_cons (pe_glob (v := .ref T.cC) rfl T.gC rfl) pa_nil)))
        (pa_cons (pe_callB call_isexc (by rfl) T.zi PyProof.Rows.boot_isinstance (pa_cons (pv 0) (pa_cons (pe_glob (v := .ref T.cR) rfl T.gR rfl) pa_nil))) pa_nil))))))
      (pss_cons (ps_expr (pe_bm PySem.F.plainAttrs_list PySem.F.slot_list_append PySem.F.type_list_append mt_append (pv 2) (pa_cons (pe_callB call_isexc (by rfl) T.zi PyProof.Rows.boot_isinstance (pa_cons (pv 0) (pa_cons (pe_glob (v := .ref T.cN) rfl T.gN rfl) pa_nil))) pa_nil)))
      (pss_one (ps_ret (pe_or (pe_cmpR (op_neD hu) (pv 2) (pe_compQ (κ := Handles x) bs_ot (fun _ _ _ _ _ => hr.hd) (pi_rangeH (C := C) rfl T.zr (pa_cons pe_int pa_nil)) (fun _ _ _ _ _ => pg_name (i := 0) bs_ot.nd rfl (Or.inl rfl) (Or.inr rfl)) (fun _ _ _ _ _ => pfs_nil)
          (fun _ _ _ _ _ => pe_cmpR op_eq (pv 0) (pv 1) (nomark _))) (nomark _))
        (pe_one (pe_not (pe_callB call_isexc (by rfl) T.zi PyProof.Rows.boot_isinstance (pa_cons (pv 0) (pa_cons (pe_bltn (v := .ty "ValueError") rfl T.zv (show bootBuiltins "ValueError" = some (.type "ValueError") by decide +kernel) rfl) pa_nil))))))))), ?_⟩
    have rf : ∀ (c : Addr) (u' : Value), RelV (.ref c) u' → u' = .ref c := fun c u' r => r
    refine (L2.em1_5 rfl x C _ _ _ ⟨rfl, hx, kk.cls, rf _, kk.k0, L2.em1_5 rfl x C _ _ _ ⟨rfl, hx, kk.cls, rf _, kk.k1, L2.em1_5 rfl x C _ _ _ ⟨rfl, hx, kk.cls, rf _, kk.k2, L2.em1_5 rfl x C _ _ _ ⟨rfl, hx, kk.cls, rf _, kk.k3, (by show 4 ≤ sizeLine; decide), fun l hl => ?_⟩⟩⟩⟩)
    have s1 := Same.new hl (o := .lst [.bl (decide (i = 0)), .bl (decide (i = 1)), .bl (decide (i = 2)), .bl (decide (i = 3))])
    have hx1 := s1 _ _ hx
    refine (L2.ea rfl ⟨.inl ⟨rfl, _, SqL.of upd_same⟩, L2.em1_5 rfl x C _ _ _ ⟨rfl, hx1, kk.cls, rf _, kk.k4, L2.ex3 l _ _ ⟨rfl, rfl, upd_same, (by show 4 < sizeLine; decide), ?_⟩⟩⟩)
    have s2 : Same H (upd (upd H l (.lst [.bl (decide (i = 0)), .bl (decide (i = 1)), .bl (decide (i = 2)), .bl (decide (i = 3))])) l (.lst ([.bl (decide (i = 0)), .bl (decide (i = 1)), .bl (decide (i = 2)), .bl (decide (i = 3))] ++ [.bl (decide (i = 4))]))) := s1.set hl
    have hl2 : (upd (upd H l (.lst [.bl (decide (i = 0)), .bl (decide (i = 1)), .bl (decide (i = 2)), .bl (decide (i = 3))])) l (.lst ([.bl (decide (i = 0)), .bl (decide (i = 1)), .bl (decide (i = 2)), .bl (decide (i = 3))] ++ [.bl (decide (i = 4))]))) l = some (.lst ([decide (i = 0), decide (i = 1), decide (i = 2), decide (i = 3), decide (i = 4)].map V.bl)) := upd_same
    generalize upd (upd H l (.lst [.bl (decide (i = 0)), .bl (decide (i = 1)), .bl (decide (i = 2)), .bl (decide (i = 3))])) l (.lst ([.bl (decide (i = 0)), .bl (decide (i = 1)), .bl (decide (i = 2)), .bl (decide (i = 3))] ++ [.bl (decide (i = 4))])) = H2 at s2 hl2 ⊢
    have hx2 := s2 _ _ hx
    refine (L2.em1_1 rfl 5 ⟨rfl, by omega, by omega, ?_⟩)
    refine comp_vals (src_rngH 5 hx2) (rng_len (by omega)) (fun j => some (.bl (decide (V.int j = V.int wn)))) (fun j hj H' sm C' C0 hC h0 => ?_) (fun acc H3 ha sm e => ?_)
    · exact ⟨.no (.yes .nil), L2.ea2 rfl rfl ⟨rfl, hC _ _ rfl (Same.refl _)⟩⟩
    · rw [fm_some] at e
      have ee : ∀ j : Int, decide (V.int j = V.int wn) = decide (wn = j) := fun j => by
        rw [decide_eq_decide]
        exact ⟨fun z => (V.int.inj z).symm, fun z => by rw [z]⟩
      have e' : H3 acc = some (.lst ([decide (wn = 0), decide (wn = 1), decide (wn = 2), decide (wn = 3), decide (wn = 4)].map V.bl)) := by
        rw [e]
        simp only [ee]
        rfl
      refine ⟨_, _, .lst (sm _ _ hl2) (Reps.bls _), .lst e' (Reps.bls _), bls_shaped _, bls_shaped _, L2.ea rfl ?_⟩
      rw [bls_eqv2 (by rfl)]
      have i5 := five hi
      have w5 := five hwn
      have key : decide ([decide (i = 0), decide (i = 1), decide (i = 2), decide (i = 3), decide (i = 4)] = [decide (wn = 0), decide (wn = 1), decide (wn = 2), decide (wn = 3), decide (wn = 4)]) = decide (wn = i) := by
        rcases i5 with rfl | rfl | rfl | rfl | rfl <;> rcases w5 with rfl | rfl | rfl | rfl | rfl <;> decide
      rw [key]
      by_cases hwi : wn = i
      · rw [decide_eq_true hwi]
        rw [decide_eq_false (fun z => z hwi)] at k
        refine iteF (L2.ea rfl ⟨x, C, _, .type "ValueError", true, rfl, sm _ _ hx2, kk.cls, (fun u' r => r), kk.kv, L2.ea rfl (k H3 (s2.trans sm))⟩)
      · rw [decide_eq_false hwi]
        rw [decide_eq_true (show wn ≠ i from hwi)] at k
        exact iteT (k H3 (s2.trans sm))
end
end Cn

set_option Elab.async false
set_option linter.all false
set_option maxRecDepth 100000
namespace Cn
open PySem L2 Cf
section
variable {P : Program} {w : World} {K : PySem.W.Frag} {mg : Str → Option Value} {base : Heap} {bmB : List Value} {newId initId : String}
theorem ok_rfS (T : PlT K mg) {cS : Addr} (gS : mg "NoStanding" = some (.ref cS)) (hq : PySem.W.excIn K cS bmB newId = true) (FB : ExcBaseFacts "ValueError" newId initId bmB) : FnOk P w K mg base (CX1 P w) 4 T.fF T.fdF ["floor", "chasers", "runner"] (spCtX T.rt.fl.C cS) := by
  have GC : FnOk P w K mg base (CX1 P w) 3 T.rt.fC T.rt.fdC ["floor", "chasers", "runner"] (spCtX T.rt.fl.C cS) := ok_ctX T.rt gS hq FB
  obtain ⟨oc, od, kV, doc, pm, an, cdv, ct, osl, hfd, lk, hcd⟩ := T.rf.F.ex
  rw [hfd]
  rw [hfd] at lk
  refine fn_of lk hcd sc_rf (fun vs H Q E h => ?_) (fun A outer s H vs Q E hr h => ?_)
  · obtain ⟨p, a, n, ds, c, r, rfl, _⟩ := h
    rfl
  · obtain ⟨p, a, n, ds, c, r, rfl, rest⟩ := h
    refine ⟨_, pss_one (ps_if (pt_val (pe_dfX T.rt.ct GC hr pass1 (pa_cons (pv 0) (pa_cons (pv 1) (pa_cons (pv 2) pa_nil))))) pss_never pss_never), ?_⟩
    exact (L2.em3_6 rfl rfl rfl p a n ds c r ⟨rfl, rest⟩)
theorem ok_csS (T : PlT K mg) {f : Addr} {fd : FuncData} (F : Fun K "chase_step" "chase_step" s_chase f fd) {cS : Addr} (gS : mg "NoStanding" = some (.ref cS)) (hq : PySem.W.excIn K cS bmB newId = true) (FB : ExcBaseFacts "ValueError" newId initId bmB) : FnOk P w K mg base (CX1 P w) 5 f fd ["floor", "chasers", "runner"] (spCtX T.rt.fl.C cS) := by
  have GC : FnOk P w K mg base (CX1 P w) 4 T.fF T.fdF ["floor", "chasers", "runner"] (spCtX T.rt.fl.C cS) := ok_rfS T gS hq FB
  obtain ⟨oc, od, kV, doc, pm, an, cdv, ct, osl, hfd, lk, hcd⟩ := F.ex
  rw [hfd]
  rw [hfd] at lk
  refine fn_of lk hcd sc_cs (fun vs H Q E h => ?_) (fun A outer s H vs Q E hr h => ?_)
  · obtain ⟨p, a, n, ds, c, r, rfl, _⟩ := h
    rfl
  · obtain ⟨p, a, n, ds, c, r, rfl, rest⟩ := h
    refine ⟨_, pss_cons (ps_expr (pe_dfX T.rf GC hr pass1 (pa_cons (pv 0) (pa_cons (pv 1) (pa_cons (pv 2) pa_nil))))) pss_never, ?_⟩
    exact (L2.em3_6 rfl rfl rfl p a n ds c r ⟨rfl, rest⟩)
theorem ok_csX (T : PlT K mg) {f : Addr} {fd : FuncData} (F : Fun K "chase_step" "chase_step" s_chase f fd) {cC : Addr} (gC : mg "Caught" = some (.ref cC)) (hq : PySem.W.excIn K cC bmB newId = true) (FB : ExcBaseFacts "ValueError" newId initId bmB) : FnOk P w K mg base (CX1 P w) 5 f fd ["floor", "chasers", "runner"] (spRfX T.rt.fl.C cC) := by
  have GC : FnOk P w K mg base (CX1 P w) 4 T.fF T.fdF ["floor", "chasers", "runner"] (spRfX T.rt.fl.C cC) := ok_rfX T gC hq FB
  obtain ⟨oc, od, kV, doc, pm, an, cdv, ct, osl, hfd, lk, hcd⟩ := F.ex
  rw [hfd]
  rw [hfd] at lk
  refine fn_of lk hcd sc_cs (fun vs H Q E h => ?_) (fun A outer s H vs Q E hr h => ?_)
  · obtain ⟨p, a, n, ds, c, r, rfl, _⟩ := h
    rfl
  · obtain ⟨p, a, n, ds, c, r, rfl, rest⟩ := h
    refine ⟨_, pss_cons (ps_expr (pe_dfX T.rf GC hr pass1 (pa_cons (pv 0) (pa_cons (pv 1) (pa_cons (pv 2) pa_nil))))) pss_never, ?_⟩
    exact (L2.em3_6 rfl rfl rfl p a n ds c r ⟨rfl, rest⟩)
noncomputable def spCsF (C cR : Addr) : Sp := fun vs H _ E => ∃ (p a : Addr) (n : Int) (ds : List Door) (c : List Int) (r : Int), vs = [.ref p, .ref a, .int r] ∧ FloorAt C H p n ds ∧ (1 ≤ n ∧ n ≤ 6) ∧ IntsAt H a c ∧ OnF n c r ∧ c.contains r = false ∧ IsRank (Cf.nearP n ds) c r none ∧ ∀ H', Same H H' → E (.ref cR) none H'
theorem ok_csF (T : PlT K mg) {f : Addr} {fd : FuncData} (F : Fun K "chase_step" "chase_step" s_chase f fd) {cR : Addr} (gR : mg "Free" = some (.ref cR)) (hq : PySem.W.excIn K cR bmB newId = true) (FB : ExcBaseFacts "ValueError" newId initId bmB) : FnOk P w K mg base (CX1 P w) 5 f fd ["floor", "chasers", "runner"] (spCsF T.rt.fl.C cR) := by
  have GF : FnOk P w K mg base CX0 4 T.fF T.fdF ["floor", "chasers", "runner"] (spRf T.rt.fl.C) := ok_rf T
  have GT : FnOk P w K mg base CX0 4 T.rt.fT T.rt.fdT ["floor", "count"] (spTab T.rt.fl.C) := ok_tb T.rt
  obtain ⟨oc, od, kV, doc, pm, an, cdv, ct, osl, hfd, lk, hcd⟩ := F.ex
  rw [hfd]
  rw [hfd] at lk
  refine fn_of lk hcd sc_cs (fun vs H Q E h => ?_) (fun A outer s H vs Q E hr h => ?_)
  · obtain ⟨p, a, n, ds, c, r, rfl, _⟩ := h
    rfl
  · obtain ⟨p, a, n, ds, c, r, rfl, hF, hn, hA, on, hno, hk, kk⟩ := h
    have hu := hu_of hr
    refine ⟨_, pss_cons (ps_expr (pe_df T.rf GF hr (pa_cons (pv 0) (pa_cons (pv 1) (pa_cons (pv 2) pa_nil)))))
      (pss_cons (ps_set (i := 3) sc_cs.nd rfl (Or.inr rfl) (pe_df T.rt.tab GT hr (pa_cons (pv 0) (pa_cons (pe_callB call_len_seq (by rfl) T.rt.fl.zlen PySem.boot_len (pa_cons (pv 1) pa_nil)) pa_nil))))
      (pss_cons (ps_set (i := 4) sc_cs.nd rfl (Or.inr rfl) (pe_ix ix_list (pe_dget hu (pv 3) (pe_callTy call_tuple_of (by rfl) T.rt.tb.ztuple PyProof.Rows.boot_tuple (pa_cons (pv 1) pa_nil)) (by intro _ _; rfl)) (pv 2) (fun _ _ => rfl)))
      (pss_cons (ps_if (pt_cmpR op_isN (pv 4) pe_non (nomark _)) (pss_one (ps_raise (W := fun H => E (.ref cR) none H) rfl rfl gR hq FB (fun pins σ H s h' a vs I hx hE => leave1 I hx hE) (pa_cons (pe_fstr (.cons pe_str (.cons (pe_fmtL hr.gd hr.u10 (pv 1)) (.cons pe_str (.cons (pe_fmtI (pv 2)) .nil))))) pa_nil))) pss_nil) pss_never))), ?_⟩
    obtain ⟨hn1, hn6⟩ := hn
    refine (L2.em3_6 rfl rfl rfl p a n ds c r ⟨rfl, hF, hA, on, hno, fun H1 s1 => ?_⟩)
    have hA1 := hA.same s1
    have hF1 := hF.same s1
    have hlen : (c.map V.int).length = c.length := List.length_map ..
    refine (L2.em2_2 rfl rfl a _ ⟨rfl, .inl (SqL.of hA1), p, n, ds, c.length, by rw [hlen]; rfl, hF1, ⟨hn1, hn6⟩, on.1.2, fun b H2 T' hb s2 hT hR => ?_⟩)
    have hA2 := hA1.same s2
    have hcm : c ∈ csM n c.length := mem_csM.mpr ⟨rfl, on.2.1⟩
    have ek : T' c r = none := IsRank.unique (hR c hcm r on.2.2.1 on.2.2.2) hk
    refine (L2.em2_2 rfl rfl a _ ⟨rfl, .inl ⟨SqL.of hA2, fun t ht => ?_⟩⟩)
    obtain ⟨kvs, hk1, hk2⟩ := id hT
    obtain ⟨v, hv, l, rfl, hl⟩ := hk2.get hcm
    have st := Same.new ht (o := .tup (c.map V.int))
    have tk : TupAt (upd H2 t (.tup (c.map V.int))) t c := upd_same
    refine (L2.ex2 b _ ⟨rfl, .inr ⟨kvs, kc c, t, .inl (st _ _ hk1), rfl, tk.key, hv.symm⟩, L2.em1_4 rfl l _ r (ov (T' c r)) ⟨rfl, rfl, SqL.of (st _ _ hl), atI_rng on.2.2, ?_⟩⟩)
    rw [ek]
    have s3 := s1.trans (s2.trans st)
    generalize upd H2 t (.tup (c.map V.int)) = H3 at s3 ⊢
    refine (L2.ea rfl ⟨rfl, L2.ea rfl (iteT ?_)⟩)
    have hl2 := on.1
    have sm : ∀ z : Int, 0 ≤ z ∧ z < n → z.natAbs.log2 < 12 := fun z hz => log_small (by omega)
    exact (L2.ex2 _ 1000 ⟨rfl, (by decide), (by decide), L2.em1_2 rfl a c ⟨rfl, hA.same s3, fun z hz => sm z (on.2.1 z hz), by omega, fun y hy => ⟨y, 15728653, rfl, hy, (by decide), L2.ex2 _ 1000 ⟨rfl, (by decide), (by decide), L2.em1_1 rfl r ⟨rfl, (by have := sm r on.2.2; omega), fun y2 hy2 => ⟨y2, 101, rfl, hy2, (by decide), fun y3 => ⟨(by show 1 ≤ sizeLine; decide), kk H3 s3⟩⟩⟩⟩⟩⟩⟩)
set_option genInjectivity false in
set_option genSizeOf false in
structure ExT (K : PySem.W.Frag) (mg : Str → Option Value) where
  ot : OtT K mg
  fO : Addr
  fdO : FuncData
  od : Df K mg "_law_other" s_other ["e", "wanted"] fO fdO
  cE : Addr
  gE : mg "ChaseError" = some (.ref cE)
  bmB : List Value
  newId : String
  initId : String
  FB : ExcBaseFacts "ValueError" newId initId bmB
  rsS : PySem.W.excIn K ot.cS bmB newId = true
  caS : PySem.W.exmOne K (.ref ot.cS) (.ref cE) = some true
  kdS : KindOf K ot ot.cS 1
  rsC : PySem.W.excIn K ot.cC bmB newId = true
  caC : PySem.W.exmOne K (.ref ot.cC) (.ref cE) = some true
  kdC : KindOf K ot ot.cC 2
  rsR : PySem.W.excIn K ot.cR bmB newId = true
  caR : PySem.W.exmOne K (.ref ot.cR) (.ref cE) = some true
  kdR : KindOf K ot ot.cR 3
noncomputable def spChase (C : Addr) (X : ExT K mg) : Sp := fun vs H Q E => (spCs C vs H Q E ∨ spCtX C X.ot.cS vs H Q E) ∨ (spRfX C X.ot.cC vs H Q E ∨ spCsF C X.ot.cR vs H Q E)
theorem ok_chase (T : PlT K mg) {f : Addr} {fd : FuncData} (F : Fun K "chase_step" "chase_step" s_chase f fd) (X : ExT K mg) : FnOk P w K mg base (CX1 P w) 5 f fd ["floor", "chasers", "runner"] (spChase T.rt.fl.C X) :=
  ((ok_cs T F).up.or (ok_csS T F X.ot.gS X.rsS X.FB)).or ((ok_csX T F X.ot.gC X.rsC X.FB).or (ok_csF T F X.ot.gR X.rsR X.FB))
noncomputable def spFlee (C : Addr) (X : ExT K mg) : Sp := fun vs H Q E => spFs C vs H Q E ∨ (spCtX C X.ot.cS vs H Q E ∨ spRfX C X.ot.cC vs H Q E)
end
end Cn

set_option Elab.async false
set_option linter.all false
set_option maxRecDepth 100000
namespace L2
open PySem PySem.Spec PyProof.Rows
theorem ints_shaped (ns : List Int) : SeqAt.shaped (.list (ns.map PyData.int)) = true := by
  have h1 : ∀ ns : List Int, PyData.canLayAll0 (ns.map PyData.int) = true := by
    intro ns
    induction ns with
    | nil => rfl
    | cons d r ih => simp [PyData.canLayAll0, ih, PyData.canLay0]
  have h2 : ∀ ns : List Int, PyData.depthAll (ns.map PyData.int) ≤ 1 := by
    intro ns
    induction ns with
    | nil => simp [PyData.depthAll]
    | cons d r ih => simp [PyData.depthAll, PyData.depth]; omega
  have := h2 ns
  simp only [SeqAt.shaped, PyData.canLay0, h1 ns, Bool.true_and, decide_eq_true_eq]
  unfold PyData.depth
  omega
theorem ints_eqv (ns : List Int) : PyData.eqv (.list (ns.map PyData.int)) (.list (ns.map PyData.int)) = true := by
  have key : ∀ ns : List Int, PyData.eqvAll (ns.map PyData.int) (ns.map PyData.int) = true := by
    intro ns
    induction ns with
    | nil => rfl
    | cons d r ih => simp [PyData.eqvAll, ih, PyData.eqv]
  simp only [PyData.eqv]
  exact key ns
end L2

set_option Elab.async false
set_option linter.all false
set_option maxRecDepth 100000
namespace L2
open PySem
section
variable {X : Cx}
noncomputable def tHid (t : TS) : TS := fun D σ H => ∀ N : St → Hp → Prop, (∀ σ' H', D.nx σ' H' → N σ' H') → t { D with nx := N } σ H
theorem ps_hid {st : Stmt} {t : TS} (h : PS X st t) : PS X st (tHid t) := fun pins s σ H D I q => h pins s σ H D I (q D.nx fun _ _ z => z)
end
end L2
namespace L2
end L2
namespace L2
end L2

set_option Elab.async false
set_option linter.all false
namespace Cf
noncomputable def FoldsOn (A : Int → Int → Bool) (S : List Int) (u x : Int) : Prop := u ∈ S ∧ x ∈ S ∧ x ≠ u ∧ ∀ z ∈ S, A u z = true → A x z = true
noncomputable def rem (S : List Int) (u : Int) : List Int := S.filter fun z => decide (z ≠ u)
inductive Red (A : Int → Int → Bool) : List Int → List Int → Prop
  | refl (S : List Int) : Red A S S
  | step {S T : List Int} {u x : Int} : FoldsOn A S u x → Red A (rem S u) T → Red A S T
noncomputable def Stiff (A : Int → Int → Bool) (S : List Int) : Prop := ∀ u x, ¬ FoldsOn A S u x
noncomputable def nearS (A : Int → Int → Bool) (S : List Int) (p : Int) : List Int := S.filter (A p)
section
variable {A : Int → Int → Bool} (rf : ∀ a, A a a = true) (sy : ∀ a b, A a b = A b a) {S : List Int} {u x : Int} (F : FoldsOn A S u x)
include rf sy F
end
noncomputable def Enough (A : Int → Int → Bool) (S : List Int) : Prop := ∃ c ∈ S, ∀ r ∈ S, ∃ k, winB (nearS A S) k [c] r = true
end Cf

set_option Elab.async false
set_option linter.all false
set_option maxRecDepth 100000
namespace Cn
open PySem L2 Cf
noncomputable abbrev s_told : Stmt := top 41
noncomputable abbrev s_goes : Stmt := top 42
theorem atI_map {l : List Int} {i : Int} (h : 0 ≤ i ∧ i < l.length) : atI (l.map V.int) i = some (.int (l.getD i.toNat 0)) := by
  have c1 : ((i.toNat : Nat) : Int) = i := by omega
  rw [← c1]
  refine atI_nat ?_
  rw [List.getElem?_map, List.getElem?_eq_getElem (show i.toNat < l.length by omega), c1, List.getD_eq_getElem?_getD, List.getElem?_eq_getElem (show i.toNat < l.length by omega)]
  rfl
theorem getD_mem {l : List Int} {i : Int} (h : 0 ≤ i ∧ i < l.length) : l.getD i.toNat 0 ∈ l := by
  rw [List.getD_eq_getElem?_getD, List.getElem?_eq_getElem (show i.toNat < l.length by omega)]
  exact List.getElem_mem _
theorem goes_at {near : Int → List Int} : ∀ {c g : List Int}, Goes (c.map near) g → ∀ i : Nat, i < c.length → g.getD i 0 ∈ near (c.getD i 0)
  | [], _, _, i, hi => absurd hi (Nat.not_lt_zero _)
  | a :: c, _, .cons hp h, 0, _ => hp
  | a :: c, _, .cons hp h, i + 1, hi => goes_at h i (by simpa using hi)
theorem step_leads {n : Int} {ds : List Door} {c g : List Int} {r : Int} {k : Nat} (ok : NearOk n (Cf.nearP n ds)) (hc : ∀ p ∈ c, 0 ≤ p ∧ p < n) (hr : 0 ≤ r ∧ r < n) (hno : c.contains r = false) (h : IsRank (Cf.nearP n ds) c r (some k)) (hs : StepTo n ds c r k g) :
    Goes (c.map (Cf.nearP n ds)) g ∧ 0 < k ∧ ((g.contains r = true ∧ k = 1) ∨ (g.contains r = false ∧ ∃ T : List Int → Int → Option Nat, (∀ r', 0 ≤ r' → r' < n → IsRank (Cf.nearP n ds) g r' (T g r')) ∧ grM ((Cf.nearP n ds r).map (T g)) = some (k - 1))) := by
  obtain ⟨T, hT, hh⟩ := hs
  have hm := List.mem_of_mem_head? hh
  obtain ⟨hg, hgood⟩ := List.mem_filter.mp hm
  have hgo := mem_choices.mp hg
  obtain ⟨h1, h2⟩ := h.yes k rfl
  have hk : 0 < k := by
    rcases Nat.eq_zero_or_pos k with rfl | z
    · rw [win_zero] at h1
      rw [List.contains_iff_mem.mpr h1] at hno
      cases hno
    · exact z
  refine ⟨hgo, hk, ?_⟩
  by_cases hgr : g.contains r = true
  · left
    refine ⟨hgr, ?_⟩
    have : winB (Cf.nearP n ds) (0 + 1) c r = true := win_succ.mpr (.inr ⟨g, hgo, .inl (List.contains_iff_mem.mp hgr)⟩)
    rcases Nat.lt_or_ge 1 k with z | z
    · rw [h2 1 z] at this
      cases this
    · omega
  · right
    rw [Bool.not_eq_true] at hgr
    refine ⟨hgr, T, fun r' h0 hn => hT g (mem_csM.mpr (goes_on ok hc hgo)) r' h0 hn, ?_⟩
    unfold goodG at hgood
    rw [hgr, Bool.false_or] at hgood
    exact of_decide_eq_true hgood
theorem step_zero {near : Int → List Int} {c : List Int} {r : Int} {k : Nat} (hno : c.contains r = false) (h : IsRank near c r (some k)) : 0 < k := by
  rcases Nat.eq_zero_or_pos k with z | z
  · have := (rank_zero h).mp z
    rw [List.contains_iff_mem.mpr this] at hno
    cases hno
  · exact z
theorem cnt_bd {n : Int} {near : Int → List Int} {cs : List (List Int)} {k : Nat} (hn : n ≤ 6) (hc : cs.length ≤ 36) : cnt n near cs k ≤ 216 := by
  unfold cnt
  refine Nat.le_trans (List.length_filter_le _ _) ?_
  have := flat_len (fun c => (rng n).map fun r => (c, r)) 6 cs fun c _ => by rw [List.length_map, rng_length]; omega
  omega
theorem rank_bd {n : Int} {near : Int → List Int} {m : Nat} {c : List Int} {r : Int} {k : Nat} (ok : NearOk n near) (hm : m ≤ 2) (hc : c ∈ csM n m) (hr : 0 ≤ r ∧ r < n) (h : IsRank near c r (some k)) : k ≤ 1000 := by
  have st : ∀ j, j ≤ k → cnt n near (csM n m) j + j ≤ cnt n near (csM n m) 0 := by
    intro j
    induction j with
    | zero => intro _; omega
    | succ j ih =>
      intro hj
      have := ih (by omega)
      have lt : cnt n near (csM n m) (j + 1) < cnt n near (csM n m) j := by
        apply Classical.byContradiction
        intro nl
        have al : ∀ c' r', c' ∈ csM n m → (0 ≤ r' ∧ r' < n) → rk near c' r' (j + 1) = rk near c' r' j := fun c' r' hc' hr' => Classical.byContradiction fun z => nl (cnt_lt hc' (mem_rng.mpr hr') z)
        have e := IsRank.unique (isRank_of (dom_cs ok hm) al hc hr) h
        have := (rk_some j k e).1
        omega
      omega
  have h1 := st k (Nat.le_refl _)
  have hl : (csM n m).length ≤ 36 := by
    have := (cs_ok (near := near) ok hm).len
    unfold csM
    have h6 := choices_len (ls := List.replicate m (rng n)) (fun l hl => by rw [List.eq_of_mem_replicate hl, rng_length]; have := ok.hi; omega) m
    rw [List.take_of_length_le (by simp)] at h6
    have : m = 0 ∨ m = 1 ∨ m = 2 := by omega
    rcases this with rfl | rfl | rfl
    · exact Nat.le_trans h6 (by decide)
    · exact Nat.le_trans h6 (by decide)
    · exact Nat.le_trans h6 (by decide)
  have := cnt_bd (near := near) (k := 0) ok.hi hl
  omega
section
variable {P : Program} {w : World} {K : PySem.W.Frag} {mg : Str → Option Value} {base : Heap}
set_option genInjectivity false in
set_option genSizeOf false in
structure L05 (K : PySem.W.Frag) (mg : Str → Option Value) where
  pl : PlT K mg
  lw : LwT K mg
  ex : ExT K mg
  fC : Addr
  fdC : FuncData
  cs : Df K mg "chase_step" s_chase ["floor", "chasers", "runner"] fC fdC
  fT : Addr
  fdT : FuncData
  to : Df K mg "_law_told" s_told ["floor", "chasers", "runner"] fT fdT
  fG : Addr
  fdG : FuncData
  go : Df K mg "_law_goes" s_goes ["places", "doors", "chasers", "goal"] fG fdG
  fS : Addr
  fdS : FuncData
  sb : Df K mg "_law_standing_by" s_standing ["script", "at", "places", "count"] fS fdS
  fW : Addr
  fdW : FuncData
  wh : Df K mg "_law_whole" s_whole ["found"] fW fdW
  fN : Addr
  fdN : FuncData
  ln : Df K mg "_law_near" s_lnear ["places", "doors", "place"] fN fdN
  fK : Addr
  fdK : FuncData
  nl : Df K mg "_law_numbers_like" s_nlike ["found", "due"] fK fdK
  fL : Addr
  fdL : FuncData
  law : Fun K "law" "law" s_law fL fdL
  zi : mg "isinstance" = none
  zn : mg "int" = none
  zb : mg "bool" = none
  zz : mg "zip" = none
noncomputable def spTo (C : Addr) : Sp := fun vs H Q _ => ∃ (p a : Addr) (n : Int) (ds : List Door) (c : List Int) (r : Int), vs = [.ref p, .ref a, .int r] ∧ FloorAt C H p n ds ∧ (1 ≤ n ∧ n ≤ 6) ∧ IntsAt H a c ∧ OnF n c r ∧
  ((c.contains r = true ∧ ∀ t H', Same H H' → H' t = some (.tup [.int 2, .non]) → Q (.ref t) H') ∨ (c.contains r = false ∧ IsRank (Cf.nearP n ds) c r none ∧ ∀ t H', Same H H' → H' t = some (.tup [.int 3, .non]) → Q (.ref t) H') ∨
   ∃ k, c.contains r = false ∧ IsRank (Cf.nearP n ds) c r (some k) ∧ ∀ (t l : Addr) (H' : Hp) (g : List Int), H l = none → Same H H' → H' t = some (.tup [.int 0, .ref l]) → IntsAt H' l g → StepTo n ds c r k g → Q (.ref t) H')
theorem sc_to : FnScope ["floor", "chasers", "runner", "e", "wanted"] ["floor", "chasers", "runner"] (defScope s_told) := ⟨rfl, rfl, rfl, by decide +kernel, rfl, by decide +kernel, by decide +kernel⟩
theorem ok_to (T : L05 K mg) : FnOk P w K mg base CX0 6 T.fT T.fdT ["floor", "chasers", "runner"] (spTo T.pl.rt.fl.C) := by
  have GC : FnOk P w K mg base (CX1 P w) 5 T.fC T.fdC ["floor", "chasers", "runner"] (spChase T.pl.rt.fl.C T.ex) := ok_chase T.pl T.cs.F T.ex
  have GO : FnOkH P w K mg base 1 T.ex.fO T.ex.fdO ["e", "wanted"] (spOt2 T.ex.ot) := ok_ot2 T.ex.od.F T.ex.ot
  refine T.to.F.ok sc_to (fun vs H Q E h => ?_) (fun cdv A outer s H vs Q E hr h => ?_)
  · obtain ⟨p, a, n, ds, c, r, rfl, _⟩ := h
    rfl
  · obtain ⟨p, a, n, ds, c, r, rfl, hF, hn, hA, on, due⟩ := h
    refine ⟨_, pss_one (ps_try rfl rfl rfl rfl sc_to.nd (i := 3) rfl rfl rfl T.ex.gE (fun E pins W hp => pss_one (ps_ret (pe_tup (pa_cons pe_int (pa_cons (pe_dfX T.cs GC hr hp (pa_cons (pv 0) (pa_cons (pv 1) (pa_cons (pv 2) pa_nil)))) pa_nil)))))
      (fun x => pss_cons (ps_forQ PassesOwn.never trivial (pi_listN (pe_lst (pa_cons pe_int (pa_cons pe_int pa_nil)))) (pg_name (i := 4) sc_to.nd rfl (Or.inl rfl))
          (pss_one (ps_if (pt_not (pt_val (pe_dfH (a := x) (j := 1) (sp := spOt2 T.ex.ot) T.ex.od GO (RoomH.of hr (by decide) x) (pa_cons (pv 3) (pa_cons (pv 4) pa_nil))))) (pss_one (ps_ret (pe_tup (pa_cons (pv 4) (pa_cons pe_non pa_nil))))) pss_nil)))
        pss_never)), ?_⟩
    have fin : ∀ (C : Addr) (i : Int) (j : Nat), KindOf K T.ex.ot C i → (i = (j : Int) + 2 ∧ j < 2) → PySem.W.exmOne K (.ref C) (.ref T.ex.cE) = some true → (∀ t H', Same H H' → H' t = some (.tup [.int i, .non]) → Q (.ref t) H') → ∀ H', Same H H' → caughtK 3 5 (fun cls => PySem.W.exmOne K cls (.ref T.ex.cE) = some true) (fun x => tSeq (tFor (iListN K (tLst (tCons (tC (.int 2)) (tCons (tC (.int 3)) tNil)))) (gName 4) (tIfS (tNot (tB (tCall (spOt2 T.ex.ot x) [] E0 (tCons (tVar 3) (tCons (tVar 4) tNil))))) (tRet (tTup (tCons (tVar 4) (tCons (tC .non) tNil)))) tNext)) tNever) { nx := fun _ H' => Q .non H', rt := Q } (.ref C) none H' := by
      intro C i j kd hij ca k H1 s1
      refine ⟨C, rfl, ca, fun x σ hls hx => ?_⟩
      have sx := Same.new hx (o := ExcO C x)
      refine ⟨(by show 2 ≤ sizeLine; decide), fun l hl => ?_⟩
      have sl := Same.new hl (o := .lst [V.int 2, V.int 3])
      have hx2 : (upd (upd H1 x (ExcO C x)) l (.lst [V.int 2, V.int 3])) x = some (ExcO C x) := sl _ _ upd_same
      have hl2 : (upd (upd H1 x (ExcO C x)) l (.lst [V.int 2, V.int 3])) l = some (.lst [V.int 2, V.int 3]) := upd_same
      have s2 := (s1.trans sx).trans sl
      generalize upd (upd H1 x (ExcO C x)) l (.lst [V.int 2, V.int 3]) = H2 at hx2 hl2 s2 ⊢
      refine ⟨l, rfl, ⟨_, SqL.of hl2⟩, ?_⟩
      have get : ∀ (v : V) (σ' : St), σ'.length = 5 → σ'[3]? = some (some (.ref x)) → (σ'.set 4 (some v))[3]? = some (some (.ref x)) ∧ (σ'.set 4 (some v))[4]? = some (some v) := fun v σ' h1 h2 => ⟨by rw [List.getElem?_set_ne (by decide)]; exact h2, List.getElem?_set_self (by omega)⟩
      refine for_listN (xs := [V.int 2, V.int 3]) j (by simp; omega) (fun _ σ' H3 => σ'.length = 5 ∧ σ'[3]? = some (some (.ref x)) ∧ Same H2 H3) ⟨by rw [List.length_set]; exact hls, List.getElem?_set_self (by omega), Same.refl _⟩ (fun i' σ' H3 _ ⟨_, _, sm⟩ => SqL.of (sm _ _ hl2)) ?_ ?_
      · rintro i' y σ' H3 hi' hy ⟨h1, h2, sm⟩
        obtain ⟨g4, g5⟩ := get y σ' h1 h2
        have ey : y = V.int ((i' : Int) + 2) := by
          have : i' = 0 := by omega
          subst this
          exact (Option.some.inj hy).symm
        subst ey
        refine ⟨_, g4, _, g5, L2.ex3 C i ((i' : Int) + 2) ⟨rfl, sm _ _ hx2, kd, by omega, by omega, fun H4 s4 => (L2.ea rfl ?_)⟩⟩
        rw [decide_eq_true (show (i' : Int) + 2 ≠ i by omega)]
        refine iteF ⟨by rw [List.length_set]; exact h1, g4, sm.trans s4⟩
      · rintro y σ' H3 hy ⟨h1, h2, sm⟩
        obtain ⟨g4, g5⟩ := get y σ' h1 h2
        have ey : y = V.int i := by
          have : j = 0 ∨ j = 1 := by omega
          rcases this with rfl | rfl
          · rw [hij.1]; exact (Option.some.inj hy).symm
          · rw [hij.1]; exact (Option.some.inj hy).symm
        subst ey
        refine ⟨_, g4, _, g5, L2.ex3 C i i ⟨rfl, sm _ _ hx2, kd, by omega, by omega, fun H4 s4 => (L2.ea rfl ?_)⟩⟩
        rw [decide_eq_false (show ¬ i ≠ i from fun z => z rfl)]
        refine iteT ⟨_, g5, (by show 2 ≤ sizeLine; decide), fun t ht => ?_⟩
        exact k t _ (((s2.trans sm).trans s4).trans (Same.new ht)) upd_same
    refine (L2.ea3 rfl rfl rfl ?_)
    rcases due with ⟨hyes, k⟩ | ⟨hno, hk, k⟩ | ⟨kk, hno, hk, k⟩
    · exact .inr (.inl (L2.ex6 p a n ds c r ⟨rfl, hF, hn.2, hA, on, hyes, fin T.ex.ot.cC 2 0 T.ex.kdC (by decide) T.ex.caC k⟩))
    · exact .inr (.inr (L2.ex6 p a n ds c r ⟨rfl, hF, hn, hA, on, hno, hk, fin T.ex.ot.cR 3 1 T.ex.kdR (by decide) T.ex.caR k⟩))
    · refine .inl (.inl (L2.ex6 p a n ds c r ⟨kk, rfl, hF, hn, hA, on, hno, hk, fun l H1 g hl s1 hI hst => ⟨(by show 2 ≤ sizeLine; decide), fun t ht => ?_⟩⟩))
      exact k t l _ g hl (s1.trans (Same.new ht)) upd_same (hI.same (Same.new ht)) hst
noncomputable def spGs : Sp := fun vs H Q _ => ∃ (n : Int) (d a b : Addr) (ds : List Door) (c g : List Int), vs = [.int n, .ref d, .ref a, .ref b] ∧ DoorsAt H d ds ∧ Doors n ds ∧ (0 ≤ n ∧ n ≤ 6) ∧ IntsAt H a c ∧ IntsAt H b g ∧ c.length ≤ 2 ∧ Goes (c.map (Cf.nearP n ds)) g ∧ ∀ H', Same H H' → Q (.bl true) H'
theorem sc_gs : FnScope ["places", "doors", "chasers", "goal", "k"] ["places", "doors", "chasers", "goal"] (defScope s_goes) := ⟨rfl, rfl, rfl, by decide +kernel, rfl, by decide +kernel, by decide +kernel⟩
theorem ok_gs (T : L05 K mg) : FnOk P w K mg base CX0 2 T.fG T.fdG ["places", "doors", "chasers", "goal"] spGs := by
  have GN : FnOk P w K mg base CX0 1 T.fN T.fdN ["places", "doors", "place"] spLN := ok_ln T.ln.F T.lw.zrange T.lw.zmin T.lw.zmax
  have GK : FnOk P w K mg base CX0 1 T.fK T.fdK ["found", "due"] spNl := ok_nl T.nl.F T.zi T.zn T.zb T.pl.rt.fl.zlist T.pl.rt.fl.zlen T.zz
  refine T.go.F.ok sc_gs (fun vs H Q E h => ?_) (fun cdv A outer s H vs Q E hr h => ?_)
  · obtain ⟨n, d, a, b, ds, c, g, rfl, _⟩ := h
    rfl
  · obtain ⟨n, d, a, b, ds, c, g, rfl, hD, hd, hn, hA, hB, hl, hgo, k⟩ := h
    refine ⟨_, pss_cons (ps_if (PW.pt (pw_or (pt_not (pt_val (pe_df T.nl GK hr (pa_cons (pv 3) (pa_cons (pv 3) pa_nil))))) (pw_or1 (pt_cmpR op_ne (pe_callB call_len_seq (by rfl) T.pl.rt.fl.zlen PySem.boot_len (pa_cons (pv 3) pa_nil)) (pe_callB call_len_seq (by rfl) T.pl.rt.fl.zlen PySem.boot_len (pa_cons (pv 2) pa_nil)) (nomark _))))) (pss_one (ps_ret pe_bl)) pss_nil)
      (pss_cons (ps_for PassesOwn.never rfl (pi_range1 rfl T.lw.zrange (pa_cons (pe_callB call_len_seq (by rfl) T.pl.rt.fl.zlen PySem.boot_len (pa_cons (pv 2) pa_nil)) pa_nil)) (pg_name (i := 4) sc_gs.nd rfl (Or.inl rfl))
        (pss_one (ps_if (pt_cmpR op_notIn_seq (pe_ix ix_list (pv 3) (pv 4) (fun _ _ => rfl)) (pe_df T.ln GN hr (pa_cons (pv 0) (pa_cons (pv 1) (pa_cons (pe_ix ix_list (pv 2) (pv 4) (fun _ _ => rfl)) pa_nil)))) (by with_unfolding_all rfl)) (pss_one (ps_ret pe_bl)) pss_nil)))
      (pss_one (ps_ret pe_bl))), ?_⟩
    have hgl : g.length = c.length := by rw [hgo.len, List.length_map]
    refine (L2.em2_3 rfl rfl b b g ⟨rfl, hB, hB, by omega, fun H1 s1 => (L2.ea rfl (iteF ?_))⟩)
    have hA1 := hA.same s1
    have hB1 := hB.same s1
    have l1 : ((g.map V.int).length : Int) = (c.map V.int).length := by rw [List.length_map, List.length_map, hgl]
    refine (L2.em1_2 rfl b _ ⟨rfl, .inl (SqL.of hB1), L2.em1_2 rfl a _ ⟨rfl, .inl (SqL.of hA1), rfl, L2.ea rfl ?_⟩⟩)
    rw [l1, decide_eq_true rfl]
    refine iteF ?_
    have lc : (c.map V.int).length = c.length := List.length_map ..
    refine (L2.em1_2 rfl a _ ⟨rfl, .inl (SqL.of hA1), L2.ea rfl ⟨by omega, by omega, ?_⟩⟩)
    refine for_range (fun i σ H2 => ∃ (v4 : Option V), σ = [some (.int n), some (.ref d), some (.ref a), some (.ref b), v4] ∧ Same H1 H2) ⟨none, rfl, Same.refl _⟩ ?_ ?_
    · rintro i σ H2 hi ⟨v4, rfl, sm⟩
      have hi2 : i < c.length := by rw [lc] at hi; omega
      have b1 : 0 ≤ (0 + (i : Int)) ∧ (0 + (i : Int)) < (g.length : Int) := by omega
      have b2 : 0 ≤ (0 + (i : Int)) ∧ (0 + (i : Int)) < (c.length : Int) := by omega
      refine (L2.em2_4 rfl rfl b _ _ _ ⟨rfl, rfl, SqL.of (hB1.same sm), atI_map b1, L2.em4_4 rfl rfl rfl rfl a _ _ _ ⟨rfl, rfl, SqL.of (hA1.same sm), atI_map b2, L2.ex4 d ds n _ ⟨rfl, (hD.same s1).same sm, hd, by omega, fun ln H3 hln s3 hN => ?_⟩⟩⟩)
      refine (L2.ex2 ln _ ⟨rfl, .inl (SqL.of hN), rfl, flat_ints _, L2.ea rfl ?_⟩)
      have hin := goes_at hgo i hi2
      rw [show (if true = true then !inV (V.int (g.getD (0 + (i : Int)).toNat 0)) ((Cf.nearP n ds (c.getD (0 + (i : Int)).toNat 0)).map V.int) else inV (V.int (g.getD (0 + (i : Int)).toNat 0)) ((Cf.nearP n ds (c.getD (0 + (i : Int)).toNat 0)).map V.int)) = !inV (V.int (g.getD (0 + (i : Int)).toNat 0)) ((Cf.nearP n ds (c.getD (0 + (i : Int)).toNat 0)).map V.int) from rfl, inV_ints, show (0 + (i : Int)).toNat = i by omega, List.contains_iff_mem.mpr hin]
      exact iteF (L2.ea rfl (sm.trans s3))
    · rintro σ H2 ⟨v4, rfl, sm⟩
      exact k H2 (s1.trans sm)
noncomputable def spLaw (K : PySem.W.Frag) : Sp := fun vs H Q _ => ∃ (a : Addr) (ns : List Int), vs = [.ref a] ∧ SqL K H a (ns.map V.int) ∧ ∀ H', Q (.bl true) H'
noncomputable abbrev nLaw : List Str := ["script", "count", "most", "places", "doors", "floor", "chasers", "runner", "here", "flees", "turn", "handed", "found", "near", "goal", "rest"]
theorem sc_law : FnScope nLaw ["script"] (defScope s_law) := ⟨rfl, rfl, rfl, by decide +kernel, rfl, by decide +kernel, by decide +kernel⟩
set_option maxHeartbeats 16000000 in
theorem ok_law (T : L05 K mg) : FnOk P w K mg base CX0 7 T.fL T.fdL ["script"] (spLaw K) := by
  have GCe : FnOk P w K mg base CX0 1 T.lw.fC T.lw.fdC ["script", "k"] (spCell K) := ok_cell T.lw.cell.F T.lw.zlen
  have GB : FnOk P w K mg base CX0 2 T.lw.fB T.lw.fdB ["script", "most"] (spBy K) := ok_by T.lw
  have GI : FnOk P w K mg base CX0 4 T.pl.rt.fl.fI T.pl.rt.fl.fdI ["self", "places", "doors"] (spInit T.pl.rt.fl.C) := ok_init T.pl.rt.fl
  have GS : FnOk P w K mg base CX0 2 T.fS T.fdS ["script", "at", "places", "count"] (spSB K) := ok_sb T.sb.F T.lw.cell T.lw.zlen T.lw.zrange
  have GW : FnOk P w K mg base CX0 1 T.fW T.fdW ["found"] spWhI := ok_whI T.wh.F T.zi T.zn T.zb
  have GN : FnOk P w K mg base CX0 1 T.fN T.fdN ["places", "doors", "place"] spLN := ok_ln T.ln.F T.lw.zrange T.lw.zmin T.lw.zmax
  have GR : FnOk P w K mg base CX0 5 T.pl.rt.fR T.pl.rt.fdR ["floor", "chasers", "runner"] (spRk T.pl.rt.fl.C) := ok_rk T.pl.rt
  have GF : FnOk P w K mg base CX0 5 T.pl.fS T.pl.fdS ["floor", "chasers", "runner"] (spFs T.pl.rt.fl.C) := ok_fs T.pl
  have GT : FnOk P w K mg base CX0 6 T.fT T.fdT ["floor", "chasers", "runner"] (spTo T.pl.rt.fl.C) := ok_to T
  have GG : FnOk P w K mg base CX0 2 T.fG T.fdG ["places", "doors", "chasers", "goal"] spGs := ok_gs T
  refine T.law.ok sc_law (fun vs H Q E h => ?_) (fun cdv A outer s H vs Q E hr h => ?_)
  · obtain ⟨a, ns, rfl, _⟩ := h
    rfl
  · obtain ⟨a, ns, rfl, hS, k⟩ := h
    have hr1 := hr.mono (show 1 ≤ 6 by decide)
    have hr2 := hr.mono (show 2 ≤ 6 by decide)
    have hr5 := hr.mono (show 5 ≤ 6 by decide)
    have hu64 := hr.u64
    refine ⟨_, pss_cons (ps_set (i := 1) sc_law.nd rfl (Or.inl rfl) (pe_op op_add pe_int (pe_op op_mod (pe_df T.lw.cell GCe hr1 (pa_cons (pv 0) (pa_cons pe_int pa_nil))) pe_int)))
      (pss_cons (ps_hid (ps_set (i := 2) sc_law.nd rfl (Or.inl rfl) (pe_ix ix_list (pe_lst (pa_cons pe_int (pa_cons (pe_op op_add pe_int (pe_op op_mul pe_int (pe_callTy call_int1 (by rfl) T.zn PyProof.Rows.boot_int (pa_cons (pe_cmpR op_eq (pe_op op_mod (pe_df T.lw.cell GCe hr1 (pa_cons (pv 0) (pa_cons pe_int pa_nil))) pe_int) pe_int (nomark _)) pa_nil)))) pa_nil))) (pe_op op_sub (pv 1) pe_int) (fun _ _ => rfl))))
      (pss_cons (ps_hid (ps_asg (pe_df T.lw.byS GB hr2 (pa_cons (pv 0) (pa_cons (pv 2) pa_nil))) (pg_tup (n := 2) rfl (pgs_cons (pg_name (i := 3) sc_law.nd rfl (Or.inl rfl)) (pgs_cons (pg_name (i := 4) sc_law.nd rfl (Or.inl rfl)) pgs_nil)))))
      (pss_cons (ps_hid (ps_set (i := 5) sc_law.nd rfl (Or.inl rfl) (pe_make T.pl.rt.fl.made GI hr5 rfl T.pl.rt.fl.mgC T.pl.rt.fl.bI .nil pass0 (pa_cons (pv 3) (pa_cons (pe_callTy call_list_of (by rfl) T.pl.rt.fl.zlist PyProof.Rows.boot_list (pa_cons (pv 4) pa_nil)) pa_nil)))))
      (pss_cons (ps_hid (ps_asg (pe_df T.sb GS hr2 (pa_cons (pv 0) (pa_cons pe_int (pa_cons (pv 3) (pa_cons (pv 1) pa_nil))))) (pg_tup (n := 2) rfl (pgs_cons (pg_name (i := 6) sc_law.nd rfl (Or.inl rfl)) (pgs_cons (pg_name (i := 7) sc_law.nd rfl (Or.inl rfl)) pgs_nil)))))
      (pss_cons (ps_hid (ps_set (i := 8) sc_law.nd rfl (Or.inl rfl) (pe_df T.pl.rt.rk GR hr5 (pa_cons (pv 5) (pa_cons (pe_callTy call_list_of (by rfl) T.pl.rt.fl.zlist PyProof.Rows.boot_list (pa_cons (pv 6) pa_nil)) (pa_cons (pv 7) pa_nil))))))
      (pss_cons (ps_hid (ps_if (pt_cmpR op_isN (pv 8) pe_non (nomark _)) (pss_one (ps_ret (pe_cmpR op_eq (pe_ix ix_tup (pe_df T.to GT hr (pa_cons (pv 5) (pa_cons (pe_callTy call_list_of (by rfl) T.pl.rt.fl.zlist PyProof.Rows.boot_list (pa_cons (pv 6) pa_nil)) (pa_cons (pv 7) pa_nil)))) pe_int (fun _ _ => rfl)) pe_int (nomark _)))) pss_nil))
      (pss_cons (ps_hid (ps_if (pt_cmpR op_eq (pv 8) pe_int (nomark _)) (pss_one (ps_ret (pe_and (pe_cmpR op_in_seq (pv 7) (pv 6) (by with_unfolding_all rfl)) (pe_one (pe_cmpR op_eq (pe_ix ix_tup (pe_df T.to GT hr (pa_cons (pv 5) (pa_cons (pe_callTy call_list_of (by rfl) T.pl.rt.fl.zlist PyProof.Rows.boot_list (pa_cons (pv 6) pa_nil)) (pa_cons (pv 7) pa_nil)))) pe_int (fun _ _ => rfl)) pe_int (nomark _)))))) pss_nil))
      (pss_cons (ps_hid (ps_set (i := 9) sc_law.nd rfl (Or.inl rfl) (pe_cmpR op_eq (pe_op op_mod (pe_df T.lw.cell GCe hr1 (pa_cons (pv 0) (pa_cons pe_int pa_nil))) pe_int) pe_int (nomark _))))
      (pss_cons (ps_for PassesOwn.never rfl (pi_range1 rfl T.lw.zrange (pa_cons (pv 8) pa_nil)) (pg_name (i := 10) sc_law.nd rfl (Or.inl rfl))
        (pss_cons (ps_hid (ps_set (i := 11) sc_law.nd rfl (Or.inl rfl) (pe_callTy call_list_of (by rfl) T.pl.rt.fl.zlist PyProof.Rows.boot_list (pa_cons (pv 6) pa_nil))))
        (pss_cons (ps_hid (ps_set (i := 12) sc_law.nd rfl (Or.inl rfl) (pe_df T.to GT hr (pa_cons (pv 5) (pa_cons (pv 11) (pa_cons (pv 7) pa_nil))))))
        (pss_cons (ps_hid (ps_if (PW.pt (pw_or (pt_cmpR op_ne (pe_ix ix_tup (pv 12) pe_int (fun _ _ => rfl)) pe_int (nomark _)) (pw_or (pt_cmpR (op_neD hu64) (pv 11) (pv 6) (nomark _)) (pw_or1 (pt_not (pt_val (pe_df T.go GG hr2 (pa_cons (pv 3) (pa_cons (pv 4) (pa_cons (pv 6) (pa_cons (pe_ix ix_tup (pv 12) pe_int (fun _ _ => rfl)) pa_nil)))))))))) ) (pss_one (ps_ret pe_bl)) pss_nil))
        (pss_cons (ps_hid (ps_set (i := 6) sc_law.nd rfl (Or.inl rfl) (pe_callTy call_list_of (by rfl) T.pl.rt.fl.zlist PyProof.Rows.boot_list (pa_cons (pe_ix ix_tup (pv 12) pe_int (fun _ _ => rfl)) pa_nil))))
        (pss_cons (ps_hid (ps_expr (pe_bm PySem.F.plainAttrs_list PySem.F.slot_list_append PySem.F.type_list_append mt_append (pe_ix ix_tup (pv 12) pe_int (fun _ _ => rfl)) (pa_cons pe_int pa_nil))))
        (pss_cons (ps_cut (ps_if (pt_cmpR op_notIn_seq (pv 7) (pv 6) (by with_unfolding_all rfl))
          (pss_cons (ps_set (i := 13) sc_law.nd rfl (Or.inl rfl) (pe_df T.ln GN hr1 (pa_cons (pv 3) (pa_cons (pv 4) (pa_cons (pv 7) pa_nil)))))
          (pss_cons (ps_set (i := 14) sc_law.nd rfl (Or.inl rfl) (pe_ix ix_list (pv 13) (pe_op op_mod (pe_df T.lw.cell GCe hr1 (pa_cons (pv 0) (pa_cons (pe_op op_add pe_int (pv 10)) pa_nil))) (pe_callB call_len_seq (by rfl) T.lw.zlen PySem.boot_len (pa_cons (pv 13) pa_nil))) (fun _ _ => rfl)))
          (pss_cons (ps_cut (ps_if (pt_val (pv 9)) (pss_one (ps_set (i := 14) sc_law.nd rfl (Or.inl rfl) (pe_df T.pl.fs GF hr5 (pa_cons (pv 5) (pa_cons (pe_callTy call_list_of (by rfl) T.pl.rt.fl.zlist PyProof.Rows.boot_list (pa_cons (pv 6) pa_nil)) (pa_cons (pv 7) pa_nil)))))) pss_nil))
          (pss_cons (ps_if (pt_cmpR op_notIn_seq (pv 14) (pv 13) (by with_unfolding_all rfl)) (pss_one (ps_ret pe_bl)) pss_nil)
          (pss_one (ps_set (i := 7) sc_law.nd rfl (Or.inl rfl) (pv 14))))))) pss_nil))
        (pss_cons (ps_hid (ps_set (i := 15) sc_law.nd rfl (Or.inl rfl) (pe_df T.pl.rt.rk GR hr5 (pa_cons (pv 5) (pa_cons (pe_callTy call_list_of (by rfl) T.pl.rt.fl.zlist PyProof.Rows.boot_list (pa_cons (pv 6) pa_nil)) (pa_cons (pv 7) pa_nil))))))
        (pss_cons (ps_cut (ps_if (PW.pt (pw_or (pt_not (pt_val (pe_df T.wh GW hr1 (pa_cons (pv 15) pa_nil)))) (pw_or (pt_cmpR op_gt (pv 15) (pe_op op_sub (pe_op op_sub (pv 8) pe_int) (pv 10)) (nomark _)) (pw_or1 (PW.pt (pw_and (pt_val (pv 9)) (pw_and1 (pt_cmpR op_lt (pv 15) (pe_op op_sub (pe_op op_sub (pv 8) pe_int) (pv 10)) (nomark _))))))))) (pss_one (ps_ret pe_bl)) pss_nil))
        (pss_one (ps_if (pt_cmpR op_in_seq (pv 7) (pv 6) (by with_unfolding_all rfl)) (pss_one (ps_ret (pe_cmpR op_eq (pe_ix ix_tup (pe_df T.to GT hr (pa_cons (pv 5) (pa_cons (pe_callTy call_list_of (by rfl) T.pl.rt.fl.zlist PyProof.Rows.boot_list (pa_cons (pv 6) pa_nil)) (pa_cons (pv 7) pa_nil)))) pe_int (fun _ _ => rfl)) pe_int (nomark _)))) pss_nil)))))))))))
      (pss_one (ps_ret (pe_cmpR op_in_seq (pv 7) (pv 6) (by with_unfolding_all rfl))))))))))))), ?_⟩
    have hmod : ∀ c m : Int, 0 < m → 0 ≤ c % m ∧ c % m < m := fun c m h => ⟨Int.emod_nonneg _ (by omega), Int.emod_lt_of_pos _ h⟩
    have big : (1000 : Nat) < sizeLine := by decide
    refine (L2.em1_3 rfl a ns 24 ⟨rfl, hS, by omega, L2.eb rfl rfl ⟨(by show (0 : Int) < 2; decide), L2.eb rfl rfl ?_⟩⟩)
    obtain ⟨q0, q1⟩ := hmod (cell ns 24) 2 (by decide)
    dsimp only
    obtain ⟨m, em, hm⟩ : ∃ m : Nat, 1 + cell ns 24 % 2 = (m : Int) ∧ (m = 1 ∨ m = 2) := ⟨(1 + cell ns 24 % 2).toNat, by omega, by omega⟩
    rw [em]
    intro N2 hN2
    try dsimp only at hN2 ⊢
    refine (L2.em1_3 rfl a ns 29 ⟨rfl, hS, by omega, L2.eb rfl rfl ⟨(by show (0 : Int) < 8; decide), rfl, .inr (L2.ea rfl (L2.eb rfl rfl ⟨.inl ⟨by decide, by decide⟩, L2.eb rfl rfl ⟨(by show 2 ≤ sizeLine; decide), fun l0 hl0 => ?_⟩⟩))⟩⟩)
    generalize hx : (if decide (V.int (cell ns 29 % 8) = V.int 1) = true then (1 : Int) else 0) = x
    have hx01 : x = 0 ∨ x = 1 := by
      subst hx
      split <;> simp
    have s0 := Same.new hl0 (o := .lst [.int 6, .int (4 + 2 * x)])
    obtain ⟨mo, emo, hmo⟩ : ∃ mo : Int, atI [V.int 6, V.int (4 + 2 * x)] ((m : Int) - 1) = some (.int mo) ∧ (4 ≤ mo ∧ mo ≤ 6) := by
      rcases hm with rfl | rfl
      · exact ⟨6, rfl, by omega⟩
      · exact ⟨4 + 2 * x, rfl, by omega⟩
    refine (L2.ea rfl (L2.eb rfl rfl (L2.ex4 l0 _ _ (.int mo) ⟨rfl, rfl, SqL.of upd_same, emo, hN2 _ _ ?_⟩)))
    generalize upd H l0 (.lst [.int 6, .int (4 + 2 * x)]) = H0 at s0 ⊢
    intro N3 hN3
    try dsimp only at hN3 ⊢
    refine (L2.em2_3 rfl rfl a ns mo ⟨rfl, s0.seq hS, by omega, fun t l n ds H1 hl s1 ht hD G hb hz => ?_⟩)
    refine (L2.ex2 t _ ⟨rfl, SqT.of ht, rfl, L2.ex2 _ _ ⟨rfl, L2.eb rfl rfl (hN3 _ _ ?_)⟩⟩)
    obtain ⟨as, hL, hP⟩ := id hD
    intro N4 hN4
    try dsimp only at hN4 ⊢
    refine (L2.em2_2 rfl rfl l _ ⟨rfl, .inl (SqL.of hL), fun l2 hl2 => ?_⟩)
    have s2 : Same H1 (upd H1 l2 (.lst (as.map V.ref))) := Same.new hl2
    have hD2 : DoorsAt (upd H1 l2 (.lst (as.map V.ref))) l2 ds := ⟨as, upd_same, PairsAre.same s2 hP⟩
    generalize upd H1 l2 (.lst (as.map V.ref)) = H2 at s2 hD2 ⊢
    intro x' dx nx ndx nex
    have s3 : Same H2 (upd (upd H2 dx (.own x')) x' (.ins T.pl.rt.fl.C dx [])) := fun b o e => by
      rw [upd_ne (ne_of_none e nx), upd_ne (ne_of_none e ndx)]
      exact e
    refine (L2.ex5 x' dx l2 n ds ⟨rfl, upd_same, hD2.same s3, by omega, G, fun H4 hF kp => ⟨rfl, hN4 _ _ ?_⟩⟩)
    have s14 : Same H1 H4 := fun b o e => kp b o (s3 _ _ (s2 _ _ e)) (ne_of_none (s2 _ _ e) nx)
    have s4 : Same H H4 := s0.trans (s1.trans s14)
    have hn1 := G.lo
    have hn6 := G.hi
    have hD4 := hD.same s14
    have ok : NearOk n (Cf.nearP n ds) := near_ok (by omega) hn6
    intro N5 hN5
    try dsimp only at hN5 ⊢
    refine (L2.em3_5 rfl rfl rfl a ns 26 n (m : Int) ⟨rfl, s4.seq hS, by omega, by omega, by omega, fun t5 lc c r H5 hlc s5 ht5 hC hcl hcn hrn => ?_⟩)
    refine (L2.ex2 t5 _ ⟨rfl, SqT.of ht5, rfl, L2.ex2 _ _ ⟨rfl, L2.eb rfl rfl (hN5 _ _ ?_)⟩⟩)
    have hcl' : c.length = m := by omega
    have on : OnF n c r := ⟨by omega, hcn, hrn⟩
    have hF5 := hF.same s5
    have hD5 := hD4.same s5
    have s05 := s4.trans s5
    intro N6 hN6
    try dsimp only at hN6 ⊢
    refine (L2.em2_2 rfl rfl lc _ ⟨rfl, .inl (SqL.of hC), fun lh hlh => (L2.em1_6 rfl x' lh n ds c r ⟨rfl, hF5.same (Same.new hlh), ⟨hn1, hn6⟩, upd_same, on, fun H6 v s6 hv => hN6 _ _ ?_⟩)⟩)
    have s56 := (Same.new hlh).trans s6
    have hC6 := hC.same s56
    have hF6 := hF5.same s56
    intro N7 hN7
    try dsimp only at hN7 ⊢
    refine (L2.ea rfl ⟨rfl, L2.ea rfl ?_⟩)
    rw [ov_non]
    cases v with
    | none =>
      have hno : c.contains r = false := by
        cases e : c.contains r with
        | false => rfl
        | true =>
          have := hv.no rfl 0
          rw [win_zero.mpr (List.contains_iff_mem.mp e)] at this
          cases this
      refine iteT (L2.em2_2 rfl rfl lc _ ⟨rfl, .inl (SqL.of hC6), fun lh2 hlh2 => (L2.em1_6 rfl x' lh2 n ds c r ⟨rfl, hF6.same (Same.new hlh2), ⟨hn1, hn6⟩, upd_same, on, .inr (.inl ⟨hno, hv, fun t H7 s7 ht => ?_⟩)⟩)⟩)
      exact (L2.ex4 t _ 0 (.int 3) ⟨rfl, rfl, SqT.of ht, rfl, rfl, k H7⟩)
    | some k0 =>
    refine iteF (hN7 _ _ ?_)
    intro N8 hN8
    try dsimp only at hN8 ⊢
    refine (L2.ea rfl ⟨rfl, L2.ea rfl ?_⟩)
    have zero_iff := rank_zero hv
    refine ite2 (fun h0 => ?_) (fun h0 => hN8 _ _ ?_)
    · have hk0 : k0 = 0 := by
        have : V.int (k0 : Int) = V.int 0 := of_decide_eq_true h0
        injection this with this
        omega
      have hyes : c.contains r = true := List.contains_iff_mem.mpr (zero_iff.mp hk0)
      refine (L2.em2_2 rfl rfl lc _ ⟨rfl, .inl (SqL.of hC6), rfl, flat_ints _, _, ?_, iteT (L2.em2_2 rfl rfl lc _ ⟨rfl, .inl (SqL.of hC6), fun lh2 hlh2 => (L2.em1_6 rfl x' lh2 n ds c r ⟨rfl, hF6.same (Same.new hlh2), ⟨hn1, hn6⟩, upd_same, on, .inl ⟨hyes, fun t H7 s7 ht => ?_⟩⟩)⟩)⟩)
      · show V.bl (inV (V.int r) (c.map V.int)) = V.bl true
        rw [inV_ints, hyes]
      · exact (L2.ex4 t _ 0 (.int 2) ⟨rfl, rfl, SqT.of ht, rfl, rfl, k H7⟩)
    have hk0 : 0 < k0 := by
      rcases Nat.eq_zero_or_pos k0 with rfl | z
      · exact absurd rfl h0
      · exact z
    have hno : c.contains r = false := by
      cases e : c.contains r with
      | false => rfl
      | true => have := zero_iff.mpr (List.contains_iff_mem.mp e); omega
    intro N9 hN9
    try dsimp only at hN9 ⊢
    refine (L2.em1_3 rfl a ns 25 ⟨rfl, (s05.trans s56).seq hS, by omega, L2.eb rfl rfl ⟨(by show (0 : Int) < 2; decide), rfl, hN9 _ _ ?_⟩⟩)
    generalize decide (V.int (cell ns 25 % 2) = V.int 1) = fl
    have k0b : k0 ≤ 1000 := rank_bd ok (by omega) (mem_csM.mpr ⟨hcl', hcn⟩) hrn hv
    refine (L2.em1_1 rfl (k0 : Int) ⟨rfl, by omega, by omega, ?_⟩)
    refine for_range (fun i σ H7 => ∃ (lc : Addr) (c : List Int) (r : Int) (kk : Nat) (v10 v11 v12 v13 v14 v15 : Option V), σ = [some (.ref a), some (.int m), some (.int mo), some (.int n), some (.ref l), some (.ref x'), some (.ref lc), some (.int r), some (.int (k0 : Int)), some (.bl fl), v10, v11, v12, v13, v14, v15] ∧ Same H5 H7 ∧ IntsAt H7 lc c ∧ OnF n c r ∧ c.contains r = false ∧ IsRank (Cf.nearP n ds) c r (some kk) ∧ kk + i ≤ k0 ∧ (fl = true → kk + i = k0))
      ⟨lc, c, r, k0, none, none, none, none, none, none, rfl, s56, hC6, on, hno, hv, by omega, fun _ => by omega⟩ ?_ ?_
    · rintro i σ H7 hi ⟨lc, c, r, kk, v10, v11, v12, v13, v14, v15, rfl, sm, hC, on, hno, hk, hle, hfl⟩
      have hi' : i < k0 := by omega
      have hcl2 := on.1
      intro N11 hN11
      try dsimp only at hN11 ⊢
      refine (L2.em1_2 rfl lc _ ⟨rfl, .inl (SqL.of hC), fun lh hlh => hN11 _ _ ?_⟩)
      have t1 := Same.new hlh (o := .lst (c.map V.int))
      have hH8 : IntsAt (upd H7 lh (.lst (c.map V.int))) lh c := upd_same
      have hC8 := hC.same t1
      have sm8 := sm.trans t1
      generalize upd H7 lh (.lst (c.map V.int)) = H8 at t1 hH8 hC8 sm8 ⊢
      intro N12 hN12
      try dsimp only at hN12 ⊢
      refine (L2.em3_6 rfl rfl rfl x' lh n ds c r ⟨rfl, hF5.same sm8, ⟨hn1, hn6⟩, hH8, on, .inr (.inr ⟨kk, hno, hk, fun t lg H9 g hlg s9 ht hG hst => hN12 _ _ ?_⟩)⟩)
      obtain ⟨hgo, hkk, hcase⟩ := step_leads ok on.2.1 on.2.2 hno hk hst
      have hgon := goes_on ok on.2.1 hgo
      have sm9 := sm8.trans s9
      have hH9 := hH8.same s9
      have hC9 := hC8.same s9
      intro N13 hN13
      try dsimp only at hN13 ⊢
      refine (L2.em1_4 rfl t _ 0 (.int 0) ⟨rfl, rfl, SqT.of ht, rfl, rfl, L2.ea rfl ?_⟩)
      rw [decide_eq_true rfl]
      refine iteF ?_
      refine (L2.ea2 rfl rfl ⟨.list (c.map PyData.int), .list (c.map PyData.int), .lst hH9 (Reps.ints c), .lst hC9 (Reps.ints c), ints_shaped c, ints_shaped c, L2.ea rfl ?_⟩)
      rw [ints_eqv]
      refine iteF ?_
      refine (L2.em4_4 rfl rfl rfl rfl t _ 1 (.ref lg) ⟨rfl, rfl, SqT.of ht, rfl, L2.ex6 n l lc lg ds c ⟨g, rfl, hD5.same sm9, G.doors, by omega, hC9, hG, by omega, hgo, fun H10 s10 => (L2.ea rfl (iteF (hN13 _ _ ?_)))⟩⟩)
      have ht10 := s10 _ _ ht
      have hG10 := hG.same s10
      have sm10 := sm9.trans s10
      intro N14 hN14
      try dsimp only at hN14 ⊢
      refine (L2.em1_4 rfl t _ 1 (.ref lg) ⟨rfl, rfl, SqT.of ht10, rfl, L2.ex2 lg _ ⟨rfl, .inl (SqL.of hG10), fun lc2 hlc2 => hN14 _ _ ?_⟩⟩)
      have t2 := Same.new hlc2 (o := .lst (g.map V.int))
      have hC11 : IntsAt (upd H10 lc2 (.lst (g.map V.int))) lc2 g := upd_same
      have hne : lc2 ≠ lg := fun z => by
        have h1 : H10 lg = some (.lst (g.map V.int)) := hG10
        rw [← z, hlc2] at h1
        cases h1
      have ht11 := t2 _ _ ht10
      have hG11 := hG10.same t2
      have sm11 := sm10.trans t2
      generalize upd H10 lc2 (.lst (g.map V.int)) = H11 at t2 hC11 ht11 hG11 sm11 ⊢
      intro N15 hN15
      try dsimp only at hN15 ⊢
      refine (L2.em1_4 rfl t _ 1 (.ref lg) ⟨rfl, rfl, SqT.of ht11, rfl, .inl ⟨rfl, _, SqL.of hG11⟩, L2.ex3 lg _ (.int 9) ⟨rfl, rfl, hG11, by rw [List.length_map, hgon.1]; omega, hN15 _ _ ?_⟩⟩)
      have sm12 : Same H5 (upd H11 lg (.lst (g.map V.int ++ [V.int 9]))) := sm11.set (sm8.free hlg)
      have hC12 : IntsAt (upd H11 lg (.lst (g.map V.int ++ [V.int 9]))) lc2 g := by
        show upd _ _ _ lc2 = _
        rw [upd_ne hne]
        exact hC11
      generalize upd H11 lg (.lst (g.map V.int ++ [V.int 9])) = H12 at sm12 hC12 ⊢
      have hgl := hgon.1
      refine ⟨fun σ H' => ∃ (r' : Int) (k' : Nat) (v13 v14 : Option V), σ = [some (.ref a), some (.int m), some (.int mo), some (.int n), some (.ref l), some (.ref x'), some (.ref lc2), some (.int r'), some (.int (k0 : Int)), some (.bl fl), some (.int (0 + (i : Int))), some (.ref lh), some (.ref t), v13, v14, v15] ∧ Same H12 H' ∧ OnF n g r' ∧ IsRank (Cf.nearP n ds) g r' (some k') ∧ k' + (i + 1) ≤ k0 ∧ (fl = true → k' + (i + 1) = k0), ?_, ?_⟩
      · refine (L2.em2_2 rfl rfl lc2 _ ⟨rfl, .inl (SqL.of hC12), rfl, flat_ints _, L2.ea rfl ?_⟩)
        rw [show (if true = true then !inV (V.int r) (g.map V.int) else inV (V.int r) (g.map V.int)) = !inV (V.int r) (g.map V.int) from rfl, inV_ints]
        have ong : ∀ r', 0 ≤ r' ∧ r' < n → OnF n g r' := fun r' hr' => ⟨by omega, hgon.2, hr'⟩
        rcases hcase with ⟨hgr, hk1⟩ | ⟨hgr, T', hT', hgr2⟩
        · rw [hgr]
          exact iteF (L2.ex4 r 0 _ _ ⟨rfl, Same.refl _, ong r on.2.2, isRank_zero (List.contains_iff_mem.mp hgr), by omega, fun z => by have := hfl z; omega⟩)
        · rw [hgr]
          refine iteT ?_
          have hne' : Cf.nearP n ds r ≠ [] := fun z => by
            have : r ∈ Cf.nearP n ds r := mem_near.mpr ⟨on.2.2, near_self ds r⟩
            rw [z] at this
            cases this
          have hpos : 0 < (Cf.nearP n ds r).length := List.length_pos_iff.mpr hne'
          have hlen6 := ok.len r
          refine (L2.em3_4 rfl rfl rfl l ds n r ⟨rfl, hD5.same sm12, G.doors, by omega, fun ln H13 hln s13 hN => ?_⟩)
          have sm13 := sm12.trans s13
          have hml : ((Cf.nearP n ds r).map V.int).length = (Cf.nearP n ds r).length := List.length_map ..
          refine (L2.ea3 rfl rfl rfl (L2.eb rfl rfl (L2.ex3 a ns _ ⟨rfl, (s05.trans sm13).seq hS, by omega, L2.em1_2 rfl ln _ ⟨rfl, .inl (SqL.of hN), L2.eb rfl rfl ⟨(by rw [hml]; omega), ?_⟩⟩⟩)))
          have hb := hmod (cell ns (30 + (0 + (i : Int)))) ((Cf.nearP n ds r).length : Int) (by omega)
          rw [hml]
          refine (L2.ex4 ln _ _ _ ⟨rfl, rfl, SqL.of hN, atI_map hb, ?_⟩)
          have hgoal := getD_mem hb
          generalize (Cf.nearP n ds r).getD _ 0 = q0 at hgoal ⊢
          refine ⟨fun σ H' => ∃ (q : Int), σ = [some (.ref a), some (.int m), some (.int mo), some (.int n), some (.ref l), some (.ref x'), some (.ref lc2), some (.int r), some (.int (k0 : Int)), some (.bl fl), some (.int (0 + (i : Int))), some (.ref lh), some (.ref t), some (.ref ln), some (.int q), v15] ∧ Same H13 H' ∧ q ∈ Cf.nearP n ds r ∧ (fl = true → T' g q = some (kk - 1)), ?_, ?_⟩
          · refine (L2.ea2 rfl rfl ?_)
            cases fl with
            | false => exact iteF ⟨q0, rfl, Same.refl _, hgoal, fun z => (by cases z)⟩
            | true =>
              refine iteT (L2.em2_2 rfl rfl lc2 _ ⟨rfl, .inl (SqL.of (hC12.same s13)), fun lh3 hlh3 => (L2.em1_6 rfl x' lh3 n ds g r ⟨rfl, (hF5.same sm13).same (Same.new hlh3), ⟨hn1, hn6⟩, upd_same, ong r on.2.2, hgr, fun H14 q s14 hq => ⟨q, rfl, (Same.new hlh3).trans s14, ?_, fun _ => ?_⟩⟩)⟩)
              · obtain ⟨f, _, hq⟩ := hq
                exact (List.mem_filter.mp (List.mem_of_mem_head? hq)).1
              · obtain ⟨f, hf, hq⟩ := hq
                obtain ⟨hq1, hq2⟩ := List.mem_filter.mp (List.mem_of_mem_head? hq)
                have ef : ∀ p ∈ Cf.nearP n ds r, f p = T' g p := fun p hp => by
                  have hb := ok.go r p on.2.2.1 on.2.2.2 hp
                  exact IsRank.unique (hf p hb.1 hb.2) (hT' p hb.1 hb.2)
                have em : (Cf.nearP n ds r).map f = (Cf.nearP n ds r).map (T' g) := List.map_congr_left ef
                rw [em, hgr2, ef q hq1] at hq2
                exact of_decide_eq_true hq2
          · rintro σ' H14 ⟨q, rfl, s14, hq, hqf⟩
            refine (L2.em2_2 rfl rfl ln _ ⟨rfl, .inl (SqL.of (hN.same s14)), rfl, flat_ints _, L2.ea rfl ?_⟩)
            rw [show (if true = true then !inV (V.int q) ((Cf.nearP n ds r).map V.int) else inV (V.int q) ((Cf.nearP n ds r).map V.int)) = !inV (V.int q) ((Cf.nearP n ds r).map V.int) from rfl, inV_ints, List.contains_iff_mem.mpr hq]
            refine iteF ?_
            have hqn := ok.go r q on.2.2.1 on.2.2.2 hq
            obtain ⟨k', ek', hk'⟩ := gr_le hgr2 _ (List.mem_map.mpr ⟨q, hq, rfl⟩)
            refine (L2.em1_4 rfl q k' _ _ ⟨rfl, s13.trans s14, ong q hqn, by rw [← ek']; exact hT' q hqn.1 hqn.2, by omega, fun z => ?_⟩)
            have h1 := hqf z
            rw [ek'] at h1
            have h2 := Option.some.inj h1
            have h3 := hfl z
            omega
      rintro σ2 H13 ⟨r', k', v13, v14, rfl, s13, ong, hk', hle', hfl'⟩
      have sm13 := sm12.trans s13
      have hC13 := hC12.same s13
      intro N17 hN17
      try dsimp only at hN17 ⊢
      refine (L2.em2_2 rfl rfl lc2 _ ⟨rfl, .inl (SqL.of hC13), fun lh3 hlh3 => (L2.em1_6 rfl x' lh3 n ds g r' ⟨rfl, (hF5.same sm13).same (Same.new hlh3), ⟨hn1, hn6⟩, upd_same, ong, fun H14 v s14 hv14 => hN17 _ _ ?_⟩)⟩)
      have ev : v = some k' := IsRank.unique hv14 hk'
      subst ev
      have s1314 := (Same.new hlh3).trans s14
      have sm14 := sm13.trans s1314
      have hC14 := hC13.same s1314
      refine ⟨fun σ H' => σ = [some (.ref a), some (.int m), some (.int mo), some (.int n), some (.ref l), some (.ref x'), some (.ref lc2), some (.int r'), some (.int (k0 : Int)), some (.bl fl), some (.int (0 + (i : Int))), some (.ref lh), some (.ref t), v13, v14, some (.int (k' : Int))] ∧ H' = H14, ?_, ?_⟩
      · refine (L2.ea2 rfl rfl (.inl ⟨(k' : Int), rfl, L2.ea rfl ?_⟩))
        refine iteF ?_
        refine (L2.ea2 rfl rfl (L2.eb rfl rfl (L2.ea rfl (L2.eb rfl rfl (L2.eb rfl rfl (L2.ea rfl ?_))))))
        rw [decide_eq_false (show ¬ ((k0 : Int) - 1 - (0 + (i : Int)) < (k' : Int)) by omega)]
        refine iteF ?_
        refine (L2.ea2 rfl rfl ?_)
        cases fl with
        | false => exact iteF (iteF ⟨rfl, rfl⟩)
        | true =>
          refine iteT (L2.ea2 rfl rfl (L2.eb rfl rfl (L2.ea rfl (L2.eb rfl rfl (L2.eb rfl rfl (L2.ea rfl ?_))))))
          have := hfl' rfl
          rw [decide_eq_false (show ¬ ((k' : Int) < (k0 : Int) - 1 - (0 + (i : Int))) by omega)]
          exact iteF ⟨rfl, rfl⟩
      rintro σ3 H14' ⟨rfl, rfl⟩
      refine (L2.em2_2 rfl rfl lc2 _ ⟨rfl, .inl (SqL.of hC14), rfl, flat_ints _, L2.ea rfl ?_⟩)
      rw [inV_ints]
      refine ite2 (fun (hyes : g.contains r' = true) => ?_) (fun hno' => ?_)
      · refine (L2.em2_2 rfl rfl lc2 _ ⟨rfl, .inl (SqL.of hC14), fun lh4 hlh4 => (L2.em1_6 rfl x' lh4 n ds g r' ⟨rfl, (hF5.same sm14).same (Same.new hlh4), ⟨hn1, hn6⟩, upd_same, ong, .inl ⟨hyes, fun t7 H15 s15 ht7 => ?_⟩⟩)⟩)
        exact (L2.ex4 t7 _ 0 (.int 2) ⟨rfl, rfl, SqT.of ht7, rfl, rfl, k H15⟩)
      · exact (L2.ex6 lc2 g r' k' _ _ (L2.ex4 _ _ _ _ ⟨rfl, sm14, hC14, ong, by simpa using hno', hk', by omega, fun z => by have := hfl' z; omega⟩))
    · rintro σ H7 ⟨lc, c, r, kk, v10, v11, v12, v13, v14, v15, rfl, sm, hC, on, hno, hk, hle, _⟩
      have := (step_zero hno hk)
      have hkk : ((k0 : Int)).toNat = k0 := by omega
      omega
end
end Cn

set_option Elab.async false
set_option linter.all false
set_option maxRecDepth 100000
namespace L2
open PySem PySem.Spec PyProof.Rows
theorem len_c {us : List Value} {n : Nat} (h : us.length = n + 1) : ∃ u vs, us = u :: vs ∧ vs.length = n := by
  cases us with
  | nil => cases h
  | cons u vs => exact ⟨u, vs, rfl, Nat.succ.inj h⟩
theorem len1 {p : List Value → Prop} (h : ∀ a, p [a]) (us : List Value) (e : us.length = 1) : p us := by
  obtain ⟨a, vs, rfl, e1⟩ := len_c e
  rw [List.eq_nil_of_length_eq_zero e1]
  exact h a
theorem len2 {p : List Value → Prop} (h : ∀ a b, p [a, b]) (us : List Value) (e : us.length = 2) : p us := by
  obtain ⟨a, vs, rfl, e1⟩ := len_c e
  exact len1 (p := fun vs => p (a :: vs)) (h a) vs e1
theorem len3 {p : List Value → Prop} (h : ∀ a b c, p [a, b, c]) (us : List Value) (e : us.length = 3) : p us := by
  obtain ⟨a, vs, rfl, e1⟩ := len_c e
  exact len2 (p := fun vs => p (a :: vs)) (h a) vs e1
theorem len4 {p : List Value → Prop} (h : ∀ a b c d, p [a, b, c, d]) (us : List Value) (e : us.length = 4) : p us := by
  obtain ⟨a, vs, rfl, e1⟩ := len_c e
  exact len3 (p := fun vs => p (a :: vs)) (h a) vs e1
section
variable {K : PySem.W.Frag} {h : Heap} {mg : Str → Option Value}
theorem df_mk (st : Stmt) (ps : List Str) (X : K.In h) (G : h.Ns mainGlobals mg) {x : Str} {f : Addr} {oc kV doc pm cdv ct : Value} {od an : Option Addr} {osl : Array (Option Value)} (a : PySem.W.nsIn K mainGlobals x = some (some (.ref f)))
    (l : K.lookup f = some ⟨oc, od, .func (PySem.W.fnOf x x (defArgs st) (defBody st) (defScope st) .none kV doc pm an cdv ct), osl⟩) (c : PySem.W.codeIn K cdv x = true) (k : PySem.W.keepIn K (.ref f) = true)
    (b : ∀ (kV doc pm : Value) (an : Option Addr) (cdv ct : Value) (us : List Value), us.length = ps.length → bindArgs (PySem.W.fnOf x x (defArgs st) (defBody st) (defScope st) .none kV doc pm an cdv ct) ⟨us, []⟩ = pure (ps.zip us)) :
    ∃ f fd, Df K mg x st ps f fd := ⟨f, _, fun_mk l c k, PySem.W.mg_of X G a, (fun_mk l c k).binds b⟩
theorem floor_mk (s1 s2 s3 : Stmt) (X : K.In h) (G : h.Ns mainGlobals mg) {C : Addr} {f1 : Addr} {oc1 kV1 doc1 pm1 cdv1 ct1 : Value} {od1 an1 : Option Addr} {osl1 : Array (Option Value)} {f2 : Addr} {oc2 kV2 doc2 pm2 cdv2 ct2 : Value} {od2 an2 : Option Addr} {osl2 : Array (Option Value)} {f3 : Addr} {oc3 kV3 doc3 pm3 cdv3 ct3 : Value} {od3 an3 : Option Addr} {osl3 : Array (Option Value)}
    (aC : PySem.W.nsIn K mainGlobals "Floor" = some (some (.ref C))) (kc : PySem.W.keepIn K (.ref C) = true) (mk : PySem.W.makesIn K C = true) (pg : PySem.W.plainGet K C Str.empty = true) (hd : PySem.W.hasDictIn K C = true) (po : PySem.W.plainOver K C = true) (sa : PySem.W.findIn K (.ref C) "__setattr__" = some (some (.builtin "object.__setattr__")))
    (np : PySem.W.findIn K (.ref C) "places" = some none) (nd : PySem.W.findIn K (.ref C) "doors" = some none)
    (a1 : PySem.W.findIn K (.ref C) "__init__" = some (some (.ref f1))) (i1 : PySem.W.isFn K (.ref f1) = true)
    (l1 : K.lookup f1 = some ⟨oc1, od1, .func (PySem.W.fnOf "__init__" "Floor.__init__" (defArgs s1) (defBody s1) (defScope s1) .none kV1 doc1 pm1 an1 cdv1 ct1), osl1⟩) (c1 : PySem.W.codeIn K cdv1 "Floor.__init__" = true) (k1 : PySem.W.keepIn K (.ref f1) = true)
    (b1 : ∀ (kV doc pm : Value) (an : Option Addr) (cdv ct : Value) (us : List Value), us.length = (["self", "places", "doors"] : List Str).length → bindArgs (PySem.W.fnOf "__init__" "Floor.__init__" (defArgs s1) (defBody s1) (defScope s1) .none kV doc pm an cdv ct) ⟨us, []⟩ = pure (List.zip (["self", "places", "doors"] : List Str) us))
    (a2 : PySem.W.findIn K (.ref C) "has_place" = some (some (.ref f2))) (i2 : PySem.W.isFn K (.ref f2) = true)
    (l2 : K.lookup f2 = some ⟨oc2, od2, .func (PySem.W.fnOf "has_place" "Floor.has_place" (defArgs s2) (defBody s2) (defScope s2) .none kV2 doc2 pm2 an2 cdv2 ct2), osl2⟩) (c2 : PySem.W.codeIn K cdv2 "Floor.has_place" = true) (k2 : PySem.W.keepIn K (.ref f2) = true)
    (b2 : ∀ (kV doc pm : Value) (an : Option Addr) (cdv ct : Value) (us : List Value), us.length = (["self", "place"] : List Str).length → bindArgs (PySem.W.fnOf "has_place" "Floor.has_place" (defArgs s2) (defBody s2) (defScope s2) .none kV doc pm an cdv ct) ⟨us, []⟩ = pure (List.zip (["self", "place"] : List Str) us))
    (a3 : PySem.W.findIn K (.ref C) "near" = some (some (.ref f3))) (i3 : PySem.W.isFn K (.ref f3) = true)
    (l3 : K.lookup f3 = some ⟨oc3, od3, .func (PySem.W.fnOf "near" "Floor.near" (defArgs s3) (defBody s3) (defScope s3) .none kV3 doc3 pm3 an3 cdv3 ct3), osl3⟩) (c3 : PySem.W.codeIn K cdv3 "Floor.near" = true) (k3 : PySem.W.keepIn K (.ref f3) = true)
    (b3 : ∀ (kV doc pm : Value) (an : Option Addr) (cdv ct : Value) (us : List Value), us.length = (["self", "place"] : List Str).length → bindArgs (PySem.W.fnOf "near" "Floor.near" (defArgs s3) (defBody s3) (defScope s3) .none kV doc pm an cdv ct) ⟨us, []⟩ = pure (List.zip (["self", "place"] : List Str) us)) :
    ∃ (C fI : Addr) (fdI : FuncData), mg "Floor" = some (.ref C) ∧ Mk K C fI ∧ Fun K "__init__" "Floor.__init__" s1 fI fdI ∧ Binds K fdI ["self", "places", "doors"] [] ∧ Cls K C ∧ NoAttr K C "places" ∧ NoAttr K C "doors" ∧
      ∃ (fH : Addr) (fdH : FuncData), Fun K "has_place" "Floor.has_place" s2 fH fdH ∧ Binds K fdH ["self", "place"] [] ∧ Meth K C "has_place" fH ∧ ∃ (fE : Addr) (fdE : FuncData), Fun K "near" "Floor.near" s3 fE fdE ∧ Binds K fdE ["self", "place"] [] ∧ Meth K C "near" fE :=
  ⟨C, f1, _, PySem.W.mg_of X G aC, ⟨mk, a1, i1, kc⟩, fun_mk l1 c1 k1, (fun_mk l1 c1 k1).binds b1, ⟨pg, hd, po, sa⟩, np, nd, f2, _, fun_mk l2 c2 k2, (fun_mk l2 c2 k2).binds b2, ⟨a2, i2, k2⟩, f3, _, fun_mk l3 c3 k3, (fun_mk l3 c3 k3).binds b3, ⟨a3, i3, k3⟩⟩
theorem law_mk (st : Stmt) (X : K.In h) (G : h.Ns mainGlobals mg) {f : Addr} {oc kV doc pm cdv ct : Value} {od an : Option Addr} {osl : Array (Option Value)} (a : PySem.W.nsIn K mainGlobals "law" = some (some (.ref f)))
    (l : K.lookup f = some ⟨oc, od, .func (PySem.W.fnOf "law" "law" (defArgs st) (defBody st) (defScope st) .none kV doc pm an cdv ct), osl⟩) (c : PySem.W.codeIn K cdv "law" = true) (k : PySem.W.keepIn K (.ref f) = true)
    (b : ∀ (kV doc pm : Value) (an : Option Addr) (cdv ct : Value) (s : Shared) (u : Value), BindsTo s (PySem.W.fnOf "law" "law" (defArgs st) (defBody st) (defScope st) .none kV doc pm an cdv ct) ⟨[u], []⟩ [("script", u)]) :
    ∃ (fl : Addr) (fdl : FuncData), Fun K "law" "law" st fl fdl ∧ mg "law" = some (.ref fl) ∧ ∀ (s : Shared) (u : Value), BindsTo s fdl ⟨[u], []⟩ [("script", u)] := ⟨f, _, fun_mk l c k, PySem.W.mg_of X G a, b _ _ _ _ _ _⟩
theorem int_mk (X : K.In h) (G : h.Ns mainGlobals mg) {x : Str} {i : Int} {t : Tok} (a : PySem.W.nsIn K mainGlobals x = some (some (.int i t))) : ∃ u, mg x = some u ∧ RelV (.int i) u := ⟨_, PySem.W.mg_of X G a, t, rfl⟩
end
end L2

set_option Elab.async false
set_option linter.all false
set_option maxRecDepth 100000
namespace Cn
open PySem L2 Cf
section
variable {K : PySem.W.Frag} {h : Heap} {mg : Str → Option Value}
end
end Cn

set_option Elab.async false
set_option linter.all false
set_option maxRecDepth 100000
namespace Cn
open PySem L2 Cf
section
variable {K : PySem.W.Frag} {h : Heap} {mg : Str → Option Value}
theorem ex3_mk (X : K.In h) (G : h.Ns mainGlobals mg) {cF cS cC cR cN cE : Addr} (zi : mg "isinstance" = none) (zv : mg "ValueError" = none) (zr : mg "range" = none)
    (aF : PySem.W.nsIn K mainGlobals "NoFloor" = some (some (.ref cF))) (aS : PySem.W.nsIn K mainGlobals "NoStanding" = some (some (.ref cS))) (aC : PySem.W.nsIn K mainGlobals "Caught" = some (some (.ref cC))) (aR : PySem.W.nsIn K mainGlobals "Free" = some (some (.ref cR))) (aN : PySem.W.nsIn K mainGlobals "NoNumber" = some (some (.ref cN))) (aE : PySem.W.nsIn K mainGlobals "ChaseError" = some (some (.ref cE)))
    (rsS : PySem.W.excIn K cS [.type "ValueError", .type "Exception", .type "BaseException", .type "object"] "ValueError.__new__" = true) (caS : PySem.W.exmOne K (.ref cS) (.ref cE) = some true) (hdS : PySem.W.hasDictIn K cS = true) (fcS : PySem.W.findIn K (.ref cS) "__class__" = some (some (.builtin "object.__class__"))) (fgS : PySem.W.findIn K (.ref cS) "__getattribute__" = some (some (.builtin "BaseException.__getattribute__"))) (fnS : PySem.W.findIn K (.ref cS) "__getattr__" = some none) (sbS : PySem.W.subIn K (.ref cS) (.type "BaseException") = some true) (mrS : PySem.W.mroIn K cS (.type "object") = some true) (k0S : PySem.W.kitOne K (.ref cS) (.ref cF) = some false) (k1S : PySem.W.kitOne K (.ref cS) (.ref cS) = some true) (k2S : PySem.W.kitOne K (.ref cS) (.ref cC) = some false) (k3S : PySem.W.kitOne K (.ref cS) (.ref cR) = some false) (k4S : PySem.W.kitOne K (.ref cS) (.ref cN) = some false) (kvS : PySem.W.kitOne K (.ref cS) (.type "ValueError") = some true)
    (rsC : PySem.W.excIn K cC [.type "ValueError", .type "Exception", .type "BaseException", .type "object"] "ValueError.__new__" = true) (caC : PySem.W.exmOne K (.ref cC) (.ref cE) = some true) (hdC : PySem.W.hasDictIn K cC = true) (fcC : PySem.W.findIn K (.ref cC) "__class__" = some (some (.builtin "object.__class__"))) (fgC : PySem.W.findIn K (.ref cC) "__getattribute__" = some (some (.builtin "BaseException.__getattribute__"))) (fnC : PySem.W.findIn K (.ref cC) "__getattr__" = some none) (sbC : PySem.W.subIn K (.ref cC) (.type "BaseException") = some true) (mrC : PySem.W.mroIn K cC (.type "object") = some true) (k0C : PySem.W.kitOne K (.ref cC) (.ref cF) = some false) (k1C : PySem.W.kitOne K (.ref cC) (.ref cS) = some false) (k2C : PySem.W.kitOne K (.ref cC) (.ref cC) = some true) (k3C : PySem.W.kitOne K (.ref cC) (.ref cR) = some false) (k4C : PySem.W.kitOne K (.ref cC) (.ref cN) = some false) (kvC : PySem.W.kitOne K (.ref cC) (.type "ValueError") = some true)
    (rsR : PySem.W.excIn K cR [.type "ValueError", .type "Exception", .type "BaseException", .type "object"] "ValueError.__new__" = true) (caR : PySem.W.exmOne K (.ref cR) (.ref cE) = some true) (hdR : PySem.W.hasDictIn K cR = true) (fcR : PySem.W.findIn K (.ref cR) "__class__" = some (some (.builtin "object.__class__"))) (fgR : PySem.W.findIn K (.ref cR) "__getattribute__" = some (some (.builtin "BaseException.__getattribute__"))) (fnR : PySem.W.findIn K (.ref cR) "__getattr__" = some none) (sbR : PySem.W.subIn K (.ref cR) (.type "BaseException") = some true) (mrR : PySem.W.mroIn K cR (.type "object") = some true) (k0R : PySem.W.kitOne K (.ref cR) (.ref cF) = some false) (k1R : PySem.W.kitOne K (.ref cR) (.ref cS) = some false) (k2R : PySem.W.kitOne K (.ref cR) (.ref cC) = some false) (k3R : PySem.W.kitOne K (.ref cR) (.ref cR) = some true) (k4R : PySem.W.kitOne K (.ref cR) (.ref cN) = some false) (kvR : PySem.W.kitOne K (.ref cR) (.type "ValueError") = some true)
    : ∃ (ot : OtT K mg) (cE : Addr), mg "ChaseError" = some (.ref cE) ∧ (PySem.W.excIn K ot.cS [.type "ValueError", .type "Exception", .type "BaseException", .type "object"] "ValueError.__new__" = true ∧ PySem.W.exmOne K (.ref ot.cS) (.ref cE) = some true ∧ KindOf K ot ot.cS 1) ∧ (PySem.W.excIn K ot.cC [.type "ValueError", .type "Exception", .type "BaseException", .type "object"] "ValueError.__new__" = true ∧ PySem.W.exmOne K (.ref ot.cC) (.ref cE) = some true ∧ KindOf K ot ot.cC 2) ∧ (PySem.W.excIn K ot.cR [.type "ValueError", .type "Exception", .type "BaseException", .type "object"] "ValueError.__new__" = true ∧ PySem.W.exmOne K (.ref ot.cR) (.ref cE) = some true ∧ KindOf K ot ot.cR 3) :=
  ⟨⟨cF, cS, cC, cR, cN, PySem.W.mg_of X G aF, PySem.W.mg_of X G aS, PySem.W.mg_of X G aC, PySem.W.mg_of X G aR, PySem.W.mg_of X G aN, zi, zv, zr⟩, cE, PySem.W.mg_of X G aE, ⟨rsS, caS, ⟨⟨hdS, fcS, fgS, fnS, sbS, mrS⟩, k0S, k1S, k2S, k3S, k4S, kvS⟩⟩, ⟨rsC, caC, ⟨⟨hdC, fcC, fgC, fnC, sbC, mrC⟩, k0C, k1C, k2C, k3C, k4C, kvC⟩⟩, ⟨rsR, caR, ⟨⟨hdR, fcR, fgR, fnR, sbR, mrR⟩, k0R, k1R, k2R, k3R, k4R, kvR⟩⟩⟩
end
end Cn

set_option Elab.async false
set_option linter.all false
set_option maxRecDepth 100000
theorem PySem.W.Fast.te12415208779606390422 : True := trivial
def PySem.W.Fast.tw13392600458230596001 : Nat := 0
def PySem.W.Fast.tw10059941209904244673 : Nat := 0
def PySem.W.Fast.tw7055054788943728682 : Nat := 0
def PySem.W.Fast.tw8992278714413747563 : Nat := 0
def PySem.W.Fast.tw7147146603366854540 : Nat := 0
def PySem.W.Fast.tw2281010624588112151 : Nat := 0
def PySem.W.Fast.tw4206340228990011546 : Nat := 0
def PySem.W.Fast.tw6712573865804678907 : Nat := 0
def PySem.W.Fast.tw13819018154038635581 : Nat := 0
def PySem.W.Fast.tw15676287488286592030 : Nat := 0
def PySem.W.Fast.tw17626859647326652382 : Nat := 0
def PySem.W.Fast.tw1801719175609617038 : Nat := 0
def PySem.W.Fast.tw4766742428083036352 : Nat := 0
def PySem.W.Fast.tw1471283140166088032 : Nat := 0
def PySem.W.Fast.tw894656614422937984 : Nat := 0
def PySem.W.Fast.tw17875276103435708832 : Nat := 0
def PySem.W.Fast.tw2942086975204478752 : Nat := 0
def PySem.W.Fast.tw6277740679776187553 : Nat := 0
def PySem.W.Fast.tw11868384941412073633 : Nat := 0
def PySem.W.Fast.tw7675518803276940545 : Nat := 0
def PySem.W.Fast.tw12645900514227017441 : Nat := 0
def PySem.W.Fast.tw557241019055820673 : Nat := 0
def PySem.W.Fast.tw8050067776714413122 : Nat := 0
def PySem.W.Fast.tw2438328905905257666 : Nat := 0
def PySem.W.Fast.tw12682141919691063522 : Nat := 0
def PySem.W.Fast.tw1441550917332663554 : Nat := 0
def PySem.W.Fast.tw664100960096039202 : Nat := 0
def PySem.W.Fast.tw7569053587495820642 : Nat := 0
def PySem.W.Fast.tw9220048266642562498 : Nat := 0
def PySem.W.Fast.tw10121574389818372578 : Nat := 0
def PySem.W.Fast.tw1286890623589806626 : Nat := 0
def PySem.W.Fast.tw7884743674755883586 : Nat := 0
def PySem.W.Fast.tw6235673040152372834 : Nat := 0
def PySem.W.Fast.tw283922437017983778 : Nat := 0
def PySem.W.Fast.tw2434752464539514722 : Nat := 0
def PySem.W.Fast.tw13751635812866884931 : Nat := 0
def PySem.W.Fast.tw1514847267414472003 : Nat := 0
def PySem.W.Fast.tw13616703424292813219 : Nat := 0
def PySem.W.Fast.tw9341251095931197891 : Nat := 0
def PySem.W.Fast.tw736281633061491171 : Nat := 0
def PySem.W.Fast.tw3910860689508191747 : Nat := 0
def PySem.W.Fast.tw31067657673267715 : Nat := 0
def PySem.W.Fast.tw2681543601844675107 : Nat := 0
def PySem.W.Fast.tw9921036323785205411 : Nat := 0
def PySem.W.Fast.tw1743133023413033923 : Nat := 0
def PySem.W.Fast.tw6580713207500970244 : Nat := 0
def PySem.W.Fast.tw15573969526024833380 : Nat := 0
def PySem.W.Fast.tw10107160280512383332 : Nat := 0
def PySem.W.Fast.tw12493808675793343076 : Nat := 0
def PySem.W.Fast.tw5733268796830305028 : Nat := 0
def PySem.W.Fast.tw11890659184662362084 : Nat := 0
def PySem.W.Fast.tw3905796591727224837 : Nat := 0
def PySem.W.Fast.tw17159411417832828197 : Nat := 0
def PySem.W.Fast.tw18444263667579390277 : Nat := 0
def PySem.W.Fast.tw12933379185508564389 : Nat := 0
def PySem.W.Fast.tw2029572364408171077 : Nat := 0
def PySem.W.Fast.tw13027744856276051909 : Nat := 0
def PySem.W.Fast.tw3611504106244965414 : Nat := 0
def PySem.W.Fast.tw9969597579935405094 : Nat := 0
def PySem.W.Fast.tw12543648052819613734 : Nat := 0
def PySem.W.Fast.tw13700331912068276294 : Nat := 0
def PySem.W.Fast.tw863796842379129990 : Nat := 0
def PySem.W.Fast.tw8617881558119935206 : Nat := 0
def PySem.W.Fast.tw5875589398527630886 : Nat := 0
def PySem.W.Fast.tw1672934624688971366 : Nat := 0
def PySem.W.Fast.tw5703299553116210886 : Nat := 0
def PySem.W.Fast.tw973447970593470342 : Nat := 0
def PySem.W.Fast.tw12811803069625716646 : Nat := 0
def PySem.W.Fast.tw3096508850003794886 : Nat := 0
def PySem.W.Fast.tw17090796835715102919 : Nat := 0
def PySem.W.Fast.tw18405490149975808647 : Nat := 0
def PySem.W.Fast.tw13459102986516329095 : Nat := 0
def PySem.W.Fast.tw12000339566713958279 : Nat := 0
def PySem.W.Fast.tw2252601968278036455 : Nat := 0
def PySem.W.Fast.tw3649604748231367688 : Nat := 0
def PySem.W.Fast.tw16282802830129546312 : Nat := 0
def PySem.W.Fast.tw11491508809971982472 : Nat := 0
def PySem.W.Fast.tw16955837992388465032 : Nat := 0
def PySem.W.Fast.tw17507780929975545256 : Nat := 0
def PySem.W.Fast.tw15011153989142106600 : Nat := 0
def PySem.W.Fast.tw12721184754651768552 : Nat := 0
def PySem.W.Fast.tw17167028221054057352 : Nat := 0
def PySem.W.Fast.tw419789611841370153 : Nat := 0
def PySem.W.Fast.tw15274452339623950537 : Nat := 0
def PySem.W.Fast.tw11437589819338753353 : Nat := 0
def PySem.W.Fast.tw15390596138448188745 : Nat := 0
def PySem.W.Fast.tw17241320297263135145 : Nat := 0
def PySem.W.Fast.tw10888721401703515593 : Nat := 0
def PySem.W.Fast.tw8945750581497357801 : Nat := 0
def PySem.W.Fast.tw15125566873898215913 : Nat := 0
def PySem.W.Fast.tw8808153160055850505 : Nat := 0
def PySem.W.Fast.tw15964111837369783849 : Nat := 0
def PySem.W.Fast.tw17068339839939488329 : Nat := 0
def PySem.W.Fast.tw1896994898023523977 : Nat := 0
def PySem.W.Fast.tw9881135952969107369 : Nat := 0
def PySem.W.Fast.tw906448712100634698 : Nat := 0
def PySem.W.Fast.tw4871624740861196458 : Nat := 0
def PySem.W.Fast.tw10268324930655802570 : Nat := 0
def PySem.W.Fast.tw13793168495371000106 : Nat := 0
def PySem.W.Fast.tw13357796546711844138 : Nat := 0
def PySem.W.Fast.tw11364997167068272042 : Nat := 0
def PySem.W.Fast.tw14247373626246699530 : Nat := 0
def PySem.W.Fast.tw3316651942980014730 : Nat := 0
def PySem.W.Fast.tw3115593934412766858 : Nat := 0
def PySem.W.Fast.tw12746860127152256682 : Nat := 0
def PySem.W.Fast.tw10892624616269787946 : Nat := 0
def PySem.W.Fast.tw18115389663384042282 : Nat := 0
def PySem.W.Fast.tw1316705863809131595 : Nat := 0
def PySem.W.Fast.tw2933577908271947883 : Nat := 0
def PySem.W.Fast.tw7617621482551459979 : Nat := 0
def PySem.W.Fast.tw5224869288640090315 : Nat := 0
def PySem.W.Fast.tw1817860803535512779 : Nat := 0
def PySem.W.Fast.tw5921316782350159051 : Nat := 0
def PySem.W.Fast.tw14726323526701472011 : Nat := 0
def PySem.W.Fast.tw4371520643345056043 : Nat := 0
def PySem.W.Fast.tw13862245021466757419 : Nat := 0
def PySem.W.Fast.tw1981933148028276139 : Nat := 0
def PySem.W.Fast.tw13742970001701740971 : Nat := 0
def PySem.W.Fast.tw895020237005903307 : Nat := 0
def PySem.W.Fast.tw8159643837124579883 : Nat := 0
def PySem.W.Fast.tw16431305764836548139 : Nat := 0
def PySem.W.Fast.tw566454777797675723 : Nat := 0
def PySem.W.Fast.tw17518455084062386955 : Nat := 0
def PySem.W.Fast.tw7823169482354286379 : Nat := 0
def PySem.W.Fast.tw12043978921832498059 : Nat := 0
def PySem.W.Fast.tw7177442748654543755 : Nat := 0
def PySem.W.Fast.tw3468918995663507500 : Nat := 0
def PySem.W.Fast.tw7820820541437171116 : Nat := 0
def PySem.W.Fast.tw18135776993376150092 : Nat := 0
def PySem.W.Fast.tw5430113530311289516 : Nat := 0
def PySem.W.Fast.tw17754556361874780972 : Nat := 0
def PySem.W.Fast.tw4358600524377842508 : Nat := 0
def PySem.W.Fast.tw3872979751260510253 : Nat := 0
def PySem.W.Fast.tw8922620509204099149 : Nat := 0
def PySem.W.Fast.tw5571640333735048589 : Nat := 0
def PySem.W.Fast.tw3871428307071751693 : Nat := 0
def PySem.W.Fast.tw18018606829469043437 : Nat := 0
def PySem.W.Fast.tw14507670913490622221 : Nat := 0
def PySem.W.Fast.tw3895161320914295565 : Nat := 0
def PySem.W.Fast.tw13818510198330117933 : Nat := 0
def PySem.W.Fast.tw10230352946399998797 : Nat := 0
def PySem.W.Fast.tw11372573484490468398 : Nat := 0
def PySem.W.Fast.tw15906714649821123822 : Nat := 0
def PySem.W.Fast.tw3919181564563488078 : Nat := 0
def PySem.W.Fast.tw6311355896172617038 : Nat := 0
def PySem.W.Fast.tw13684334698719125934 : Nat := 0
def PySem.W.Fast.tw12802089612460788270 : Nat := 0
def PySem.W.Fast.tw10835420716605130446 : Nat := 0
def PySem.W.Fast.tw3791483674579686222 : Nat := 0
def PySem.W.Fast.tw10601869995469136782 : Nat := 0
def PySem.W.Fast.tw16911800777284827631 : Nat := 0
def PySem.W.Fast.tw3595954559924804143 : Nat := 0
def PySem.W.Fast.tw4563201517145276079 : Nat := 0
def PySem.W.Fast.tw16653873101729161584 : Nat := 0
def PySem.W.Fast.tw7344556290701202832 : Nat := 0
def PySem.W.Fast.tw1049467752270795248 : Nat := 0
def PySem.W.Fast.tw10402377882247922192 : Nat := 0
def PySem.W.Fast.tw758294951675423280 : Nat := 0
def PySem.W.Fast.tw7859462456386978480 : Nat := 0
def PySem.W.Fast.tw17015276799129572016 : Nat := 0
def PySem.W.Fast.tw9206766425788043088 : Nat := 0
def PySem.W.Fast.tw15722634657425580880 : Nat := 0
def PySem.W.Fast.tw4912541812239468400 : Nat := 0
def PySem.W.Fast.tw12808869725572160432 : Nat := 0
def PySem.W.Fast.tw4029076273532563825 : Nat := 0
def PySem.W.Fast.tw3775889730750464593 : Nat := 0
def PySem.W.Fast.tw794736541159669393 : Nat := 0
def PySem.W.Fast.tw1420637870320165553 : Nat := 0
def PySem.W.Fast.tw13214223126544443089 : Nat := 0
def PySem.W.Fast.tw7727130355860381553 : Nat := 0
def PySem.W.Fast.tw2698565147902021489 : Nat := 0
def PySem.W.Fast.tw7631637231771872145 : Nat := 0
def PySem.W.Fast.tw7485329349839709137 : Nat := 0
def PySem.W.Fast.tw6266044307455143921 : Nat := 0
def PySem.W.Fast.tw5682949800918956082 : Nat := 0
def PySem.W.Fast.tw11049501171363332242 : Nat := 0
def PySem.W.Fast.tw4337554972307529010 : Nat := 0
def PySem.W.Fast.tw2436949452244141426 : Nat := 0
def PySem.W.Fast.tw15322110935227894194 : Nat := 0
def PySem.W.Fast.tw11807496644222388690 : Nat := 0
def PySem.W.Fast.tw2213457185219757650 : Nat := 0
def PySem.W.Fast.tw4509336030278546034 : Nat := 0
def PySem.W.Fast.tw4546995461804271218 : Nat := 0
def PySem.W.Fast.tw7903737173998624626 : Nat := 0
def PySem.W.Fast.tw13871831967262027730 : Nat := 0
def PySem.W.Fast.tw14729175625481990163 : Nat := 0
def PySem.W.Fast.tw12195890497843342579 : Nat := 0
def PySem.W.Fast.tw4500706977573900595 : Nat := 0
def PySem.W.Fast.tw4539504161606436211 : Nat := 0
def PySem.W.Fast.tw6337155560970477971 : Nat := 0
def PySem.W.Fast.tw119471887068711379 : Nat := 0
def PySem.W.Fast.tw855206496265119283 : Nat := 0
def PySem.W.Fast.tw14736635376456860499 : Nat := 0
def PySem.W.Fast.tw2688581558966141779 : Nat := 0
def PySem.W.Fast.tw13053083899568656275 : Nat := 0
def PySem.W.Fast.tw13466074222330219700 : Nat := 0
def PySem.W.Fast.tw11420836464216227028 : Nat := 0
def PySem.W.Fast.tw11646661398610115988 : Nat := 0
def PySem.W.Fast.tw5663373087135369684 : Nat := 0
def PySem.W.Fast.tw7877977488669543892 : Nat := 0
def PySem.W.Fast.tw11374862139569227252 : Nat := 0
def PySem.W.Fast.tw7207123265312056148 : Nat := 0
def PySem.W.Fast.tw7845646504900215700 : Nat := 0
def PySem.W.Fast.tw6064642552592689044 : Nat := 0
def PySem.W.Fast.tw15815042629775652820 : Nat := 0
def PySem.W.Fast.tw17725262749254439989 : Nat := 0
def PySem.W.Fast.tw10731338948020107413 : Nat := 0
def PySem.W.Fast.tw9743409958168366261 : Nat := 0
def PySem.W.Fast.tw5083502111024381109 : Nat := 0
def PySem.W.Fast.tw954756013055899029 : Nat := 0
def PySem.W.Fast.tw9353927810578630197 : Nat := 0
def PySem.W.Fast.tw6540661190410127029 : Nat := 0
def PySem.W.Fast.tw173667967601009429 : Nat := 0
def PySem.W.Fast.tw2063450664100555765 : Nat := 0
def PySem.W.Fast.tw9116443720050884630 : Nat := 0
def PySem.W.Fast.tw6144208042531596438 : Nat := 0
def PySem.W.Fast.tw17211585671396123926 : Nat := 0
def PySem.W.Fast.tw15579821849272848726 : Nat := 0
def PySem.W.Fast.tw12800647667274350966 : Nat := 0
def PySem.W.Fast.tw12127289708613906966 : Nat := 0
def PySem.W.Fast.tw7374621573355596374 : Nat := 0
def PySem.W.Fast.tw1659236119384656566 : Nat := 0
def PySem.W.Fast.tw3445633679589420758 : Nat := 0
def PySem.W.Fast.tw8907239987428742902 : Nat := 0
def PySem.W.Fast.tw15140917722642515958 : Nat := 0
def PySem.W.Fast.tw16177650308878894103 : Nat := 0
def PySem.W.Fast.tw9438845102827366455 : Nat := 0
def PySem.W.Fast.tw2054306053745365239 : Nat := 0
def PySem.W.Fast.tw9321187498297548119 : Nat := 0
def PySem.W.Fast.tw11257754514060833303 : Nat := 0
def PySem.W.Fast.tw11617778126864016919 : Nat := 0
def PySem.W.Fast.tw18056149285875191319 : Nat := 0
def PySem.W.Fast.tw16892568976571499063 : Nat := 0
def PySem.W.Fast.tw5044657401398149847 : Nat := 0
def PySem.W.Fast.tw11966693576067968759 : Nat := 0
def PySem.W.Fast.tw1143023276483804951 : Nat := 0
def PySem.W.Fast.tw3956998715141099415 : Nat := 0
def PySem.W.Fast.tw7687062716977249175 : Nat := 0
def PySem.W.Fast.tw13231728874148060151 : Nat := 0
def PySem.W.Fast.tw7633463844835946552 : Nat := 0
def PySem.W.Fast.tw17748297170448238680 : Nat := 0
def PySem.W.Fast.tw6726567833288352952 : Nat := 0
def PySem.W.Fast.tw14979248122924619000 : Nat := 0
def PySem.W.Fast.tw12898346880208081176 : Nat := 0
def PySem.W.Fast.tw13395971230854301048 : Nat := 0
def PySem.W.Fast.tw2582035717425566168 : Nat := 0
def PySem.W.Fast.tw4529475296429169112 : Nat := 0
def PySem.W.Fast.tw10633635836926889464 : Nat := 0
def PySem.W.Fast.tw5677876288193670744 : Nat := 0
def PySem.W.Fast.tw5483308681532866232 : Nat := 0
def PySem.W.Fast.tw1787504950635993880 : Nat := 0
def PySem.W.Fast.tw12063839092294370136 : Nat := 0
def PySem.W.Fast.tw12642060932847959960 : Nat := 0
def PySem.W.Fast.tw1561837347975639000 : Nat := 0
def PySem.W.Fast.tw15448609261714847833 : Nat := 0
def PySem.W.Fast.tw2965550709890786489 : Nat := 0
def PySem.W.Fast.tw2970879835010284889 : Nat := 0
def PySem.W.Fast.tw2593744275636707673 : Nat := 0
def PySem.W.Fast.tw934455686694180345 : Nat := 0
def PySem.W.Fast.tw11447614526150795897 : Nat := 0
def PySem.W.Fast.tw13797056896175715961 : Nat := 0
def PySem.W.Fast.tw9283724708567837401 : Nat := 0
def PySem.W.Fast.tw11420176010927873017 : Nat := 0
def PySem.W.Fast.tw8682126791070414874 : Nat := 0
def PySem.W.Fast.tw10823607289932455002 : Nat := 0
def PySem.W.Fast.tw4825460756673342650 : Nat := 0
def PySem.W.Fast.tw15530843468000708954 : Nat := 0
def PySem.W.Fast.tw2275874163268954522 : Nat := 0
def PySem.W.Fast.tw2940617924527306138 : Nat := 0
def PySem.W.Fast.tw1002311773008613978 : Nat := 0
def PySem.W.Fast.tw16779959266600896122 : Nat := 0
def PySem.W.Fast.tw9289245952703106714 : Nat := 0
def PySem.W.Fast.tw5280393973289829114 : Nat := 0
def PySem.W.Fast.tw17813096622640186138 : Nat := 0
def PySem.W.Fast.tw10945912907107684186 : Nat := 0
def PySem.W.Fast.tw8108073723285999482 : Nat := 0
def PySem.W.Fast.tw17383858177401752506 : Nat := 0
def PySem.W.Fast.tw15341114411971124315 : Nat := 0
def PySem.W.Fast.tw8012931522655581659 : Nat := 0
def PySem.W.Fast.tw1375666396066117339 : Nat := 0
def PySem.W.Fast.tw7869035520923559675 : Nat := 0
def PySem.W.Fast.tw6463281073172778811 : Nat := 0
def PySem.W.Fast.tw7458424892226555899 : Nat := 0
def PySem.W.Fast.tw9161612894467752988 : Nat := 0
def PySem.W.Fast.tw4895529953472936284 : Nat := 0
def PySem.W.Fast.tw8297182578754263420 : Nat := 0
def PySem.W.Fast.tw17888360611691206044 : Nat := 0
def PySem.W.Fast.tw7473253229942137404 : Nat := 0
def PySem.W.Fast.tw18024866696494759644 : Nat := 0
def PySem.W.Fast.tw12154622457800612668 : Nat := 0
def PySem.W.Fast.tw10643847212844731388 : Nat := 0
def PySem.W.Fast.tw5323302100198295645 : Nat := 0
def PySem.W.Fast.tw2620731530114492541 : Nat := 0
def PySem.W.Fast.tw2775647206855819421 : Nat := 0
def PySem.W.Fast.tw631662329612824733 : Nat := 0
def PySem.W.Fast.tw2168767924078147805 : Nat := 0
def PySem.W.Fast.tw2332233925338961181 : Nat := 0
def PySem.W.Fast.tw14395784010599349597 : Nat := 0
def PySem.W.Fast.tw6243527114073430493 : Nat := 0
def PySem.W.Fast.tw17844500823539516925 : Nat := 0
def PySem.W.Fast.tw18384088434976076317 : Nat := 0
def PySem.W.Fast.tw1015122786148993629 : Nat := 0
def PySem.W.Fast.tw9283525770749320861 : Nat := 0
def PySem.W.Fast.tw18144745120004343517 : Nat := 0
def PySem.W.Fast.tw1230411720058889981 : Nat := 0
def PySem.W.Fast.tw17636032628858988317 : Nat := 0
def PySem.W.Fast.tw18270093746759927677 : Nat := 0
def PySem.W.Fast.tw14245949039473118109 : Nat := 0
def PySem.W.Fast.tw8488432605213012062 : Nat := 0
def PySem.W.Fast.tw5343680955761961086 : Nat := 0
def PySem.W.Fast.tw168665290339203454 : Nat := 0
def PySem.W.Fast.tw2304157993617724958 : Nat := 0
def PySem.W.Fast.tw11579822530645961310 : Nat := 0
def PySem.W.Fast.tw16763336997659798302 : Nat := 0
def PySem.W.Fast.tw8358561845615125535 : Nat := 0
def PySem.W.Fast.tw1829505203623888223 : Nat := 0
def PySem.W.Fast.tw8549947492555351615 : Nat := 0
def PySem.W.Fast.tw2557795062043450015 : Nat := 0
def PySem.W.Fast.tw5876443536615666335 : Nat := 0
def PySem.W.Fast.tw4591102106013081567 : Nat := 0
def PySem.W.Fast.tw2945393943313477599 : Nat := 0
open PySem PySem.W PyProof.Rows L2 Cn in
set_option maxHeartbeats 0 in
theorem PySem.Challenge.cw_chasefloor_k05_whole_chased_by_plan_holds : PySem.Challenge.rw_chasefloor_k05_whole_chased_by_plan.Holds := by
  w_on; o_law; k_head; (case hw => w_witness2)
  k_fill
  refine L2.walk_ofK (l := PySem.Challenge.rw_chasefloor_k05_whole_chased_by_plan) (n := 63) (k := 7) (x := "script") (CX := CX0) (sp := Cn.spLaw) rfl (by decide) rfl ⟨rfl, by decide, by decide, rfl⟩ (fun w h Y => PySem.W.kIn_of Y) ?F ?S ?C
  case F =>
    intro w mg fa h KX G hmg
    obtain ⟨f0, fd0, D0⟩ : ∃ f fd, Df (L2.KOf KX) mg "is_standing" (Cn.top 9) ["floor", "chasers", "runner"] f fd := by
      dsimp only [L2.KOf]
      refine' df_mk (Cn.top 9) ["floor", "chasers", "runner"] KX G ?a ?l ?c ?k (fun _ _ _ _ _ _ => len3 (fun _ _ _ => rfl))
      (case a => k_is); (case l => k_is); (case c => k_is); (case k => k_is)
    obtain ⟨f1, fd1, D1⟩ : ∃ f fd, Df (L2.KOf KX) mg "is_caught" (Cn.top 10) ["floor", "chasers", "runner"] f fd := by
      dsimp only [L2.KOf]
      refine' df_mk (Cn.top 10) ["floor", "chasers", "runner"] KX G ?a ?l ?c ?k (fun _ _ _ _ _ _ => len3 (fun _ _ _ => rfl))
      (case a => k_is); (case l => k_is); (case c => k_is); (case k => k_is)
    obtain ⟨f2, fd2, D2⟩ : ∃ f fd, Df (L2.KOf KX) mg "rank" (Cn.top 11) ["floor", "chasers", "runner"] f fd := by
      dsimp only [L2.KOf]
      refine' df_mk (Cn.top 11) ["floor", "chasers", "runner"] KX G ?a ?l ?c ?k (fun _ _ _ _ _ _ => len3 (fun _ _ _ => rfl))
      (case a => k_is); (case l => k_is); (case c => k_is); (case k => k_is)
    obtain ⟨f3, fd3, D3⟩ : ∃ f fd, Df (L2.KOf KX) mg "rank_table" (Cn.top 12) ["floor", "count"] f fd := by
      dsimp only [L2.KOf]
      refine' df_mk (Cn.top 12) ["floor", "count"] KX G ?a ?l ?c ?k (fun _ _ _ _ _ _ => len2 (fun _ _ => rfl))
      (case a => k_is); (case l => k_is); (case c => k_is); (case k => k_is)
    obtain ⟨f4, fd4, D4⟩ : ∃ f fd, Df (L2.KOf KX) mg "widened" (Cn.top 13) ["near", "table", "turns"] f fd := by
      dsimp only [L2.KOf]
      refine' df_mk (Cn.top 13) ["near", "table", "turns"] KX G ?a ?l ?c ?k (fun _ _ _ _ _ _ => len3 (fun _ _ _ => rfl))
      (case a => k_is); (case l => k_is); (case c => k_is); (case k => k_is)
    obtain ⟨f5, fd5, D5⟩ : ∃ f fd, Df (L2.KOf KX) mg "widened_ranks" (Cn.top 14) ["ranks", "lost_by_going", "turns"] f fd := by
      dsimp only [L2.KOf]
      refine' df_mk (Cn.top 14) ["ranks", "lost_by_going", "turns"] KX G ?a ?l ?c ?k (fun _ _ _ _ _ _ => len3 (fun _ _ _ => rfl))
      (case a => k_is); (case l => k_is); (case c => k_is); (case k => k_is)
    obtain ⟨f6, fd6, D6⟩ : ∃ f fd, Df (L2.KOf KX) mg "lost_runners" (Cn.top 15) ["near", "ranks"] f fd := by
      dsimp only [L2.KOf]
      refine' df_mk (Cn.top 15) ["near", "ranks"] KX G ?a ?l ?c ?k (fun _ _ _ _ _ _ => len2 (fun _ _ => rfl))
      (case a => k_is); (case l => k_is); (case c => k_is); (case k => k_is)
    obtain ⟨f7, fd7, D7⟩ : ∃ f fd, Df (L2.KOf KX) mg "is_lost" (Cn.top 16) ["near", "ranks", "runner"] f fd := by
      dsimp only [L2.KOf]
      refine' df_mk (Cn.top 16) ["near", "ranks", "runner"] KX G ?a ?l ?c ?k (fun _ _ _ _ _ _ => len3 (fun _ _ _ => rfl))
      (case a => k_is); (case l => k_is); (case c => k_is); (case k => k_is)
    obtain ⟨f8, fd8, D8⟩ : ∃ f fd, Df (L2.KOf KX) mg "greatest_rank" (Cn.top 17) ["ranks"] f fd := by
      dsimp only [L2.KOf]
      refine' df_mk (Cn.top 17) ["ranks"] KX G ?a ?l ?c ?k (fun _ _ _ _ _ _ => len1 (fun _ => rfl))
      (case a => k_is); (case l => k_is); (case c => k_is); (case k => k_is)
    obtain ⟨f9, fd9, D9⟩ : ∃ f fd, Df (L2.KOf KX) mg "choices" (Cn.top 18) ["place_lists"] f fd := by
      dsimp only [L2.KOf]
      refine' df_mk (Cn.top 18) ["place_lists"] KX G ?a ?l ?c ?k (fun _ _ _ _ _ _ => len1 (fun _ => rfl))
      (case a => k_is); (case l => k_is); (case c => k_is); (case k => k_is)
    obtain ⟨f10, fd10, D10⟩ : ∃ f fd, Df (L2.KOf KX) mg "chase_step" (Cn.top 20) ["floor", "chasers", "runner"] f fd := by
      dsimp only [L2.KOf]
      refine' df_mk (Cn.top 20) ["floor", "chasers", "runner"] KX G ?a ?l ?c ?k (fun _ _ _ _ _ _ => len3 (fun _ _ _ => rfl))
      (case a => k_is); (case l => k_is); (case c => k_is); (case k => k_is)
    obtain ⟨f11, fd11, D11⟩ : ∃ f fd, Df (L2.KOf KX) mg "flight_step" (Cn.top 21) ["floor", "chasers", "runner"] f fd := by
      dsimp only [L2.KOf]
      refine' df_mk (Cn.top 21) ["floor", "chasers", "runner"] KX G ?a ?l ?c ?k (fun _ _ _ _ _ _ => len3 (fun _ _ _ => rfl))
      (case a => k_is); (case l => k_is); (case c => k_is); (case k => k_is)
    obtain ⟨f12, fd12, D12⟩ : ∃ f fd, Df (L2.KOf KX) mg "refuse_caught" (Cn.top 22) ["floor", "chasers", "runner"] f fd := by
      dsimp only [L2.KOf]
      refine' df_mk (Cn.top 22) ["floor", "chasers", "runner"] KX G ?a ?l ?c ?k (fun _ _ _ _ _ _ => len3 (fun _ _ _ => rfl))
      (case a => k_is); (case l => k_is); (case c => k_is); (case k => k_is)
    obtain ⟨f13, fd13, D13⟩ : ∃ f fd, Df (L2.KOf KX) mg "rank_behind" (Cn.top 23) ["ranks", "flights"] f fd := by
      dsimp only [L2.KOf]
      refine' df_mk (Cn.top 23) ["ranks", "flights"] KX G ?a ?l ?c ?k (fun _ _ _ _ _ _ => len2 (fun _ _ => rfl))
      (case a => k_is); (case l => k_is); (case c => k_is); (case k => k_is)
    obtain ⟨f14, fd14, D14⟩ : ∃ f fd, Df (L2.KOf KX) mg "is_door" (Cn.top 27) ["places", "door"] f fd := by
      dsimp only [L2.KOf]
      refine' df_mk (Cn.top 27) ["places", "door"] KX G ?a ?l ?c ?k (fun _ _ _ _ _ _ => len2 (fun _ _ => rfl))
      (case a => k_is); (case l => k_is); (case c => k_is); (case k => k_is)
    obtain ⟨f15, fd15, D15⟩ : ∃ f fd, Df (L2.KOf KX) mg "is_rising" (Cn.top 28) ["doors"] f fd := by
      dsimp only [L2.KOf]
      refine' df_mk (Cn.top 28) ["doors"] KX G ?a ?l ?c ?k (fun _ _ _ _ _ _ => len1 (fun _ => rfl))
      (case a => k_is); (case l => k_is); (case c => k_is); (case k => k_is)
    obtain ⟨f16, fd16, D16⟩ : ∃ f fd, Df (L2.KOf KX) mg "near_places" (Cn.top 29) ["places", "doors", "place"] f fd := by
      dsimp only [L2.KOf]
      refine' df_mk (Cn.top 29) ["places", "doors", "place"] KX G ?a ?l ?c ?k (fun _ _ _ _ _ _ => len3 (fun _ _ _ => rfl))
      (case a => k_is); (case l => k_is); (case c => k_is); (case k => k_is)
    obtain ⟨f17, fd17, D17⟩ : ∃ f fd, Df (L2.KOf KX) mg "is_near" (Cn.top 30) ["doors", "place", "other"] f fd := by
      dsimp only [L2.KOf]
      refine' df_mk (Cn.top 30) ["doors", "place", "other"] KX G ?a ?l ?c ?k (fun _ _ _ _ _ _ => len3 (fun _ _ _ => rfl))
      (case a => k_is); (case l => k_is); (case c => k_is); (case k => k_is)
    obtain ⟨f18, fd18, D18⟩ : ∃ f fd, Df (L2.KOf KX) mg "reached_places" (Cn.top 31) ["places", "doors"] f fd := by
      dsimp only [L2.KOf]
      refine' df_mk (Cn.top 31) ["places", "doors"] KX G ?a ?l ?c ?k (fun _ _ _ _ _ _ => len2 (fun _ _ => rfl))
      (case a => k_is); (case l => k_is); (case c => k_is); (case k => k_is)
    obtain ⟨f19, fd19, D19⟩ : ∃ f fd, Df (L2.KOf KX) mg "is_near_one" (Cn.top 32) ["doors", "place", "others"] f fd := by
      dsimp only [L2.KOf]
      refine' df_mk (Cn.top 32) ["doors", "place", "others"] KX G ?a ?l ?c ?k (fun _ _ _ _ _ _ => len3 (fun _ _ _ => rfl))
      (case a => k_is); (case l => k_is); (case c => k_is); (case k => k_is)
    obtain ⟨f20, fd20, D20⟩ : ∃ f fd, Df (L2.KOf KX) mg "_law_cell_at" (Cn.top 34) ["script", "k"] f fd := by
      dsimp only [L2.KOf]
      refine' df_mk (Cn.top 34) ["script", "k"] KX G ?a ?l ?c ?k (fun _ _ _ _ _ _ => len2 (fun _ _ => rfl))
      (case a => k_is); (case l => k_is); (case c => k_is); (case k => k_is)
    obtain ⟨f21, fd21, D21⟩ : ∃ f fd, Df (L2.KOf KX) mg "_law_whole" (Cn.top 35) ["found"] f fd := by
      dsimp only [L2.KOf]
      refine' df_mk (Cn.top 35) ["found"] KX G ?a ?l ?c ?k (fun _ _ _ _ _ _ => len1 (fun _ => rfl))
      (case a => k_is); (case l => k_is); (case c => k_is); (case k => k_is)
    obtain ⟨f22, fd22, D22⟩ : ∃ f fd, Df (L2.KOf KX) mg "_law_numbers_like" (Cn.top 36) ["found", "due"] f fd := by
      dsimp only [L2.KOf]
      refine' df_mk (Cn.top 36) ["found", "due"] KX G ?a ?l ?c ?k (fun _ _ _ _ _ _ => len2 (fun _ _ => rfl))
      (case a => k_is); (case l => k_is); (case c => k_is); (case k => k_is)
    obtain ⟨f23, fd23, D23⟩ : ∃ f fd, Df (L2.KOf KX) mg "_law_floor_by" (Cn.top 37) ["script", "most"] f fd := by
      dsimp only [L2.KOf]
      refine' df_mk (Cn.top 37) ["script", "most"] KX G ?a ?l ?c ?k (fun _ _ _ _ _ _ => len2 (fun _ _ => rfl))
      (case a => k_is); (case l => k_is); (case c => k_is); (case k => k_is)
    obtain ⟨f24, fd24, D24⟩ : ∃ f fd, Df (L2.KOf KX) mg "_law_near" (Cn.top 38) ["places", "doors", "place"] f fd := by
      dsimp only [L2.KOf]
      refine' df_mk (Cn.top 38) ["places", "doors", "place"] KX G ?a ?l ?c ?k (fun _ _ _ _ _ _ => len3 (fun _ _ _ => rfl))
      (case a => k_is); (case l => k_is); (case c => k_is); (case k => k_is)
    obtain ⟨f25, fd25, D25⟩ : ∃ f fd, Df (L2.KOf KX) mg "_law_standing_by" (Cn.top 39) ["script", "at", "places", "count"] f fd := by
      dsimp only [L2.KOf]
      refine' df_mk (Cn.top 39) ["script", "at", "places", "count"] KX G ?a ?l ?c ?k (fun _ _ _ _ _ _ => len4 (fun _ _ _ _ => rfl))
      (case a => k_is); (case l => k_is); (case c => k_is); (case k => k_is)
    obtain ⟨f26, fd26, D26⟩ : ∃ f fd, Df (L2.KOf KX) mg "_law_other" (Cn.top 40) ["e", "wanted"] f fd := by
      dsimp only [L2.KOf]
      refine' df_mk (Cn.top 40) ["e", "wanted"] KX G ?a ?l ?c ?k (fun _ _ _ _ _ _ => len2 (fun _ _ => rfl))
      (case a => k_is); (case l => k_is); (case c => k_is); (case k => k_is)
    obtain ⟨f27, fd27, D27⟩ : ∃ f fd, Df (L2.KOf KX) mg "_law_told" (Cn.top 41) ["floor", "chasers", "runner"] f fd := by
      dsimp only [L2.KOf]
      refine' df_mk (Cn.top 41) ["floor", "chasers", "runner"] KX G ?a ?l ?c ?k (fun _ _ _ _ _ _ => len3 (fun _ _ _ => rfl))
      (case a => k_is); (case l => k_is); (case c => k_is); (case k => k_is)
    obtain ⟨f28, fd28, D28⟩ : ∃ f fd, Df (L2.KOf KX) mg "_law_goes" (Cn.top 42) ["places", "doors", "chasers", "goal"] f fd := by
      dsimp only [L2.KOf]
      refine' df_mk (Cn.top 42) ["places", "doors", "chasers", "goal"] KX G ?a ?l ?c ?k (fun _ _ _ _ _ _ => len4 (fun _ _ _ _ => rfl))
      (case a => k_is); (case l => k_is); (case c => k_is); (case k => k_is)
    obtain ⟨C, fI, fdI, hC, mI, fiI, bI, cl, nPl, nDo, fH, fdH, fiH, bH, mH, fE, fdE, fiE, bE, mE⟩ : ∃ (C fI : Addr) (fdI : FuncData), mg "Floor" = some (.ref C) ∧ Mk (L2.KOf KX) C fI ∧ Fun (L2.KOf KX) "__init__" "Floor.__init__" Cn.s_init fI fdI ∧ Binds (L2.KOf KX) fdI ["self", "places", "doors"] [] ∧ Cls (L2.KOf KX) C ∧ NoAttr (L2.KOf KX) C "places" ∧ NoAttr (L2.KOf KX) C "doors" ∧
        ∃ (fH : Addr) (fdH : FuncData), Fun (L2.KOf KX) "has_place" "Floor.has_place" Cn.s_has fH fdH ∧ Binds (L2.KOf KX) fdH ["self", "place"] [] ∧ Meth (L2.KOf KX) C "has_place" fH ∧ ∃ (fE : Addr) (fdE : FuncData), Fun (L2.KOf KX) "near" "Floor.near" Cn.s_near fE fdE ∧ Binds (L2.KOf KX) fdE ["self", "place"] [] ∧ Meth (L2.KOf KX) C "near" fE := by
      dsimp only [L2.KOf]
      refine' floor_mk Cn.s_init Cn.s_has Cn.s_near KX G ?aC ?kc ?mk ?pg ?hd ?po ?sa ?np ?nd ?a1 ?i1 ?l1 ?c1 ?k1 (fun _ _ _ _ _ _ => len3 (fun _ _ _ => rfl)) ?a2 ?i2 ?l2 ?c2 ?k2 (fun _ _ _ _ _ _ => len2 (fun _ _ => rfl)) ?a3 ?i3 ?l3 ?c3 ?k3 (fun _ _ _ _ _ _ => len2 (fun _ _ => rfl))
      (case aC => k_is); (case kc => k_is); (case mk => k_is); (case pg => k_is); (case hd => k_is); (case po => k_is); (case sa => k_is); (case np => k_is); (case nd => k_is)
      (case a1 => k_is); (case i1 => k_is); (case l1 => k_is); (case c1 => k_is); (case k1 => k_is)
      (case a2 => k_is); (case i2 => k_is); (case l2 => k_is); (case c2 => k_is); (case k2 => k_is)
      (case a3 => k_is); (case i3 => k_is); (case l3 => k_is); (case c3 => k_is); (case k3 => k_is)
    have m6 : ∃ u, mg "MOST_PLACES" = some u ∧ RelV (.int 6) u := by
      refine' int_mk KX G ?a
      (case a => k_is)
    have m2 : ∃ u, mg "MOST_CHASERS" = some u ∧ RelV (.int 2) u := by
      refine' int_mk KX G ?a
      (case a => k_is)
    have z_all : mg "all" = none := by
      have : PySem.W.nsIn (L2.KOf KX) mainGlobals "all" = some none := by
        dsimp only [L2.KOf]
        k_is
      exact PySem.W.mg_none_of KX G this
    have z_any : mg "any" = none := by
      have : PySem.W.nsIn (L2.KOf KX) mainGlobals "any" = some none := by
        dsimp only [L2.KOf]
        k_is
      exact PySem.W.mg_none_of KX G this
    have z_range : mg "range" = none := by
      have : PySem.W.nsIn (L2.KOf KX) mainGlobals "range" = some none := by
        dsimp only [L2.KOf]
        k_is
      exact PySem.W.mg_none_of KX G this
    have z_len : mg "len" = none := by
      have : PySem.W.nsIn (L2.KOf KX) mainGlobals "len" = some none := by
        dsimp only [L2.KOf]
        k_is
      exact PySem.W.mg_none_of KX G this
    have z_list : mg "list" = none := by
      have : PySem.W.nsIn (L2.KOf KX) mainGlobals "list" = some none := by
        dsimp only [L2.KOf]
        k_is
      exact PySem.W.mg_none_of KX G this
    have z_tuple : mg "tuple" = none := by
      have : PySem.W.nsIn (L2.KOf KX) mainGlobals "tuple" = some none := by
        dsimp only [L2.KOf]
        k_is
      exact PySem.W.mg_none_of KX G this
    have z_enumerate : mg "enumerate" = none := by
      have : PySem.W.nsIn (L2.KOf KX) mainGlobals "enumerate" = some none := by
        dsimp only [L2.KOf]
        k_is
      exact PySem.W.mg_none_of KX G this
    have z_min : mg "min" = none := by
      have : PySem.W.nsIn (L2.KOf KX) mainGlobals "min" = some none := by
        dsimp only [L2.KOf]
        k_is
      exact PySem.W.mg_none_of KX G this
    have z_max : mg "max" = none := by
      have : PySem.W.nsIn (L2.KOf KX) mainGlobals "max" = some none := by
        dsimp only [L2.KOf]
        k_is
      exact PySem.W.mg_none_of KX G this
    have z_sorted : mg "sorted" = none := by
      have : PySem.W.nsIn (L2.KOf KX) mainGlobals "sorted" = some none := by
        dsimp only [L2.KOf]
        k_is
      exact PySem.W.mg_none_of KX G this
    have z_isinstance : mg "isinstance" = none := by
      have : PySem.W.nsIn (L2.KOf KX) mainGlobals "isinstance" = some none := by
        dsimp only [L2.KOf]
        k_is
      exact PySem.W.mg_none_of KX G this
    have z_int : mg "int" = none := by
      have : PySem.W.nsIn (L2.KOf KX) mainGlobals "int" = some none := by
        dsimp only [L2.KOf]
        k_is
      exact PySem.W.mg_none_of KX G this
    have z_bool : mg "bool" = none := by
      have : PySem.W.nsIn (L2.KOf KX) mainGlobals "bool" = some none := by
        dsimp only [L2.KOf]
        k_is
      exact PySem.W.mg_none_of KX G this
    have z_zip : mg "zip" = none := by
      have : PySem.W.nsIn (L2.KOf KX) mainGlobals "zip" = some none := by
        dsimp only [L2.KOf]
        k_is
      exact PySem.W.mg_none_of KX G this
    have z_ValueError : mg "ValueError" = none := by
      have : PySem.W.nsIn (L2.KOf KX) mainGlobals "ValueError" = some none := by
        dsimp only [L2.KOf]
        k_is
      exact PySem.W.mg_none_of KX G this
    obtain ⟨OT, cE, gE, ⟨rsS, caS, kdS⟩, ⟨rsC, caC, kdC⟩, ⟨rsR, caR, kdR⟩⟩ : ∃ (ot : OtT (L2.KOf KX) mg) (cE : Addr), mg "ChaseError" = some (.ref cE) ∧ (PySem.W.excIn (L2.KOf KX) ot.cS [.type "ValueError", .type "Exception", .type "BaseException", .type "object"] "ValueError.__new__" = true ∧ PySem.W.exmOne (L2.KOf KX) (.ref ot.cS) (.ref cE) = some true ∧ KindOf (L2.KOf KX) ot ot.cS 1) ∧ (PySem.W.excIn (L2.KOf KX) ot.cC [.type "ValueError", .type "Exception", .type "BaseException", .type "object"] "ValueError.__new__" = true ∧ PySem.W.exmOne (L2.KOf KX) (.ref ot.cC) (.ref cE) = some true ∧ KindOf (L2.KOf KX) ot ot.cC 2) ∧ (PySem.W.excIn (L2.KOf KX) ot.cR [.type "ValueError", .type "Exception", .type "BaseException", .type "object"] "ValueError.__new__" = true ∧ PySem.W.exmOne (L2.KOf KX) (.ref ot.cR) (.ref cE) = some true ∧ KindOf (L2.KOf KX) ot ot.cR 3) := by
      dsimp only [L2.KOf]
      refine' Cn.ex3_mk KX G z_isinstance z_ValueError z_range ?aF ?aS ?aC ?aR ?aN ?aE ?rsS ?caS ?hdS ?fcS ?fgS ?fnS ?sbS ?mrS ?k0S ?k1S ?k2S ?k3S ?k4S ?kvS ?rsC ?caC ?hdC ?fcC ?fgC ?fnC ?sbC ?mrC ?k0C ?k1C ?k2C ?k3C ?k4C ?kvC ?rsR ?caR ?hdR ?fcR ?fgR ?fnR ?sbR ?mrR ?k0R ?k1R ?k2R ?k3R ?k4R ?kvR
      (case aF => k_is); (case aS => k_is); (case aC => k_is); (case aR => k_is); (case aN => k_is); (case aE => k_is); (case rsS => k_exc); (case caS => kts_exm); (case hdS => k_is); (case fcS => k_is); (case fgS => k_is); (case fnS => k_is); (case sbS => k_is); (case mrS => k_is); (case k0S => kit_is); (case k1S => kit_is); (case k2S => kit_is); (case k3S => kit_is); (case k4S => kit_is); (case kvS => kit_is); (case rsC => k_exc); (case caC => kts_exm); (case hdC => k_is); (case fcC => k_is); (case fgC => k_is); (case fnC => k_is); (case sbC => k_is); (case mrC => k_is); (case k0C => kit_is); (case k1C => kit_is); (case k2C => kit_is); (case k3C => kit_is); (case k4C => kit_is); (case kvC => kit_is); (case rsR => k_exc); (case caR => kts_exm); (case hdR => k_is); (case fcR => k_is); (case fgR => k_is); (case fnR => k_is); (case sbR => k_is); (case mrR => k_is); (case k0R => kit_is); (case k1R => kit_is); (case k2R => kit_is); (case k3R => kit_is); (case k4R => kit_is); (case kvR => kit_is)
    have TF : FlT (L2.KOf KX) mg := ⟨f17, fd17, D17, f19, fd19, D19, f16, fd16, D16, f18, fd18, D18, f14, fd14, D14, f15, fd15, D15, C, fI, fdI, fiI, bI, mI, fH, fdH, fiH, bH, mH, fE, fdE, fiE, bE, mE, cl, nPl, nDo, hC, m6, z_all, z_any, z_range, z_len, z_list⟩
    have TL : LwT (L2.KOf KX) mg := ⟨f20, fd20, D20, f23, fd23, D23, z_len, z_range, z_min, z_max, z_sorted⟩
    have TB : TbT (L2.KOf KX) mg := ⟨f7, fd7, D7, f6, fd6, D6, f5, fd5, D5, f9, fd9, D9, f4, fd4, D4, z_all, z_any, z_range, z_len, z_list, z_tuple, z_enumerate⟩
    have TR : RkT (L2.KOf KX) mg := ⟨TF, TB, f3, fd3, D3, f0, fd0, D0, f1, fd1, D1, f2, fd2, D2, m2⟩
    have TP : PlT (L2.KOf KX) mg := ⟨TR, f8, fd8, D8, f13, fd13, D13, f12, fd12, D12, f11, fd11, D11, z_max⟩
    have TX : ExT (L2.KOf KX) mg := ⟨OT, f26, fd26, D26, cE, gE, _, _, _, PySem.F.excBase_ValueError, rsS, caS, kdS, rsC, caC, kdC, rsR, caR, kdR⟩
    obtain ⟨fl, fdl, Fl, el, bl⟩ : ∃ (fl : Addr) (fdl : FuncData), Fun (L2.KOf KX) "law" "law" Cn.s_law fl fdl ∧ mg "law" = some (.ref fl) ∧ ∀ (s : Shared) (u : Value), BindsTo s fdl ⟨[u], []⟩ [("script", u)] := by
      dsimp only [L2.KOf]
      refine' law_mk Cn.s_law KX G ?a ?l ?c ?k (fun _ _ _ _ _ _ _ _ => .of_eq rfl)
      (case a => k_is); (case l => k_is); (case c => k_is); (case k => k_is)
    have ea := hmg.symm.trans el
    cases ea
    exact ⟨fdl, bl, fun base _ _ => Cn.ok_law ⟨TP, TL, TX, f10, fd10, D10, f27, fd27, D27, f28, fd28, D28, f25, fd25, D25, f21, fd21, D21, f24, fd24, D24, f22, fd22, D22, _, fdl, Fl, z_isinstance, z_int, z_bool, z_zip⟩⟩
  case S => exact fun K H a ns _ _ hS => ⟨a, ns, rfl, hS, fun _ => rfl⟩
  case C => exact fun _ _ _ _ z => z

