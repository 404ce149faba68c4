import PyProof.Rows.All
import Wide.All
import OpenK.AllK
import Wide.FinOn
import HandS.ForMost
import HandS.Strs
import HandS.Deep
import HandS.TupAny
import HandS.TupMul
import HandS.Style
import HandS.IsInst
import HandS.TupSets
import HandS.SetFor
import PyProof.Draws
import PyProof.EnumMake
import PyProof.WalksMore
import HandS.SortInts
import HandS.Conv
import HandS.Flow
import HandS.SetBool
import HandS.SortRule
import HandS.ExcInit
import HandS.TryMany
import HandS.WordsExc
import HandS.ExcIs
import HandS.ExcField
import HandS.More
import KE.LtSeq
import HandS.Base
import HandS.Call
import HandS.List
import HandS.Sort
import HandS.SortOrd
import HandS.Gcd
import PySem.Challenge.RW_aheadcells_k07_whole_how_far_ahead
set_option Elab.async false
set_option linter.all false
set_option maxRecDepth 100000
/-! A small functional reading over the hand layer: values as trees, what a def owns, what is frozen. -/
namespace Fr
open PySem PySem.Spec PyProof.Rows L2

/-- values as trees -/
inductive D where
  | unb | non | bl (b : Bool) | int (i : Int) | str (s : Str) | ty (n : String)
  | tup (xs : List D) | lst (xs : List D) | own (xs : List D) | scr (xs : List D)
  | dic (ks : List Key) (xs : List D) | odic (ks : List Key) (xs : List D)
  | ins (C : Addr) (fs : List Str) (xs : List D) | oins (C : Addr) (fs : List Str) (xs : List D)
  | cell (k : Nat)
  | hset (ns : List Int) | rset (w : World) (ns : List Int) | oset (w : World) (ns : List Int)

abbrev Ex (H H' : Hp) : Prop := ∀ a o, H a = some o → H' a = some o
theorem Ex.rfl' {H : Hp} : Ex H H := fun _ _ h => h
theorem Ex.tr {H H1 H2 : Hp} (a : Ex H H1) (b : Ex H1 H2) : Ex H H2 := fun x o h => b x o (a x o h)
theorem Ex.rd {H H' : Hp} {a : Addr} {u : HO} (e : Ex H H') (h : Rd H a u) : Rd H' a u := by
  rcases h with h | ⟨o, h⟩
  · exact .inl (e a _ h)
  · exact .inr ⟨o, e a _ h⟩
theorem Ex.sl {K : PySem.W.Frag} {H H' : Hp} {a : Addr} {xs : List V} (e : Ex H H') (h : SqL K H a xs) : SqL K H' a xs := by
  rcases h with h | h
  · exact .inl (e.rd h)
  · exact .inr h
theorem Ex.st {K : PySem.W.Frag} {H H' : Hp} {a : Addr} {xs : List V} (e : Ex H H') (h : SqT K H a xs) : SqT K H' a xs := by
  rcases h with h | h
  · exact .inl (e.rd h)
  · exact .inr h

section
variable (K : PySem.W.Frag) (ρ : List Addr) (F : Hp)
mutual
/-- a frozen value -/
def Rep : D → V → Prop
  | .unb, _ => True
  | .non, v => v = .non
  | .bl b, v => v = .bl b
  | .int i, v => v = .int i
  | .str s, v => v = .str s
  | .ty n, v => v = .ty n
  | .tup ds, v => ∃ a vs, v = .ref a ∧ F a = some (.tup vs) ∧ RepL ds vs
  | .lst ds, v => ∃ a vs, v = .ref a ∧ F a = some (.lst vs) ∧ RepL ds vs
  | .scr ds, v => ∃ a vs, v = .ref a ∧ SqL K F a vs ∧ RepL ds vs
  | .own _, _ => False
  | .dic ks ds, v => ∃ a kvs, v = .ref a ∧ F a = some (.dK kvs) ∧ kvs.map (·.1) = ks ∧ RepL ds (kvs.map (·.2))
  | .odic _ _, _ => False
  | .ins C fs ds, v => ∃ a dx kvs, v = .ref a ∧ F a = some (.ins C dx kvs) ∧ kvs.map (·.1) = fs ∧ RepL ds (kvs.map (·.2))
  | .oins _ _ _, _ => False
  | .cell k, v => ∃ a, ρ[k]? = some a ∧ v = .ref a
  | .hset ns, v => ∃ a S n, v = .ref a ∧ F a = some (.set S n) ∧ ∀ k, S k = decide (k ∈ ns)
  | .rset w ns, v => ∃ a S, v = .ref a ∧ F a = some (SetO w a S ns.length) ∧ ns.Nodup ∧ ∀ k, S k = decide (k ∈ ns)
  | .oset _ _, _ => False
def RepL : List D → List V → Prop
  | [], vs => vs = []
  | d :: ds, vs => ∃ v r, vs = v :: r ∧ Rep d v ∧ RepL ds r
end
variable (H : Hp)
mutual
/-- a value that may be owned, with what it stands on -/
def Own : D → V → List Addr → Prop
  | .unb, _, fp => fp = []
  | .own ds, v, fp => ∃ a vs f, v = .ref a ∧ H a = some (.lst vs) ∧ fp = a :: f ∧ OwnL ds vs f
  | .odic ks ds, v, fp => ∃ a kvs f, v = .ref a ∧ H a = some (.dK kvs) ∧ kvs.map (·.1) = ks ∧ fp = a :: f ∧ OwnL ds (kvs.map (·.2)) f
  | .oins C fs ds, v, fp => ∃ a dx kvs f, v = .ref a ∧ H a = some (.ins C dx kvs) ∧ kvs.map (·.1) = fs ∧ fp = a :: f ∧ OwnL ds (kvs.map (·.2)) f
  | .non, v, fp => fp = [] ∧ v = .non
  | .bl b, v, fp => fp = [] ∧ v = .bl b
  | .int i, v, fp => fp = [] ∧ v = .int i
  | .str s, v, fp => fp = [] ∧ v = .str s
  | .ty n, v, fp => fp = [] ∧ v = .ty n
  | .tup ds, v, fp => fp = [] ∧ Rep K ρ F (.tup ds) v
  | .lst ds, v, fp => fp = [] ∧ Rep K ρ F (.lst ds) v
  | .scr ds, v, fp => fp = [] ∧ Rep K ρ F (.scr ds) v
  | .dic ks ds, v, fp => fp = [] ∧ Rep K ρ F (.dic ks ds) v
  | .ins C fs ds, v, fp => fp = [] ∧ Rep K ρ F (.ins C fs ds) v
  | .cell k, v, fp => fp = [] ∧ Rep K ρ F (.cell k) v
  | .hset ns, v, fp => fp = [] ∧ Rep K ρ F (.hset ns) v
  | .rset w ns, v, fp => fp = [] ∧ Rep K ρ F (.rset w ns) v
  | .oset w ns, v, fp => ∃ a S, v = .ref a ∧ H a = some (SetO w a S ns.length) ∧ ns.Nodup ∧ (∀ k, S k = decide (k ∈ ns)) ∧ fp = [a]
def OwnL : List D → List V → List Addr → Prop
  | [], vs, fp => vs = [] ∧ fp = []
  | d :: ds, vs, fp => ∃ v r f1 f2, vs = v :: r ∧ fp = f1 ++ f2 ∧ Own d v f1 ∧ OwnL ds r f2
end
end

mutual
/-- as a frozen value -/
def frz : D → D
  | .own ds => .lst (frzL ds)
  | .odic ks ds => .dic ks (frzL ds)
  | .oins C fs ds => .ins C fs (frzL ds)
  | .unb => .unb
  | .non => .non
  | .bl b => .bl b
  | .int i => .int i
  | .str s => .str s
  | .ty n => .ty n
  | .tup ds => .tup ds
  | .lst ds => .lst ds
  | .scr ds => .scr ds
  | .dic ks ds => .dic ks ds
  | .ins C fs ds => .ins C fs ds
  | .cell k => .cell k
  | .hset ns => .hset ns
  | .rset w ns => .rset w ns
  | .oset w ns => .rset w ns
def frzL : List D → List D
  | [] => []
  | d :: ds => frz d :: frzL ds
end
theorem frzL_eq : ∀ ds, frzL ds = ds.map frz
  | [] => rfl
  | d :: ds => by rw [frzL, frzL_eq ds]; rfl

section
variable {K : PySem.W.Frag} {ρ ρ' : List Addr} {F F' H H' : Hp}
theorem pre_get {ρ ρ' : List Addr} (p : ρ <+: ρ') {k : Nat} {a : Addr} (h : ρ[k]? = some a) : ρ'[k]? = some a := by
  obtain ⟨t, rfl⟩ := p
  rw [List.getElem?_append_left (List.getElem?_eq_some_iff.mp h).1]
  exact h
mutual
theorem Rep.mono (e : Ex F F') (p : ρ <+: ρ') : ∀ (d : D) (v : V), Rep K ρ F d v → Rep K ρ' F' d v
  | .unb, _, h => h
  | .non, _, h => h
  | .bl _, _, h => h
  | .int _, _, h => h
  | .str _, _, h => h
  | .ty _, _, h => h
  | .tup ds, v, h => by
    unfold Rep at h ⊢
    obtain ⟨a, vs, e1, q, r⟩ := h
    exact ⟨a, vs, e1, e _ _ q, RepL.mono e p ds vs r⟩
  | .lst ds, v, h => by
    unfold Rep at h ⊢
    obtain ⟨a, vs, e1, q, r⟩ := h
    exact ⟨a, vs, e1, e _ _ q, RepL.mono e p ds vs r⟩
  | .scr ds, v, h => by
    unfold Rep at h ⊢
    obtain ⟨a, vs, e1, q, r⟩ := h
    exact ⟨a, vs, e1, e.sl q, RepL.mono e p ds vs r⟩
  | .own _, _, h => by unfold Rep at h; exact h.elim
  | .dic ks ds, v, h => by
    unfold Rep at h ⊢
    obtain ⟨a, vs, e1, q, k, r⟩ := h
    exact ⟨a, vs, e1, e _ _ q, k, RepL.mono e p ds _ r⟩
  | .odic _ _, _, h => by unfold Rep at h; exact h.elim
  | .oins _ _ _, _, h => by unfold Rep at h; exact h.elim
  | .ins C fs ds, v, h => by
    unfold Rep at h ⊢
    obtain ⟨a, dx, kvs, e1, q, k, r⟩ := h
    exact ⟨a, dx, kvs, e1, e _ _ q, k, RepL.mono e p ds _ r⟩
  | .cell k, v, h => by
    unfold Rep at h ⊢
    obtain ⟨a, q, e1⟩ := h
    exact ⟨a, pre_get p q, e1⟩
  | .hset ns, v, h => by
    unfold Rep at h ⊢
    obtain ⟨a, S, n, e1, q, z⟩ := h
    exact ⟨a, S, n, e1, e _ _ q, z⟩
  | .rset w ns, v, h => by
    unfold Rep at h ⊢
    obtain ⟨a, S, e1, q, z⟩ := h
    exact ⟨a, S, e1, e _ _ q, z⟩
  | .oset _ _, _, h => by unfold Rep at h; exact h.elim
theorem RepL.mono (e : Ex F F') (p : ρ <+: ρ') : ∀ (ds : List D) (vs : List V), RepL K ρ F ds vs → RepL K ρ' F' ds vs
  | [], _, h => h
  | d :: ds, vs, h => by
    unfold RepL at h ⊢
    obtain ⟨v, r, e1, q, t⟩ := h
    exact ⟨v, r, e1, Rep.mono e p d v q, RepL.mono e p ds r t⟩
end
mutual
/-- what is owned stays, where its own objects do -/
theorem Own.mono (e : Ex F F') (p : ρ <+: ρ') : ∀ (d : D) (v : V) (fp : List Addr), (∀ a ∈ fp, H' a = H a) → Own K ρ F H d v fp → Own K ρ' F' H' d v fp
  | .unb, _, _, _, h => h
  | .non, _, _, _, h => h
  | .bl _, _, _, _, h => h
  | .int _, _, _, _, h => h
  | .str _, _, _, _, h => h
  | .ty _, _, _, _, h => h
  | .own ds, v, fp, k, h => by
    unfold Own at h ⊢
    obtain ⟨a, vs, f, e1, q, ef, r⟩ := h
    subst ef
    exact ⟨a, vs, f, e1, (k a (List.mem_cons_self ..)).trans q, rfl, OwnL.mono e p ds vs f (fun b hb => k b (List.mem_cons_of_mem _ hb)) r⟩
  | .odic ks ds, v, fp, k, h => by
    unfold Own at h ⊢
    obtain ⟨a, vs, f, e1, q, kk, ef, r⟩ := h
    subst ef
    exact ⟨a, vs, f, e1, (k a (List.mem_cons_self ..)).trans q, kk, rfl, OwnL.mono e p ds _ f (fun b hb => k b (List.mem_cons_of_mem _ hb)) r⟩
  | .oins C fs ds, v, fp, k, h => by
    unfold Own at h ⊢
    obtain ⟨a, dx, vs, f, e1, q, kk, ef, r⟩ := h
    subst ef
    exact ⟨a, dx, vs, f, e1, (k a (List.mem_cons_self ..)).trans q, kk, rfl, OwnL.mono e p ds _ f (fun b hb => k b (List.mem_cons_of_mem _ hb)) r⟩
  | .tup ds, v, fp, _, h => by unfold Own at h ⊢; exact ⟨h.1, Rep.mono e p _ v h.2⟩
  | .lst ds, v, fp, _, h => by unfold Own at h ⊢; exact ⟨h.1, Rep.mono e p _ v h.2⟩
  | .scr ds, v, fp, _, h => by unfold Own at h ⊢; exact ⟨h.1, Rep.mono e p _ v h.2⟩
  | .dic ks ds, v, fp, _, h => by unfold Own at h ⊢; exact ⟨h.1, Rep.mono e p _ v h.2⟩
  | .ins C fs ds, v, fp, _, h => by unfold Own at h ⊢; exact ⟨h.1, Rep.mono e p _ v h.2⟩
  | .cell k, v, fp, _, h => by unfold Own at h ⊢; exact ⟨h.1, Rep.mono e p _ v h.2⟩
  | .hset k, v, fp, _, h => by unfold Own at h ⊢; exact ⟨h.1, Rep.mono e p _ v h.2⟩
  | .rset _ k, v, fp, _, h => by unfold Own at h ⊢; exact ⟨h.1, Rep.mono e p _ v h.2⟩
  | .oset w ns, v, fp, k, h => by
    unfold Own at h ⊢
    obtain ⟨a, S, e1, q, z, y, ef⟩ := h
    subst ef
    exact ⟨a, S, e1, (k a (List.mem_cons_self ..)).trans q, z, y, rfl⟩
theorem OwnL.mono (e : Ex F F') (p : ρ <+: ρ') : ∀ (ds : List D) (vs : List V) (fp : List Addr), (∀ a ∈ fp, H' a = H a) → OwnL K ρ F H ds vs fp → OwnL K ρ' F' H' ds vs fp
  | [], _, _, _, h => h
  | d :: ds, vs, fp, k, h => by
    unfold OwnL at h ⊢
    obtain ⟨v, r, f1, f2, e1, ef, q, t⟩ := h
    subst ef
    exact ⟨v, r, f1, f2, e1, rfl, Own.mono e p d v f1 (fun b hb => k b (List.mem_append_left _ hb)) q, OwnL.mono e p ds r f2 (fun b hb => k b (List.mem_append_right _ hb)) t⟩
end
/-- the frozen part, and some more as it stands -/
def more (F H : Hp) (fp : List Addr) : Hp := fun a => if a ∈ fp then H a else F a
theorem more_ex {fp : List Addr} (h : ∀ a ∈ fp, F a = none) : Ex F (more F H fp) := fun a o e => by
  unfold more
  by_cases m : a ∈ fp
  · rw [h a m] at e; cases e
  · rw [if_neg m]; exact e
theorem more_in {fp : List Addr} {a : Addr} (h : a ∈ fp) : more F H fp a = H a := if_pos h
mutual
/-- what is owned, once it is frozen -/
theorem Own.froz (e : Ex F F') : ∀ (d : D) (v : V) (fp : List Addr), (∀ a ∈ fp, F' a = H a) → Own K ρ F H d v fp → Rep K ρ F' (frz d) v
  | .unb, _, _, _, _ => by unfold frz Rep; trivial
  | .non, _, _, _, h => by unfold Own at h; unfold frz Rep; exact h.2
  | .bl _, _, _, _, h => by unfold Own at h; unfold frz Rep; exact h.2
  | .int _, _, _, _, h => by unfold Own at h; unfold frz Rep; exact h.2
  | .str _, _, _, _, h => by unfold Own at h; unfold frz Rep; exact h.2
  | .ty _, _, _, _, h => by unfold Own at h; unfold frz Rep; exact h.2
  | .own ds, v, fp, k, h => by
    unfold Own at h
    unfold frz Rep
    obtain ⟨a, vs, f, e1, q, ef, r⟩ := h
    subst ef
    exact ⟨a, vs, e1, (k a (List.mem_cons_self ..)).trans q, OwnL.froz e ds vs f (fun b hb => k b (List.mem_cons_of_mem _ hb)) r⟩
  | .odic ks ds, v, fp, k, h => by
    unfold Own at h
    unfold frz Rep
    obtain ⟨a, vs, f, e1, q, kk, ef, r⟩ := h
    subst ef
    exact ⟨a, vs, e1, (k a (List.mem_cons_self ..)).trans q, kk, OwnL.froz e ds _ f (fun b hb => k b (List.mem_cons_of_mem _ hb)) r⟩
  | .oins C fs ds, v, fp, k, h => by
    unfold Own at h
    unfold frz Rep
    obtain ⟨a, dx, vs, f, e1, q, kk, ef, r⟩ := h
    subst ef
    exact ⟨a, dx, vs, e1, (k a (List.mem_cons_self ..)).trans q, kk, OwnL.froz e ds _ f (fun b hb => k b (List.mem_cons_of_mem _ hb)) r⟩
  | .tup ds, v, fp, _, h => by unfold Own at h; unfold frz; exact Rep.mono e (List.prefix_refl _) _ v h.2
  | .lst ds, v, fp, _, h => by unfold Own at h; unfold frz; exact Rep.mono e (List.prefix_refl _) _ v h.2
  | .scr ds, v, fp, _, h => by unfold Own at h; unfold frz; exact Rep.mono e (List.prefix_refl _) _ v h.2
  | .dic ks ds, v, fp, _, h => by unfold Own at h; unfold frz; exact Rep.mono e (List.prefix_refl _) _ v h.2
  | .ins C fs ds, v, fp, _, h => by unfold Own at h; unfold frz; exact Rep.mono e (List.prefix_refl _) _ v h.2
  | .cell k, v, fp, _, h => by unfold Own at h; unfold frz; exact Rep.mono e (List.prefix_refl _) _ v h.2
  | .hset k, v, fp, _, h => by unfold Own at h; unfold frz; exact Rep.mono e (List.prefix_refl _) _ v h.2
  | .rset _ k, v, fp, _, h => by unfold Own at h; unfold frz; exact Rep.mono e (List.prefix_refl _) _ v h.2
  | .oset w ns, v, fp, k, h => by
    unfold Own at h
    unfold frz Rep
    obtain ⟨a, S, e1, q, z, y, ef⟩ := h
    subst ef
    exact ⟨a, S, e1, (k a (List.mem_cons_self ..)).trans q, z, y⟩
theorem OwnL.froz (e : Ex F F') : ∀ (ds : List D) (vs : List V) (fp : List Addr), (∀ a ∈ fp, F' a = H a) → OwnL K ρ F H ds vs fp → RepL K ρ F' (frzL ds) vs
  | [], _, _, _, h => by unfold OwnL at h; unfold frzL RepL; exact h.1
  | d :: ds, vs, fp, k, h => by
    unfold OwnL at h
    unfold frzL RepL
    obtain ⟨v, r, f1, f2, e1, ef, q, t⟩ := h
    subst ef
    exact ⟨v, r, e1, Own.froz e d v f1 (fun b hb => k b (List.mem_append_left _ hb)) q, OwnL.froz e ds r f2 (fun b hb => k b (List.mem_append_right _ hb)) t⟩
end
/-- a frozen value is owned with nothing to stand on -/
theorem Rep.own {d : D} {v : V} (h : Rep K ρ F d v) : Own K ρ F H d v [] := by
  cases d <;> unfold Own
  case unb => rfl
  case own => unfold Rep at h; exact h.elim
  case odic => unfold Rep at h; exact h.elim
  case oins => unfold Rep at h; exact h.elim
  case oset => unfold Rep at h; exact h.elim
  all_goals (first | exact ⟨rfl, h⟩ | (unfold Rep at h; exact ⟨rfl, h⟩))
theorem RepL.own : ∀ {ds : List D} {vs : List V}, RepL K ρ F ds vs → OwnL K ρ F H ds vs []
  | [], _, h => by unfold RepL at h; unfold OwnL; exact ⟨h, rfl⟩
  | d :: ds, vs, h => by
    unfold RepL at h
    unfold OwnL
    obtain ⟨v, r, e1, q, t⟩ := h
    exact ⟨v, r, [], [], e1, rfl, q.own, RepL.own t⟩
theorem RepL.len : ∀ {ds : List D} {vs : List V}, RepL K ρ F ds vs → ds.length = vs.length
  | [], _, h => by unfold RepL at h; subst h; rfl
  | d :: ds, vs, h => by
    unfold RepL at h
    obtain ⟨v, r, e1, q, t⟩ := h
    subst e1
    simp [RepL.len t]
theorem OwnL.len : ∀ {ds : List D} {vs : List V} {fp : List Addr}, OwnL K ρ F H ds vs fp → ds.length = vs.length
  | [], _, _, h => by unfold OwnL at h; rw [h.1]; rfl
  | d :: ds, vs, fp, h => by
    unfold OwnL at h
    obtain ⟨v, r, f1, f2, e1, ef, q, t⟩ := h
    subst e1
    simp [OwnL.len t]
theorem RepL.get : ∀ {ds : List D} {vs : List V} {i : Nat} {d : D}, RepL K ρ F ds vs → ds[i]? = some d → ∃ v, vs[i]? = some v ∧ Rep K ρ F d v
  | [], _, _, _, _, e => by simp at e
  | d :: ds, vs, 0, x, h, e => by
    unfold RepL at h
    obtain ⟨v, r, e1, q, t⟩ := h
    subst e1
    simp at e
    subst e
    exact ⟨v, rfl, q⟩
  | d :: ds, vs, i + 1, x, h, e => by
    unfold RepL at h
    obtain ⟨v, r, e1, q, t⟩ := h
    subst e1
    simp at e
    obtain ⟨u, h1, h2⟩ := RepL.get t e
    exact ⟨u, by simpa using h1, h2⟩
theorem RepL.app : ∀ {ds es : List D} {vs us : List V}, RepL K ρ F ds vs → RepL K ρ F es us → RepL K ρ F (ds ++ es) (vs ++ us)
  | [], _, _, _, h, h2 => by unfold RepL at h; subst h; exact h2
  | d :: ds, es, vs, us, h, h2 => by
    unfold RepL at h
    obtain ⟨v, r, e1, q, t⟩ := h
    subst e1
    show RepL K ρ F (d :: (ds ++ es)) (v :: (r ++ us))
    unfold RepL
    exact ⟨v, r ++ us, rfl, q, RepL.app t h2⟩
theorem RepL.take : ∀ {ds : List D} {vs : List V} (n : Nat), RepL K ρ F ds vs → RepL K ρ F (ds.take n) (vs.take n)
  | _, _, 0, _ => by simp [RepL]
  | [], _, n + 1, h => by unfold RepL at h; subst h; simp [RepL]
  | d :: ds, vs, n + 1, h => by
    unfold RepL at h
    obtain ⟨v, r, e1, q, t⟩ := h
    subst e1
    show RepL K ρ F (d :: ds.take n) (v :: r.take n)
    unfold RepL
    exact ⟨v, _, rfl, q, RepL.take n t⟩
theorem RepL.drop : ∀ {ds : List D} {vs : List V} (n : Nat), RepL K ρ F ds vs → RepL K ρ F (ds.drop n) (vs.drop n)
  | _, _, 0, h => h
  | [], _, n + 1, h => by unfold RepL at h; subst h; simp [RepL]
  | d :: ds, vs, n + 1, h => by
    unfold RepL at h
    obtain ⟨v, r, e1, q, t⟩ := h
    subst e1
    exact RepL.drop n t
theorem RepL.rev : ∀ {ds : List D} {vs : List V}, RepL K ρ F ds vs → RepL K ρ F ds.reverse vs.reverse
  | [], _, h => by unfold RepL at h; subst h; simp [RepL]
  | d :: ds, vs, h => by
    unfold RepL at h
    obtain ⟨v, r, e1, q, t⟩ := h
    subst e1
    rw [List.reverse_cons, List.reverse_cons]
    exact RepL.app (RepL.rev t) (by unfold RepL; exact ⟨v, [], rfl, q, by unfold RepL; rfl⟩)
theorem RepL.set : ∀ {ds : List D} {vs : List V} (i : Nat) {d : D} {v : V}, RepL K ρ F ds vs → Rep K ρ F d v → RepL K ρ F (ds.set i d) (vs.set i v)
  | [], _, _, _, _, h, _ => by unfold RepL at h; subst h; simp [RepL]
  | d :: ds, vs, 0, x, u, h, h2 => by
    unfold RepL at h
    obtain ⟨v, r, e1, q, t⟩ := h
    subst e1
    show RepL K ρ F (x :: ds) (u :: r)
    unfold RepL
    exact ⟨u, r, rfl, h2, t⟩
  | d :: ds, vs, i + 1, x, u, h, h2 => by
    unfold RepL at h
    obtain ⟨v, r, e1, q, t⟩ := h
    subst e1
    show RepL K ρ F (d :: ds.set i x) (v :: r.set i u)
    unfold RepL
    exact ⟨v, _, rfl, q, RepL.set i t h2⟩
end

/-! ### roots -/
section
variable (K : PySem.W.Frag) (ρ : List Addr) (F H : Hp)
def OwnR (rts : List (D × V)) (fp : List Addr) : Prop := OwnL K ρ F H (rts.map (·.1)) (rts.map (·.2)) fp
end
section
variable {K : PySem.W.Frag} {ρ ρ' : List Addr} {F F' H H' : Hp}
theorem OwnR.cons {d : D} {v : V} {rts : List (D × V)} {f1 f2 : List Addr} (h : Own K ρ F H d v f1) (t : OwnR K ρ F H rts f2) : OwnR K ρ F H ((d, v) :: rts) (f1 ++ f2) := by
  show OwnL K ρ F H (d :: rts.map (·.1)) (v :: rts.map (·.2)) (f1 ++ f2)
  unfold OwnL
  exact ⟨v, _, f1, f2, rfl, rfl, h, t⟩
theorem OwnR.inv {d : D} {v : V} {rts : List (D × V)} {fp : List Addr} (h : OwnR K ρ F H ((d, v) :: rts) fp) : ∃ f1 f2, fp = f1 ++ f2 ∧ Own K ρ F H d v f1 ∧ OwnR K ρ F H rts f2 := by
  have h' : OwnL K ρ F H (d :: rts.map (·.1)) (v :: rts.map (·.2)) fp := h
  unfold OwnL at h'
  obtain ⟨u, r, f1, f2, e1, ef, q, t⟩ := h'
  injection e1 with e2 e3
  subst e2 e3
  exact ⟨f1, f2, ef, q, t⟩
theorem OwnR.perm {l l' : List (D × V)} (p : l.Perm l') : ∀ {fp : List Addr}, OwnR K ρ F H l fp → ∃ fp', fp.Perm fp' ∧ OwnR K ρ F H l' fp' := by
  induction p with
  | nil => intro fp h; exact ⟨fp, .refl _, h⟩
  | cons x _ ih =>
    intro fp h
    obtain ⟨d, v⟩ := x
    obtain ⟨f1, f2, rfl, q, t⟩ := h.inv
    obtain ⟨f2', p2, t2⟩ := ih t
    exact ⟨f1 ++ f2', p2.append_left f1, .cons q t2⟩
  | swap x y l =>
    intro fp h
    obtain ⟨d, v⟩ := x
    obtain ⟨e, u⟩ := y
    obtain ⟨f1, f2, rfl, q, t⟩ := h.inv
    obtain ⟨f3, f4, rfl, q2, t2⟩ := t.inv
    refine ⟨f3 ++ (f1 ++ f4), ?_, .cons q2 (.cons q t2)⟩
    rw [← List.append_assoc, ← List.append_assoc]
    exact List.Perm.append_right _ List.perm_append_comm
  | trans _ _ ih1 ih2 =>
    intro fp h
    obtain ⟨f1, p1, t1⟩ := ih1 h
    obtain ⟨f2, p2, t2⟩ := ih2 t1
    exact ⟨f2, p1.trans p2, t2⟩
theorem OwnR.mono (e : Ex F F') (p : ρ <+: ρ') {rts : List (D × V)} {fp : List Addr} (k : ∀ a ∈ fp, H' a = H a) (h : OwnR K ρ F H rts fp) : OwnR K ρ' F' H' rts fp := OwnL.mono e p _ _ _ k h
theorem OwnR.app : ∀ {l1 l2 : List (D × V)} {f1 f2 : List Addr}, OwnR K ρ F H l1 f1 → OwnR K ρ F H l2 f2 → OwnR K ρ F H (l1 ++ l2) (f1 ++ f2)
  | [], l2, f1, f2, h, h2 => by
    have h' : OwnL K ρ F H [] [] f1 := h
    unfold OwnL at h'
    rw [h'.2]
    exact h2
  | (d, v) :: l1, l2, f1, f2, h, h2 => by
    obtain ⟨g1, g2, rfl, q, t⟩ := h.inv
    rw [List.append_assoc]
    exact .cons q (OwnR.app t h2)
theorem OwnR.split : ∀ {l1 l2 : List (D × V)} {fp : List Addr}, OwnR K ρ F H (l1 ++ l2) fp → ∃ f1 f2, fp = f1 ++ f2 ∧ OwnR K ρ F H l1 f1 ∧ OwnR K ρ F H l2 f2
  | [], l2, fp, h => ⟨[], fp, rfl, by show OwnL K ρ F H [] [] []; unfold OwnL; exact ⟨rfl, rfl⟩, h⟩
  | (d, v) :: l1, l2, fp, h => by
    obtain ⟨g1, g2, rfl, q, t⟩ := OwnR.inv (rts := l1 ++ l2) h
    obtain ⟨f1, f2, rfl, t1, t2⟩ := OwnR.split t
    exact ⟨g1 ++ f1, f2, (List.append_assoc ..).symm, .cons q t1, t2⟩
/-- what stands at a footprint's places is there -/
theorem own_some : (∀ (d : D) (v : V) (fp : List Addr), Own K ρ F H d v fp → ∀ a ∈ fp, H a ≠ none) := by
  intro d
  refine D.rec (motive_1 := fun d => ∀ v fp, Own K ρ F H d v fp → ∀ a ∈ fp, H a ≠ none) (motive_2 := fun ds => ∀ vs fp, OwnL K ρ F H ds vs fp → ∀ a ∈ fp, H a ≠ none)
    ?_ ?_ ?_ ?_ ?_ ?_ ?_ ?_ ?_ ?_ ?_ ?_ ?_ ?_ ?_ ?_ ?_ ?_ ?_ ?_ d
  case refine_9 =>
    intro ds ih v fp h a ha
    unfold Own at h
    obtain ⟨b, vs, f, e1, q, ef, r⟩ := h
    subst ef
    rcases List.mem_cons.mp ha with e | ha
    · rw [e, q]; simp
    · exact ih vs f r a ha
  case refine_12 =>
    intro ks ds ih v fp h a ha
    unfold Own at h
    obtain ⟨b, vs, f, e1, q, kk, ef, r⟩ := h
    subst ef
    rcases List.mem_cons.mp ha with e | ha
    · rw [e, q]; simp
    · exact ih _ f r a ha
  case refine_14 =>
    intro C ks ds ih v fp h a ha
    unfold Own at h
    obtain ⟨b, dx, vs, f, e1, q, kk, ef, r⟩ := h
    subst ef
    rcases List.mem_cons.mp ha with e | ha
    · rw [e, q]; simp
    · exact ih _ f r a ha
  case refine_18 =>
    intro w ns v fp h a ha
    unfold Own at h
    obtain ⟨b, S, e1, q, z, y, ef⟩ := h
    subst ef
    rw [List.mem_singleton.mp ha, q]
    simp
  case refine_19 =>
    intro vs fp h a ha
    unfold OwnL at h
    rw [h.2] at ha
    simp at ha
  case refine_20 =>
    intro d ds ih1 ih2 vs fp h a ha
    unfold OwnL at h
    obtain ⟨v, r, f1, f2, e1, ef, q, t⟩ := h
    subst ef
    rcases List.mem_append.mp ha with ha | ha
    · exact ih1 v f1 q a ha
    · exact ih2 r f2 t a ha
  all_goals
    intros
    rename_i h a ha
    unfold Own at h
    first
      | (rw [h] at ha; simp at ha)
      | (rw [h.1] at ha; simp at ha)
theorem ownR_some {rts : List (D × V)} {fp : List Addr} (h : OwnR K ρ F H rts fp) : ∀ a ∈ fp, H a ≠ none := by
  have key : ∀ (rts : List (D × V)) (fp : List Addr), OwnR K ρ F H rts fp → ∀ a ∈ fp, H a ≠ none := by
    intro rts
    induction rts with
    | nil =>
      intro fp h a ha
      have h' : OwnL K ρ F H [] [] fp := h
      unfold OwnL at h'
      rw [h'.2] at ha
      simp at ha
    | cons x l ih =>
      intro fp h a ha
      obtain ⟨d, v⟩ := x
      obtain ⟨f1, f2, rfl, q, t⟩ := h.inv
      rcases List.mem_append.mp ha with ha | ha
      · exact own_some d v f1 q a ha
      · exact ih f2 t a ha
  exact key rts fp h

/-- the state's heart: G the callers' part, F the frozen part, F0 that of the entry -/
structure Core (K : PySem.W.Frag) (F0 G F : Hp) (ρ : List Addr) (rts : List (D × V)) (H : Hp) : Prop where
  g : Ex G H
  f : Ex F H
  f0 : Ex F0 F
  fg : ∀ a, F a ≠ none → F0 a ≠ none ∨ G a = none
  own : ∃ fp, OwnR K ρ F H rts fp ∧ fp.Nodup ∧ ∀ a ∈ fp, F a = none ∧ G a = none
end
section
variable {K : PySem.W.Frag} {F0 G F F' H H' : Hp} {ρ ρ' : List Addr} {rts rts' : List (D × V)} {d : D} {v : V}
theorem Core.perm (c : Core K F0 G F ρ rts H) (p : rts.Perm rts') : Core K F0 G F ρ rts' H := by
  obtain ⟨fp, o, nd, dj⟩ := c.own
  obtain ⟨fp', p', o'⟩ := OwnR.perm p o
  exact ⟨c.g, c.f, c.f0, c.fg, fp', o', p'.nodup_iff.mp nd, fun a ha => dj a (p'.mem_iff.mpr ha)⟩
theorem Core.tail (c : Core K F0 G F ρ ((d, v) :: rts) H) : Core K F0 G F ρ rts H := by
  obtain ⟨fp, o, nd, dj⟩ := c.own
  obtain ⟨f1, f2, rfl, q, t⟩ := o.inv
  exact ⟨c.g, c.f, c.f0, c.fg, f2, t, (List.nodup_append.mp nd).2.1, fun a ha => dj a (List.mem_append_right _ ha)⟩
theorem Core.left {l : List (D × V)} (c : Core K F0 G F ρ (rts ++ l) H) : Core K F0 G F ρ rts H := by
  obtain ⟨fp, o, nd, dj⟩ := c.own
  obtain ⟨f1, f2, rfl, q, t⟩ := o.split
  exact ⟨c.g, c.f, c.f0, c.fg, f1, q, (List.nodup_append.mp nd).1, fun a ha => dj a (List.mem_append_left _ ha)⟩
theorem Core.right {l : List (D × V)} (c : Core K F0 G F ρ (l ++ rts) H) : Core K F0 G F ρ rts H := by
  obtain ⟨fp, o, nd, dj⟩ := c.own
  obtain ⟨f1, f2, rfl, q, t⟩ := o.split
  exact ⟨c.g, c.f, c.f0, c.fg, f2, t, (List.nodup_append.mp nd).2.1, fun a ha => dj a (List.mem_append_right _ ha)⟩
/-- one more value that is frozen -/
theorem Core.push (c : Core K F0 G F ρ rts H) (r : Rep K ρ F d v) : Core K F0 G F ρ ((d, v) :: rts) H := by
  obtain ⟨fp, o, nd, dj⟩ := c.own
  exact ⟨c.g, c.f, c.f0, c.fg, fp, .cons r.own o, nd, dj⟩
theorem Core.unb (c : Core K F0 G F ρ rts H) : Core K F0 G F ρ ((.unb, v) :: rts) H := c.push (by unfold Rep; trivial)
/-- the first root frozen -/
theorem Core.freeze (c : Core K F0 G F ρ ((d, v) :: rts) H) : ∃ F', Ex F F' ∧ Core K F0 G F' ρ rts H ∧ Rep K ρ F' (frz d) v := by
  obtain ⟨fp, o, nd, dj⟩ := c.own
  obtain ⟨f1, f2, rfl, q, t⟩ := o.inv
  have e : Ex F (more F H f1) := more_ex fun a ha => (dj a (List.mem_append_left _ ha)).1
  have dis : ∀ a ∈ f2, a ∉ f1 := fun a h2 h1 => (List.nodup_append.mp nd).2.2 a h1 a h2 rfl
  refine ⟨more F H f1, e, ⟨c.g, fun a o ha => ?_, c.f0.tr e, fun a ha => ?_, f2, t.mono e (List.prefix_refl _) (fun _ _ => rfl), (List.nodup_append.mp nd).2.1, fun a ha => ⟨?_, (dj a (List.mem_append_right _ ha)).2⟩⟩, q.froz e d v f1 (fun a ha => more_in ha)⟩
  · unfold more at ha
    by_cases m : a ∈ f1
    · rw [if_pos m] at ha; exact ha
    · rw [if_neg m] at ha; exact c.f a o ha
  · by_cases m : a ∈ f1
    · exact .inr (dj a (List.mem_append_left _ m)).2
    · unfold more at ha
      rw [if_neg m] at ha
      exact c.fg a ha
  · unfold more
    rw [if_neg (dis a ha)]
    exact (dj a (List.mem_append_right _ ha)).1
theorem ex_upd {p : Addr} {o : HO} (h : H p = none) : Ex H (upd H p o) := fun a u e => by
  rw [upd_ne (ne_of_none e h)]
  exact e
theorem none_of_ex {p : Addr} (e : Ex F H) (h : H p = none) : F p = none := by
  cases q : F p with
  | none => rfl
  | some o => rw [e p o q] at h; cases h
/-- a new frozen object -/
theorem Core.newF {p : Addr} {o : HO} (c : Core K F0 G F ρ rts H) (hp : H p = none) : Core K F0 G (upd F p o) ρ rts (upd H p o) ∧ Ex F (upd F p o) := by
  have hF := none_of_ex c.f hp
  have hG := none_of_ex c.g hp
  have e : Ex F (upd F p o) := ex_upd hF
  obtain ⟨fp, ow, nd, dj⟩ := c.own
  have np : ∀ a ∈ fp, a ≠ p := fun a ha z => ownR_some ow a ha (by rw [z]; exact hp)
  refine ⟨⟨c.g.tr (ex_upd hp), fun a u ha => ?_, c.f0.tr e, fun a ha => ?_, fp, ow.mono e (List.prefix_refl _) (fun a ha => upd_ne (np a ha)), nd, fun a ha => ⟨?_, (dj a ha).2⟩⟩, e⟩
  · by_cases z : a = p
    · subst z; rw [upd_same] at ha ⊢; exact ha
    · rw [upd_ne z] at ha ⊢; exact c.f a u ha
  · by_cases z : a = p
    · subst z; exact .inr hG
    · rw [upd_ne z] at ha; exact c.fg a ha
  · rw [upd_ne (np a ha)]; exact (dj a ha).1
/-- a new list of what stands at the head -/
theorem Core.newO {p : Addr} {its : List (D × V)} (c : Core K F0 G F ρ (its ++ rts) H) (hp : H p = none) :
    Core K F0 G F ρ ((.own (its.map (·.1)), .ref p) :: rts) (upd H p (.lst (its.map (·.2)))) := by
  have hF := none_of_ex c.f hp
  have hG := none_of_ex c.g hp
  obtain ⟨fp, ow, nd, dj⟩ := c.own
  have np : ∀ a ∈ fp, a ≠ p := fun a ha z => ownR_some ow a ha (by rw [z]; exact hp)
  have ow' := ow.mono (H' := upd H p (.lst (its.map (·.2)))) Ex.rfl' (List.prefix_refl _) (fun a ha => upd_ne (np a ha))
  obtain ⟨f1, f2, rfl, o1, o2⟩ := ow'.split
  refine ⟨c.g.tr (ex_upd hp), c.f.tr (ex_upd hp), c.f0, c.fg, p :: (f1 ++ f2), ?_, List.nodup_cons.mpr ⟨fun z => np p z rfl, nd⟩, fun a ha => ?_⟩
  · refine OwnR.cons (f1 := p :: f1) ?_ o2
    unfold Own
    exact ⟨p, _, f1, rfl, upd_same, rfl, o1⟩
  · rcases List.mem_cons.mp ha with z | ha
    · rw [z]; exact ⟨hF, hG⟩
    · exact dj a ha
/-- the list at the head -/
theorem Core.headL {ds : List D} (c : Core K F0 G F ρ ((.own ds, v) :: rts) H) : ∃ a vs, v = .ref a ∧ H a = some (.lst vs) ∧ ds.length = vs.length := by
  obtain ⟨fp, ow, nd, dj⟩ := c.own
  obtain ⟨f1, f2, rfl, q, t⟩ := ow.inv
  unfold Own at q
  obtain ⟨a, vs, f, e1, h, ef, r⟩ := q
  exact ⟨a, vs, e1, h, r.len⟩
theorem Core.headD {ks : List Key} {ds : List D} (c : Core K F0 G F ρ ((.odic ks ds, v) :: rts) H) : ∃ a kvs, v = .ref a ∧ H a = some (.dK kvs) ∧ kvs.map (·.1) = ks ∧ ds.length = kvs.length := by
  obtain ⟨fp, ow, nd, dj⟩ := c.own
  obtain ⟨f1, f2, rfl, q, t⟩ := ow.inv
  unfold Own at q
  obtain ⟨a, kvs, f, e1, h, kk, ef, r⟩ := q
  exact ⟨a, kvs, e1, h, kk, by have := r.len; simpa using this⟩
theorem ownR_zip : ∀ {ds : List D} {vs : List V} {fp : List Addr}, OwnL K ρ F H ds vs fp → OwnR K ρ F H (ds.zip vs) fp
  | [], vs, fp, h => by
    unfold OwnL at h
    rw [h.2]
    show OwnL K ρ F H [] [] []
    unfold OwnL
    exact ⟨rfl, rfl⟩
  | d :: ds, vs, fp, h => by
    unfold OwnL at h
    obtain ⟨v, r, f1, f2, e1, ef, q, t⟩ := h
    subst e1 ef
    exact .cons q (ownR_zip t)
/-- its items opened; some are dropped, others put there -/
theorem Core.mutL {ds : List D} {a : Addr} {vs : List V} {dr its : List (D × V)} (c : Core K F0 G F ρ ((.own ds, .ref a) :: rts) H) (h : H a = some (.lst vs)) (p : (ds.zip vs ++ rts).Perm (dr ++ (its ++ rts'))) :
    Core K F0 G F ρ ((.own (its.map (·.1)), .ref a) :: rts') (upd H a (.lst (its.map (·.2)))) := by
  obtain ⟨fp, ow, nd, dj⟩ := c.own
  obtain ⟨f1, f2, rfl, q, t⟩ := ow.inv
  unfold Own at q
  obtain ⟨a', vs', f, e1, h', ef, r⟩ := q
  cases e1
  rw [h] at h'
  cases h'
  subst ef
  have o1 : OwnR K ρ F H (ds.zip vs ++ rts) (f ++ f2) := (ownR_zip r).app t
  obtain ⟨fp', pp, o2⟩ := OwnR.perm p o1
  obtain ⟨g1, g2, rfl, _, o3⟩ := o2.split
  have nd1 : (a :: (f ++ f2)).Nodup := nd
  have nda : a ∉ f ++ f2 := (List.nodup_cons.mp nd1).1
  have ndf : (g1 ++ g2).Nodup := pp.nodup_iff.mp (List.nodup_cons.mp nd1).2
  have na : a ∉ g2 := fun z => nda (pp.mem_iff.mpr (List.mem_append_right _ z))
  have o4 := o3.mono (H' := upd H a (.lst (its.map (·.2)))) Ex.rfl' (List.prefix_refl _) (fun b hb => upd_ne (fun z => na (by rw [← z]; exact hb)))
  obtain ⟨g3, g4, rfl, o5, o6⟩ := o4.split
  have hF : F a = none ∧ G a = none := dj a (List.mem_append_left _ (List.mem_cons_self ..))
  refine ⟨fun b o e => ?_, fun b o e => ?_, c.f0, c.fg, (a :: g3) ++ g4, .cons ?_ o6, ?_, fun b hb => ?_⟩
  · rw [upd_ne (ne_of_none e hF.2)]; exact c.g b o e
  · rw [upd_ne (ne_of_none e hF.1)]; exact c.f b o e
  · unfold Own
    exact ⟨a, _, g3, rfl, upd_same, rfl, o5⟩
  · exact List.nodup_cons.mpr ⟨na, (List.nodup_append.mp ndf).2.1⟩
  · rcases List.mem_cons.mp (show b ∈ a :: (g3 ++ g4) from hb) with z | hb
    · rw [z]; exact hF
    · exact dj b (List.mem_append.mpr ((List.mem_append.mp (pp.mem_iff.mpr (List.mem_append_right g1 hb))).imp (fun z => List.mem_cons_of_mem _ z) id))
/-- an item of the list at the head, where it is not owned itself -/
def frzn : D → Bool
  | .own _ => false
  | .odic _ _ => false
  | .oins _ _ _ => false
  | .oset _ _ => false
  | _ => true
theorem Own.rep {d : D} {v : V} {fp : List Addr} (h : Own K ρ F H d v fp) (e : frzn d = true) : Rep K ρ F d v := by
  cases d <;> unfold Own at h
  case own => cases e
  case odic => cases e
  case oins => cases e
  case oset => cases e
  case unb => unfold Rep; trivial
  all_goals (first | exact h.2 | (unfold Rep; exact h.2))
theorem OwnL.at : ∀ {ds : List D} {vs : List V} {fp : List Addr} {i : Nat} {d : D}, OwnL K ρ F H ds vs fp → ds[i]? = some d → ∃ u f, vs[i]? = some u ∧ Own K ρ F H d u f ∧ ∀ a ∈ f, a ∈ fp
  | [], _, _, _, _, _, e => by simp at e
  | d :: ds, vs, fp, i, x, h, e => by
    unfold OwnL at h
    obtain ⟨w, r, g1, g2, e3, ef, q, t⟩ := h
    subst e3 ef
    cases i with
    | zero =>
      simp at e
      subst e
      exact ⟨w, g1, rfl, q, fun a ha => List.mem_append_left _ ha⟩
    | succ i =>
      simp at e
      obtain ⟨u, f, h1, h2, h3⟩ := OwnL.at t e
      exact ⟨u, f, by simpa using h1, h2, fun a ha => List.mem_append_right _ (h3 a ha)⟩
theorem Core.item {ds : List D} {a : Addr} {vs : List V} {i : Nat} (c : Core K F0 G F ρ ((.own ds, .ref a) :: rts) H) (h : H a = some (.lst vs)) (e : ds[i]? = some d) (hf : frzn d = true) : ∃ u, vs[i]? = some u ∧ Rep K ρ F d u := by
  obtain ⟨fp, ow, nd, dj⟩ := c.own
  obtain ⟨f1, f2, rfl, q, t⟩ := ow.inv
  unfold Own at q
  obtain ⟨a', vs', f, e1, h', ef, r⟩ := q
  cases e1
  rw [h] at h'
  cases h'
  obtain ⟨u, f, h1, h2, _⟩ := r.at e
  exact ⟨u, h1, h2.rep hf⟩
end
end Fr

set_option maxRecDepth 100000
namespace Fr
open PySem PySem.Spec PyProof.Rows L2

/-! ### the state of a def's run -/
structure S where
  env : List D
  mem : List D
abbrev C := S → Option (D × S)
inductive Fl where
  | next | brk | cnt | ret (d : D)
abbrev Cs := S → Option (Fl × S)

structure Sim (K : PySem.W.Frag) (F0 G F : Hp) (ρ : List Addr) (tmp : List (D × V)) (s : S) (σ : L2.St) (vs : List V) (H : Hp) : Prop where
  core : Core K F0 G F ρ (tmp ++ (s.env.zip vs ++ s.mem.zip (ρ.map V.ref))) H
  lv : vs.length = s.env.length
  lm : ρ.length = s.mem.length
  ls : σ.length = s.env.length
  sl : ∀ (i : Nat) (d : D) (v : V), s.env[i]? = some d → vs[i]? = some v → d ≠ .unb → σ[i]? = some (some v)

section
variable (K : PySem.W.Frag)
/-- a value that may be owned (the root ahead), a frozen one -/
def tO (c : C) : TE := fun σ H Q => ∃ F0 G F ρ vs s d s', Sim K F0 G F ρ [] s σ vs H ∧ c s = some (d, s') ∧
  ∀ F' ρ' vs' v H', Ex F F' → ρ <+: ρ' → Sim K F0 G F' ρ' [(d, v)] s' σ vs' H' → Q v H'
def tV (c : C) : TE := fun σ H Q => ∃ F0 G F ρ vs s d s', Sim K F0 G F ρ [] s σ vs H ∧ c s = some (d, s') ∧
  ∀ F' ρ' vs' v H', Ex F F' → ρ <+: ρ' → Sim K F0 G F' ρ' [] s' σ vs' H' → Rep K ρ' F' d v → Q v H'
def tT (c : S → Option (Bool × S)) : TT := fun σ H Q => ∃ F0 G F ρ vs s b s', Sim K F0 G F ρ [] s σ vs H ∧ c s = some (b, s') ∧
  ∀ F' ρ' vs' H', Ex F F' → ρ <+: ρ' → Sim K F0 G F' ρ' [] s' σ vs' H' → Q b H'
def tA (c : S → Option (List D × S)) : TA := fun σ H Q => ∃ F0 G F ρ vs s ds s', Sim K F0 G F ρ [] s σ vs H ∧ c s = some (ds, s') ∧
  ∀ F' ρ' vs' us H', Ex F F' → ρ <+: ρ' → Sim K F0 G F' ρ' [] s' σ vs' H' → RepL K ρ' F' ds us → Q us H'
def PostS (F0 G F : Hp) (ρ : List Addr) (fl : Fl) (s' : S) (D : Ends) : Prop :=
  match fl with
  | .next => ∀ F' ρ' vs' σ' H', Ex F F' → ρ <+: ρ' → Sim K F0 G F' ρ' [] s' σ' vs' H' → D.nx σ' H'
  | .brk => ∀ F' ρ' vs' σ' H', Ex F F' → ρ <+: ρ' → Sim K F0 G F' ρ' [] s' σ' vs' H' → D.bk σ' H'
  | .cnt => ∀ F' ρ' vs' σ' H', Ex F F' → ρ <+: ρ' → Sim K F0 G F' ρ' [] s' σ' vs' H' → D.ct σ' H'
  | .ret d => ∀ F' ρ' v H', Ex F F' → ρ <+: ρ' → ρ'.length = s'.mem.length → Core K F0 G F' ρ' ((d, v) :: s'.mem.zip (ρ'.map V.ref)) H' → D.rt v H'
def tS (c : Cs) : TS := fun D σ H => ∃ F0 G F ρ vs s fl s', Sim K F0 G F ρ [] s σ vs H ∧ c s = some (fl, s') ∧ PostS K F0 G F ρ fl s' D
end
abbrev PO' (X : Cx) (e : Expr) (c : C) : Prop := PE X e (tO X.K c)
abbrev PV (X : Cx) (e : Expr) (c : C) : Prop := PE X e (tV X.K c)
abbrev PB (X : Cx) (e : Expr) (c : S → Option (Bool × S)) : Prop := PT X e (tT X.K c)
abbrev PAr (X : Cx) (es : List Expr) (c : S → Option (List D × S)) : Prop := PA X es (tA X.K c)
abbrev PSt (X : Cx) (st : Stmt) (c : Cs) : Prop := PS X st (tS X.K c)
abbrev PSl (X : Cx) (sts : List Stmt) (c : Cs) : Prop := PSs X sts (tS X.K c)

section
variable {X : Cx} {e : Expr} {st : Stmt} {sts : List Stmt} {es : List Expr}
theorem pe_w {t t' : TE} (h : PE X e t) (w : ∀ σ H Q, t' σ H Q → t σ H Q) : PE X e t' := ⟨fun pins s σ H Q I q => h.run pins s σ H Q I (w σ H Q q)⟩
theorem pt_w {t t' : TT} (h : PT X e t) (w : ∀ σ H Q, t' σ H Q → t σ H Q) : PT X e t' := ⟨fun pins s σ H Q I q => h.run pins s σ H Q I (w σ H Q q)⟩
theorem pw_w {t t' : TT} (h : PW X e t) (w : ∀ σ H Q, t' σ H Q → t σ H Q) : PW X e t' := ⟨fun wh pins s σ H Q I q => h.run wh pins s σ H Q I (w σ H Q q)⟩
theorem pa_w {t t' : TA} (h : PA X es t) (w : ∀ σ H Q, t' σ H Q → t σ H Q) : PA X es t' := ⟨fun pos pins s σ H Q I q => h.run pos pins s σ H Q I (w σ H Q q)⟩
theorem ps_w {t t' : TS} (h : PS X st t) (w : ∀ D σ H, t' D σ H → t D σ H) : PS X st t' := ⟨fun pins s σ H D I q => h.run pins s σ H D I (w D σ H q)⟩
theorem pss_w {t t' : TS} (h : PSs X sts t) (w : ∀ D σ H, t' D σ H → t D σ H) : PSs X sts t' := ⟨fun pins s σ H D I q => h.run pins s σ H D I (w D σ H q)⟩
end

section
variable {K : PySem.W.Frag} {F0 G F F' H H' : Hp} {ρ ρ' : List Addr} {tmp : List (D × V)} {s : S} {σ : L2.St} {vs : List V} {d : D} {v : V}
/-- the state over other roots ahead -/
theorem Sim.core_of {tmp' : List (D × V)} (m : Sim K F0 G F ρ tmp s σ vs H) (c : Core K F0 G F' ρ (tmp' ++ (s.env.zip vs ++ s.mem.zip (ρ.map V.ref))) H') : Sim K F0 G F' ρ tmp' s σ vs H' := ⟨c, m.lv, m.lm, m.ls, m.sl⟩
theorem Sim.push (m : Sim K F0 G F ρ tmp s σ vs H) (r : Rep K ρ F d v) : Sim K F0 G F ρ ((d, v) :: tmp) s σ vs H := m.core_of (m.core.push r)
theorem Sim.tail (m : Sim K F0 G F ρ ((d, v) :: tmp) s σ vs H) : Sim K F0 G F ρ tmp s σ vs H := m.core_of (Core.tail m.core)
theorem Sim.freeze (m : Sim K F0 G F ρ ((d, v) :: tmp) s σ vs H) : ∃ F', Ex F F' ∧ Sim K F0 G F' ρ tmp s σ vs H ∧ Rep K ρ F' (frz d) v := by
  obtain ⟨F', e, c, r⟩ := Core.freeze m.core
  exact ⟨F', e, m.core_of c, r⟩

/-! ### places: a slot, a cell -/
inductive R where
  | e (i : Nat) | m (k : Nat)
def rget (s : S) : R → Option D
  | .e i => s.env[i]?
  | .m k => s.mem[k]?
def rset (s : S) (r : R) (d : D) : S :=
  match r with
  | .e i => { s with env := s.env.set i d }
  | .m k => { s with mem := s.mem.set k d }
/-- where the name's object stands -/
def plc (s : S) (i : Nat) : Option R :=
  match s.env[i]? with
  | some (.cell k) => some (.m k)
  | some .unb => none
  | some _ => some (.e i)
  | none => none

theorem zip_get {ds : List D} {us : List V} {i : Nat} {d : D} {u : V} (h1 : ds[i]? = some d) (h2 : us[i]? = some u) : (ds.zip us)[i]? = some (d, u) := by
  rw [List.getElem?_zip_eq_some]
  exact ⟨h1, h2⟩
theorem zip_set (ds : List D) (us : List V) (i : Nat) (d : D) (u : V) (h : us[i]? = some u) : (ds.set i d).zip us = (ds.zip us).set i (d, u) := by
  induction ds generalizing us i with
  | nil => simp
  | cons x ds ih =>
    cases us with
    | nil => simp at h
    | cons y us =>
      cases i with
      | zero => simp at h; subst h; rfl
      | succ i => simp at h; simp [ih us i h]
theorem perm_get {α : Type} : ∀ {l : List α} {i : Nat} {x : α}, l[i]? = some x → l.Perm (x :: l.eraseIdx i)
  | [], i, x, h => by simp at h
  | y :: l, 0, x, h => by
    simp at h
    subst h
    exact .refl _
  | y :: l, i + 1, x, h => by
    have h' : l[i]? = some x := by simpa using h
    exact ((perm_get h').cons y).trans (.swap x y _)
theorem perm_set {α : Type} : ∀ {l : List α} {i : Nat} {x : α} (y : α), l[i]? = some x → (l.set i y).Perm (y :: l.eraseIdx i)
  | [], i, x, y, h => by simp at h
  | z :: l, 0, x, y, h => .refl _
  | z :: l, i + 1, x, y, h => by
    have h' : l[i]? = some x := by simpa using h
    exact ((perm_set y h').cons z).trans (.swap y z _)
/-- a place ahead of the rest, and back -/
theorem Sim.focus (m : Sim K F0 G F ρ tmp s σ vs H) {i : Nat} {r : R} (hp : plc s i = some r) (hd : rget s r = some d) : ∃ v rest, σ[i]? = some (some v) ∧ Core K F0 G F ρ ((d, v) :: (tmp ++ rest)) H ∧
    ∀ F' tmp' d' H', (d = .unb → d' = .unb) → Core K F0 G F' ρ ((d', v) :: (tmp' ++ rest)) H' → Sim K F0 G F' ρ tmp' (rset s r d') σ vs H' := by
  have key : ∀ (l : List (D × V)) (n : Nat) (x : D × V), l[n]? = some x → (tmp ++ l).Perm (x :: (tmp ++ l.eraseIdx n)) := fun l n x h => ((perm_get h).append_left tmp).trans List.perm_middle
  have key2 : ∀ (tmp' l : List (D × V)) (n : Nat) (x y : D × V), l[n]? = some x → (y :: (tmp' ++ l.eraseIdx n)).Perm (tmp' ++ l.set n y) := fun tmp' l n x y h => (((perm_set y h).append_left tmp').trans List.perm_middle).symm
  unfold plc at hp
  cases he : s.env[i]? with
  | none => rw [he] at hp; cases hp
  | some d0 =>
    rw [he] at hp
    have hi : i < s.env.length := (List.getElem?_eq_some_iff.mp he).1
    obtain ⟨v, hv⟩ : ∃ v, vs[i]? = some v := ⟨_, List.getElem?_eq_getElem (by rw [m.lv]; exact hi)⟩
    have atE : ∀ (hr : r = .e i) (hn : d0 ≠ .unb), ∃ v rest, σ[i]? = some (some v) ∧ Core K F0 G F ρ ((d, v) :: (tmp ++ rest)) H ∧
        ∀ F' tmp' d' H', (d = .unb → d' = .unb) → Core K F0 G F' ρ ((d', v) :: (tmp' ++ rest)) H' → Sim K F0 G F' ρ tmp' (rset s r d') σ vs H' := by
      intro hr hn
      subst hr
      have hd' : s.env[i]? = some d := hd
      rw [he] at hd'
      obtain rfl : d0 = d := Option.some.inj hd'
      have hz : (s.env.zip vs ++ s.mem.zip (ρ.map V.ref))[i]? = some (d0, v) := by
        rw [List.getElem?_append_left (by rw [List.length_zip, m.lv]; omega)]
        exact zip_get he hv
      refine ⟨v, (s.env.zip vs ++ s.mem.zip (ρ.map V.ref)).eraseIdx i, m.sl i d0 v he hv hn, m.core.perm (key _ _ _ hz), fun F' tmp' d' H' hu c => ⟨?_, ?_, m.lm, ?_, fun j dj vj h1 h2 h3 => ?_⟩⟩
      · have c2 := c.perm (key2 tmp' _ i _ (d', v) hz)
        have e : (s.env.zip vs ++ s.mem.zip (ρ.map V.ref)).set i (d', v) = (s.env.set i d').zip vs ++ s.mem.zip (ρ.map V.ref) := by
          rw [List.set_append_left _ _ (by rw [List.length_zip, m.lv]; omega), zip_set _ _ _ _ _ hv]
        rw [e] at c2
        exact c2
      · show vs.length = (s.env.set i d').length
        rw [List.length_set]; exact m.lv
      · show σ.length = (s.env.set i d').length
        rw [List.length_set]; exact m.ls
      · have h1' : (s.env.set i d')[j]? = some dj := h1
        by_cases hj : j = i
        · subst hj
          rw [hv] at h2
          cases h2
          exact m.sl j d0 v he hv hn
        · rw [List.getElem?_set_ne (Ne.symm hj)] at h1'
          exact m.sl j dj vj h1' h2 h3
    cases d0 with
    | cell k =>
      obtain rfl : R.m k = r := Option.some.inj hp
      have hd' : s.mem[k]? = some d := hd
      have hk : k < s.mem.length := (List.getElem?_eq_some_iff.mp hd').1
      obtain ⟨a, ha⟩ : ∃ a, ρ[k]? = some a := ⟨_, List.getElem?_eq_getElem (by rw [m.lm]; exact hk)⟩
      have hva : v = .ref a := by
        have hz : (s.env.zip vs ++ s.mem.zip (ρ.map V.ref))[i]? = some (.cell k, v) := by
          rw [List.getElem?_append_left (by rw [List.length_zip, m.lv]; omega)]
          exact zip_get he hv
        have c := m.core.perm (key _ _ _ hz)
        obtain ⟨fp, ow, _⟩ := c.own
        obtain ⟨f1, f2, _, q, _⟩ := ow.inv
        have q2 := q.rep rfl
        unfold Rep at q2
        obtain ⟨b, hb, e⟩ := q2
        rw [ha] at hb
        cases hb
        exact e
      have hz : (s.env.zip vs ++ s.mem.zip (ρ.map V.ref))[(s.env.zip vs).length + k]? = some (d, .ref a) := by
        rw [List.getElem?_append_right (by omega), Nat.add_sub_cancel_left]
        exact zip_get hd' (by rw [List.getElem?_map, ha]; rfl)
      refine ⟨v, (s.env.zip vs ++ s.mem.zip (ρ.map V.ref)).eraseIdx ((s.env.zip vs).length + k), m.sl i _ v he hv (by intro z; cases z), ?_, fun F' tmp' d' H' hu c => ⟨?_, m.lv, ?_, m.ls, m.sl⟩⟩
      · rw [hva]
        exact m.core.perm (key _ _ _ hz)
      · rw [hva] at c
        have c2 := c.perm (key2 tmp' _ _ _ (d', .ref a) hz)
        have e : (s.env.zip vs ++ s.mem.zip (ρ.map V.ref)).set ((s.env.zip vs).length + k) (d', .ref a) = s.env.zip vs ++ (s.mem.set k d').zip (ρ.map V.ref) := by
          rw [List.set_append_right _ _ (by omega), Nat.add_sub_cancel_left, zip_set _ _ _ _ _ (by rw [List.getElem?_map, ha]; rfl)]
        rw [e] at c2
        exact c2
      · show ρ.length = (s.mem.set k d').length
        rw [List.length_set]; exact m.lm
    | unb => cases hp
    | non => exact atE (Option.some.inj hp).symm (by intro z; cases z)
    | bl _ => exact atE (Option.some.inj hp).symm (by intro z; cases z)
    | int _ => exact atE (Option.some.inj hp).symm (by intro z; cases z)
    | str _ => exact atE (Option.some.inj hp).symm (by intro z; cases z)
    | ty _ => exact atE (Option.some.inj hp).symm (by intro z; cases z)
    | tup _ => exact atE (Option.some.inj hp).symm (by intro z; cases z)
    | lst _ => exact atE (Option.some.inj hp).symm (by intro z; cases z)
    | scr _ => exact atE (Option.some.inj hp).symm (by intro z; cases z)
    | hset _ => exact atE (Option.some.inj hp).symm (by intro z; cases z)
    | rset _ _ => exact atE (Option.some.inj hp).symm (by intro z; cases z)
    | oset _ _ => exact atE (Option.some.inj hp).symm (by intro z; cases z)
    | oins _ _ _ => exact atE (Option.some.inj hp).symm (by intro z; cases z)
    | own _ => exact atE (Option.some.inj hp).symm (by intro z; cases z)
    | dic _ _ => exact atE (Option.some.inj hp).symm (by intro z; cases z)
    | odic _ _ => exact atE (Option.some.inj hp).symm (by intro z; cases z)
    | ins _ _ _ => exact atE (Option.some.inj hp).symm (by intro z; cases z)
end
end Fr

set_option maxRecDepth 100000
namespace Fr
open PySem PySem.Spec PyProof.Rows L2

/-! ### expressions -/
section
variable {X : Cx} {e a b : Expr} {es : List Expr} {pos : Pos}

theorem Sim.slot {K : PySem.W.Frag} {F0 G F H : Hp} {ρ : List Addr} {s : S} {σ : L2.St} {vs : List V} {d : D} {i : Nat} (m : Sim K F0 G F ρ [] s σ vs H) (h : s.env[i]? = some d) (hf : frzn d = true) (hn : d ≠ .unb) :
    ∃ v, σ[i]? = some (some v) ∧ Rep K ρ F d v := by
  have hi : i < s.env.length := (List.getElem?_eq_some_iff.mp h).1
  obtain ⟨v, hv⟩ : ∃ v, vs[i]? = some v := ⟨_, List.getElem?_eq_getElem (by rw [m.lv]; exact hi)⟩
  have hz : (s.env.zip vs ++ s.mem.zip (ρ.map V.ref))[i]? = some (d, v) := by
    rw [List.getElem?_append_left (by rw [List.length_zip, m.lv]; omega)]
    exact zip_get h hv
  have c := Core.perm m.core (perm_get (l := s.env.zip vs ++ s.mem.zip (ρ.map V.ref)) hz)
  obtain ⟨fp, ow, _⟩ := c.own
  obtain ⟨f1, f2, _, q, _⟩ := ow.inv
  exact ⟨v, m.sl i d v h hv hn, q.rep hf⟩

def cVar (i : Nat) : C := fun s =>
  match s.env[i]? with
  | some (.own ds) => some (.lst (frzL ds), { s with env := s.env.set i (.lst (frzL ds)) })
  | some (.odic ks ds) => some (.dic ks (frzL ds), { s with env := s.env.set i (.dic ks (frzL ds)) })
  | some (.oins C fs ds) => some (.ins C fs (frzL ds), { s with env := s.env.set i (.ins C fs (frzL ds)) })
  | some (.oset w ns) => some (.rset w ns, { s with env := s.env.set i (.rset w ns) })
  | some .unb => none
  | some d => some (d, s)
  | none => none
theorem pv_var (i : Nat) {x : Str} (hN : X.N[i]? = some x := by rfl) (hv : Vis X.env.scope x := by first | exact Or.inl rfl | exact Or.inr (Or.inl rfl) | exact Or.inr (Or.inr rfl)) (hd : (x == ("__debug__" : Str)) = false := by decide)
    (hcd : (x == ("__classdict__" : Str)) = false := by decide) : PV X (.Name x pos) (cVar i) := by
  refine pe_w (pe_var (i := i) hN hv hd hcd) fun σ H Q ⟨F0, G, F, ρ, vs, s, d, s', m, hc, k⟩ => ?_
  have froz : ∀ d0, s.env[i]? = some d0 → plc s i = some (.e i) → d0 ≠ .unb → frz d0 = d → s' = { s with env := s.env.set i d } → ∃ v, σ[i]? = some (some v) ∧ Q v H := by
    intro d0 h0 hp hn hd hs
    obtain ⟨v, rest, h1, c, back⟩ := m.focus hp (show rget s (.e i) = some d0 from h0)
    obtain ⟨F', e, c', r⟩ := Core.freeze c
    refine ⟨v, h1, k F' ρ vs v H e (List.prefix_refl _) ?_ (by rw [← hd]; exact r)⟩
    rw [hs]
    exact back F' [] d H (fun z => absurd z hn) (by rw [← hd]; exact c'.push r)
  have plain : ∀ d0, s.env[i]? = some d0 → frzn d0 = true → d0 ≠ .unb → d = d0 → s' = s → ∃ v, σ[i]? = some (some v) ∧ Q v H := by
    intro d0 h0 hf hn hd hs
    obtain ⟨v, h1, r⟩ := m.slot h0 hf hn
    exact ⟨v, h1, k F ρ vs v H Ex.rfl' (List.prefix_refl _) (by rw [hs]; exact m) (by rw [hd]; exact r)⟩
  unfold cVar at hc
  cases h : s.env[i]? with
  | none => rw [h] at hc; cases hc
  | some d0 =>
    rw [h] at hc
    cases d0 with
    | own ds =>
      cases hc
      exact froz _ h (by unfold plc; rw [h]) (by intro z; cases z) (by unfold frz; rfl) rfl
    | odic ks ds =>
      cases hc
      exact froz _ h (by unfold plc; rw [h]) (by intro z; cases z) (by unfold frz; rfl) rfl
    | oins C fs ds =>
      cases hc
      exact froz _ h (by unfold plc; rw [h]) (by intro z; cases z) (by unfold frz; rfl) rfl
    | oset w ns =>
      cases hc
      exact froz _ h (by unfold plc; rw [h]) (by intro z; cases z) (by unfold frz; rfl) rfl
    | hset _ => cases hc; exact plain _ h rfl (by intro z; cases z) rfl rfl
    | rset _ _ => cases hc; exact plain _ h rfl (by intro z; cases z) rfl rfl
    | unb => cases hc
    | non => cases hc; exact plain _ h rfl (by intro z; cases z) rfl rfl
    | bl _ => cases hc; exact plain _ h rfl (by intro z; cases z) rfl rfl
    | int _ => cases hc; exact plain _ h rfl (by intro z; cases z) rfl rfl
    | str _ => cases hc; exact plain _ h rfl (by intro z; cases z) rfl rfl
    | ty _ => cases hc; exact plain _ h rfl (by intro z; cases z) rfl rfl
    | tup _ => cases hc; exact plain _ h rfl (by intro z; cases z) rfl rfl
    | lst _ => cases hc; exact plain _ h rfl (by intro z; cases z) rfl rfl
    | scr _ => cases hc; exact plain _ h rfl (by intro z; cases z) rfl rfl
    | dic _ _ => cases hc; exact plain _ h rfl (by intro z; cases z) rfl rfl
    | ins _ _ _ => cases hc; exact plain _ h rfl (by intro z; cases z) rfl rfl
    | cell _ => cases hc; exact plain _ h rfl (by intro z; cases z) rfl rfl

/-! ### constants, from one kind to the other -/
def cK (d : D) : C := fun s => some (d, s)
theorem pv_k {v : V} {d : D} (h : PE X e (tC v)) (r : ∀ ρ F, Rep X.K ρ F d v) : PV X e (cK d) :=
  pe_w h fun σ H Q ⟨F0, G, F, ρ, vs, s, d', s', m, hc, k⟩ => by
    cases hc
    exact k F ρ vs v H Ex.rfl' (List.prefix_refl _) m (r ρ F)
theorem pv_int {i j} : PV X (.Constant (.int i) j pos) (cK (.int i)) := pv_k pe_int fun _ _ => by unfold Rep; rfl
theorem pv_bl {i j} : PV X (.Constant (.bool i) j pos) (cK (.bl i)) := pv_k pe_bl fun _ _ => by unfold Rep; rfl
theorem pv_non {j} : PV X (.Constant .none j pos) (cK .non) := pv_k pe_non fun _ _ => by unfold Rep; rfl
theorem pv_str {i j} : PV X (.Constant (.str i) j pos) (cK (.str i)) := pv_k pe_str fun _ _ => by unfold Rep; rfl
theorem po_pv {c : C} (h : PV X e c) : PO' X e c := pe_w h fun σ H Q ⟨F0, G, F, ρ, vs, s, d, s', m, hc, k⟩ =>
  ⟨F0, G, F, ρ, vs, s, d, s', m, hc, fun F' ρ' vs' v H' e p m' r => k F' ρ' vs' v H' e p (m'.push r)⟩
def cF (c : C) : C := fun s => (c s).map fun p => (frz p.1, p.2)
theorem pv_po {c : C} (h : PO' X e c) : PV X e (cF c) := pe_w h fun σ H Q ⟨F0, G, F, ρ, vs, s, d, s', m, hc, k⟩ => by
  unfold cF at hc
  cases h : c s with
  | none => rw [h] at hc; cases hc
  | some p =>
    rw [h] at hc
    obtain ⟨d1, s1⟩ := p
    cases hc
    refine ⟨F0, G, F, ρ, vs, s, d1, s1, m, h, fun F' ρ' vs' v H' e p m' => ?_⟩
    obtain ⟨F'', e2, m2, r⟩ := m'.freeze
    exact k F'' ρ' vs' v H' (e.tr e2) p m2 r

/-! ### arguments -/
def cNil : S → Option (List D × S) := fun s => some ([], s)
def cCons (c : C) (cs : S → Option (List D × S)) : S → Option (List D × S) := fun s => (c s).bind fun p => (cs p.2).map fun q => (p.1 :: q.1, q.2)
theorem pa_n : PAr X [] cNil := pa_w pa_nil fun σ H Q ⟨F0, G, F, ρ, vs, s, d, s', m, hc, k⟩ => by
  cases hc
  exact k F ρ vs [] H Ex.rfl' (List.prefix_refl _) m (by unfold RepL; rfl)
theorem pa_c {c : C} {cs : S → Option (List D × S)} (h : PV X e c) (hs : PAr X es cs) (hst : starEach (e :: es) X.env = (false, eval e X.env) :: starEach es X.env := by rfl) : PAr X (e :: es) (cCons c cs) :=
  pa_w (pa_cons h hs hst) fun σ H Q ⟨F0, G, F, ρ, vs, s, d, s', m, hc, k⟩ => by
    unfold cCons at hc
    cases h1 : c s with
    | none => rw [h1] at hc; cases hc
    | some p =>
      obtain ⟨d1, s1⟩ := p
      rw [h1] at hc
      cases h2 : cs s1 with
      | none => simp [h2] at hc
      | some q =>
        obtain ⟨ds, s2⟩ := q
        simp [h2] at hc
        obtain ⟨rfl, rfl⟩ := hc
        refine ⟨F0, G, F, ρ, vs, s, d1, s1, m, h1, fun F1 ρ1 vs1 v H1 e1 p1 m1 r1 => ?_⟩
        refine ⟨F0, G, F1, ρ1, vs1, s1, ds, s2, m1, h2, fun F2 ρ2 vs2 us H2 e2 p2 m2 r2 => ?_⟩
        refine k F2 ρ2 vs2 (v :: us) H2 (e1.tr e2) (p1.trans p2) m2 ?_
        unfold RepL
        exact ⟨v, us, rfl, r1.mono e2 p2, r2⟩

/-! ### two operands -/
/-- what an operation on two frozen values gives -/
def LOp (K : PySem.W.Frag) (r : R2) (g : D → D → Option D) : Prop := ∀ (F0 G F : Hp) (ρ : List Addr) (rts : List (D × V)) (H : Hp) (x y : V) (dx dy d : D) (Q : VK), Core K F0 G F ρ rts H → Rep K ρ F dx x → Rep K ρ F dy y → g dx dy = some d →
  (∀ F' v H', Ex F F' → Core K F0 G F' ρ ((d, v) :: rts) H' → Q v H') → r x y H Q
theorem LOp.or {K : PySem.W.Frag} {r r' : R2} {g g' : D → D → Option D} (h : LOp K r g) (h' : LOp K r' g') : LOp K (fun x y H Q => r x y H Q ∨ r' x y H Q) (fun x y => (g x y).or (g' x y)) := by
  intro F0 G F ρ rts H x y dx dy d Q c rx ry e k
  dsimp only at e
  cases h1 : g dx dy with
  | none =>
    rw [h1] at e
    exact .inr (h' F0 G F ρ rts H x y dx dy d Q c rx ry e k)
  | some d' =>
    rw [h1] at e
    cases e
    exact .inl (h F0 G F ρ rts H x y dx dy _ Q c rx ry h1 k)
def cBin (g : D → D → Option D) (ca cb : C) : C := fun s => (ca s).bind fun p => (cb p.2).bind fun q => (g p.1 q.1).map fun d => (d, q.2)
theorem cBin_inv {g : D → D → Option D} {ca cb : C} {s s' : S} {d : D} (h : cBin g ca cb s = some (d, s')) : ∃ da s1 db, ca s = some (da, s1) ∧ cb s1 = some (db, s') ∧ g da db = some d := by
  unfold cBin at h
  cases h1 : ca s with
  | none => rw [h1] at h; cases h
  | some p =>
    obtain ⟨da, s1⟩ := p
    rw [h1] at h
    cases h2 : cb s1 with
    | none => simp [h2] at h
    | some q =>
      obtain ⟨db, s2⟩ := q
      cases h3 : g da db with
      | none => simp [h2, h3] at h
      | some d' =>
        simp [h2, h3] at h
        obtain ⟨rfl, rfl⟩ := h
        exact ⟨da, s1, db, rfl, h2, h3⟩
/-- the reading of two operands -/
theorem t2_ok {K : PySem.W.Frag} {r : R2} {g : D → D → Option D} {ca cb : C} (l : LOp K r g) {σ : L2.St} {H : Hp} {Q : VK} (h : tO K (cBin g ca cb) σ H Q) : tOp r (tV K ca) (tV K cb) σ H Q := by
  obtain ⟨F0, G, F, ρ, vs, s, d, s', m, hc, k⟩ := h
  obtain ⟨da, s1, db, h1, h2, h3⟩ := cBin_inv hc
  refine ⟨F0, G, F, ρ, vs, s, da, s1, m, h1, fun F1 ρ1 vs1 v H1 e1 p1 m1 r1 => ?_⟩
  refine ⟨F0, G, F1, ρ1, vs1, s1, db, s', m1, h2, fun F2 ρ2 vs2 u H2 e2 p2 m2 r2 => ?_⟩
  refine l F0 G F2 ρ2 _ H2 v u da db d Q m2.core (r1.mono e2 p2) r2 h3 fun F3 w H3 e3 c3 => ?_
  exact k F3 ρ2 vs2 w H3 ((e1.tr e2).tr e3) (p1.trans p2) (m2.core_of (tmp' := [(d, w)]) c3)
theorem po_bin {op : Operator} {r : R2} {g : D → D → Option D} {ca cb : C} (ho : OpR X (binaryOp op) r) (l : LOp X.K r g) (ha : PV X a ca) (hb : PV X b cb) : PO' X (.BinOp a op b pos) (cBin g ca cb) :=
  pe_w (pe_op ho ha hb) fun σ H Q h => t2_ok l h
theorem po_cmp {op : CmpOp} {r : R2} {g : D → D → Option D} {ca cb : C} (ho : OpR X (compareOp op) r) (l : LOp X.K r g) (ha : PV X a ca) (hb : PV X b cb) (hm : behindInMarks op b = false) : PO' X (.Compare a [op] [b] pos) (cBin g ca cb) :=
  pe_w (pe_cmpR ho ha hb hm) fun σ H Q h => t2_ok l h
/-- the bool that comes of it -/
def cT (c : C) : S → Option (Bool × S) := fun s => match c s with
  | some (.bl b, s') => some (b, s')
  | _ => none
theorem cT_inv {c : C} {s s' : S} {b : Bool} (h : cT c s = some (b, s')) : c s = some (.bl b, s') := by
  unfold cT at h
  split at h
  · rename_i b' s1 e
    cases h
    exact e
  · cases h
theorem pb_cmp {op : CmpOp} {r : R2} {g : D → D → Option D} {ca cb : C} (ho : OpR X (compareOp op) r) (l : LOp X.K r g) (ha : PV X a ca) (hb : PV X b cb) (hm : behindInMarks op b = false) : PB X (.Compare a [op] [b] pos) (cT (cBin g ca cb)) :=
  pt_w (pt_cmpR ho ha hb hm) fun σ H Q ⟨F0, G, F, ρ, vs, s, d, s', m, hc, k⟩ => t2_ok l (ca := ca) (cb := cb)
    ⟨F0, G, F, ρ, vs, s, .bl d, s', m, cT_inv hc, fun F' ρ' vs' v H' e p m' => by
      obtain ⟨F'', e2, m2, r⟩ := m'.freeze
      unfold frz Rep at r
      exact ⟨d, r, k F'' ρ' vs' H' (e.tr e2) p m2⟩⟩
/-- any value that is a bool, as a test -/
theorem pb_val {c : C} (h : PV X e c) (he : ∀ whole, isTrue e X.env whole = (do let v ← whole; standAt e.pos; holding [v] (truthy v)) := by intro _; rfl) : PB X e (cT c) :=
  pt_w (pt_val h he) fun σ H Q ⟨F0, G, F, ρ, vs, s, d, s', m, hc, k⟩ =>
    ⟨F0, G, F, ρ, vs, s, .bl d, s', m, cT_inv hc, fun F' ρ' vs' v H' e p m' r => by
      unfold Rep at r
      exact ⟨d, r, k F' ρ' vs' H' e p m'⟩⟩

/-! ### ints -/
section
variable {K : PySem.W.Frag}
theorem Rep.ofI {ρ : List Addr} {F : Hp} {i : Int} {v : V} (h : Rep K ρ F (.int i) v) : v = .int i := by unfold Rep at h; exact h
theorem Rep.ofB {ρ : List Addr} {F : Hp} {i : Bool} {v : V} (h : Rep K ρ F (.bl i) v) : v = .bl i := by unfold Rep at h; exact h
theorem rep_i {ρ : List Addr} {F : Hp} (i : Int) : Rep K ρ F (.int i) (.int i) := by unfold Rep; rfl
theorem rep_b {ρ : List Addr} {F : Hp} (i : Bool) : Rep K ρ F (.bl i) (.bl i) := by unfold Rep; rfl
def gI (C : Int → Int → Bool) (f : Int → Int → D) : D → D → Option D
  | .int i, .int j => if C i j then some (f i j) else none
  | _, _ => none
theorem gI_inv {C : Int → Int → Bool} {f : Int → Int → D} {x y d : D} (h : gI C f x y = some d) : ∃ i j, x = .int i ∧ y = .int j ∧ C i j = true ∧ d = f i j := by
  unfold gI at h
  split at h
  · rename_i i j
    split at h
    · rename_i hc
      cases h
      exact ⟨i, j, rfl, rfl, hc, rfl⟩
    · cases h
  · cases h
theorem l_I {C : Int → Int → Prop} {Cb : Int → Int → Bool} {f : Int → Int → V} {fD : Int → Int → D} (hC : ∀ i j, Cb i j = true → C i j) (hf : ∀ ρ F i j, Rep K ρ F (fD i j) (f i j)) : LOp K (rI C f) (gI Cb fD) := by
  intro F0 G F ρ rts H x y dx dy d Q c rx ry e k
  obtain ⟨i, j, rfl, rfl, hc, rfl⟩ := gI_inv e
  exact ⟨i, j, rx.ofI, ry.ofI, hC i j hc, k F _ H Ex.rfl' (c.push (hf ρ F i j))⟩
theorem l_I0 {f : Int → Int → V} {fD : Int → Int → D} (hf : ∀ ρ F i j, Rep K ρ F (fD i j) (f i j)) : LOp K (rI0 f) (gI (fun _ _ => true) fD) := by
  intro F0 G F ρ rts H x y dx dy d Q c rx ry e k
  obtain ⟨i, j, rfl, rfl, hc, rfl⟩ := gI_inv e
  exact ⟨i, j, rx.ofI, ry.ofI, k F _ H Ex.rfl' (c.push (hf ρ F i j))⟩
abbrev gAddI := gI (fun _ _ => true) fun i j => .int (i + j)
abbrev gSub := gI (fun _ _ => true) fun i j => .int (i - j)
def small64 (i : Int) : Bool := decide (-(2 ^ 64) < i) && decide (i < 2 ^ 64)
abbrev gMulI := gI (fun i j => small64 i || small64 j) fun i j => .int (i * j)
abbrev gDiv := gI (fun _ j => decide (0 < j) && decide (j < 1073741824)) fun i j => .int (i / j)
abbrev gMod := gI (fun _ j => decide (0 < j)) fun i j => .int (i % j)
abbrev gPow := gI (fun i j => decide (0 ≤ j) && decide (j ≤ 1000000) && decide (i.natAbs < 2 ^ 64)) fun i j => .int (i ^ j.toNat)
abbrev gLt := gI (fun _ _ => true) fun i j => .bl (decide (i < j))
abbrev gLe := gI (fun _ _ => true) fun i j => .bl (decide (i ≤ j))
abbrev gGt := gI (fun _ _ => true) fun i j => .bl (decide (j < i))
abbrev gGe := gI (fun _ _ => true) fun i j => .bl (decide (j ≤ i))
theorem l_addI : LOp K (rI0 fun i j => .int (i + j)) gAddI := l_I0 fun _ _ _ _ => rep_i _
theorem l_sub : LOp K (rI0 fun i j => .int (i - j)) gSub := l_I0 fun _ _ _ _ => rep_i _
theorem l_mulI : LOp K (rI CMul fun i j => .int (i * j)) gMulI := l_I (fun i j h => by
  unfold small64 at h
  unfold CMul
  simp only [Bool.or_eq_true, Bool.and_eq_true, decide_eq_true_eq] at h
  exact h) fun _ _ _ _ => rep_i _
theorem l_div : LOp K (rI CDiv fun i j => .int (i / j)) gDiv := l_I (fun i j h => by
  unfold CDiv
  simpa using h) fun _ _ _ _ => rep_i _
theorem l_mod : LOp K (rI (fun _ j => 0 < j) fun i j => .int (i % j)) gMod := l_I (fun i j h => by simpa using h) fun _ _ _ _ => rep_i _
theorem l_pow : LOp K (rI CPow fun i j => .int (i ^ j.toNat)) gPow := l_I (fun i j h => by
  unfold CPow
  simpa [and_assoc] using h) fun _ _ _ _ => rep_i _
theorem l_lt : LOp K (rI0 fun i j => .bl (decide (i < j))) gLt := l_I0 fun _ _ _ _ => rep_b _
theorem l_le : LOp K (rI0 fun i j => .bl (decide (i ≤ j))) gLe := l_I0 fun _ _ _ _ => rep_b _
theorem l_gt : LOp K (rI0 fun i j => .bl (decide (j < i))) gGt := l_I0 fun _ _ _ _ => rep_b _
theorem l_ge : LOp K (rI0 fun i j => .bl (decide (j ≤ i))) gGe := l_I0 fun _ _ _ _ => rep_b _

/-! ### lists and tuples -/
def line : Nat := 1000000
theorem line_ok {n : Nat} (h : n ≤ line) : n ≤ sizeLine := Nat.le_trans h (by rw [sizeLine_eq]; decide)
theorem line_lt {n : Nat} (h : n < line) : n < sizeLine := Nat.lt_of_lt_of_le h (by rw [sizeLine_eq]; decide)
/-- a new frozen tuple at the head -/
theorem Core.newT {F0 G F H : Hp} {ρ : List Addr} {rts : List (D × V)} {p : Addr} {ds : List D} {us : List V} (c : Core K F0 G F ρ rts H) (r : RepL K ρ F ds us) (hp : H p = none) :
    ∃ F', Ex F F' ∧ Core K F0 G F' ρ ((.tup ds, .ref p) :: rts) (upd H p (.tup us)) := by
  obtain ⟨c', e⟩ := c.newF (o := .tup us) hp
  refine ⟨_, e, c'.push ?_⟩
  unfold Rep
  exact ⟨p, us, rfl, upd_same, RepL.mono e (List.prefix_refl _) _ _ r⟩
theorem roots_push {F0 G F H : Hp} {ρ : List Addr} {rts : List (D × V)} : ∀ {ds : List D} {us : List V}, Core K F0 G F ρ rts H → RepL K ρ F ds us → Core K F0 G F ρ (ds.zip us ++ rts) H
  | [], us, c, r => by simpa using c
  | d :: ds, us, c, r => by
    unfold RepL at r
    obtain ⟨v, t, rfl, r1, r2⟩ := r
    exact (roots_push c r2).push r1
theorem zip_fst {ds : List D} {us : List V} (h : ds.length = us.length) : (ds.zip us).map (·.1) = ds := List.map_fst_zip (Nat.le_of_eq h)
theorem zip_snd {ds : List D} {us : List V} (h : ds.length = us.length) : (ds.zip us).map (·.2) = us := List.map_snd_zip (Nat.le_of_eq h.symm)
/-- a new owned list of frozen items at the head -/
theorem Core.newL {F0 G F H : Hp} {ρ : List Addr} {rts : List (D × V)} {p : Addr} {ds : List D} {us : List V} (c : Core K F0 G F ρ rts H) (r : RepL K ρ F ds us) (hp : H p = none) :
    Core K F0 G F ρ ((.own ds, .ref p) :: rts) (upd H p (.lst us)) := by
  have := (roots_push c r).newO (its := ds.zip us) hp
  rwa [zip_fst r.len, zip_snd r.len] at this
theorem Rep.tpS {ρ : List Addr} {F : Hp} {ds : List D} {v : V} (h : Rep K ρ F (.tup ds) v) : ∃ a vs, v = .ref a ∧ F a = some (.tup vs) ∧ RepL K ρ F ds vs := by unfold Rep at h; exact h
theorem Rep.tp {ρ : List Addr} {F : Hp} {ds : List D} {v : V} (h : Rep K ρ F (.tup ds) v) : ∃ a vs, v = .ref a ∧ SqT K F a vs ∧ RepL K ρ F ds vs := by
  obtain ⟨a, vs, e, h1, h2⟩ := h.tpS
  exact ⟨a, vs, e, .of h1, h2⟩
theorem Rep.ls {ρ : List Addr} {F : Hp} {ds : List D} {v : V} (h : Rep K ρ F (.lst ds) v) : ∃ a vs, v = .ref a ∧ F a = some (.lst vs) ∧ RepL K ρ F ds vs := by unfold Rep at h; exact h
theorem Rep.sc {ρ : List Addr} {F : Hp} {ds : List D} {v : V} (h : Rep K ρ F (.scr ds) v) : ∃ a vs, v = .ref a ∧ SqL K F a vs ∧ RepL K ρ F ds vs := by unfold Rep at h; exact h
def gCatL : D → D → Option D
  | .lst xs, .lst ys => if xs.length + ys.length ≤ line then some (.own (xs ++ ys)) else none
  | _, _ => none
def gCatT : D → D → Option D
  | .tup xs, .tup ys => if xs.length + ys.length ≤ line then some (.tup (xs ++ ys)) else none
  | _, _ => none
theorem l_catL : LOp K rCat gCatL := by
  intro F0 G F ρ rts H x y dx dy d Q c rx ry e k
  unfold gCatL at e
  split at e
  · rename_i xs ys
    split at e
    · rename_i hz
      cases e
      obtain ⟨a, us, rfl, ha, ra⟩ := rx.ls
      obtain ⟨b, ws, rfl, hb, rb⟩ := ry.ls
      refine ⟨a, b, us, ws, rfl, rfl, c.f _ _ ha, c.f _ _ hb, line_ok (by rw [← ra.len, ← rb.len]; exact hz), fun p hp => ?_⟩
      exact k F _ _ Ex.rfl' (c.newL (ra.app rb) hp)
    · cases e
  · cases e
theorem l_catT : LOp K (rCatA K) gCatT := by
  intro F0 G F ρ rts H x y dx dy d Q c rx ry e k
  unfold gCatT at e
  split at e
  · rename_i xs ys
    split at e
    · rename_i hz
      cases e
      obtain ⟨a, us, ea, ha, ra⟩ := rx.tp
      obtain ⟨b, ws, eb, hb, rb⟩ := ry.tp
      subst ea eb
      refine ⟨a, b, us, ws, rfl, rfl, Ex.st c.f ha, Ex.st c.f hb, line_ok (by rw [← ra.len, ← rb.len]; exact hz), fun z => ?_, fun _ z => ?_, fun _ _ p hp => ?_⟩
      · have : xs = [] := List.eq_nil_of_length_eq_zero (by rw [ra.len, z]; rfl)
        rw [this, List.nil_append] at k
        exact k F _ _ Ex.rfl' (c.push ry)
      · have : ys = [] := List.eq_nil_of_length_eq_zero (by rw [rb.len, z]; rfl)
        rw [this, List.append_nil] at k
        exact k F _ _ Ex.rfl' (c.push rx)
      · obtain ⟨F', e', c'⟩ := c.newT (ra.app rb) hp
        exact k F' _ _ e' c'
    · cases e
  · cases e
/-- + -/
def gAdd : D → D → Option D := fun x y => (gAddI x y).or ((gCatL x y).or (gCatT x y))
theorem l_add : LOp K (fun x y H Q => rI0 (fun i j => .int (i + j)) x y H Q ∨ (rCat x y H Q ∨ rCatA K x y H Q)) gAdd := l_addI.or (l_catL.or l_catT)
def gRepL : D → D → Option D
  | .lst xs, .int k => if -(2 ^ 63) ≤ k ∧ k < 2 ^ 63 ∧ xs.length * k.toNat ≤ line then some (.own (List.replicate k.toNat xs).flatten) else none
  | _, _ => none
theorem RepL.rep {ρ : List Addr} {F : Hp} {ds : List D} {us : List V} (h : RepL K ρ F ds us) : ∀ n, RepL K ρ F (List.replicate n ds).flatten (List.replicate n us).flatten
  | 0 => by simp [RepL]
  | n + 1 => by
    rw [List.replicate_succ, List.replicate_succ, List.flatten_cons, List.flatten_cons]
    exact h.app (RepL.rep h n)
theorem l_repL : LOp K rRep gRepL := by
  intro F0 G F ρ rts H x y dx dy d Q c rx ry e k
  unfold gRepL at e
  split at e
  · rename_i xs n
    split at e
    · rename_i hz
      cases e
      obtain ⟨a, us, rfl, ha, ra⟩ := rx.ls
      refine ⟨a, n, us, rfl, ry.ofI, c.f _ _ ha, hz.1, hz.2.1, line_ok (by rw [← ra.len]; exact hz.2.2), fun p hp => ?_⟩
      exact k F _ _ Ex.rfl' (c.newL (ra.rep _) hp)
    · cases e
  · cases e
/-- * -/
def gMul : D → D → Option D := fun x y => (gMulI x y).or (gRepL x y)
theorem l_mul : LOp K (fun x y H Q => rI CMul (fun i j => .int (i * j)) x y H Q ∨ rRep x y H Q) gMul := l_mulI.or l_repL
end
theorem po_add {ca cb : C} (ha : PV X a ca) (hb : PV X b cb) : PO' X (.BinOp a .Add b pos) (cBin gAdd ca cb) := po_bin (op_add.or (op_cat.or op_catA)) l_add ha hb
theorem po_mul {ca cb : C} (ha : PV X a ca) (hb : PV X b cb) : PO' X (.BinOp a .Mult b pos) (cBin gMul ca cb) := po_bin (op_mul.or op_rep) l_mul ha hb
theorem po_sub {ca cb : C} (ha : PV X a ca) (hb : PV X b cb) : PO' X (.BinOp a .Sub b pos) (cBin gSub ca cb) := po_bin op_sub l_sub ha hb
theorem po_div {ca cb : C} (ha : PV X a ca) (hb : PV X b cb) : PO' X (.BinOp a .FloorDiv b pos) (cBin gDiv ca cb) := po_bin op_fdiv l_div ha hb
theorem po_mod {ca cb : C} (ha : PV X a ca) (hb : PV X b cb) : PO' X (.BinOp a .Mod b pos) (cBin gMod ca cb) := po_bin op_mod l_mod ha hb
theorem po_pow {ca cb : C} (ha : PV X a ca) (hb : PV X b cb) : PO' X (.BinOp a .Pow b pos) (cBin gPow ca cb) := po_bin op_pow l_pow ha hb
end
end Fr

set_option maxRecDepth 100000
namespace Fr
open PySem PySem.Spec PyProof.Rows L2

/-! ### == and in, of data -/
mutual
def toP : D → Option PyData
  | .non => some .none
  | .bl b => some (.bool b)
  | .int i => some (.int i)
  | .str s => some (.str s)
  | .tup xs => (toPL xs).map .tuple
  | .lst xs => (toPL xs).map .list
  | _ => none
def toPL : List D → Option (List PyData)
  | [] => some []
  | d :: ds => (toP d).bind fun p => (toPL ds).map fun ps => p :: ps
end
section
variable {K : PySem.W.Frag} {ρ : List Addr} {F H : Hp}
mutual
theorem rep_dp (e : Ex F H) : ∀ (d : D) (v : V) (p : PyData), Rep K ρ F d v → toP d = some p → Dp K H v p
  | .unb, _, _, _, h => by unfold toP at h; cases h
  | .non, v, p, r, h => by unfold toP at h; unfold Rep at r; cases h; subst r; exact .non
  | .bl b, v, p, r, h => by unfold toP at h; unfold Rep at r; cases h; subst r; exact .bl b
  | .int b, v, p, r, h => by unfold toP at h; unfold Rep at r; cases h; subst r; exact .int b
  | .str b, v, p, r, h => by unfold toP at h; unfold Rep at r; cases h; subst r; exact .str b
  | .ty _, _, _, _, h => by unfold toP at h; cases h
  | .tup ds, v, p, r, h => by
    unfold toP at h
    unfold Rep at r
    obtain ⟨a, vs, rfl, q, t⟩ := r
    cases h2 : toPL ds with
    | none => rw [h2] at h; cases h
    | some ps =>
      rw [h2] at h
      cases h
      exact .tup (.of (e _ _ q)) (rep_dpL e ds vs ps t h2)
  | .lst ds, v, p, r, h => by
    unfold toP at h
    unfold Rep at r
    obtain ⟨a, vs, rfl, q, t⟩ := r
    cases h2 : toPL ds with
    | none => rw [h2] at h; cases h
    | some ps =>
      rw [h2] at h
      cases h
      exact .lst (.of (e _ _ q)) (rep_dpL e ds vs ps t h2)
  | .scr _, _, _, _, h => by unfold toP at h; cases h
  | .own _, _, _, _, h => by unfold toP at h; cases h
  | .dic _ _, _, _, _, h => by unfold toP at h; cases h
  | .odic _ _, _, _, _, h => by unfold toP at h; cases h
  | .ins _ _ _, _, _, _, h => by unfold toP at h; cases h
  | .oins _ _ _, _, _, _, h => by unfold toP at h; cases h
  | .cell _, _, _, _, h => by unfold toP at h; cases h
  | .hset _, _, _, _, h => by unfold toP at h; cases h
  | .rset _ _, _, _, _, h => by unfold toP at h; cases h
  | .oset _ _, _, _, _, h => by unfold toP at h; cases h
theorem rep_dpL (e : Ex F H) : ∀ (ds : List D) (vs : List V) (ps : List PyData), RepL K ρ F ds vs → toPL ds = some ps → DpAll K H vs ps
  | [], vs, ps, r, h => by
    unfold toPL at h
    unfold RepL at r
    cases h
    subst r
    exact .nil
  | d :: ds, vs, ps, r, h => by
    unfold toPL at h
    unfold RepL at r
    obtain ⟨v, t, rfl, r1, r2⟩ := r
    cases h1 : toP d with
    | none => rw [h1] at h; cases h
    | some p =>
      cases h2 : toPL ds with
      | none => rw [h1, h2] at h; cases h
      | some qs =>
        rw [h1, h2] at h
        cases h
        exact .cons (rep_dp e d v p r1 h1) (rep_dpL e ds t qs r2 h2)
end
def shp (x : D) : Option PyData := (toP x).bind fun p => if SeqAt.shaped p = true then some p else none
theorem shp_inv {x : D} {p : PyData} (h : shp x = some p) : toP x = some p ∧ SeqAt.shaped p = true := by
  unfold shp at h
  cases h1 : toP x with
  | none => rw [h1] at h; cases h
  | some q =>
    rw [h1] at h
    have h' : (if SeqAt.shaped q = true then some q else none) = some p := h
    split at h'
    · rename_i hs
      cases h'
      exact ⟨rfl, hs⟩
    · cases h'
def gEqv (f : Bool → Bool) (x y : D) : Option D := (shp x).bind fun p => (shp y).map fun q => .bl (f (PyData.eqv p q))
theorem gEqv_inv {f : Bool → Bool} {x y d : D} (h : gEqv f x y = some d) : ∃ p q, shp x = some p ∧ shp y = some q ∧ d = .bl (f (PyData.eqv p q)) := by
  unfold gEqv at h
  cases h1 : shp x with
  | none => rw [h1] at h; cases h
  | some p =>
    cases h2 : shp y with
    | none => rw [h1, h2] at h; cases h
    | some q =>
      rw [h1, h2] at h
      cases h
      exact ⟨p, q, rfl, rfl, rfl⟩
abbrev gEq := gEqv id
abbrev gNe := gEqv not
theorem l_eq : LOp K (rEqD K) gEq := by
  intro F0 G F ρ rts H x y dx dy d Q c rx ry e k
  obtain ⟨p, q, h1, h2, rfl⟩ := gEqv_inv e
  obtain ⟨a1, b1⟩ := shp_inv h1
  obtain ⟨a2, b2⟩ := shp_inv h2
  exact ⟨p, q, rep_dp c.f _ _ _ rx a1, rep_dp c.f _ _ _ ry a2, b1, b2, k F _ H Ex.rfl' (c.push (rep_b _))⟩
theorem l_ne : LOp K (rNeD K) gNe := by
  intro F0 G F ρ rts H x y dx dy d Q c rx ry e k
  obtain ⟨p, q, h1, h2, rfl⟩ := gEqv_inv e
  obtain ⟨a1, b1⟩ := shp_inv h1
  obtain ⟨a2, b2⟩ := shp_inv h2
  exact ⟨p, q, rep_dp c.f _ _ _ rx a1, rep_dp c.f _ _ _ ry a2, b1, b2, k F _ H Ex.rfl' (c.push (rep_b _))⟩
/-- x in a list of data -/
def gInL (f : Bool → Bool) (x y : D) : Option D := (shp x).bind fun p => (shp y).bind fun q => match q with
  | .list ds => some (.bl (f (ds.any fun z => PyData.eqv z p)))
  | _ => none
theorem gInL_inv {f : Bool → Bool} {x y d : D} (h : gInL f x y = some d) : ∃ p ds, shp x = some p ∧ shp y = some (.list ds) ∧ d = .bl (f (ds.any fun z => PyData.eqv z p)) := by
  unfold gInL at h
  cases h1 : shp x with
  | none => rw [h1] at h; cases h
  | some p =>
    cases h2 : shp y with
    | none => rw [h1, h2] at h; cases h
    | some q =>
      rw [h1, h2] at h
      cases q with
      | list ds =>
        cases h
        exact ⟨p, ds, rfl, rfl, rfl⟩
      | _ => cases h
theorem l_inL : LOp K (rInD K) (gInL id) := by
  intro F0 G F ρ rts H x y dx dy d Q c rx ry e k
  obtain ⟨p, ds, h1, h2, rfl⟩ := gInL_inv e
  obtain ⟨a1, b1⟩ := shp_inv h1
  obtain ⟨a2, b2⟩ := shp_inv h2
  exact ⟨p, ds, rep_dp c.f _ _ _ rx a1, rep_dp c.f _ _ _ ry a2, b1, b2, k F _ H Ex.rfl' (c.push (rep_b _))⟩
theorem l_niL : LOp K (rNotInD K) (gInL not) := by
  intro F0 G F ρ rts H x y dx dy d Q c rx ry e k
  obtain ⟨p, ds, h1, h2, rfl⟩ := gInL_inv e
  obtain ⟨a1, b1⟩ := shp_inv h1
  obtain ⟨a2, b2⟩ := shp_inv h2
  exact ⟨p, ds, rep_dp c.f _ _ _ rx a1, rep_dp c.f _ _ _ ry a2, b1, b2, k F _ H Ex.rfl' (c.push (rep_b _))⟩
/-- is None -/
def gIsN (f : Bool → Bool) (x y : D) : Option D := match y with
  | .non => (match x with
    | .unb => none
    | .non => some (.bl (f true))
    | _ => some (.bl (f false)))
  | _ => none
theorem rep_non {d : D} {v : V} (r : Rep K ρ F d v) (h : d ≠ .unb) (h2 : d ≠ .non) : v ≠ .non := by
  intro z
  subst z
  cases d <;> unfold Rep at r <;> first | exact h rfl | exact h2 rfl | (obtain ⟨a, b, e, _⟩ := r; cases e; done) | (obtain ⟨a, b, c, e, _⟩ := r; cases e; done) | (exact r.elim) | (obtain ⟨a, _, e⟩ := r; cases e; done) | (cases r; done)
theorem l_isN (f : Bool → Bool) : LOp K (fun x y H Q => y = .non ∧ Q (.bl (f (decide (x = .non)))) H) (gIsN f) := by
  intro F0 G F ρ rts H x y dx dy d Q c rx ry e k
  unfold gIsN at e
  cases dy with
  | non =>
    refine ⟨by unfold Rep at ry; exact ry, ?_⟩
    cases dx with
    | unb => cases e
    | non =>
      cases e
      unfold Rep at rx
      subst rx
      exact k F _ H Ex.rfl' (c.push (rep_b _))
    | _ =>
      cases e
      have hn := rep_non rx (by intro z; cases z) (by intro z; cases z)
      rw [decide_eq_false hn]
      exact k F _ H Ex.rfl' (c.push (rep_b _))
  | _ => cases e
end

section
variable {X : Cx} {e a b c : Expr} {es : List Expr} {pos : Pos} {k : Nat}
section
variable {ca cb cc : C}
theorem hu64 (hr : Room k X.A) : X.A.units + 64 < cLine := hr.units
theorem po_eq (hr : Room k X.A) (ha : PV X a ca) (hb : PV X b cb) : PO' X (.Compare a [.Eq] [b] pos) (cBin gEq ca cb) := po_cmp (op_eqD hr.units) l_eq ha hb (nomark _)
theorem pb_eq (hr : Room k X.A) (ha : PV X a ca) (hb : PV X b cb) : PB X (.Compare a [.Eq] [b] pos) (cT (cBin gEq ca cb)) := pb_cmp (op_eqD hr.units) l_eq ha hb (nomark _)
theorem po_ne (hr : Room k X.A) (ha : PV X a ca) (hb : PV X b cb) : PO' X (.Compare a [.NotEq] [b] pos) (cBin gNe ca cb) := po_cmp (op_neD hr.units) l_ne ha hb (nomark _)
theorem pb_ne (hr : Room k X.A) (ha : PV X a ca) (hb : PV X b cb) : PB X (.Compare a [.NotEq] [b] pos) (cT (cBin gNe ca cb)) := pb_cmp (op_neD hr.units) l_ne ha hb (nomark _)
theorem po_lt (ha : PV X a ca) (hb : PV X b cb) : PO' X (.Compare a [.Lt] [b] pos) (cBin gLt ca cb) := po_cmp op_lt l_lt ha hb (nomark _)
theorem pb_lt (ha : PV X a ca) (hb : PV X b cb) : PB X (.Compare a [.Lt] [b] pos) (cT (cBin gLt ca cb)) := pb_cmp op_lt l_lt ha hb (nomark _)
theorem po_le (ha : PV X a ca) (hb : PV X b cb) : PO' X (.Compare a [.LtE] [b] pos) (cBin gLe ca cb) := po_cmp op_le l_le ha hb (nomark _)
theorem pb_le (ha : PV X a ca) (hb : PV X b cb) : PB X (.Compare a [.LtE] [b] pos) (cT (cBin gLe ca cb)) := pb_cmp op_le l_le ha hb (nomark _)
theorem po_gt (ha : PV X a ca) (hb : PV X b cb) : PO' X (.Compare a [.Gt] [b] pos) (cBin gGt ca cb) := po_cmp op_gt l_gt ha hb (nomark _)
theorem pb_gt (ha : PV X a ca) (hb : PV X b cb) : PB X (.Compare a [.Gt] [b] pos) (cT (cBin gGt ca cb)) := pb_cmp op_gt l_gt ha hb (nomark _)
theorem po_ge (ha : PV X a ca) (hb : PV X b cb) : PO' X (.Compare a [.GtE] [b] pos) (cBin gGe ca cb) := po_cmp op_ge l_ge ha hb (nomark _)
theorem pb_ge (ha : PV X a ca) (hb : PV X b cb) : PB X (.Compare a [.GtE] [b] pos) (cT (cBin gGe ca cb)) := pb_cmp op_ge l_ge ha hb (nomark _)
theorem po_isN (ha : PV X a ca) (hb : PV X b cb) : PO' X (.Compare a [.Is] [b] pos) (cBin (gIsN id) ca cb) := po_cmp op_isN (l_isN id) ha hb (nomark _)
theorem pb_isN (ha : PV X a ca) (hb : PV X b cb) : PB X (.Compare a [.Is] [b] pos) (cT (cBin (gIsN id) ca cb)) := pb_cmp op_isN (l_isN id) ha hb (nomark _)
theorem po_ntN (ha : PV X a ca) (hb : PV X b cb) : PO' X (.Compare a [.IsNot] [b] pos) (cBin (gIsN not) ca cb) := po_cmp op_notN (l_isN not) ha hb (nomark _)
theorem pb_ntN (ha : PV X a ca) (hb : PV X b cb) : PB X (.Compare a [.IsNot] [b] pos) (cT (cBin (gIsN not) ca cb)) := pb_cmp op_notN (l_isN not) ha hb (nomark _)
/-- in a list of data: the right side is no display of constants -/
theorem po_inL (hu : X.A.units + 65 < cLine) (ha : PV X a ca) (hb : PV X b cb) (hm : behindInMarks .In b = false := by rfl) : PO' X (.Compare a [.In] [b] pos) (cBin (gInL id) ca cb) := po_cmp (op_inD hu) l_inL ha hb hm
theorem pb_inL (hu : X.A.units + 65 < cLine) (ha : PV X a ca) (hb : PV X b cb) (hm : behindInMarks .In b = false := by rfl) : PB X (.Compare a [.In] [b] pos) (cT (cBin (gInL id) ca cb)) := pb_cmp (op_inD hu) l_inL ha hb hm
theorem pb_niL (hu : X.A.units + 65 < cLine) (ha : PV X a ca) (hb : PV X b cb) (hm : behindInMarks .NotIn b = false := by rfl) : PB X (.Compare a [.NotIn] [b] pos) (cT (cBin (gInL not) ca cb)) := pb_cmp (op_notInD hu) l_niL ha hb hm

/-! ### and, or, not, chains, if-expressions -/
def cAndV (ca cb : C) : C := fun s => match ca s with
  | some (.bl true, s1) => (match cb s1 with
    | some (.bl x, s2) => some (.bl x, s2)
    | _ => none)
  | some (.bl false, s1) => some (.bl false, s1)
  | _ => none
def cOrV (ca cb : C) : C := fun s => match ca s with
  | some (.bl false, s1) => (match cb s1 with
    | some (.bl x, s2) => some (.bl x, s2)
    | _ => none)
  | some (.bl true, s1) => some (.bl true, s1)
  | _ => none
def cNotV (ca : C) : C := fun s => match ca s with
  | some (.bl x, s1) => some (.bl (!x), s1)
  | _ => none
variable {rest : List Expr}
theorem pv_one {op} (h : PV X a ca) : PV X (.BoolOp op [a] pos) ca := pe_one h
theorem pv_and (ha : PV X a ca) (hb : PV X (.BoolOp .And (b :: rest) pos) cb) : PV X (.BoolOp .And (a :: b :: rest) pos) (cAndV ca cb) :=
  pe_w (pe_and ha hb) fun σ H Q ⟨F0, G, F, ρ, vs, s, d, s', m, hc, k⟩ => by
    unfold cAndV at hc
    split at hc
    · rename_i s1 h1
      split at hc
      · rename_i x s2 h2
        cases hc
        refine ⟨F0, G, F, ρ, vs, s, _, s1, m, h1, fun F1 ρ1 vs1 v H1 e1 p1 m1 r1 => ⟨true, r1.ofB, ?_⟩⟩
        rw [if_pos rfl]
        exact ⟨F0, G, F1, ρ1, vs1, s1, _, _, m1, h2, fun F2 ρ2 vs2 u H2 e2 p2 m2 r2 => k F2 ρ2 vs2 u H2 (e1.tr e2) (p1.trans p2) m2 r2⟩
      · cases hc
    · rename_i s1 h1
      cases hc
      refine ⟨F0, G, F, ρ, vs, s, _, _, m, h1, fun F1 ρ1 vs1 v H1 e1 p1 m1 r1 => ⟨false, r1.ofB, ?_⟩⟩
      rw [if_neg (by decide)]
      exact k F1 ρ1 vs1 _ H1 e1 p1 m1 (rep_b _)
    · cases hc
theorem pv_or (ha : PV X a ca) (hb : PV X (.BoolOp .Or (b :: rest) pos) cb) : PV X (.BoolOp .Or (a :: b :: rest) pos) (cOrV ca cb) :=
  pe_w (pe_or ha hb) fun σ H Q ⟨F0, G, F, ρ, vs, s, d, s', m, hc, k⟩ => by
    unfold cOrV at hc
    split at hc
    · rename_i s1 h1
      split at hc
      · rename_i x s2 h2
        cases hc
        refine ⟨F0, G, F, ρ, vs, s, _, s1, m, h1, fun F1 ρ1 vs1 v H1 e1 p1 m1 r1 => ⟨false, r1.ofB, ?_⟩⟩
        rw [if_neg (by decide)]
        exact ⟨F0, G, F1, ρ1, vs1, s1, _, _, m1, h2, fun F2 ρ2 vs2 u H2 e2 p2 m2 r2 => k F2 ρ2 vs2 u H2 (e1.tr e2) (p1.trans p2) m2 r2⟩
      · cases hc
    · rename_i s1 h1
      cases hc
      refine ⟨F0, G, F, ρ, vs, s, _, _, m, h1, fun F1 ρ1 vs1 v H1 e1 p1 m1 r1 => ⟨true, r1.ofB, ?_⟩⟩
      rw [if_pos rfl]
      exact k F1 ρ1 vs1 _ H1 e1 p1 m1 (rep_b _)
    · cases hc
theorem pv_not (ha : PV X a ca) : PV X (.UnaryOp .Not a pos) (cNotV ca) :=
  pe_w (pe_not ha) fun σ H Q ⟨F0, G, F, ρ, vs, s, d, s', m, hc, k⟩ => by
    unfold cNotV at hc
    split at hc
    · rename_i x s1 h1
      cases hc
      exact ⟨F0, G, F, ρ, vs, s, _, _, m, h1, fun F1 ρ1 vs1 v H1 e1 p1 m1 r1 => ⟨x, r1.ofB, k F1 ρ1 vs1 _ H1 e1 p1 m1 (rep_b _)⟩⟩
    · cases hc
def cNeg (ca : C) : C := fun s => match ca s with
  | some (.int x, s1) => some (.int (-x), s1)
  | _ => none
theorem pv_neg (ha : PV X a ca) : PV X (.UnaryOp .USub a pos) (cNeg ca) :=
  pe_w (pe_un un_neg ha) fun σ H Q ⟨F0, G, F, ρ, vs, s, d, s', m, hc, k⟩ => by
    unfold cNeg at hc
    split at hc
    · rename_i x s1 h1
      cases hc
      exact ⟨F0, G, F, ρ, vs, s, _, _, m, h1, fun F1 ρ1 vs1 v H1 e1 p1 m1 r1 => ⟨x, r1.ofI, k F1 ρ1 vs1 _ H1 e1 p1 m1 (rep_i _)⟩⟩
    · cases hc
end
/-! tests -/
abbrev CB := S → Option (Bool × S)
abbrev PBW (X : Cx) (e : Expr) (c : CB) : Prop := PW X e (tT X.K c)
def bAnd (a b : CB) : CB := fun s => match a s with
  | some (true, s1) => b s1
  | some (false, s1) => some (false, s1)
  | none => none
def bOr (a b : CB) : CB := fun s => match a s with
  | some (false, s1) => b s1
  | some (true, s1) => some (true, s1)
  | none => none
def bNot (a : CB) : CB := fun s => match a s with
  | some (x, s1) => some (!x, s1)
  | none => none
section
variable {ca cb : CB} {rest : List Expr}
theorem pb_w (h : PBW X a ca) : PB X a ca := h.pt
theorem pw_a1 (h : PB X a ca) : PBW X (.BoolOp .And [a] pos) ca := pw_and1 h
theorem pw_o1 (h : PB X a ca) : PBW X (.BoolOp .Or [a] pos) ca := pw_or1 h
theorem pw_an (ha : PB X a ca) (hb : PBW X (.BoolOp .And (b :: rest) pos) cb) : PBW X (.BoolOp .And (a :: b :: rest) pos) (bAnd ca cb) :=
  pw_w (pw_and ha hb) fun σ H Q ⟨F0, G, F, ρ, vs, s, d, s', m, hc, k⟩ => by
    unfold bAnd at hc
    split at hc
    · rename_i s1 h1
      refine ⟨F0, G, F, ρ, vs, s, _, s1, m, h1, fun F1 ρ1 vs1 H1 e1 p1 m1 => ?_⟩
      dsimp only
      rw [if_pos rfl]
      exact ⟨F0, G, F1, ρ1, vs1, s1, _, _, m1, hc, fun F2 ρ2 vs2 H2 e2 p2 m2 => k F2 ρ2 vs2 H2 (e1.tr e2) (p1.trans p2) m2⟩
    · rename_i s1 h1
      cases hc
      refine ⟨F0, G, F, ρ, vs, s, _, _, m, h1, fun F1 ρ1 vs1 H1 e1 p1 m1 => ?_⟩
      dsimp only
      rw [if_neg (by decide)]
      exact k F1 ρ1 vs1 H1 e1 p1 m1
    · cases hc
theorem pw_on (ha : PB X a ca) (hb : PBW X (.BoolOp .Or (b :: rest) pos) cb) : PBW X (.BoolOp .Or (a :: b :: rest) pos) (bOr ca cb) :=
  pw_w (pw_or ha hb) fun σ H Q ⟨F0, G, F, ρ, vs, s, d, s', m, hc, k⟩ => by
    unfold bOr at hc
    split at hc
    · rename_i s1 h1
      refine ⟨F0, G, F, ρ, vs, s, _, s1, m, h1, fun F1 ρ1 vs1 H1 e1 p1 m1 => ?_⟩
      dsimp only
      rw [if_neg (by decide)]
      exact ⟨F0, G, F1, ρ1, vs1, s1, _, _, m1, hc, fun F2 ρ2 vs2 H2 e2 p2 m2 => k F2 ρ2 vs2 H2 (e1.tr e2) (p1.trans p2) m2⟩
    · rename_i s1 h1
      cases hc
      refine ⟨F0, G, F, ρ, vs, s, _, _, m, h1, fun F1 ρ1 vs1 H1 e1 p1 m1 => ?_⟩
      dsimp only
      rw [if_pos rfl]
      exact k F1 ρ1 vs1 H1 e1 p1 m1
    · cases hc
theorem pb_not (ha : PB X a ca) : PB X (.UnaryOp .Not a pos) (bNot ca) :=
  pt_w (pt_not ha) fun σ H Q ⟨F0, G, F, ρ, vs, s, d, s', m, hc, k⟩ => by
    unfold bNot at hc
    split at hc
    · rename_i x s1 h1
      cases hc
      exact ⟨F0, G, F, ρ, vs, s, _, _, m, h1, fun F1 ρ1 vs1 H1 e1 p1 m1 => k F1 ρ1 vs1 H1 e1 p1 m1⟩
    · cases hc
end
section
variable {cc : CB} {ca cb : C}
def cIf (cc : CB) (ca cb : C) : C := fun s => match cc s with
  | some (true, s1) => ca s1
  | some (false, s1) => cb s1
  | none => none
theorem pv_if (hc : PB X c cc) (ha : PV X a ca) (hb : PV X b cb) : PV X (.IfExp c a b pos) (cIf cc ca cb) :=
  pe_w (pe_ifExp hc ha hb) fun σ H Q ⟨F0, G, F, ρ, vs, s, d, s', m, hc, k⟩ => by
    unfold cIf at hc
    split at hc
    · rename_i s1 h1
      refine ⟨F0, G, F, ρ, vs, s, _, s1, m, h1, fun F1 ρ1 vs1 H1 e1 p1 m1 => ?_⟩
      dsimp only
      rw [if_pos rfl]
      exact ⟨F0, G, F1, ρ1, vs1, s1, _, _, m1, hc, fun F2 ρ2 vs2 v H2 e2 p2 m2 r2 => k F2 ρ2 vs2 v H2 (e1.tr e2) (p1.trans p2) m2 r2⟩
    · rename_i s1 h1
      refine ⟨F0, G, F, ρ, vs, s, _, s1, m, h1, fun F1 ρ1 vs1 H1 e1 p1 m1 => ?_⟩
      dsimp only
      rw [if_neg (by decide)]
      exact ⟨F0, G, F1, ρ1, vs1, s1, _, _, m1, hc, fun F2 ρ2 vs2 v H2 e2 p2 m2 r2 => k F2 ρ2 vs2 v H2 (e1.tr e2) (p1.trans p2) m2 r2⟩
    · cases hc
end
/-! chains of two -/
section
variable {ca cb cc : C}
def cChn (g g' : D → D → Option D) (ca cb cc : C) : C := fun s => match ca s with
  | some (da, s1) => (match cb s1 with
    | some (db, s2) => (match g da db with
      | some (.bl true) => (match cc s2 with
        | some (dc, s3) => (g' db dc).map fun d => (d, s3)
        | none => none)
      | some (.bl false) => some (.bl false, s2)
      | _ => none)
    | none => none)
  | none => none
theorem t3_ok {r r' : R2} {g g' : D → D → Option D} (l : LOp X.K r g) (l' : LOp X.K r' g') {σ : L2.St} {H : Hp} {Q : VK} (h : tO X.K (cChn g g' ca cb cc) σ H Q) : tChain r r' (tV X.K ca) (tV X.K cb) (tV X.K cc) σ H Q := by
  obtain ⟨F0, G, F, ρ, vs, s, d, s', m, hc, k⟩ := h
  unfold cChn at hc
  split at hc
  · rename_i da s1 h1
    refine ⟨F0, G, F, ρ, vs, s, da, s1, m, h1, fun F1 ρ1 vs1 v H1 e1 p1 m1 r1 => ?_⟩
    split at hc
    · rename_i db s2 h2
      refine ⟨F0, G, F1, ρ1, vs1, s1, db, s2, m1, h2, fun F2 ρ2 vs2 u H2 e2 p2 m2 r2 => ?_⟩
      split at hc
      · rename_i h3
        refine l F0 G F2 ρ2 _ H2 v u da db _ _ m2.core (r1.mono e2 p2) r2 h3 fun F3 w H3 e3 c3 => ?_
        obtain ⟨F3', e3', c3', r3⟩ := Core.freeze c3
        unfold frz at r3
        refine ⟨true, r3.ofB, ?_⟩
        rw [if_pos rfl]
        split at hc
        · rename_i dc s3 h4
          cases h5 : g' db dc with
          | none => rw [h5] at hc; cases hc
          | some d5 =>
            rw [h5] at hc
            cases hc
            refine ⟨F0, G, F3', ρ2, vs2, s2, dc, _, m2.core_of (tmp' := []) c3', h4, fun F4 ρ4 vs4 z H4 e4 p4 m4 r4 => ?_⟩
            refine l' F0 G F4 ρ4 _ H4 u z db dc _ _ m4.core (r2.mono (e3.tr (e3'.tr e4)) p4) r4 h5 fun F5 y H5 e5 c5 => ?_
            exact k F5 ρ4 vs4 y H5 (e1.tr (e2.tr (e3.tr (e3'.tr (e4.tr e5))))) (p1.trans (p2.trans p4)) (m4.core_of (tmp' := [(_, y)]) c5)
        · cases hc
      · rename_i h3
        cases hc
        refine l F0 G F2 ρ2 _ H2 v u da db _ _ m2.core (r1.mono e2 p2) r2 h3 fun F3 w H3 e3 c3 => ?_
        obtain ⟨F3', e3', c3', r3⟩ := Core.freeze c3
        unfold frz at r3
        refine ⟨false, r3.ofB, ?_⟩
        rw [if_neg (by decide)]
        exact k F3' ρ2 vs2 _ H3 (e1.tr (e2.tr (e3.tr e3'))) (p1.trans p2) (m2.core_of (tmp' := [(_, _)]) (c3'.push (rep_b _)))
      · cases hc
    · cases hc
  · cases hc
theorem po_chn {op op' : CmpOp} {r r' : R2} {g g' : D → D → Option D} (ho : OpR X (compareOp op) r) (ho' : OpR X (compareOp op') r') (l : LOp X.K r g) (l' : LOp X.K r' g') (ha : PV X a ca) (hb : PV X b cb) (hc : PV X c cc)
    (hm : lastMarks [op, op'] [b, c] = false := by with_unfolding_all rfl) : PO' X (.Compare a [op, op'] [b, c] pos) (cChn g g' ca cb cc) := pe_w (pe_chain ho ho' ha hb hc hm) fun σ H Q h => t3_ok l l' h
theorem pb_chn {op op' : CmpOp} {r r' : R2} {g g' : D → D → Option D} (ho : OpR X (compareOp op) r) (ho' : OpR X (compareOp op') r') (l : LOp X.K r g) (l' : LOp X.K r' g') (ha : PV X a ca) (hb : PV X b cb) (hc : PV X c cc)
    (hm : lastMarks [op, op'] [b, c] = false := by with_unfolding_all rfl) : PB X (.Compare a [op, op'] [b, c] pos) (cT (cChn g g' ca cb cc)) :=
  pt_w (pt_chain ho ho' ha hb hc hm) fun σ H Q ⟨F0, G, F, ρ, vs, s, d, s', m, hc, k⟩ => t3_ok l l'
    ⟨F0, G, F, ρ, vs, s, .bl d, s', m, cT_inv hc, fun F' ρ' vs' v H' e p m' => by
      obtain ⟨F'', e2, m2, r⟩ := m'.freeze
      unfold frz at r
      exact ⟨d, r.ofB, k F'' ρ' vs' H' (e.tr e2) p m2⟩⟩
end
end
end Fr

set_option maxRecDepth 100000
namespace Fr
open PySem PySem.Spec PyProof.Rows L2

section
variable {X : Cx} {e a b : Expr} {es : List Expr} {pos p2 : Pos}

/-! ### displays -/
def cTup (cs : S → Option (List D × S)) : C := fun s => match cs s with
  | some (ds, s') => if ds.length ≤ line then some (.tup ds, s') else none
  | none => none
def cLst (cs : S → Option (List D × S)) : C := fun s => match cs s with
  | some (ds, s') => if ds.length ≤ line then some (.own ds, s') else none
  | none => none
theorem po_tup {x1} {cs : S → Option (List D × S)} (h : PAr X es cs) : PO' X (.Tuple es x1 pos) (cTup cs) := pe_w (pe_tup h) fun σ H Q ⟨F0, G, F, ρ, vs, s, d, s', m, hc, k⟩ => by
  unfold cTup at hc
  split at hc
  · rename_i ds s1 h1
    split at hc
    · rename_i hz
      cases hc
      refine ⟨F0, G, F, ρ, vs, s, ds, _, m, h1, fun F1 ρ1 vs1 us H1 e1 p1 m1 r1 => ⟨line_ok (by rw [← r1.len]; exact hz), fun p hp => ?_⟩⟩
      obtain ⟨F2, e2, c2⟩ := m1.core.newT r1 hp
      exact k F2 ρ1 vs1 _ _ (e1.tr e2) p1 (m1.core_of (tmp' := [(_, _)]) c2)
    · cases hc
  · cases hc
theorem po_lst {cs : S → Option (List D × S)} (h : PAr X es cs) : PO' X (.List es pos) (cLst cs) := pe_w (pe_lst h) fun σ H Q ⟨F0, G, F, ρ, vs, s, d, s', m, hc, k⟩ => by
  unfold cLst at hc
  split at hc
  · rename_i ds s1 h1
    split at hc
    · rename_i hz
      cases hc
      refine ⟨F0, G, F, ρ, vs, s, ds, _, m, h1, fun F1 ρ1 vs1 us H1 e1 p1 m1 r1 => ⟨line_ok (by rw [← r1.len]; exact hz), fun p hp => ?_⟩⟩
      exact k F1 ρ1 vs1 _ _ e1 p1 (m1.core_of (tmp' := [(_, _)]) (m1.core.newL r1 hp))
    · cases hc
  · cases hc

/-! ### subscripts -/
section
variable {K : PySem.W.Frag}
theorem atI_rep {ρ : List Addr} {F : Hp} {ds : List D} {us : List V} {i : Int} {d : D} (r : RepL K ρ F ds us) (h : atI ds i = some d) : ∃ u, atI us i = some u ∧ Rep K ρ F d u := by
  unfold atI at h ⊢
  rw [← r.len]
  cases e : ixN ds.length i with
  | none => rw [e] at h; cases h
  | some j =>
    rw [e] at h
    exact r.get h
def gIx : D → D → Option D
  | .lst ds, .int i => atI ds i
  | .tup ds, .int i => atI ds i
  | .scr ds, .int i => atI ds i
  | _, _ => none
abbrev rIx2 (K : PySem.W.Frag) : R2 := fun x y H Q => rIxL K x y H Q ∨ rIxT K x y H Q
theorem l_ix : LOp K (rIx2 K) gIx := by
  intro F0 G F ρ rts H x y dx dy d Q c rx ry e k
  unfold gIx at e
  split at e
  · rename_i ds i
    obtain ⟨a, us, rfl, ha, ra⟩ := rx.ls
    obtain ⟨u, hu, ru⟩ := atI_rep ra e
    exact .inl ⟨a, us, i, u, rfl, ry.ofI, .of (c.f _ _ ha), hu, k F u H Ex.rfl' (c.push ru)⟩
  · rename_i ds i
    obtain ⟨a, us, rfl, ha, ra⟩ := rx.tp
    obtain ⟨u, hu, ru⟩ := atI_rep ra e
    exact .inr ⟨a, us, i, u, rfl, ry.ofI, Ex.st c.f ha, hu, k F u H Ex.rfl' (c.push ru)⟩
  · rename_i ds i
    obtain ⟨a, us, rfl, ha, ra⟩ := rx.sc
    obtain ⟨u, hu, ru⟩ := atI_rep ra e
    exact .inl ⟨a, us, i, u, rfl, ry.ofI, Ex.sl c.f ha, hu, k F u H Ex.rfl' (c.push ru)⟩
  · cases e
end
theorem po_ix {ca cb : C} (ha : PV X a ca) (hb : PV X b cb) (hs : PlainIx b := by exact fun _ _ => rfl) : PO' X (.Subscript a b pos) (cBin gIx ca cb) :=
  pe_w (pe_ix (ix_list.or ix_tup) ha hb hs) fun σ H Q h => t2_ok l_ix h
theorem Sim.named {K : PySem.W.Frag} {F0 G F H : Hp} {ρ : List Addr} {s : S} {σ : L2.St} {vs : List V} {i : Nat} {r : R} {tmp : List (D × V)} (m : Sim K F0 G F ρ tmp s σ vs H) (h : plc s i = some r) : ∃ v, σ[i]? = some (some v) := by
  unfold plc at h
  cases he : s.env[i]? with
  | none => rw [he] at h; cases h
  | some d =>
    have hi : i < s.env.length := (List.getElem?_eq_some_iff.mp he).1
    obtain ⟨v, hv⟩ : ∃ v, vs[i]? = some v := ⟨_, List.getElem?_eq_getElem (by rw [m.lv]; exact hi)⟩
    refine ⟨v, m.sl i d v he hv ?_⟩
    rintro rfl
    rw [he] at h
    cases h
/-- x[e], x a name: what it holds stays its own -/
def cIx (i : Nat) (ce : C) : C := fun s => match plc s i with
  | none => none
  | some _ => match ce s with
    | some (.int k, s1) => (match plc s1 i with
      | none => none
      | some r => match rget s1 r with
        | some (.own ds) => (match atI ds k with
          | some d => if frzn d = true then some (d, s1) else none
          | none => none)
        | some (.lst ds) => (atI ds k).map fun d => (d, s1)
        | some (.tup ds) => (atI ds k).map fun d => (d, s1)
        | some (.scr ds) => (atI ds k).map fun d => (d, s1)
        | _ => none)
    | _ => none
theorem atI_of {α β : Type} {xs : List α} {ys : List β} (hl : xs.length = ys.length) {i : Int} {x : α} (h : atI xs i = some x) : ∃ j : Nat, xs[j]? = some x ∧ ∀ y, ys[j]? = some y → atI ys i = some y := by
  unfold atI at h ⊢
  rw [← hl]
  cases e : ixN xs.length i with
  | none => rw [e] at h; cases h
  | some j =>
    rw [e] at h
    exact ⟨j, h, fun y hy => hy⟩
theorem po_ixP {i : Nat} {x : Str} {p : Pos} {ce : C} (hx : PE X (.Name x p) (tVar i)) (hb : PV X b ce) (hs : PlainIx b := by exact fun _ _ => rfl) : PO' X (.Subscript (.Name x p) b pos) (cIx i ce) :=
  pe_w (pe_ix (ix_list.or ix_tup) hx hb hs) fun σ H Q ⟨F0, G, F, ρ, vs, s, d, s', m, hc, k⟩ => by
    unfold cIx at hc
    cases h0 : plc s i with
    | none => rw [h0] at hc; cases hc
    | some r0 =>
      rw [h0] at hc
      dsimp only at hc
      obtain ⟨v0, hv0⟩ := m.named h0
      refine ⟨v0, hv0, ?_⟩
      cases h1 : ce s with
      | none => rw [h1] at hc; cases hc
      | some q =>
        obtain ⟨di, s1⟩ := q
        rw [h1] at hc
        cases di with
        | int kk =>
          dsimp only at hc
          refine ⟨F0, G, F, ρ, vs, s, _, s1, m, h1, fun F1 ρ1 vs1 v H1 e1 p1 m1 r1 => ?_⟩
          have er := r1.ofI
          subst er
          cases h2 : plc s1 i with
          | none => rw [h2] at hc; cases hc
          | some r =>
            rw [h2] at hc
            dsimp only at hc
            cases h3 : rget s1 r with
            | none => rw [h3] at hc; cases hc
            | some dd =>
              rw [h3] at hc
              obtain ⟨v1, rest, hv1, c, back⟩ := m1.focus h2 h3
              rw [hv0] at hv1
              cases hv1
              cases dd with
              | own ds =>
                dsimp only at hc
                cases h4 : atI ds kk with
                | none => rw [h4] at hc; cases hc
                | some dj =>
                  rw [h4] at hc
                  dsimp only at hc
                  split at hc
                  · rename_i hf
                    cases hc
                    obtain ⟨aa, us, e2, ha, hl⟩ := c.headL
                    subst e2
                    obtain ⟨j, hj, hj2⟩ := atI_of hl h4
                    obtain ⟨u, hu, ru⟩ := c.item ha hj hf
                    exact .inl ⟨aa, us, kk, u, rfl, rfl, .of ha, hj2 u hu, k F1 ρ1 vs1 u H1 e1 p1 (m1.push ru)⟩
                  · cases hc
              | lst ds =>
                dsimp only at hc
                cases h4 : atI ds kk with
                | none => rw [h4] at hc; cases hc
                | some dj =>
                  rw [h4] at hc
                  cases hc
                  obtain ⟨fp, ow, _⟩ := c.own
                  obtain ⟨f1, f2, _, q, _⟩ := ow.inv
                  obtain ⟨aa, us, rfl, ha, ra⟩ := (q.rep rfl).ls
                  obtain ⟨u, hu, ru⟩ := atI_rep ra h4
                  exact .inl ⟨aa, us, kk, u, rfl, rfl, .of (c.f _ _ ha), hu, k F1 ρ1 vs1 u H1 e1 p1 (m1.push ru)⟩
              | tup ds =>
                dsimp only at hc
                cases h4 : atI ds kk with
                | none => rw [h4] at hc; cases hc
                | some dj =>
                  rw [h4] at hc
                  cases hc
                  obtain ⟨fp, ow, _⟩ := c.own
                  obtain ⟨f1, f2, _, q, _⟩ := ow.inv
                  obtain ⟨aa, us, rfl, ha, ra⟩ := (q.rep rfl).tp
                  obtain ⟨u, hu, ru⟩ := atI_rep ra h4
                  exact .inr ⟨aa, us, kk, u, rfl, rfl, Ex.st c.f ha, hu, k F1 ρ1 vs1 u H1 e1 p1 (m1.push ru)⟩
              | scr ds =>
                dsimp only at hc
                cases h4 : atI ds kk with
                | none => rw [h4] at hc; cases hc
                | some dj =>
                  rw [h4] at hc
                  cases hc
                  obtain ⟨fp, ow, _⟩ := c.own
                  obtain ⟨f1, f2, _, q, _⟩ := ow.inv
                  obtain ⟨aa, us, rfl, ha, ra⟩ := (q.rep rfl).sc
                  obtain ⟨u, hu, ru⟩ := atI_rep ra h4
                  exact .inl ⟨aa, us, kk, u, rfl, rfl, Ex.sl c.f ha, hu, k F1 ρ1 vs1 u H1 e1 p1 (m1.push ru)⟩
              | _ => cases hc
        | _ => cases hc

/-! ### slices -/
def cut {α : Type} (xs : List α) (lo hi : Option Int) : List α := (xs.drop (HT.sIx xs.length 0 lo)).take (HT.sIx xs.length xs.length hi - HT.sIx xs.length 0 lo)
def gSl (d : D) (lo hi : Option Int) : Option D := match d with
  | .lst ds => some (.own (cut ds lo hi))
  | .scr ds => some (.own (cut ds lo hi))
  | .tup ds => some (.tup (cut ds lo hi))
  | _ => none
def cPart (c : C) : S → Option (Option Int × S) := fun s => match c s with
  | some (.int i, s') => some (some i, s')
  | _ => none
def cNoP : S → Option (Option Int × S) := fun s => some (none, s)
def cSl (c : C) (lo hi : S → Option (Option Int × S)) : C := fun s => match c s with
  | some (d, s1) => (match lo s1 with
    | some (l, s2) => (match hi s2 with
      | some (h, s3) => (gSl d l h).map fun x => (x, s3)
      | none => none)
    | none => none)
  | none => none
def tPt (K : PySem.W.Frag) (c : S → Option (Option Int × S)) : TO := fun σ H Q => ∃ F0 G F ρ vs s o s', Sim K F0 G F ρ [] s σ vs H ∧ c s = some (o, s') ∧
  ∀ F' ρ' vs' H', Ex F F' → ρ <+: ρ' → Sim K F0 G F' ρ' [] s' σ vs' H' → Q o H'
theorem po_w {t t' : TO} {e : Option Expr} (h : L2.PO X e t) (w : ∀ σ H Q, t' σ H Q → t σ H Q) : L2.PO X e t' := ⟨fun pins s σ H Q I q => h.run pins s σ H Q I (w σ H Q q)⟩
theorem pp_no : L2.PO X none (tPt X.K cNoP) := po_w po_none fun σ H Q ⟨F0, G, F, ρ, vs, s, d, s', m, hc, k⟩ => by
  cases hc
  exact k F ρ vs H Ex.rfl' (List.prefix_refl _) m
theorem pp_so {c : C} (h : PV X e c) : L2.PO X (some e) (tPt X.K (cPart c)) := po_w (po_some h) fun σ H Q ⟨F0, G, F, ρ, vs, s, d, s', m, hc, k⟩ => by
  unfold cPart at hc
  split at hc
  · rename_i i s1 h1
    cases hc
    exact ⟨F0, G, F, ρ, vs, s, _, _, m, h1, fun F1 ρ1 vs1 v H1 e1 p1 m1 r1 => ⟨i, r1.ofI, k F1 ρ1 vs1 H1 e1 p1 m1⟩⟩
  · cases hc
theorem cut_rep {K : PySem.W.Frag} {ρ : List Addr} {F : Hp} {ds : List D} {us : List V} {lo hi : Option Int} (r : RepL K ρ F ds us) : RepL K ρ F (cut ds lo hi) (cutV us lo hi) := by
  unfold cut cutV
  rw [r.len]
  exact (r.drop _).take _
theorem po_sl {lo hi : Option Expr} {c : C} {cl ch : S → Option (Option Int × S)} (h : PV X e c) (hl : L2.PO X lo (tPt X.K cl)) (hh : L2.PO X hi (tPt X.K ch)) : PO' X (.Subscript e (.Slice lo hi none p2) pos) (cSl c cl ch) := by
  have both : SlR X (fun x lo hi H Q => rSlL X.K x lo hi H Q ∨ rSlA X.K x lo hi H Q) := sl_list.or sl_tupA
  refine pe_w (pe_slice both h hl hh) fun σ H Q ⟨F0, G, F, ρ, vs, s, d, s', m, hc, k⟩ => ?_
  unfold cSl at hc
  split at hc
  · rename_i d1 s1 h1
    refine ⟨F0, G, F, ρ, vs, s, d1, s1, m, h1, fun F1 ρ1 vs1 v H1 e1 p1 m1 r1 => ?_⟩
    split at hc
    · rename_i l s2 h2
      refine ⟨F0, G, F1, ρ1, vs1, s1, l, s2, m1, h2, fun F2 ρ2 vs2 H2 e2 p2 m2 => ?_⟩
      split at hc
      · rename_i hh s3 h3
        refine ⟨F0, G, F2, ρ2, vs2, s2, hh, s3, m2, h3, fun F3 ρ3 vs3 H3 e3 p3 m3 => ?_⟩
        have r3 := r1.mono (e2.tr e3) (p2.trans p3)
        have ee := e1.tr (e2.tr e3)
        have pp := p1.trans (p2.trans p3)
        unfold gSl at hc
        cases d1 with
        | lst ds =>
          cases hc
          obtain ⟨a, us, rfl, ha, ra⟩ := r3.ls
          refine .inl ⟨a, us, rfl, .of (m3.core.f _ _ ha), fun p hp => ?_⟩
          exact k F3 ρ3 vs3 _ _ ee pp (m3.core_of (tmp' := [(_, _)]) (m3.core.newL (cut_rep ra) hp))
        | scr ds =>
          cases hc
          obtain ⟨a, us, rfl, ha, ra⟩ := r3.sc
          refine .inl ⟨a, us, rfl, Ex.sl m3.core.f ha, fun p hp => ?_⟩
          exact k F3 ρ3 vs3 _ _ ee pp (m3.core_of (tmp' := [(_, _)]) (m3.core.newL (cut_rep ra) hp))
        | tup ds =>
          cases hc
          obtain ⟨a, us, ea, ha, ra⟩ := r3.tp
          subst ea
          refine .inr ⟨a, us, rfl, Ex.st m3.core.f ha, fun hw => ?_, fun _ p hp => ?_⟩
          · have e0 : cut ds l hh = ds := by
              unfold cut
              rw [ra.len, hw.1, hw.2, List.drop_zero, Nat.sub_zero, ← ra.len, List.take_length]
            rw [e0] at k
            exact k F3 ρ3 vs3 _ _ ee pp (m3.push r3)
          · obtain ⟨F4, e4, c4⟩ := m3.core.newT (cut_rep (lo := l) (hi := hh) ra) hp
            exact k F4 ρ3 vs3 _ _ (ee.tr e4) pp (m3.core_of (tmp' := [(_, _)]) c4)
        | _ => cases hc
      · cases hc
    · cases hc
  · cases hc
/-- xs[::-1] of a list -/
def gRev : D → Option D
  | .lst ds => some (.own ds.reverse)
  | .scr ds => some (.own ds.reverse)
  | _ => none
def cUn (g : D → Option D) (c : C) : C := fun s => match c s with
  | some (d, s1) => (g d).map fun x => (x, s1)
  | none => none
theorem cUn_inv {g : D → Option D} {c : C} {s s' : S} {d : D} (h : cUn g c s = some (d, s')) : ∃ d1, c s = some (d1, s') ∧ g d1 = some d := by
  unfold cUn at h
  split at h
  · rename_i d1 s1 h1
    cases h2 : g d1 with
    | none => rw [h2] at h; cases h
    | some x =>
      rw [h2] at h
      cases h
      exact ⟨d1, h1, h2⟩
  · cases h
theorem po_rev {k : Nat} {p1 p3 : Pos} {c : C} (h : PV X e c) : PO' X (.Subscript e (.Slice none none (some (.UnaryOp .USub (.Constant (.int 1) k p1) p2)) p3) pos) (cUn gRev c) :=
  pe_w (pe_revL h) fun σ H Q ⟨F0, G, F, ρ, vs, s, d, s', m, hc, k⟩ => by
    obtain ⟨d1, h1, h2⟩ := cUn_inv hc
    refine ⟨F0, G, F, ρ, vs, s, d1, s', m, h1, fun F1 ρ1 vs1 v H1 e1 p1 m1 r1 => ?_⟩
    unfold gRev at h2
    split at h2
    · cases h2
      obtain ⟨a, us, rfl, ha, ra⟩ := r1.ls
      exact ⟨a, us, rfl, .of (m1.core.f _ _ ha), fun p hp => k F1 ρ1 vs1 _ _ e1 p1 (m1.core_of (tmp' := [(_, _)]) (m1.core.newL ra.rev hp))⟩
    · cases h2
      obtain ⟨a, us, rfl, ha, ra⟩ := r1.sc
      exact ⟨a, us, rfl, Ex.sl m1.core.f ha, fun p hp => k F1 ρ1 vs1 _ _ e1 p1 (m1.core_of (tmp' := [(_, _)]) (m1.core.newL ra.rev hp))⟩
    · cases h2

/-! ### attributes -/
def atF (fs : List Str) (xs : List D) (f : Str) : Option D := match fs, xs with
  | g :: fs, x :: xs => if g = f then some x else atF fs xs f
  | _, _ => none
def cAttr (C0 : Addr) (f : Str) (c : C) : C := fun s => match c s with
  | some (.ins C fs xs, s1) => if C = C0 then (atF fs xs f).map fun d => (d, s1) else none
  | _ => none
theorem atF_rep {K : PySem.W.Frag} {ρ : List Addr} {F : Hp} {f : Str} : ∀ {kvs : List (Str × V)} {xs : List D} {d : D}, RepL K ρ F xs (kvs.map (·.2)) → atF (kvs.map (·.1)) xs f = some d → ∃ v, kvs.lookup f = some v ∧ Rep K ρ F d v
  | [], xs, d, r, h => by cases xs <;> cases h
  | (g, u) :: kvs, [], d, r, h => by cases h
  | (g, u) :: kvs, x :: xs, d, r, h => by
    have r' : RepL K ρ F (x :: xs) (u :: kvs.map (·.2)) := r
    unfold RepL at r'
    obtain ⟨v, t, e1, r1, r2⟩ := r'
    injection e1 with e2 e3
    subst e2 e3
    have h' : (if g = f then some x else atF (kvs.map (·.1)) xs f) = some d := h
    by_cases e : g = f
    · rw [if_pos e] at h'
      cases h'
      exact ⟨u, by simp [List.lookup, e], r1⟩
    · rw [if_neg e] at h'
      obtain ⟨w, hw, rw'⟩ := atF_rep r2 h'
      have e' : (f == g) = false := by simpa using fun z => e z.symm
      exact ⟨w, by simp [List.lookup, e', hw], rw'⟩
theorem pv_attr {C0 : Addr} {f : Str} {c : C} (hc : Cls X.K C0) (hn : NoAttr X.K C0 f) (h : PV X e c) (hb : attributeBase e f X.env (eval e X.env) = eval e X.env := by rfl) : PV X (.Attribute e f pos) (cAttr C0 f c) :=
  pe_w (pe_fld h hb) fun σ H Q ⟨F0, G, F, ρ, vs, s, d, s', m, hcc, k⟩ => by
    unfold cAttr at hcc
    split at hcc
    · rename_i C fs xs s1 h1
      split at hcc
      · rename_i hC
        subst hC
        cases h2 : atF fs xs f with
        | none => rw [h2] at hcc; cases hcc
        | some d2 =>
          rw [h2] at hcc
          cases hcc
          refine ⟨F0, G, F, ρ, vs, s, _, _, m, h1, fun F1 ρ1 vs1 v H1 e1 p1 m1 r1 => ?_⟩
          unfold Rep at r1
          obtain ⟨a, dx, kvs, rfl, ha, hk, r2⟩ := r1
          subst hk
          obtain ⟨w, hw, rw'⟩ := atF_rep r2 h2
          exact ⟨a, C, dx, kvs, w, rfl, m1.core.f _ _ ha, hc, hn, hw, k F1 ρ1 vs1 w H1 e1 p1 m1 rw'⟩
      · cases hcc
    · cases hcc

/-! ### calls of built-ins, by values -/
def LCall (K : PySem.W.Frag) (r : List V → Hp → VK → Prop) (g : List D → Option D) : Prop := ∀ (F0 G F : Hp) (ρ : List Addr) (rts : List (D × V)) (H : Hp) (us : List V) (ds : List D) (d : D) (Q : VK), Core K F0 G F ρ rts H → RepL K ρ F ds us → g ds = some d →
  (∀ F' v H', Ex F F' → Core K F0 G F' ρ ((d, v) :: rts) H' → Q v H') → r us H Q
theorem LCall.or {K : PySem.W.Frag} {r r' : List V → Hp → VK → Prop} {g g' : List D → Option D} (h : LCall K r g) (h' : LCall K r' g') : LCall K (fun x H Q => r x H Q ∨ r' x H Q) (fun x => (g x).or (g' x)) := by
  intro F0 G F ρ rts H us ds d Q c rx e k
  dsimp only at e
  cases h1 : g ds with
  | none =>
    rw [h1] at e
    exact .inr (h' F0 G F ρ rts H us ds d Q c rx e k)
  | some d' =>
    rw [h1] at e
    cases e
    exact .inl (h F0 G F ρ rts H us ds _ Q c rx h1 k)
def cCB (g : List D → Option D) (cs : S → Option (List D × S)) : C := fun s => match cs s with
  | some (ds, s1) => (g ds).map fun d => (d, s1)
  | none => none
theorem tcb_ok {K : PySem.W.Frag} {r : List V → Hp → VK → Prop} {g : List D → Option D} {cs : S → Option (List D × S)} (l : LCall K r g) {σ : L2.St} {H : Hp} {Q : VK} (h : tO K (cCB g cs) σ H Q) : tCB r (tA K cs) σ H Q := by
  obtain ⟨F0, G, F, ρ, vs, s, d, s', m, hc, k⟩ := h
  unfold cCB at hc
  split at hc
  · rename_i ds s1 h1
    cases h2 : g ds with
    | none => rw [h2] at hc; cases hc
    | some d2 =>
      rw [h2] at hc
      cases hc
      refine ⟨F0, G, F, ρ, vs, s, ds, _, m, h1, fun F1 ρ1 vs1 us H1 e1 p1 m1 r1 => ?_⟩
      exact l F0 G F1 ρ1 _ H1 us ds _ Q m1.core r1 h2 fun F2 v H2 e2 c2 => k F2 ρ1 vs1 v H2 (e1.tr e2) p1 (m1.core_of (tmp' := [(_, _)]) c2)
  · cases hc
variable {x : Str} {p : Pos} {id T : String} {r : List V → Hp → VK → Prop} {g : List D → Option D} {cs : S → Option (List D × S)}
theorem po_callB (hc : CallR X (.builtin id) r) (l : LCall X.K r g) (hg : Gl X x) (hm : X.mg x = none) (hv : bootBuiltins x = some (.builtin id)) (ha : PAr X (e :: es) cs) (hn : x ≠ "__name__" := by decide) (hdb : (x == ("__debug__" : Str)) = false := by decide)
    (he : starEach (e :: es) X.env = (false, eval e X.env) :: starEach es X.env := by rfl) (hpl : (backTo pos (starEach es X.env)).any (·.1) = false := by rfl) : PO' X (.Call (.Name x p) (e :: es) [] pos) (cCB g cs) :=
  pe_w (pe_callB hc hg hm hv ha hn hdb he hpl) fun σ H Q h => tcb_ok l h
theorem po_callT (hc : CallR X (.type T) r) (l : LCall X.K r g) (hg : Gl X x) (hm : X.mg x = none) (hv : bootBuiltins x = some (.type T)) (ha : PAr X (e :: es) cs) (hn : x ≠ "__name__" := by decide) (hdb : (x == ("__debug__" : Str)) = false := by decide)
    (he : starEach (e :: es) X.env = (false, eval e X.env) :: starEach es X.env := by rfl) (hpl : (backTo pos (starEach es X.env)).any (·.1) = false := by rfl) : PO' X (.Call (.Name x p) (e :: es) [] pos) (cCB g cs) :=
  pe_w (pe_callTy hc hg hm hv ha hn hdb he hpl) fun σ H Q h => tcb_ok l h
end
end Fr

set_option maxRecDepth 100000
namespace Fr
open PySem PySem.Spec PyProof.Rows L2

section
variable {K : PySem.W.Frag} {F0 G F F' H H' : Hp} {ρ ρ' : List Addr} {tmp : List (D × V)} {s : S} {σ : L2.St} {vs : List V} {d : D} {v : V}
theorem set_zip : ∀ (ds : List D) (us : List V) (i : Nat) (d : D) (u : V), (ds.set i d).zip (us.set i u) = (ds.zip us).set i (d, u)
  | [], us, i, d, u => by simp
  | x :: ds, [], i, d, u => by simp
  | x :: ds, y :: us, 0, d, u => rfl
  | x :: ds, y :: us, i + 1, d, u => by simp [set_zip ds us i d u]
/-- what stands ahead is put into a slot -/
theorem Sim.store (m : Sim K F0 G F ρ ((d, v) :: tmp) s σ vs H) (i : Nat) : Sim K F0 G F ρ tmp { s with env := s.env.set i d } (σ.set i (some v)) (vs.set i v) H := by
  by_cases hi : i < s.env.length
  · refine ⟨?_, by simp [m.lv], m.lm, by simp [m.ls], fun j dj vj h1 h2 h3 => ?_⟩
    · have c : Core K F0 G F ρ ((d, v) :: (tmp ++ (s.env.zip vs ++ s.mem.zip (ρ.map V.ref)))) H := m.core
      have hz : i < (s.env.zip vs).length := by rw [List.length_zip, m.lv]; omega
      have hg : (s.env.zip vs ++ s.mem.zip (ρ.map V.ref))[i]? = some (s.env.zip vs)[i] := by
        rw [List.getElem?_append_left hz, List.getElem?_eq_getElem hz]
      have p1 := (perm_get hg).append_left tmp |>.trans List.perm_middle
      have c1 := Core.tail (Core.perm c ((p1.cons (d, v)).trans (.swap _ _ _)) : Core K F0 G F ρ ((s.env.zip vs)[i] :: (d, v) :: (tmp ++ (s.env.zip vs ++ s.mem.zip (ρ.map V.ref)).eraseIdx i)) H)
      have p2 := (perm_set (d, v) hg).append_left tmp |>.trans List.perm_middle
      have c2 := Core.perm c1 p2.symm
      rw [List.set_append_left _ _ hz, ← set_zip] at c2
      exact c2
    · have h1' : (s.env.set i d)[j]? = some dj := h1
      by_cases hj : i = j
      · subst hj
        rw [List.getElem?_set_self (by rw [m.lv]; exact hi)] at h2
        cases h2
        rw [List.getElem?_set_self (by rw [m.ls]; exact hi)]
      · rw [List.getElem?_set_ne hj] at h1' h2 ⊢
        exact m.sl j dj vj h1' h2 h3
  · have e1 : s.env.set i d = s.env := List.set_eq_of_length_le (by omega)
    have e2 : σ.set i (some v) = σ := List.set_eq_of_length_le (by rw [m.ls]; omega)
    have e3 : vs.set i v = vs := List.set_eq_of_length_le (by rw [m.lv]; omega)
    rw [e1, e2, e3]
    exact m.tail

/-! ### targets -/
variable (K) in
def tG (tg : D → S → Option S) (js : List Nat) : TG := fun v σ H Q => ∃ F0 G F ρ vs s d s', Sim K F0 G F ρ [] s σ vs H ∧ Rep K ρ F d v ∧ tg d s = some s' ∧
  ∀ F' vs' σ' H', Ex F F' → Sim K F0 G F' ρ [] s' σ' vs' H' → (∀ i, i ∉ js → σ'[i]? = σ[i]?) → σ'.length = σ.length → Q σ' H'
variable (K) in
def tGs (tg : List D → S → Option S) (js : List Nat) : TGs := fun us σ H Q => ∃ F0 G F ρ vs s ds s', Sim K F0 G F ρ [] s σ vs H ∧ RepL K ρ F ds us ∧ tg ds s = some s' ∧
  ∀ F' vs' σ' H', Ex F F' → Sim K F0 G F' ρ [] s' σ' vs' H' → (∀ i, i ∉ js → σ'[i]? = σ[i]?) → σ'.length = σ.length → Q σ' H'
def gN (i : Nat) : D → S → Option S := fun d s => some { s with env := s.env.set i d }
def gC (t : D → S → Option S) (ts : List D → S → Option S) : List D → S → Option S
  | d :: ds, s => (t d s).bind fun s1 => ts ds s1
  | [], _ => none
def gZ : List D → S → Option S
  | [], s => some s
  | _ :: _, _ => none
def gT (ts : List D → S → Option S) : D → S → Option S
  | .tup ds, s => ts ds s
  | _, _ => none
end
section
variable {X : Cx} {e tg : Expr} {es : List Expr} {pos : Pos}
theorem pg_w {t t' : TG} (h : PG X e t) (w : ∀ v σ H Q, t' v σ H Q → t v σ H Q) : PG X e t' := ⟨fun pins s σ H v u Q I r q => h.run pins s σ H v u Q I r (w v σ H Q q)⟩
theorem pgs_w {t t' : TGs} (h : PGs X es t) (w : ∀ v σ H Q, t' v σ H Q → t v σ H Q) : PGs X es t' := ⟨fun pins s σ H v u Q I r q => h.run pins s σ H v u Q I r (w v σ H Q q)⟩
theorem pg_n {i : Nat} {x : Str} (hN : X.N.Nodup) (hi : X.N[i]? = some x) (hx : Loc X.env.scope x) (hf : X.fn x = true ∨ X.env.scope.names.lookup x = some .local := by first | exact .inl rfl | exact .inr rfl | assumption) : PG X (.Name x pos) (tG X.K (gN i) [i]) :=
  pg_w (pg_name hN hi hx hf) fun v σ H Q ⟨F0, G, F, ρ, vs, s, d, s', m, r, hc, k⟩ => by
    cases hc
    refine k F _ _ H Ex.rfl' ((m.push r).store i) (fun j hj => ?_) (List.length_set ..)
    rw [List.getElem?_set_ne (fun z => hj (by simp [z]))]
theorem pgs_z : PGs X [] (tGs X.K gZ []) := pgs_w pgs_nil fun us σ H Q ⟨F0, G, F, ρ, vs, s, ds, s', m, r, hc, k⟩ => by
  cases ds with
  | nil =>
    cases hc
    unfold RepL at r
    exact ⟨r, k F vs σ H Ex.rfl' m (fun _ _ => rfl) rfl⟩
  | cons d ds => cases hc
theorem pgs_c {t : D → S → Option S} {ts : List D → S → Option S} {js ks : List Nat} (h : PG X e (tG X.K t js)) (hs : PGs X es (tGs X.K ts ks)) (ha : (assignEach (e :: es) X.env).map (·.2) = assign e X.env :: (assignEach es X.env).map (·.2) := by rfl) : PGs X (e :: es) (tGs X.K (gC t ts) (js ++ ks)) :=
  pgs_w (pgs_cons h hs ha) fun us σ H Q ⟨F0, G, F, ρ, vs, s, ds, s', m, r, hc, k⟩ => by
    cases ds with
    | nil => cases hc
    | cons d ds =>
      unfold RepL at r
      obtain ⟨v, t', e1, r1, r2⟩ := r
      have hc' : ((t d s).bind fun s1 => ts ds s1) = some s' := hc
      cases h1 : t d s with
      | none => rw [h1] at hc'; cases hc'
      | some s1 =>
        rw [h1] at hc'
        refine ⟨v, t', e1, F0, G, F, ρ, vs, s, d, s1, m, r1, h1, fun F1 vs1 σ1 H1 e1' m1 o1 l1 => ?_⟩
        refine ⟨F0, G, F1, ρ, vs1, s1, ds, s', m1, RepL.mono e1' (List.prefix_refl _) _ _ r2, hc', fun F2 vs2 σ2 H2 e2 m2 o2 l2 => ?_⟩
        refine k F2 vs2 σ2 H2 (Ex.tr e1' e2) m2 (fun i hi => ?_) (l2.trans l1)
        exact (o2 i fun z => hi (List.mem_append_right _ z)).trans (o1 i fun z => hi (List.mem_append_left _ z))
theorem pg_t {k n : Nat} {ts : List D → S → Option S} {js : List Nat} (hc : X.calm = true) (h : PGs X es (tGs X.K ts js)) (hl : ∀ ds s s', ts ds s = some s' → ds.length = n)
    (hn : (assignEach es X.env).length = n := by rfl) (hst : (assignEach es X.env).findIdx? (·.1) = none := by rfl) : PG X (.Tuple es k pos) (tG X.K (gT ts) js) :=
  pg_w (pg_tup hc h hn hst) fun v σ H Q ⟨F0, G, F, ρ, vs, s, d, s', m, r, hcc, k⟩ => by
    cases d with
    | tup ds =>
      have hcc' : ts ds s = some s' := hcc
      obtain ⟨a, us, rfl, ha, ra⟩ := r.tp
      exact ⟨a, us, rfl, Ex.st m.core.f ha, by rw [← ra.len]; exact hl _ _ _ hcc', F0, G, F, ρ, vs, s, ds, s', m, ra, hcc', k⟩
    | _ => cases hcc
theorem gZ_len {ds : List D} {s s' : S} (h : gZ ds s = some s') : ds.length = 0 := by cases ds with | nil => rfl | cons _ _ => cases h
theorem gC_len {t : D → S → Option S} {ts : List D → S → Option S} {n : Nat} (hl : ∀ ds s s', ts ds s = some s' → ds.length = n) : ∀ ds s s', gC t ts ds s = some s' → ds.length = n + 1 := fun ds s s' h => by
  cases ds with
  | nil => cases h
  | cons d ds =>
    have h' : ((t d s).bind fun s1 => ts ds s1) = some s' := h
    cases h1 : t d s with
    | none => rw [h1] at h'; cases h'
    | some s1 =>
      rw [h1] at h'
      rw [List.length_cons, hl ds s1 s' h']

/-! ### what is walked -/
def WalkD (K : PySem.W.Frag) (ρ : List Addr) (F : Hp) (J : It) (ds : List D) : Prop := ∀ (F0 G F1 : Hp) (ρ1 : List Addr) (rts : List (D × V)) (H : Hp) (i : Nat), Ex F F1 → ρ <+: ρ1 → Core K F0 G F1 ρ1 rts H →
  (i = ds.length → J.stop i H) ∧ ∀ d, ds[i]? = some d → J.go i H ∧ ∀ x H', J.yld i H x H' → ∃ F2, Ex F1 F2 ∧ Core K F0 G F2 ρ1 rts H' ∧ Rep K ρ1 F2 d x
def tI (K : PySem.W.Frag) (it : S → Option (List D × S)) : TI := fun σ H R => ∃ F0 G F ρ vs s ds s', Sim K F0 G F ρ [] s σ vs H ∧ it s = some (ds, s') ∧
  ∀ F' ρ' vs' H' J, Ex F F' → ρ <+: ρ' → Sim K F0 G F' ρ' [] s' σ vs' H' → WalkD K ρ' F' J ds → R J H'
abbrev PId (X : Cx) (tg iter : Expr) (it : S → Option (List D × S)) : Prop := PI X tg iter (tI X.K it)
theorem pi_w {t t' : TI} {iter : Expr} (h : PI X tg iter t) (w : ∀ σ H R, t' σ H R → t σ H R) : PI X tg iter t' := ⟨fun pins s σ H R I q => h.run pins s σ H R I (w σ H R q)⟩
/-- over a list -/
def itL (c : C) : S → Option (List D × S) := fun s => match c s with
  | some (.lst ds, s') => some (ds, s')
  | some (.scr ds, s') => some (ds, s')
  | _ => none
def itT (c : C) : S → Option (List D × S) := fun s => match c s with
  | some (.tup ds, s') => some (ds, s')
  | _ => none
end
section
variable {X : Cx} {e tg : Expr} {es : List Expr} {pos : Pos}
theorem walk_l' {K : PySem.W.Frag} {ρ : List Addr} {F : Hp} {a : Addr} {us : List V} {ds : List D} (h : SqL K F a us) (r : RepL K ρ F ds us) : WalkD K ρ F (Itl K a) ds := by
  intro F0 G F1 ρ1 rts H i e p c
  have hH : SqL K H a us := Ex.sl (e.tr c.f) h
  refine ⟨fun hi => ⟨us, hH, by rw [hi, r.len]; exact Nat.le_refl _⟩, fun d hd => ?_⟩
  obtain ⟨u, hu, ru⟩ := r.get hd
  refine ⟨⟨us, u, hH, hu⟩, fun x H' y => ?_⟩
  obtain ⟨rfl, y⟩ := y
  have := y us hH
  rw [hu] at this
  cases this
  exact ⟨F1, Ex.rfl', c, ru.mono e p⟩
theorem walk_t {K : PySem.W.Frag} {ρ : List Addr} {F : Hp} {a : Addr} {us : List V} {ds : List D} (h : SqT K F a us) (r : RepL K ρ F ds us) : WalkD K ρ F (Itt K a) ds := by
  intro F0 G F1 ρ1 rts H i e p c
  have hH : SqT K H a us := Ex.st (e.tr c.f) h
  refine ⟨fun hi => ⟨us, hH, by rw [hi, r.len]; exact Nat.le_refl _⟩, fun d hd => ?_⟩
  obtain ⟨u, hu, ru⟩ := r.get hd
  refine ⟨⟨us, u, hH, hu⟩, fun x H' y => ?_⟩
  obtain ⟨rfl, y⟩ := y
  have := y us hH
  rw [hu] at this
  cases this
  exact ⟨F1, Ex.rfl', c, ru.mono e p⟩
theorem pi_l {c : C} (h : PV X e c) : PId X tg e (itL c) := pi_w (pi_list h) fun σ H R ⟨F0, G, F, ρ, vs, s, ds, s', m, hc, k⟩ => by
  unfold itL at hc
  split at hc
  · rename_i ds1 s1 h1
    cases hc
    refine ⟨F0, G, F, ρ, vs, s, _, _, m, h1, fun F1 ρ1 vs1 v H1 e1 p1 m1 r1 => ?_⟩
    obtain ⟨a, us, rfl, ha, ra⟩ := r1.ls
    exact ⟨a, rfl, ⟨us, .of (m1.core.f _ _ ha)⟩, k F1 ρ1 vs1 H1 _ e1 p1 m1 (walk_l' (.of ha) ra)⟩
  · rename_i ds1 s1 h1
    cases hc
    refine ⟨F0, G, F, ρ, vs, s, _, _, m, h1, fun F1 ρ1 vs1 v H1 e1 p1 m1 r1 => ?_⟩
    obtain ⟨a, us, rfl, ha, ra⟩ := r1.sc
    exact ⟨a, rfl, ⟨us, Ex.sl m1.core.f ha⟩, k F1 ρ1 vs1 H1 _ e1 p1 m1 (walk_l' ha ra)⟩
  · cases hc
theorem pi_t {c : C} (h : PV X e c) : PId X tg e (itT c) := pi_w (pi_tup h) fun σ H R ⟨F0, G, F, ρ, vs, s, ds, s', m, hc, k⟩ => by
  unfold itT at hc
  split at hc
  · rename_i ds1 s1 h1
    cases hc
    refine ⟨F0, G, F, ρ, vs, s, _, _, m, h1, fun F1 ρ1 vs1 v H1 e1 p1 m1 r1 => ?_⟩
    obtain ⟨a, us, rfl, ha, ra⟩ := r1.tp
    exact ⟨a, rfl, ⟨us, Ex.st m1.core.f ha⟩, k F1 ρ1 vs1 H1 _ e1 p1 m1 (walk_t ha ra)⟩
  · cases hc
/-- the ints lo, lo + 1, .. -/
def rgD (lo : Int) (n : Nat) : List D := (List.range n).map fun (i : Nat) => D.int (lo + (i : Int))
theorem rgD_get {lo : Int} {n i : Nat} {d : D} (h : (rgD lo n)[i]? = some d) : i < n ∧ d = .int (lo + i) := by
  unfold rgD at h
  rw [List.getElem?_map] at h
  by_cases hi : i < n
  · rw [List.getElem?_range hi] at h
    exact ⟨hi, by cases h; rfl⟩
  · rw [List.getElem?_eq_none (by simpa using hi)] at h
    cases h
theorem walk_r {K : PySem.W.Frag} {ρ : List Addr} {F : Hp} {lo : Int} {n : Nat} : WalkD K ρ F (Itr lo n) (rgD lo n) := by
  intro F0 G F1 ρ1 rts H i e p c
  refine ⟨fun hi => ?_, fun d hd => ?_⟩
  · have : (rgD lo n).length = n := by unfold rgD; simp
    show n ≤ i
    omega
  · obtain ⟨hi, rfl⟩ := rgD_get hd
    refine ⟨hi, fun x H' y => ?_⟩
    obtain ⟨rfl, rfl⟩ := y
    exact ⟨F1, Ex.rfl', c, rep_i _⟩
def small62 (i : Int) : Bool := decide (-(2 ^ 62) ≤ i) && decide (i < 2 ^ 62)
theorem small62_ok {i : Int} (h : small62 i = true) : -(2 ^ 62) ≤ i ∧ i < 2 ^ 62 := by
  unfold small62 at h
  simpa using h
def itR1 (cs : S → Option (List D × S)) : S → Option (List D × S) := fun s => match cs s with
  | some ([.int j], s') => if small62 j = true then some (rgD 0 j.toNat, s') else none
  | _ => none
def itR2 (cs : S → Option (List D × S)) : S → Option (List D × S) := fun s => match cs s with
  | some ([.int i, .int j], s') => if small62 i = true ∧ small62 j = true then some (rgD i (j - i).toNat, s') else none
  | _ => none
theorem repl1 {K : PySem.W.Frag} {ρ : List Addr} {F : Hp} {d : D} {us : List V} (r : RepL K ρ F [d] us) : ∃ v, us = [v] ∧ Rep K ρ F d v := by
  unfold RepL at r
  obtain ⟨v, t, e, r1, r2⟩ := r
  unfold RepL at r2
  subst r2
  exact ⟨v, e, r1⟩
theorem repl2 {K : PySem.W.Frag} {ρ : List Addr} {F : Hp} {d d2 : D} {us : List V} (r : RepL K ρ F [d, d2] us) : ∃ v w, us = [v, w] ∧ Rep K ρ F d v ∧ Rep K ρ F d2 w := by
  unfold RepL at r
  obtain ⟨v, t, e, r1, r2⟩ := r
  obtain ⟨w, rfl, r3⟩ := repl1 r2
  exact ⟨v, w, e, r1, r3⟩
variable {a b : Expr} {p : Pos}
theorem pi_r1 {cs : S → Option (List D × S)} (hg : Gl X "range") (hm : X.mg "range" = none) (ha : PAr X [a] cs) (hs : starEach [a] X.env = [(false, eval a X.env)] := by rfl) : PId X tg (.Call (.Name "range" p) [a] [] pos) (itR1 cs) :=
  pi_w (pi_range1 hg hm ha hs) fun σ H R ⟨F0, G, F, ρ, vs, s, ds, s', m, hc, k⟩ => by
    unfold itR1 at hc
    split at hc
    · rename_i j s1 h1
      split at hc
      · rename_i hj
        cases hc
        refine ⟨F0, G, F, ρ, vs, s, _, _, m, h1, fun F1 ρ1 vs1 us H1 e1 p1 m1 r1 => ?_⟩
        obtain ⟨v, rfl, rv⟩ := repl1 r1
        obtain ⟨j1, j2⟩ := small62_ok hj
        exact ⟨j, by rw [rv.ofI], j1, j2, k F1 ρ1 vs1 H1 _ e1 p1 m1 walk_r⟩
      · cases hc
    · cases hc
theorem pi_r2 {cs : S → Option (List D × S)} (hg : Gl X "range") (hm : X.mg "range" = none) (ha : PAr X [a, b] cs) (hs : starEach [a, b] X.env = [(false, eval a X.env), (false, eval b X.env)] := by rfl) (hs2 : starEach [b] X.env = [(false, eval b X.env)] := by rfl) :
    PId X tg (.Call (.Name "range" p) [a, b] [] pos) (itR2 cs) :=
  pi_w (pi_range2 hg hm ha hs hs2) fun σ H R ⟨F0, G, F, ρ, vs, s, ds, s', m, hc, k⟩ => by
    unfold itR2 at hc
    split at hc
    · rename_i i j s1 h1
      split at hc
      · rename_i hj
        cases hc
        refine ⟨F0, G, F, ρ, vs, s, _, _, m, h1, fun F1 ρ1 vs1 us H1 e1 p1 m1 r1 => ?_⟩
        obtain ⟨v, w, rfl, rv, rw'⟩ := repl2 r1
        obtain ⟨i1, i2⟩ := small62_ok hj.1
        obtain ⟨j1, j2⟩ := small62_ok hj.2
        exact ⟨i, j, by rw [rv.ofI, rw'.ofI], ⟨i1, i2, j1, j2⟩, k F1 ρ1 vs1 H1 _ e1 p1 m1 walk_r⟩
      · cases hc
    · cases hc

/-! ### for -/
def forLoop (tg : D → S → Option S) (body : Cs) : List D → S → Option (Fl × S)
  | [], s => some (.next, s)
  | d :: ds, s => match tg d s with
    | none => none
    | some s1 => match body s1 with
      | some (.next, s2) => forLoop tg body ds s2
      | some (.cnt, s2) => forLoop tg body ds s2
      | some (.brk, s2) => some (.next, s2)
      | some (.ret x, s2) => some (.ret x, s2)
      | none => none
def cFor (it : S → Option (List D × S)) (tg : D → S → Option S) (body : Cs) : Cs := fun s => match it s with
  | some (ds, s1) => forLoop tg body ds s1
  | none => none
theorem PostS.mono {K : PySem.W.Frag} {F0 G F F1 : Hp} {ρ ρ1 : List Addr} {fl : Fl} {s' : S} {D : Ends} (h : PostS K F0 G F ρ fl s' D) (e : Ex F F1) (p : ρ <+: ρ1) : PostS K F0 G F1 ρ1 fl s' D := by
  cases fl with
  | next => exact fun F' ρ' vs' σ' H' e' p' m => h F' ρ' vs' σ' H' (e.tr e') (p.trans p') m
  | brk => exact fun F' ρ' vs' σ' H' e' p' m => h F' ρ' vs' σ' H' (e.tr e') (p.trans p') m
  | cnt => exact fun F' ρ' vs' σ' H' e' p' m => h F' ρ' vs' σ' H' (e.tr e') (p.trans p') m
  | ret d => exact fun F' ρ' v H' e' p' l c => h F' ρ' v H' (e.tr e') (p.trans p') l c
theorem ps_forD {iter : Expr} {body : List Stmt} {it : S → Option (List D × S)} {tgd : D → S → Option S} {js : List Nat} {cb : Cs} (hp : PassesOwn (model X.prog X.w) X.A X.env X.xe) (hc : X.calm = true) (hi : PId X tg iter it) (hg : PG X tg (tG X.K tgd js)) (hb : PSl X body cb)
    (hs : ∀ x, foldedSetIterable iter X.env x = pure x := by intro _; rfl) : PSt X (.For tg iter body [] pos) (cFor it tgd cb) := by
  refine ps_w (ps_for hp hc hi hg hb hs) fun D σ H ⟨F0, G, F, ρ, vs, s, fl, s', m, hcc, post⟩ => ?_
  unfold cFor at hcc
  split at hcc
  · rename_i ds s1 h1
    refine ⟨F0, G, F, ρ, vs, s, ds, s1, m, h1, fun F1 ρ1 vs1 H1 J e1 p1 m1 w => ?_⟩
    have post1 := post.mono e1 p1
    clear post m h1
    refine ⟨fun i n σ H => n = ds.length - i ∧ i ≤ ds.length ∧ ∃ F2 ρ2 vs2 s2, Ex F1 F2 ∧ ρ1 <+: ρ2 ∧ Sim X.K F0 G F2 ρ2 [] s2 σ vs2 H ∧ forLoop tgd cb (ds.drop i) s2 = some (fl, s'),
      ⟨ds.length, by simp, Nat.zero_le _, F1, ρ1, vs1, s1, Ex.rfl', List.prefix_refl _, m1, by simpa using hcc⟩, ?_⟩
    rintro i n σ2 H2 ⟨rfl, hi, F2, ρ2, vs2, s2, e2, p2, m2, hl⟩
    obtain ⟨wS, wG⟩ := w F0 G F2 ρ2 _ H2 i e2 p2 m2.core
    by_cases hlt : i < ds.length
    · obtain ⟨d, hd⟩ : ∃ d, ds[i]? = some d := ⟨_, List.getElem?_eq_getElem hlt⟩
      obtain ⟨go, yld⟩ := wG d hd
      have hdr : ds.drop i = d :: ds.drop (i + 1) := by
        obtain ⟨h', e'⟩ := List.getElem?_eq_some_iff.mp hd
        rw [← e', List.getElem_cons_drop]
      rw [hdr] at hl
      unfold forLoop at hl
      refine .inr ⟨go, fun σ H => ∃ F3 ρ3 vs3 s3, Ex F1 F3 ∧ ρ1 <+: ρ3 ∧ Sim X.K F0 G F3 ρ3 [] s3 σ vs3 H ∧ forLoop tgd cb (ds.drop (i + 1)) s3 = some (fl, s'), fun σ3 H3 hN => ⟨ds.length - (i + 1), by omega, rfl, hlt, hN⟩, fun x H3 hy => ?_⟩
      obtain ⟨F3, e3, c3, r3⟩ := yld x H3 hy
      split at hl
      · cases hl
      · rename_i s3 h3
        refine ⟨F0, G, F3, ρ2, vs2, s2, d, s3, m2.core_of (tmp' := []) c3, r3, h3, fun F4 vs4 σ4 H4 e4 m4 _ _ => ?_⟩
        have e14 : Ex F1 F4 := e2.tr (e3.tr e4)
        split at hl
        · rename_i s4 h4
          exact ⟨F0, G, F4, ρ2, vs4, s3, .next, s4, m4, h4, fun F5 ρ5 vs5 σ5 H5 e5 p5 m5 => ⟨F5, ρ5, vs5, s4, e14.tr e5, p2.trans p5, m5, hl⟩⟩
        · rename_i s4 h4
          exact ⟨F0, G, F4, ρ2, vs4, s3, .cnt, s4, m4, h4, fun F5 ρ5 vs5 σ5 H5 e5 p5 m5 => ⟨F5, ρ5, vs5, s4, e14.tr e5, p2.trans p5, m5, hl⟩⟩
        · rename_i s4 h4
          cases hl
          exact ⟨F0, G, F4, ρ2, vs4, s3, .brk, s', m4, h4, fun F5 ρ5 vs5 σ5 H5 e5 p5 m5 => post1 F5 ρ5 vs5 σ5 H5 (e14.tr e5) (p2.trans p5) m5⟩
        · rename_i x4 s4 h4
          cases hl
          exact ⟨F0, G, F4, ρ2, vs4, s3, .ret x4, s', m4, h4, fun F5 ρ5 v H5 e5 p5 l5 c5 => post1 F5 ρ5 v H5 (e14.tr e5) (p2.trans p5) l5 c5⟩
        · cases hl
    · have hi' : i = ds.length := by omega
      rw [hi', List.drop_length] at hl
      unfold forLoop at hl
      cases hl
      exact .inl ⟨wS hi', post1 F2 ρ2 vs2 σ2 H2 e2 p2 m2⟩
  · cases hcc
end
end Fr

set_option maxRecDepth 100000
namespace Fr
open PySem PySem.Spec PyProof.Rows L2

section
variable {K : PySem.W.Frag} {F0 G F F' H H' : Hp} {ρ ρ' : List Addr} {tmp rts : List (D × V)} {s : S} {σ : L2.St} {vs : List V} {d : D} {v : V}
/-- a root set aside -/
theorem Core.frame (c : Core K F0 G F ρ ((d, v) :: rts) H) : ∃ G', Core K F0 G' F ρ rts H ∧ ∀ F' ρ' rts' H', Ex F F' → ρ <+: ρ' → Core K F0 G' F' ρ' rts' H' → Core K F0 G F' ρ' ((d, v) :: rts') H' := by
  obtain ⟨fp, o, nd, dj⟩ := c.own
  obtain ⟨f1, f2, rfl, q, t⟩ := o.inv
  have e : Ex G (more G H f1) := more_ex fun a ha => (dj a (List.mem_append_left _ ha)).2
  have dis : ∀ a ∈ f2, a ∉ f1 := fun a h2 h1 => (List.nodup_append.mp nd).2.2 a h1 a h2 rfl
  have hs : ∀ a ∈ f1, H a ≠ none := own_some d v f1 q
  refine ⟨more G H f1, ⟨fun a u ha => ?_, c.f, c.f0, fun a ha => ?_, f2, t, (List.nodup_append.mp nd).2.1, fun a ha => ⟨(dj a (List.mem_append_right _ ha)).1, ?_⟩⟩, fun F' ρ' rts' H' e' p' c' => ?_⟩
  · unfold more at ha
    by_cases m : a ∈ f1
    · rw [if_pos m] at ha; exact ha
    · rw [if_neg m] at ha; exact c.g a u ha
  · by_cases m : a ∈ f1
    · exact absurd (dj a (List.mem_append_left _ m)).1 ha
    · rcases c.fg a ha with z | z
      · exact .inl z
      · refine .inr ?_
        unfold more
        rw [if_neg m]
        exact z
  · unfold more
    rw [if_neg (dis a ha)]
    exact (dj a (List.mem_append_right _ ha)).2
  · obtain ⟨fp', o', nd', dj'⟩ := c'.own
    have hk : ∀ a ∈ f1, H' a = H a := fun a ha => by
      cases hh : H a with
      | none => exact absurd hh (hs a ha)
      | some u => exact c'.g a u (by unfold more; rw [if_pos ha]; exact hh)
    refine ⟨e.tr c'.g, c'.f, c'.f0, fun a ha => ?_, f1 ++ fp', .cons (Own.mono e' p' d v f1 hk q) o', List.nodup_append.mpr ⟨(List.nodup_append.mp nd).1, nd', fun a h1 b h2 z => ?_⟩, fun a ha => ?_⟩
    · rcases c'.fg a ha with z | z
      · exact .inl z
      · refine .inr ?_
        unfold more at z
        by_cases m : a ∈ f1
        · rw [if_pos m] at z; exact absurd z (hs a m)
        · rw [if_neg m] at z; exact z
    · subst z
      have := (dj' a h2).2
      unfold more at this
      rw [if_pos h1] at this
      exact hs a h1 this
    · rcases List.mem_append.mp ha with ha | ha
      · refine ⟨?_, (dj a (List.mem_append_left _ ha)).2⟩
        cases hf : F' a with
        | none => rfl
        | some u =>
          rcases c'.fg a (by rw [hf]; simp) with z | z
          · cases h0 : F0 a with
            | none => exact absurd h0 z
            | some u0 => have := c.f0 a u0 h0; rw [(dj a (List.mem_append_left _ ha)).1] at this; cases this
          · unfold more at z
            rw [if_pos ha] at z
            exact absurd z (hs a ha)
      · refine ⟨(dj' a ha).1, ?_⟩
        have := (dj' a ha).2
        unfold more at this
        by_cases m : a ∈ f1
        · exact (dj a (List.mem_append_left _ m)).2
        · rw [if_neg m] at this; exact this
/-- the second root goes behind the items of the list at the head -/
theorem Core.app {ds : List D} {a : Addr} {us : List V} (c : Core K F0 G F ρ ((.own ds, .ref a) :: (d, v) :: rts) H) (h : H a = some (.lst us)) : Core K F0 G F ρ ((.own (ds ++ [d]), .ref a) :: rts) (upd H a (.lst (us ++ [v]))) := by
  obtain ⟨a', us', e1, h', hl⟩ := c.headL
  cases e1
  rw [h] at h'
  cases h'
  have := c.mutL (dr := []) (its := ds.zip us ++ [(d, v)]) (rts' := rts) h (by
    rw [List.nil_append, List.append_assoc]
    exact List.Perm.refl _)
  rw [List.map_append, List.map_append, zip_fst hl, zip_snd hl] at this
  exact this
/-- a slot forgotten -/
theorem Sim.forget (m : Sim K F0 G F ρ tmp s σ vs H) (i : Nat) : Sim K F0 G F ρ tmp { s with env := s.env.set i .unb } (σ.set i none) vs H := by
  by_cases hi : i < s.env.length
  · obtain ⟨u, hu⟩ : ∃ u, vs[i]? = some u := ⟨_, List.getElem?_eq_getElem (by rw [m.lv]; exact hi)⟩
    have m1 : Sim K F0 G F ρ ((.unb, u) :: tmp) s σ vs H := m.core_of (Core.unb m.core)
    have m2 := m1.store i
    have e3 : vs.set i u = vs := by
      apply List.ext_getElem?
      intro j
      by_cases hj : i = j
      · subst hj
        rw [List.getElem?_set_self (by rw [m.lv]; exact hi), hu]
      · rw [List.getElem?_set_ne hj]
    rw [e3] at m2
    refine ⟨m2.core, m2.lv, m2.lm, by rw [List.length_set]; exact m.ls.trans (by simp), fun j dj vj h1 h2 h3 => ?_⟩
    have h1' : (s.env.set i .unb)[j]? = some dj := h1
    by_cases hj : i = j
    · subst hj
      rw [List.getElem?_set_self hi] at h1'
      cases h1'
      exact absurd rfl h3
    · have := m2.sl j dj vj h1 h2 h3
      rw [List.getElem?_set_ne hj] at this ⊢
      exact this
  · have e1 : s.env.set i .unb = s.env := List.set_eq_of_length_le (by omega)
    have e2 : σ.set i none = σ := List.set_eq_of_length_le (by rw [m.ls]; omega)
    rw [e1, e2]
    exact m
def unbs (env : List D) : List Nat → List D
  | [] => env
  | j :: js => (unbs env js).set j .unb
theorem Sim.wiped (m : Sim K F0 G F ρ tmp s σ vs H) : ∀ js : List Nat, Sim K F0 G F ρ tmp { s with env := unbs s.env js } (wipe σ js) vs H
  | [] => m
  | j :: js => (Sim.wiped m js).forget j
/-- the block's own names get back what they had -/
def rst (env env1 : List D) : List Nat → List D
  | [] => env
  | j :: js => match env1[j]? with
    | some d => (rst env env1 js).set j d
    | none => rst env env1 js
theorem Sim.unwiped {js : List Nat} (m : Sim K F0 G F ρ tmp s (wipe σ js) vs H) : Sim K F0 G F ρ tmp s σ vs H :=
  ⟨m.core, m.lv, m.lm, by rw [← m.ls, wipe_length], fun i d v h1 h2 h3 => (wipe_some (m.sl i d v h1 h2 h3)).1⟩
theorem Sim.back (m : Sim K F0 G F ρ tmp s σ vs H) (i : Nat) (r : Rep K ρ F d v) (h : d ≠ .unb → σ[i]? = some (some v)) : ∃ vs', Sim K F0 G F ρ tmp { s with env := s.env.set i d } σ vs' H := by
  have m2 := (m.push r).store i
  refine ⟨_, m2.core, m2.lv, m2.lm, by rw [m.ls]; simp, fun j dj vj h1 h2 h3 => ?_⟩
  have h1' : (s.env.set i d)[j]? = some dj := h1
  by_cases hj : i = j
  · subst hj
    have hi : i < s.env.length := by
      have := (List.getElem?_eq_some_iff.mp h1').1
      simpa using this
    rw [List.getElem?_set_self hi] at h1'
    cases h1'
    rw [List.getElem?_set_self (by rw [m.lv]; exact hi)] at h2
    cases h2
    exact h h3
  · have := m2.sl j dj vj h1 h2 h3
    rw [List.getElem?_set_ne hj] at this
    exact this
theorem Sim.slotR (m : Sim K F0 G F ρ tmp s σ vs H) {i : Nat} (h : s.env[i]? = some d) (hf : frzn d = true) : ∃ v, Rep K ρ F d v ∧ (d ≠ .unb → σ[i]? = some (some v)) := by
  have hi : i < s.env.length := (List.getElem?_eq_some_iff.mp h).1
  obtain ⟨v, hv⟩ : ∃ v, vs[i]? = some v := ⟨_, List.getElem?_eq_getElem (by rw [m.lv]; exact hi)⟩
  have hz : (s.env.zip vs ++ s.mem.zip (ρ.map V.ref))[i]? = some (d, v) := by
    rw [List.getElem?_append_left (by rw [List.length_zip, m.lv]; omega)]
    exact zip_get h hv
  have c := Core.perm m.core (((perm_get hz).append_left tmp).trans List.perm_middle)
  obtain ⟨fp, ow, _⟩ := c.own
  obtain ⟨f1, f2, _, q, _⟩ := ow.inv
  exact ⟨v, q.rep hf, fun hn => m.sl i d v h hv hn⟩
theorem Sim.backs {F1 : Hp} {ρ1 : List Addr} {tmp1 : List (D × V)} {s1 : S} {vs1 : List V} {H1 : Hp} {G1 : Hp} (m1 : Sim K F0 G1 F1 ρ1 tmp1 s1 σ vs1 H1) (e : Ex F1 F) (p : ρ1 <+: ρ) :
    ∀ (js : List Nat), (∀ j ∈ js, ∀ d, s1.env[j]? = some d → frzn d = true) → ∀ {vs : List V}, Sim K F0 G F ρ tmp s σ vs H → ∃ vs', Sim K F0 G F ρ tmp { s with env := rst s.env s1.env js } σ vs' H
  | [], _, vs, m => ⟨vs, m⟩
  | j :: js, hf, vs, m => by
    obtain ⟨vs', m'⟩ := Sim.backs m1 e p js (fun k hk => hf k (List.mem_cons_of_mem _ hk)) m
    unfold rst
    cases h : s1.env[j]? with
    | none => exact ⟨vs', m'⟩
    | some d =>
      obtain ⟨v, r, hv⟩ := m1.slotR h (hf j (List.mem_cons_self ..) d h)
      exact m'.back j (r.mono e p) hv
theorem wipe_in : ∀ {vs : List Nat} {σ : L2.St} {i : Nat}, i ∈ vs → i < σ.length → (wipe σ vs)[i]? = some none
  | [], _, _, h, _ => by simp at h
  | v :: vs, σ, i, h, hi => by
    unfold wipe
    by_cases e : v = i
    · subst e
      rw [List.getElem?_set_self (by rw [wipe_length]; exact hi)]
    · rw [List.getElem?_set_ne e]
      rcases List.mem_cons.mp h with z | z
      · exact absurd z.symm e
      · exact wipe_in z hi
theorem wipe_same {js vs : List Nat} {σ σ2 : L2.St} (hj : ∀ j ∈ js, j ∈ vs) (h : ∀ i, i ∉ js → σ2[i]? = (wipe σ vs)[i]?) (hl : σ2.length = (wipe σ vs).length) : wipe σ2 vs = wipe σ vs := by
  rw [wipe_length] at hl
  apply List.ext_getElem?
  intro i
  by_cases hi : i < σ.length
  · by_cases hv : i ∈ vs
    · rw [wipe_in hv hi, wipe_in hv (by rw [hl]; exact hi)]
    · rw [wipe_out hv, h i fun z => hv (hj i z)]
  · rw [List.getElem?_eq_none (by rw [wipe_length]; omega), List.getElem?_eq_none (by rw [wipe_length]; omega)]
end

/-! ### comprehensions -/
section
variable {X : Cx} {e tg : Expr} {es : List Expr} {pos : Pos}
def lcLoop (js : List Nat) (tg : D → S → Option S) (tt : CB) (te : C) : List D → S → List D → Option (List D × S)
  | [], s, acc => some (acc, s)
  | d :: ds, s, acc => match tg d s with
    | none => none
    | some s1 => match tt s1 with
      | none => none
      | some (false, s2) => lcLoop js tg tt te ds { s2 with env := unbs s2.env js } acc
      | some (true, s2) => match te s2 with
        | none => none
        | some (x, s3) => if acc.length < line then lcLoop js tg tt te ds { s3 with env := unbs s3.env js } (acc ++ [x]) else none
def allFrz (env : List D) (js : List Nat) : Bool := js.all fun j => match env[j]? with
  | some d => frzn d
  | none => true
def cLc (it : S → Option (List D × S)) (js : List Nat) (tg : D → S → Option S) (tt : CB) (te : C) : C := fun s => match it s with
  | none => none
  | some (ds, s1) => if allFrz s1.env js = true then (match lcLoop js tg tt te ds { s1 with env := unbs s1.env js } [] with
    | some (acc, s2) => some (.own acc, { s2 with env := rst s2.env s1.env js })
    | none => none) else none
def bYes : CB := fun s => some (true, s)
theorem tlc_ok {it : S → Option (List D × S)} {js vs : List Nat} {tgd : D → S → Option S} {ct : CB} {ce : C} {K : PySem.W.Frag} (hj : ∀ j ∈ js, j ∈ vs) {σ : L2.St} {H : Hp} {Q : VK} (h : tO K (cLc it vs tgd ct ce) σ H Q) :
    tLc (tI K it) (tG K tgd js) (tT K ct) (tO K ce) vs σ H Q := by
  obtain ⟨F0, G, F, ρ, vs0, s, d, s', m, hc, k⟩ := h
  unfold cLc at hc
  split at hc
  · cases hc
  rename_i ds s1 h1
  split at hc
  case isFalse => cases hc
  rename_i haf
  split at hc
  case h_2 => cases hc
  rename_i acc sF hL
  cases hc
  refine ⟨F0, G, F, ρ, vs0, s, ds, s1, m, h1, fun F1 ρ1 vs1 H1 J e1 p1 m1 w => fun Dl hD => ?_⟩
  have hfz : ∀ j ∈ vs, ∀ d, s1.env[j]? = some d → frzn d = true := fun j hj d hd => by
    have := List.all_eq_true.mp haf j hj
    rw [hd] at this
    exact this
  refine ⟨fun i n H => n = ds.length - i ∧ i ≤ ds.length ∧ ∃ F2 ρ2 vs2 s2 acc2, Ex F1 F2 ∧ ρ1 <+: ρ2 ∧ Sim K F0 G F2 ρ2 [(.own acc2, .ref Dl)] s2 (wipe σ vs) vs2 H ∧ lcLoop vs tgd ct ce (ds.drop i) s2 acc2 = some (acc, sF),
    ⟨ds.length, by simp, Nat.zero_le _, F1, ρ1, vs1, _, [], Ex.rfl', List.prefix_refl _, ?_, by simpa using hL⟩, ?_⟩
  · have mw := m1.wiped vs
    exact mw.core_of (tmp' := [(_, _)]) (mw.core.newL (ds := []) (us := []) (by unfold RepL; rfl) hD)
  rintro i n H2 ⟨rfl, hi, F2, ρ2, vs2, s2, acc2, e2, p2, m2, hl⟩
  obtain ⟨wS, wG⟩ := w F0 G F2 ρ2 _ H2 i e2 p2 m2.core
  by_cases hlt : i < ds.length
  · obtain ⟨d, hd⟩ : ∃ d, ds[i]? = some d := ⟨_, List.getElem?_eq_getElem hlt⟩
    obtain ⟨go, yld⟩ := wG d hd
    have hdr : ds.drop i = d :: ds.drop (i + 1) := by
      obtain ⟨h', e'⟩ := List.getElem?_eq_some_iff.mp hd
      rw [← e', List.getElem_cons_drop]
    rw [hdr] at hl
    unfold lcLoop at hl
    refine .inr ⟨go, fun H => ∃ F3 ρ3 vs3 s3 acc3, Ex F1 F3 ∧ ρ1 <+: ρ3 ∧ Sim K F0 G F3 ρ3 [(.own acc3, .ref Dl)] s3 (wipe σ vs) vs3 H ∧ lcLoop vs tgd ct ce (ds.drop (i + 1)) s3 acc3 = some (acc, sF), fun H3 hN => ⟨ds.length - (i + 1), by omega, rfl, hlt, hN⟩, fun x H3 hy => ?_⟩
    obtain ⟨F3, e3, c3, r3⟩ := yld x H3 hy
    obtain ⟨G', cf, unf⟩ := Core.frame c3
    split at hl
    · cases hl
    rename_i s3 h3
    refine ⟨F0, G', F3, ρ2, vs2, s2, d, s3, ⟨cf, m2.lv, m2.lm, m2.ls, m2.sl⟩, r3, h3, fun F4 vs4 σ4 H4 e4 m4 o4 l4 => ?_⟩
    have hw : wipe σ4 vs = wipe σ vs := wipe_same hj o4 l4
    refine ⟨hw, ?_⟩
    split at hl
    · cases hl
    · rename_i s4 h4
      refine ⟨F0, G', F4, ρ2, vs4, s3, false, s4, m4, h4, fun F5 ρ5 vs5 H5 e5 p5 m5 => ?_⟩
      dsimp only
      rw [if_neg (by decide)]
      have m5' := m5.wiped vs
      rw [hw] at m5'
      have c6 := unf F5 ρ5 _ H5 (e4.tr e5) p5 m5'.core
      exact ⟨F5, ρ5, vs5, _, acc2, e2.tr (e3.tr (e4.tr e5)), p2.trans p5, ⟨c6, m5'.lv, m5'.lm, m5'.ls, m5'.sl⟩, hl⟩
    · rename_i s4 h4
      refine ⟨F0, G', F4, ρ2, vs4, s3, true, s4, m4, h4, fun F5 ρ5 vs5 H5 e5 p5 m5 => ?_⟩
      dsimp only
      rw [if_pos rfl]
      split at hl
      · cases hl
      rename_i x5 s5 h5
      split at hl
      case isFalse => cases hl
      rename_i hz
      refine ⟨F0, G', F5, ρ5, vs5, s4, x5, s5, m5, h5, fun F6 ρ6 vs6 y H6 e6 p6 m6 => ?_⟩
      have c7 := unf F6 ρ6 _ H6 (e4.tr (e5.tr e6)) (p5.trans p6) m6.core
      obtain ⟨a', us, ea, ha, hla⟩ := Core.headL c7
      cases ea
      refine ⟨us, ha, line_lt (by rw [← hla]; exact hz), ?_⟩
      have c8 := c7.app ha
      have m6w := (m6.tail).wiped vs
      rw [hw] at m6w
      -- the roots of the wiped state
      have m8 : Sim K F0 G F6 ρ6 [(.own (acc2 ++ [x5]), .ref Dl)] s5 σ4 vs6 (upd H6 Dl (.lst (us ++ [y]))) := ⟨c8, m6.lv, m6.lm, m6.ls, m6.sl⟩
      have m9 := m8.wiped vs
      rw [hw] at m9
      exact ⟨F6, ρ6, vs6, _, _, e2.tr (e3.tr (e4.tr (e5.tr e6))), p2.trans (p5.trans p6), m9, hl⟩
  · have hi' : i = ds.length := by omega
    rw [hi', List.drop_length] at hl
    unfold lcLoop at hl
    cases hl
    obtain ⟨vs3, m3⟩ := Sim.backs m1 e2 p2 vs hfz m2.unwiped
    exact .inl ⟨wS hi', k F2 ρ2 vs3 _ H2 (e1.tr e2) (p1.trans p2) m3⟩
theorem ptt_w {t t' : TT} {ifs : List Expr} (h : PTs X ifs t) (w : ∀ σ H Q, t' σ H Q → t σ H Q) : PTs X ifs t' := ⟨fun pins s σ H Q I q => h.run pins s σ H Q I (w σ H Q q)⟩
abbrev PTd (X : Cx) (ifs : List Expr) (c : CB) : Prop := PTs X ifs (tT X.K c)
theorem pt_yes : PTd X [] bYes := ptt_w pts_nil fun σ H Q ⟨F0, G, F, ρ, vs, s, d, s', m, hc, k⟩ => by
  cases hc
  exact k F ρ vs H Ex.rfl' (List.prefix_refl _) m
theorem pt_if {c : Expr} {cb : CB} (h : PB X c cb) : PTd X [c] cb := pts_one h
section
variable {elt iter : Expr} {ifs : List Expr} {scope : Scope} {own : List (Str × Nat)} {it : S → Option (List D × S)} {js : List Nat} {tgd : D → S → Option S} {ct : CB} {ce : C}
theorem po_lc (hc : X.calm = true) (hN : X.N.Nodup) (hi : PId X tg iter it) (ok : BlkOk X.N X.env.scope scope own)
    (hg : ∀ (s : Shared) (H : Hp) (C : Addr) (cl : List (Str × Addr)) (fp : List Addr), PG (X.blk s H scope (compEnvC scope cl C X.env) fp) tg (tG X.K tgd js))
    (ht : ∀ (s : Shared) (H : Hp) (C : Addr) (cl : List (Str × Addr)) (fp : List Addr), PTd (X.blk s H scope (compEnvC scope cl C X.env) fp) ifs ct)
    (he : ∀ (s : Shared) (H : Hp) (C : Addr) (cl : List (Str × Addr)) (fp : List Addr), PO' (X.blk s H scope (compEnvC scope cl C X.env) fp) elt ce) (hj : ∀ j ∈ js, j ∈ own.map (·.2)) (hs : ∀ x, foldedSetIterable iter X.env x = pure x := by intro _; rfl) :
    PO' X (.ListComp elt [⟨tg, iter, ifs, 0⟩] scope pos) (cLc it (own.map (·.2)) tgd ct ce) :=
  pe_w (pe_lc hc hN hi ok hg ht he hs) fun σ H Q h => tlc_ok hj h
/-- a value into a slot -/
def cAsg (i : Nat) (c : C) : Cs := fun s => match c s with
  | some (d, s1) => some (.next, { s1 with env := s1.env.set i d })
  | none => none
theorem asg_ok {K : PySem.W.Frag} {i : Nat} {c : C} {D : Ends} {σ : L2.St} {H : Hp} (h : tS K (cAsg i c) D σ H) : ∃ F0 G F ρ vs s d s', Sim K F0 G F ρ [] s σ vs H ∧ c s = some (d, s') ∧
    ∀ F' ρ' vs' v H', Ex F F' → ρ <+: ρ' → Sim K F0 G F' ρ' [(d, v)] s' σ vs' H' → D.nx (σ.set i (some v)) H' := by
  obtain ⟨F0, G, F, ρ, vs, s, fl, s', m, hc, post⟩ := h
  unfold cAsg at hc
  split at hc
  · rename_i d s1 h1
    cases hc
    exact ⟨F0, G, F, ρ, vs, s, d, s1, m, h1, fun F1 ρ1 vs1 v H1 e1 p1 m1 => post F1 ρ1 _ _ H1 e1 p1 (m1.store i)⟩
  · cases hc
theorem ps_as {i : Nat} {x : Str} {e : Expr} {c : C} {pos' : Pos} (hN : X.N.Nodup) (hi : X.N[i]? = some x) (hx : Loc X.env.scope x) (he : PO' X e c) (hs : swapsWith e (some (.Name x pos')) pos.line X.env = pure false := by rfl)
    (hf : X.fn x = true ∨ X.env.scope.names.lookup x = some .local := by first | exact .inl rfl | exact .inr rfl | assumption) : PSt X (.Assign [.Name x pos'] e pos) (cAsg i c) :=
  ps_w (ps_set hN hi hx he hs hf) fun D σ H h => asg_ok h
theorem ps_asLc {i : Nat} {y : Str} {py spos : Pos} (hc : X.calm = true) (hN : X.N.Nodup) (hy : X.N[i]? = some y) (hyl : X.env.scope.names.lookup y = some .local)
    (hsw : swapsWith (.ListComp elt [⟨tg, iter, ifs, 0⟩] scope pos) (some (.Name y py)) spos.line X.env = pure true) (hi : PId X tg iter it) (ok : BlkOk X.N X.env.scope scope own)
    (hg : ∀ (s : Shared) (H : Hp) (C : Addr) (cl : List (Str × Addr)) (fp : List Addr), PG (X.blk s H scope (compEnvC scope cl C X.env) fp) tg (tG X.K tgd js))
    (ht : ∀ (s : Shared) (H : Hp) (C : Addr) (cl : List (Str × Addr)) (fp : List Addr), PTd (X.blk s H scope (compEnvC scope cl C X.env) fp) ifs ct)
    (he : ∀ (s : Shared) (H : Hp) (C : Addr) (cl : List (Str × Addr)) (fp : List Addr), PO' (X.blk s H scope (compEnvC scope cl C X.env) fp) elt ce) (hj : ∀ j ∈ js, j ∈ own.map (·.2)) (hs : ∀ x, foldedSetIterable iter X.env x = pure x := by intro _; rfl) :
    PSt X (.Assign [.Name y py] (.ListComp elt [⟨tg, iter, ifs, 0⟩] scope pos) spos) (cAsg i (cLc it (own.map (·.2)) tgd ct ce)) :=
  ps_w (ps_setLc hc hN hy hyl hsw hi ok hg ht he hs) fun D σ H h => tlc_ok hj (Q := fun x H1 => gName i x σ H1 D.nx) (asg_ok h)
end
end
end Fr

set_option maxRecDepth 100000
namespace Fr
open PySem PySem.Spec PyProof.Rows L2

section
variable {X : Cx} {e tg a b o : Expr} {es : List Expr} {st : Stmt} {rest body : List Stmt} {pos p apos cpos tpos : Pos}
/-! ### statements -/
def cSkip : Cs := fun s => some (.next, s)
def cSeq (a b : Cs) : Cs := fun s => match a s with
  | some (.next, s1) => b s1
  | r => r
def cNever : Cs := fun _ => none
def cDrop (c : C) : Cs := fun s => match c s with
  | some (_, s1) => some (.next, s1)
  | none => none
def cRet (c : C) : Cs := fun s => match c s with
  | some (d, s1) => some (.ret d, s1)
  | none => none
def cRetN : Cs := fun s => some (.ret .non, s)
def cIfS (c : CB) (a b : Cs) : Cs := fun s => match c s with
  | some (true, s1) => a s1
  | some (false, s1) => b s1
  | none => none
theorem pl_nil : PSl X [] cSkip := pss_w pss_nil fun D σ H ⟨F0, G, F, ρ, vs, s, fl, s', m, hc, post⟩ => by
  cases hc
  exact post F ρ vs σ H Ex.rfl' (List.prefix_refl _) m
theorem pl_cons {ca cb : Cs} (h1 : PSt X st ca) (h2 : PSl X rest cb) : PSl X (st :: rest) (cSeq ca cb) := pss_w (pss_cons h1 h2) fun D σ H ⟨F0, G, F, ρ, vs, s, fl, s', m, hc, post⟩ => by
  unfold cSeq at hc
  split at hc
  · rename_i s1 h1
    exact ⟨F0, G, F, ρ, vs, s, .next, s1, m, h1, fun F1 ρ1 vs1 σ1 H1 e1 p1 m1 => ⟨F0, G, F1, ρ1, vs1, s1, fl, s', m1, hc, post.mono e1 p1⟩⟩
  · rename_i h1
    refine ⟨F0, G, F, ρ, vs, s, fl, s', m, hc, ?_⟩
    cases fl with
    | next => exact absurd hc (h1 _)
    | brk => exact post
    | cnt => exact post
    | ret d => exact post
theorem pl_one {ca : Cs} (h1 : PSt X st ca) : PSl X [st] ca := pss_one h1
theorem pl_never : PSl X rest cNever := pss_w pss_never fun D σ H ⟨F0, G, F, ρ, vs, s, fl, s', m, hc, post⟩ => by cases hc
theorem pt_never : PSt X st cNever := ps_w ps_never fun D σ H ⟨F0, G, F, ρ, vs, s, fl, s', m, hc, post⟩ => by cases hc
theorem pt_drop {c : C} (he : PO' X e c) (hs : swapsWith e none pos.line X.env = pure false := by rfl) : PSt X (.Expr e pos) (cDrop c) := ps_w (ps_expr he hs) fun D σ H ⟨F0, G, F, ρ, vs, s, fl, s', m, hc, post⟩ => by
  unfold cDrop at hc
  split at hc
  · rename_i d s1 h1
    cases hc
    exact ⟨F0, G, F, ρ, vs, s, d, _, m, h1, fun F1 ρ1 vs1 v H1 e1 p1 m1 => post F1 ρ1 vs1 σ H1 e1 p1 m1.tail⟩
  · cases hc
/-- only what stands ahead and the cells -/
theorem Sim.fin {K : PySem.W.Frag} {F0 G F H : Hp} {ρ : List Addr} {s : S} {σ : L2.St} {vs : List V} {d : D} {v : V} (m : Sim K F0 G F ρ [(d, v)] s σ vs H) : Core K F0 G F ρ ((d, v) :: s.mem.zip (ρ.map V.ref)) H := by
  have c : Core K F0 G F ρ ((d, v) :: (s.env.zip vs ++ s.mem.zip (ρ.map V.ref))) H := m.core
  exact Core.right (l := s.env.zip vs) (Core.perm c List.perm_middle.symm)
theorem pt_ret {c : C} (he : PO' X e c) : PSt X (.Return (some e) pos) (cRet c) := ps_w (ps_ret he) fun D σ H ⟨F0, G, F, ρ, vs, s, fl, s', m, hc, post⟩ => by
  unfold cRet at hc
  split at hc
  · rename_i d s1 h1
    cases hc
    exact ⟨F0, G, F, ρ, vs, s, d, _, m, h1, fun F1 ρ1 vs1 v H1 e1 p1 m1 => post F1 ρ1 v H1 e1 p1 m1.lm m1.fin⟩
  · cases hc
theorem pt_retN : PSt X (.Return none pos) cRetN := ps_w ps_retN fun D σ H ⟨F0, G, F, ρ, vs, s, fl, s', m, hc, post⟩ => by
  cases hc
  exact post F ρ .non H Ex.rfl' (List.prefix_refl _) m.lm (m.push (by unfold Rep; rfl)).fin
theorem pt_pass : PSt X (.Pass pos) cSkip := ps_w ps_pass fun D σ H ⟨F0, G, F, ρ, vs, s, fl, s', m, hc, post⟩ => by
  cases hc
  exact post F ρ vs σ H Ex.rfl' (List.prefix_refl _) m
def cBrk : Cs := fun s => some (.brk, s)
def cCnt : Cs := fun s => some (.cnt, s)
theorem pt_brk : PSt X (.Break pos) cBrk := ps_w ps_break fun D σ H ⟨F0, G, F, ρ, vs, s, fl, s', m, hc, post⟩ => by
  cases hc
  exact post F ρ vs σ H Ex.rfl' (List.prefix_refl _) m
theorem pt_cnt : PSt X (.Continue pos) cCnt := ps_w ps_continue fun D σ H ⟨F0, G, F, ρ, vs, s, fl, s', m, hc, post⟩ => by
  cases hc
  exact post F ρ vs σ H Ex.rfl' (List.prefix_refl _) m
theorem pt_ifS {c : Expr} {x y : List Stmt} {cc : CB} {ca cb : Cs} (hc : PB X c cc) (ha : PSl X x ca) (hb : PSl X y cb) : PSt X (.If c x y pos) (cIfS cc ca cb) :=
  ps_w (ps_if hc ha hb) fun D σ H ⟨F0, G, F, ρ, vs, s, fl, s', m, hc, post⟩ => by
    unfold cIfS at hc
    split at hc
    · rename_i s1 h1
      refine ⟨F0, G, F, ρ, vs, s, true, s1, m, h1, fun F1 ρ1 vs1 H1 e1 p1 m1 => ?_⟩
      dsimp only
      rw [if_pos rfl]
      exact ⟨F0, G, F1, ρ1, vs1, s1, fl, s', m1, hc, post.mono e1 p1⟩
    · rename_i s1 h1
      refine ⟨F0, G, F, ρ, vs, s, false, s1, m, h1, fun F1 ρ1 vs1 H1 e1 p1 m1 => ?_⟩
      dsimp only
      rw [if_neg (by decide)]
      exact ⟨F0, G, F1, ρ1, vs1, s1, fl, s', m1, hc, post.mono e1 p1⟩
    · cases hc
/-- name op= e, ints -/
def cAug (i : Nat) (f : Int → Int → Int) (c : C) : Cs := fun s => match s.env[i]? with
  | some (.int x) => (match c s with
    | some (.int y, s1) => some (.next, { s1 with env := s1.env.set i (.int (f x y)) })
    | _ => none)
  | _ => none
theorem pt_aug {i : Nat} {x : Str} {op : Operator} {f : Int → Int → Int} {c : C} (hN : X.N.Nodup) (hi : X.N[i]? = some x) (hx : Loc X.env.scope x) (he : PV X e c) (ho : PIp X op (ipI f))
    (hf : X.fn x = true ∨ X.env.scope.names.lookup x = some .local := by first | exact .inl rfl | exact .inr rfl | assumption) : PSt X (.AugAssign (.Name x p) op e pos) (cAug i f c) :=
  ps_w (ps_aug hN hi hx he ho hf) fun D σ H ⟨F0, G, F, ρ, vs, s, fl, s', m, hc, post⟩ => by
    unfold cAug at hc
    split at hc
    · rename_i x h0
      obtain ⟨v, hv, rv⟩ := m.slot h0 rfl (by intro z; cases z)
      have := rv.ofI
      subst this
      split at hc
      · rename_i y s1 h1
        cases hc
        refine ⟨_, hv, F0, G, F, ρ, vs, s, _, s1, m, h1, fun F1 ρ1 vs1 w H1 e1 p1 m1 r1 => ⟨x, y, rfl, r1.ofI, ?_⟩⟩
        exact post F1 ρ1 _ _ H1 e1 p1 ((m1.push (rep_i _)).store i)
      · cases hc
    · cases hc

/-! ### an owned list changed at its name -/
theorem mutL_zip {K : PySem.W.Frag} {F0 G F H : Hp} {ρ : List Addr} {rts : List (D × V)} {ds : List D} {aa : Addr} {us : List V} {j : Nat} {d : D} {v : V} (c : Core K F0 G F ρ ((.own ds, .ref aa) :: rts) H) (h : H aa = some (.lst us)) (hj : j < ds.length) (r : Rep K ρ F d v) :
    Core K F0 G F ρ ((.own (ds.set j d), .ref aa) :: rts) (upd H aa (.lst (us.set j v))) := by
  obtain ⟨a', us', e1, h', hl⟩ := c.headL
  cases e1
  rw [h] at h'
  cases h'
  have c2 : Core K F0 G F ρ ((.own ds, .ref aa) :: (d, v) :: rts) H := (c.push r).perm (.swap _ _ _)
  have hz : j < (ds.zip us).length := by rw [List.length_zip]; omega
  have hg : (ds.zip us)[j]? = some (ds.zip us)[j] := List.getElem?_eq_getElem hz
  have := c2.mutL (dr := [(ds.zip us)[j]]) (its := (ds.zip us).set j (d, v)) (rts' := rts) h (by
    have p1 := (perm_get hg).append_right ((d, v) :: rts)
    have p2 := (perm_set (d, v) hg).append_right rts
    refine p1.trans ?_
    rw [List.cons_append, List.singleton_append]
    refine List.Perm.cons _ ?_
    refine List.perm_middle.trans ?_
    exact p2.symm)
  rw [← set_zip] at this
  rw [zip_fst (by simp [hl]), zip_snd (by simp [hl])] at this
  exact this
/-- x[e] = v -/
def cSetIx (i : Nat) (ci cv : C) : Cs := fun s => match cv s with
  | some (d, s1) => (match plc s1 i with
    | none => none
    | some _ => match ci s1 with
      | some (.int k, s2) => (match plc s2 i with
        | none => none
        | some r => match rget s2 r with
          | some (.own ds) => (ixN ds.length k).map fun j => (.next, rset s2 r (.own (ds.set j d)))
          | _ => none)
      | _ => none)
  | none => none
theorem pt_setIx {i : Nat} {x : Str} {ix value : Expr} {ci cv : C} (hx : PE X (.Name x p) (tVar i)) (hi : PV X ix ci) (hv : PV X value cv)
    (ha : ∀ v, assign (.Subscript (.Name x p) ix tpos) X.env v = (do
      let ov ← holding [v] (eval (.Name x p) X.env)
      let iv ← holding [v, ov] (eval ix X.env)
      standAt tpos
      holding [v, ov, iv] (setItem ov iv v)
      release [v, ov, iv] []) := by intro _; rfl)
    (hs : swapsWithSole [.Subscript (.Name x p) ix tpos] value pos.line X.env = pure false := by rfl) (hw : swappedStores [.Subscript (.Name x p) ix tpos] value X.env = pure none := by rfl)
    (h1 : (assignEach [.Subscript (.Name x p) ix tpos] X.env).map (·.2) = [assign (.Subscript (.Name x p) ix tpos) X.env] := by rfl) :
    PSt X (.Assign [.Subscript (.Name x p) ix tpos] value pos) (cSetIx i ci cv) :=
  ps_w (ps_asg hv (pg_sub hx hi set_list ha) hs hw h1) fun D σ H ⟨F0, G, F, ρ, vs, s, fl, s', m, hc, post⟩ => by
    unfold cSetIx at hc
    split at hc
    case h_2 => cases hc
    rename_i d s1 h1
    refine ⟨F0, G, F, ρ, vs, s, d, s1, m, h1, fun F1 ρ1 vs1 v H1 e1 p1 m1 r1 => ?_⟩
    cases h2 : plc s1 i with
    | none => rw [h2] at hc; cases hc
    | some r0 =>
      rw [h2] at hc
      dsimp only at hc
      obtain ⟨v0, hv0⟩ := m1.named h2
      refine ⟨v0, hv0, ?_⟩
      cases h3 : ci s1 with
      | none => rw [h3] at hc; cases hc
      | some q =>
        obtain ⟨di, s2⟩ := q
        rw [h3] at hc
        cases di with
        | int kk =>
          dsimp only at hc
          refine ⟨F0, G, F1, ρ1, vs1, s1, _, s2, m1, h3, fun F2 ρ2 vs2 w H2 e2 p2 m2 r2 => ?_⟩
          have er := r2.ofI
          subst er
          cases h4 : plc s2 i with
          | none => rw [h4] at hc; cases hc
          | some r =>
            rw [h4] at hc
            dsimp only at hc
            cases h5 : rget s2 r with
            | none => rw [h5] at hc; cases hc
            | some dd =>
              rw [h5] at hc
              cases dd with
              | own ds =>
                dsimp only at hc
                cases h6 : ixN ds.length kk with
                | none => rw [h6] at hc; cases hc
                | some j =>
                  rw [h6] at hc
                  cases hc
                  obtain ⟨v1, rest, hv1, c, back⟩ := m2.focus h4 h5
                  rw [hv0] at hv1
                  cases hv1
                  obtain ⟨aa, us, e5, ha5, hl⟩ := c.headL
                  subst e5
                  refine ⟨aa, us, kk, j, rfl, rfl, ha5, by rw [← hl]; exact h6, ?_⟩
                  refine post F2 ρ2 vs2 σ _ (e1.tr e2) (p1.trans p2) (back F2 [] _ _ (fun z => by cases z) ?_)
                  exact mutL_zip c ha5 (ixN_seq h6).2.1 (r1.mono e2 p2)
              | _ => cases hc
        | _ => cases hc
theorem pget_list : PGet X (rIxL X.K) := by
  intro pins s σ H x y v u Q I rx ry h
  obtain ⟨p, xs, i, z, rfl, rfl, hq, he, q⟩ := h
  cases rx
  obtain ⟨t, rfl⟩ := ry
  obtain ⟨its, r, pl, hz⟩ := I.list hq
  obtain ⟨j, h1, h2, h3, h4, h5⟩ := atI_get he
  obtain ⟨w, ew, rw'⟩ := r.get h2
  have hl := r.length
  have hn := line63
  have fin : EP X pins σ Q w s := ⟨z, H, I, rw', q⟩
  by_cases h0 : 0 ≤ i
  · have hj : i.toNat = j := by
      rw [seqIndex_of h0 h5] at h1
      exact Option.some.inj h1
    exact wpAny_getItem_list pl.isList h0 (by omega) (by rw [hj]; simpa using ew) fin
  · have hj : (i + (its.toArray.size : Int)).toNat = j := by
      rw [seqIndex_neg (by omega) h4] at h1
      rw [List.size_toArray, ← hl]
      exact Option.some.inj h1
    exact wpAny_getItem_list_neg pl.isList (by omega) (by rw [List.size_toArray] <;> omega) (by omega) (by rw [hj]; simpa using ew) fin
/-- x[e] op= v, ints -/
def cAugIx (i : Nat) (f : Int → Int → Int) (ci cv : C) : Cs := fun s => match plc s i with
  | none => none
  | some _ => match ci s with
    | some (.int k, s1) => (match plc s1 i with
      | none => none
      | some r => match rget s1 r with
        | some (.own ds) => (match atI ds k with
          | some (.int x) => (match cv s1 with
            | some (.int y, s2) => (match plc s2 i with
              | none => none
              | some r2 => match rget s2 r2 with
                | some (.own ds2) => (ixN ds2.length k).map fun j => (.next, rset s2 r2 (.own (ds2.set j (.int (f x y)))))
                | _ => none)
            | _ => none)
          | _ => none)
        | _ => none)
    | _ => none
theorem pt_augIx {i : Nat} {x : Str} {ix value : Expr} {op : Operator} {f : Int → Int → Int} {ci cv : C} (hx : PE X (.Name x p) (tVar i)) (hi : PV X ix ci) (hv : PV X value cv) (ho : PIp X op (ipI f))
    (ha : ∀ ov iv new, augStore ix ov iv new = (do holding [new, ov, iv] (setItem ov iv new); release [new, ov, iv] []; pure .next) := by intros; rfl) :
    PSt X (.AugAssign (.Subscript (.Name x p) ix tpos) op value pos) (cAugIx i f ci cv) :=
  ps_w (ps_augS hx hi pget_list hv ho set_list ha) fun D σ H ⟨F0, G, F, ρ, vs, s, fl, s', m, hc, post⟩ => by
    unfold cAugIx at hc
    cases h2 : plc s i with
    | none => rw [h2] at hc; cases hc
    | some r0 =>
      rw [h2] at hc
      dsimp only at hc
      obtain ⟨v0, hv0⟩ := m.named h2
      refine ⟨v0, hv0, ?_⟩
      split at hc
      case h_2 => cases hc
      rename_i kk s1 h3
      refine ⟨F0, G, F, ρ, vs, s, _, s1, m, h3, fun F1 ρ1 vs1 w H1 e1 p1 m1 r1 => ?_⟩
      have er := r1.ofI
      subst er
      cases h4 : plc s1 i with
      | none => rw [h4] at hc; cases hc
      | some r =>
        rw [h4] at hc
        dsimp only at hc
        split at hc
        case h_2 => cases hc
        rename_i ds h5
        split at hc
        case h_2 => cases hc
        rename_i x5 h6
        split at hc
        case h_2 => cases hc
        rename_i y5 s2 h7
        obtain ⟨v1, rest, hv1, c, back⟩ := m1.focus h4 h5
        rw [hv0] at hv1
        cases hv1
        obtain ⟨aa, us, e5, ha5, hl⟩ := c.headL
        subst e5
        obtain ⟨j, hj, hj2⟩ := atI_of hl h6
        obtain ⟨u, hu, ru⟩ := c.item ha5 hj rfl
        have := ru.ofI
        subst this
        refine ⟨aa, us, kk, _, rfl, rfl, .of ha5, hj2 _ hu, ?_⟩
        refine ⟨F0, G, F1, ρ1, vs1, s1, _, s2, m1, h7, fun F2 ρ2 vs2 w2 H2 e2 p2 m2 r2 => ?_⟩
        refine ⟨x5, y5, rfl, r2.ofI, ?_⟩
        cases h8 : plc s2 i with
        | none => rw [h8] at hc; cases hc
        | some r3 =>
          rw [h8] at hc
          dsimp only at hc
          split at hc
          case h_2 => cases hc
          rename_i ds2 h9
          cases h10 : ixN ds2.length kk with
          | none => rw [h10] at hc; cases hc
          | some j2 =>
            rw [h10] at hc
            cases hc
            obtain ⟨v2, rest2, hv2, c2, back2⟩ := m2.focus h8 h9
            rw [hv0] at hv2
            cases hv2
            obtain ⟨a2, us2, e6, ha6, hl6⟩ := c2.headL
            cases e6
            refine ⟨aa, us2, kk, j2, rfl, rfl, ha6, by rw [← hl6]; exact h10, ?_⟩
            refine post F2 ρ2 vs2 σ _ (e1.tr e2) (p1.trans p2) (back2 F2 [] _ _ (fun z => by cases z) ?_)
            exact mutL_zip c2 ha6 (ixN_seq h10).2.1 (rep_i _)
/-- x.append(e) -/
def cApp (i : Nat) (ce : C) : C := fun s => match plc s i with
  | none => none
  | some r0 => match rget s r0 with
    | some (.own _) => (match ce s with
      | some (d, s1) => (match plc s1 i with
        | none => none
        | some r => match rget s1 r with
          | some (.own ds) => if ds.length < line then some (.non, rset s1 r (.own (ds ++ [d]))) else none
          | _ => none)
      | none => none)
    | _ => none
theorem po_app {i : Nat} {x : Str} {ce : C} (hx : PE X (.Name x p) (tVar i)) (he : PV X e ce)
    (hbase : attributeBase (.Name x p) "append" X.env (eval (.Name x p) X.env) = eval (.Name x p) X.env := by rfl)
    (hfew : ((backTo cpos (starEach [e] X.env)).all (fun x => !x.1) && (backToKw cpos (keywordEach [] X.env)).all (fun x => x.1.isSome)
      && decide ([e].length + ([] : List Keyword).length + (if ([] : List Keyword).isEmpty then 0 else 1) < 30)) = true := by rfl)
    (hline : (apos.endLine == cpos.line) = true := by rfl) (hs : starEach [e] X.env = (false, eval e X.env) :: starEach [] X.env := by rfl) (hplain : (backTo cpos (starEach [] X.env)).any (·.1) = false := by rfl) :
    PO' X (.Call (.Attribute (.Name x p) "append" apos) [e] [] cpos) (cApp i ce) :=
  pe_w (pe_bm PySem.F.plainAttrs_list PySem.F.slot_list_append PySem.F.type_list_append mt_append hx (pa_c he pa_n hs) hbase hfew hline hs hplain) fun σ H Q ⟨F0, G, F, ρ, vs, s, d, s', m, hc, k⟩ => by
    unfold cApp at hc
    cases h2 : plc s i with
    | none => rw [h2] at hc; cases hc
    | some r0 =>
      rw [h2] at hc
      dsimp only at hc
      split at hc
      case h_2 => cases hc
      rename_i ds0 h20
      obtain ⟨v0, rest0, hv0, c0, _⟩ := m.focus h2 h20
      obtain ⟨a0, us0, e0, ha0, _⟩ := c0.headL
      subst e0
      refine ⟨_, hv0, .inl ⟨rfl, _, .of ha0⟩, ?_⟩
      split at hc
      case h_2 => cases hc
      rename_i d1 s1 h3
      refine ⟨F0, G, F, ρ, vs, s, [d1], s1, m, by unfold cCons cNil; rw [h3]; rfl, fun F1 ρ1 vs1 us H1 e1 p1 m1 r1 => ?_⟩
      obtain ⟨v1, rfl, rv⟩ := repl1 r1
      cases h4 : plc s1 i with
      | none => rw [h4] at hc; cases hc
      | some r =>
        rw [h4] at hc
        dsimp only at hc
        split at hc
        case h_2 => cases hc
        rename_i ds h5
        split at hc
        case isFalse => cases hc
        rename_i hz
        cases hc
        obtain ⟨v2, rest2, hv2, c2, back2⟩ := m1.focus h4 h5
        rw [hv0] at hv2
        cases hv2
        obtain ⟨a2, us2, e6, ha6, hl6⟩ := c2.headL
        cases e6
        refine ⟨a0, us2, v1, rfl, rfl, ha6, line_lt (by rw [← hl6]; exact hz), ?_⟩
        have c3 : Core X.K F0 G F1 ρ1 ((.own ds, .ref a0) :: (d1, v1) :: ([] ++ rest2)) H1 := (c2.push rv).perm (.swap _ _ _)
        have m4 := back2 F1 [] _ _ (fun z => by cases z) (c3.app ha6)
        exact k F1 ρ1 vs1 .non _ e1 p1 (m4.push (by unfold Rep; rfl))

/-! ### while -/
def whileN (c : CB) (body : Cs) : Nat → S → Option (Fl × S)
  | 0, _ => none
  | n + 1, s => match c s with
    | some (true, s1) => (match body s1 with
      | some (.next, s2) => whileN c body n s2
      | some (.cnt, s2) => whileN c body n s2
      | some (.brk, s2) => some (.next, s2)
      | some (.ret x, s2) => some (.ret x, s2)
      | none => none)
    | some (false, s1) => some (.next, s1)
    | none => none
open Classical in
noncomputable def cWhile (c : CB) (body : Cs) : Cs := fun s => if h : ∃ n r, whileN c body n s = some r then some (Classical.choose (Classical.choose_spec h)) else none
theorem whileN_mono {c : CB} {body : Cs} : ∀ {n : Nat} {s : S} {r : Fl × S}, whileN c body n s = some r → ∀ k, whileN c body (n + k) s = some r := by
  intro n
  induction n with
  | zero => intro s r h; cases h
  | succ n ih =>
    intro s r h k
    rw [Nat.succ_add]
    unfold whileN at h ⊢
    split at h
    · split at h
      · exact ih h k
      · exact ih h k
      · exact h
      · exact h
      · cases h
    · exact h
    · cases h
theorem cWhile_of {c : CB} {body : Cs} {n : Nat} {s : S} {r : Fl × S} (h : whileN c body n s = some r) : cWhile c body s = some r := by
  have hx : ∃ n r, whileN c body n s = some r := ⟨n, r, h⟩
  unfold cWhile
  rw [dif_pos hx]
  have h2 := Classical.choose_spec (Classical.choose_spec hx)
  have e1 := whileN_mono h (Classical.choose hx)
  have e2 := whileN_mono h2 n
  rw [Nat.add_comm] at e2
  rw [e1] at e2
  exact e2.symm
theorem cWhile_inv {c : CB} {body : Cs} {s : S} {r : Fl × S} (h : cWhile c body s = some r) : ∃ n, whileN c body n s = some r := by
  unfold cWhile at h
  split at h
  · rename_i hx
    have h2 := Classical.choose_spec (Classical.choose_spec hx)
    cases h
    exact ⟨_, h2⟩
  · cases h
theorem pt_while {c : Expr} {cc : CB} {cb : Cs} (hp : PassesOwn (model X.prog X.w) X.A X.env X.xe) (hc : PB X c cc) (hb : PSl X body cb) : PSt X (.While c body [] pos) (cWhile cc cb) := by
  refine ps_w (ps_while hp hc hb) fun D σ H ⟨F0, G, F, ρ, vs, s, fl, s', m, hcc, post⟩ => ?_
  obtain ⟨n, hn⟩ := cWhile_inv hcc
  refine ⟨fun n σ H => ∃ F1 ρ1 vs1 s1, Ex F F1 ∧ ρ <+: ρ1 ∧ Sim X.K F0 G F1 ρ1 [] s1 σ vs1 H ∧ whileN cc cb n s1 = some (fl, s'), ⟨n, F, ρ, vs, s, Ex.rfl', List.prefix_refl _, m, hn⟩, ?_⟩
  rintro n σ1 H1 ⟨F1, ρ1, vs1, s1, e1, p1, m1, h1⟩
  cases n with
  | zero => cases h1
  | succ n =>
    unfold whileN at h1
    split at h1
    · rename_i s2 h2
      refine ⟨F0, G, F1, ρ1, vs1, s1, true, s2, m1, h2, fun F2 ρ2 vs2 H2 e2 p2 m2 => ?_⟩
      dsimp only
      rw [if_pos rfl]
      refine ⟨fun σ H => ∃ F1 ρ1 vs1 s1, Ex F F1 ∧ ρ <+: ρ1 ∧ Sim X.K F0 G F1 ρ1 [] s1 σ vs1 H ∧ whileN cc cb n s1 = some (fl, s'), fun σ' H' hN => ⟨n, Nat.lt_succ_self n, hN⟩, ?_⟩
      split at h1
      · rename_i s3 h3
        exact ⟨F0, G, F2, ρ2, vs2, s2, .next, s3, m2, h3, fun F5 ρ5 vs5 σ5 H5 e5 p5 m5 => ⟨F5, ρ5, vs5, s3, e1.tr (e2.tr e5), p1.trans (p2.trans p5), m5, h1⟩⟩
      · rename_i s3 h3
        exact ⟨F0, G, F2, ρ2, vs2, s2, .cnt, s3, m2, h3, fun F5 ρ5 vs5 σ5 H5 e5 p5 m5 => ⟨F5, ρ5, vs5, s3, e1.tr (e2.tr e5), p1.trans (p2.trans p5), m5, h1⟩⟩
      · rename_i s3 h3
        cases h1
        exact ⟨F0, G, F2, ρ2, vs2, s2, .brk, s', m2, h3, fun F5 ρ5 vs5 σ5 H5 e5 p5 m5 => post F5 ρ5 vs5 σ5 H5 (e1.tr (e2.tr e5)) (p1.trans (p2.trans p5)) m5⟩
      · rename_i x3 s3 h3
        cases h1
        exact ⟨F0, G, F2, ρ2, vs2, s2, .ret x3, s', m2, h3, fun F5 ρ5 v H5 e5 p5 l5 c5 => post F5 ρ5 v H5 (e1.tr (e2.tr e5)) (p1.trans (p2.trans p5)) l5 c5⟩
      · cases h1
    · rename_i s2 h2
      cases h1
      refine ⟨F0, G, F1, ρ1, vs1, s1, false, s', m1, h2, fun F2 ρ2 vs2 H2 e2 p2 m2 => ?_⟩
      dsimp only
      rw [if_neg (by decide)]
      exact post F2 ρ2 vs2 σ1 H2 (e1.tr e2) (p1.trans p2) m2
    · cases h1
end
end Fr

set_option maxRecDepth 100000
/-! Over the machine: enumerate(a tuple); len(set(a tuple of tuples of ints)). -/
namespace FrE
open PySem PySem.Spec PyProof.Rows L2
open AutoSeq1 (wpAny_loadPart')
section
variable {prog : Program} {w : World} {A : Around} {E : Value → Shared → Prop} {s : Shared}
theorem nextT {I T : Addr} {k : Nat} {vs} {y : Value} {Q : Value → Shared → Prop} (hi : s.heap.IsTupleIter I T k) (hT : s.heap.IsTuple T vs) (hy : vs[k]? = some y)
    (q : ∀ h', h'.IsTupleIter I T (k + 1) → Heap.SameBut I s.heap h' → Q y { s with heap := h' }) : wpAny (model prog w) A (Builtin.SmallTypes.nextOf (.ref I)) Q E s := by
  obtain ⟨oi, h1, h2, h3⟩ := id hi
  obtain ⟨ot, t1, _, nt, t2⟩ := hT
  unfold Builtin.SmallTypes.nextOf
  refine wpAny_bind (wpAny_callSpecial?_slot (name := Str.ofString "__next__") hi.typeIs F.slot_tuple_iterator_next (wpAny_call_entry F.slot_tuple_iterator_next hi.typeIs F.entry_tuple_iterator_next ?_ (F.args_tuple_iterator_next_1 _)))
  show wpAny _ _ (field (.ref I) 0 >>= _) _ _ s
  refine wpAny_bind (wpAny_field h1 h3 (x := .ref T) rfl ?_)
  show wpAny _ _ (if (Value.ref T == Value.none) = true then _ else _) _ _ s
  rw [if_neg (show ¬ ((Value.ref T == Value.none) = true) from Bool.false_ne_true)]
  show wpAny _ _ (field (.ref I) 1 >>= _) _ _ s
  refine wpAny_bind (wpAny_field h1 h3 (x := .int k 0) rfl ?_)
  show wpAny _ _ (seqItems? (.ref T) >>= _) _ _ s
  refine wpAny_bind (wpAny_seqItems t1 t2 ?_)
  simp only [Int.toNat_natCast, hy]
  refine wpAny_bind (wpAny_setField h1 h3 (by simp) (wpAny_pure ⟨y, rfl, wpAny_pure (q _ ?_ (Heap.SameBut.update ..))⟩))
  refine ⟨_, Heap.get?_update_self _ h1 (Obj.isFreed_of_fields (Obj.data_mapFields h3 _)), (Obj.cls_mapFields ..).trans h2, ?_⟩
  rw [Obj.data_mapFields h3]
  simp [rawInt]
theorem nextT_end {I T : Addr} {k : Nat} {vs} {Q : Value → Shared → Prop} (hh : A.handled = none) (hi : s.heap.IsTupleIter I T k) (hT : s.heap.IsTuple T vs) (hy : vs[k]? = none)
    (q : ∀ h' e, Heap.ExtBut I s.heap h' → (∃ o, h'.get? e = some o ∧ o.cls = .type "StopIteration") → E (.ref e) { s with heap := h' }) : wpAny (model prog w) A (Builtin.SmallTypes.nextOf (.ref I)) Q E s := by
  obtain ⟨oi, h1, h2, h3⟩ := id hi
  obtain ⟨ot, t1, _, nt, t2⟩ := hT
  unfold Builtin.SmallTypes.nextOf
  refine wpAny_bind (wpAny_callSpecial?_slot (name := Str.ofString "__next__") hi.typeIs F.slot_tuple_iterator_next (wpAny_call_entry F.slot_tuple_iterator_next hi.typeIs F.entry_tuple_iterator_next ?_ (F.args_tuple_iterator_next_1 _)))
  show wpAny _ _ (field (.ref I) 0 >>= _) _ _ s
  refine wpAny_bind (wpAny_field h1 h3 (x := .ref T) rfl ?_)
  show wpAny _ _ (if (Value.ref T == Value.none) = true then _ else _) _ _ s
  rw [if_neg (show ¬ ((Value.ref T == Value.none) = true) from Bool.false_ne_true)]
  show wpAny _ _ (field (.ref I) 1 >>= _) _ _ s
  refine wpAny_bind (wpAny_field h1 h3 (x := .int k 0) rfl ?_)
  show wpAny _ _ (seqItems? (.ref T) >>= _) _ _ s
  refine wpAny_bind (wpAny_seqItems t1 t2 ?_)
  simp only [Int.toNat_natCast, hy]
  refine wpAny_bind (wpAny_rule (wpAny_bind (wpAny_setField h1 h3 (by simp) ?_)))
  show wpAny _ _ (newExc (.type "StopIteration") [] >>= _) _ _ _
  refine wpAny_bind ?_
  simp only [newExc, newTuple]
  refine wpAny_bind (wpAny_newObj_type ?_ (by size_fits))
  refine wpAny_bind (m := firstArgMember _ _) (wpAny_of_eq (a := Value.none) (by first | rfl | (simp only [firstArgMember]; rfl)) ?_)
  refine wpAny_newObj_type ?_ (by size_fits)
  simp only [raiseNew]
  refine wpAny_bind (wpAny_handled ?_)
  first | rw [show A.in1.handled = none from hh] | rw [hh]
  refine wpAny_bind (wpAny_pure (wpAny_throw ?_))
  exact q _ _ (((Heap.SameBut.update ..).extBut.push _).push _) ⟨_, Heap.get?_push_size _ rfl, rfl⟩
theorem drawsT {prog : Program} {w : World} {A : Around} (hh : A.handled = none) (I T : Addr) (hne : T ≠ I) (vs : Array Value) :
    Draws prog w A I [I, T] vs.size (fun i v => vs[i]? = some v) (fun i h => h.IsTupleIter I T i ∧ h.IsTuple T vs) where
  live := fun _ _ st => let ⟨o, ho, _⟩ := st.1; ⟨o, ho⟩
  frame := fun _ _ _ st hk => ⟨st.1.at fun o e => hk I (by simp) o e, let ⟨o, ho, r⟩ := st.2; ⟨o, hk T (by simp) o ho, r⟩⟩
  item := fun i s Q E hi st hQ => by
    refine nextT st.1 st.2 (y := vs[i]) (by simp [hi]) fun h' hit' hs' => ?_
    exact hQ _ h' s.toks (by simp [hi]) ⟨hit', st.2.extBut hs'.extBut hne⟩ hs'
  done := fun s Q E st hE => nextT_end hh st.1 st.2 (by simp) hE
theorem meetsT (l : Addr) (vs : Array Value) (n : Nat) (dct : Option Addr) (sl : Array (Option Value)) :
    Meets (Builtin.«enumerate.__new__» ⟨[.type "enumerate", .ref l], []⟩) (fun _ R s => s.heap.get? l = some { cls := .type "tuple", dict := dct, data := .seq vs n, slots := sl } ∧
      R (.ok (.ret (.ref (s.heap.push { cls := .type "tuple_iterator", data := .fields #[.ref l, .int 0 0] }).objs.size)))
        { s with heap := (s.heap.push { cls := .type "tuple_iterator", data := .fields #[.ref l, .int 0 0] }).push { cls := .type "enumerate", data := .fields #[.none, .bool false, .ref s.heap.objs.size, rawInt 0, .none, .none] } }) :=
  .of_wp fun prog w A R s h => by
    obtain ⟨hp, g, d, tk, os⟩ := s; obtain ⟨hl, h⟩ := h
    have hsub := sub_enumerate
    have hT : Heap.IsTuple (Shared.heap ⟨hp, g, d, tk, os⟩) l vs := ⟨_, hl, rfl, n, rfl⟩
    wp_walk using wpAny_loadPart' hl
    refine wpAny_stack_any fun st => wpAny_pure ?_
    split
    · rename_i c _ _ _ _ _
      cases (c == Value.type "enumerate")
      · wp_walk using wpAny_loadPart' hl, wpAny_pyIter_tuple hT
        exact ⟨_, rfl, h⟩
      · wp_walk using wpAny_loadPart' hl, wpAny_pyIter_tuple hT
        exact ⟨_, rfl, h⟩
    · wp_walk using wpAny_loadPart' hl, wpAny_pyIter_tuple hT
      exact ⟨_, rfl, h⟩
theorem callT {l : Addr} {vs : Array Value} {Q : Value → Shared → Prop} (hL : s.heap.IsTuple l vs)
    (h : ∀ h', IsEnum h' (s.heap.objs.size + 1) s.heap.objs.size 0 .none → h'.IsTupleIter s.heap.objs.size l 0 → h'.objs.size = s.heap.objs.size + 2 → (∀ b o, s.heap.get? b = some o → h'.get? b = some o) → Q (.ref (s.heap.objs.size + 1)) { s with heap := h' }) :
    wpAny (model prog w) A (call (.type "enumerate") [.ref l]) Q E s := by
  obtain ⟨⟨c, dct, dt, sl⟩, hl, hc, n, hd⟩ := hL
  replace hc : c = .type "tuple" := hc
  replace hd : dt = .seq vs n := hd
  subst hc hd
  refine callType_new F.called_enumerate (by decide) (F.typeCall_enumerate_1 _) (F.newCall_enumerate_1 _) (fun obj => F.args_object_init_2 obj _) F.entry_enumerate_new (meetsT l vs n dct sl) ⟨hl, ?_⟩
  generalize hh1 : s.heap.push { cls := .type "tuple_iterator", data := .fields #[.ref l, .int 0 0] } = h1
  have hz : h1.objs.size = s.heap.objs.size + 1 := by rw [← hh1]; exact Heap.size_push ..
  show _ ∧ _
  rw [hz]
  have he : IsEnum (h1.push { cls := .type "enumerate", data := .fields #[.none, .bool false, .ref s.heap.objs.size, rawInt 0, .none, .none] }) (s.heap.objs.size + 1) s.heap.objs.size 0 .none := by
    have := Heap.get?_push_size h1 (o := { cls := .type "enumerate", data := .fields #[.none, .bool false, .ref s.heap.objs.size, rawInt 0, .none, .none] }) rfl
    rw [hz] at this; exact this
  refine ⟨⟨_, he, rfl⟩, h _ he ⟨_, Heap.get?_push_of_some _ (by rw [← hh1]; exact Heap.get?_push_size _ rfl), rfl, rfl⟩ (by rw [Heap.size_push, hz]) fun b o x => Heap.get?_push_of_some _ (by rw [← hh1]; exact Heap.get?_push_of_some _ x)⟩
end

/-! ### as an iterator of the layer -/
def Iet (K : PySem.W.Frag) (a : Addr) : It :=
  ⟨fun i H => ∃ (xs : List V) (x : V), SqT K H a xs ∧ xs[i]? = some x, fun i H v H' => ∃ T x, v = .ref T ∧ H T = none ∧ H' = upd H T (.tup [.int (i : Nat), x]) ∧ ∀ xs, SqT K H a xs → xs[i]? = some x,
    fun i H => ∃ xs : List V, SqT K H a xs ∧ xs.length ≤ i⟩
theorem turn_et {P : Program} {w : World} {K : PySem.W.Frag} {elts : List Expr} {kk : Nat} {tpos : Pos} (a e it : Addr) :
    Turn P w K (.Tuple elts kk tpos) (Iet K a) [e, it] e (fun i h => (∃ old, IsEnum h e it ((i : Nat) : Int) old) ∧ h.IsTupleIter it a i ∧ e ≠ it) where
  mem := by simp
  obj := fun i h st b hb => by
    obtain ⟨⟨old, he⟩, ⟨o, ho, hc, hd⟩, _⟩ := st
    have hb' : b = e ∨ b = it := by simpa using hb
    rcases hb' with z | z
    · rw [z]; exact ⟨_, he, fun v q => nomatch q⟩
    · rw [z]; exact ⟨o, ho, fun v q => by rw [hd] at q; cases q⟩
  keep := fun i h h' st k => let ⟨⟨old, he⟩, hi, hne⟩ := st; ⟨⟨old, k e (by simp) _ he⟩, hi.at fun o q => k it (by simp) o q, hne⟩
  item := by
    intro X hP hw hK hc i pins s σ H E I hf st hg
    subst hP hw hK
    obtain ⟨⟨old, he⟩, hit, hne⟩ := st
    obtain ⟨xs, x, hq, hx⟩ := hg
    obtain ⟨its, rv, p, hz⟩ := I.tuple hq
    obtain ⟨u, hu, ru⟩ := rv.get hx
    have hel : e < s.heap.objs.size := Heap.lt_size he
    have hil : it < s.heap.objs.size := by obtain ⟨_, q, _⟩ := hit; exact Heap.lt_size q
    have hea : e ≠ a := fun z => by
      obtain ⟨o, ho, hcl, _⟩ := p
      rw [← z, he] at ho
      cases ho
      exact absurd (Value.type.inj hcl) (by decide)
    have hia : a ≠ it := fun z => by
      obtain ⟨o, ho, hcl, _⟩ := p
      obtain ⟨o2, ho2, hc2, _⟩ := hit
      rw [z, ho2] at ho
      cases ho
      rw [hc2] at hcl
      exact absurd (Value.type.inj hcl) (by decide)
    have hd0 : X.A.in1.handled = none := by show X.A.handled = none; exact I.ok.hd hc
    refine wpAny_pyNext_enum_itemD (drawsT (A := X.A.in1) hd0 it a hia its.toArray) he ⟨hit, p⟩ (by have := (List.getElem?_eq_some_iff.mp hu).1; simpa using this) hne (by simp [hne, hea]) fun y h' tk hy ho' st' hT hsz hk => ?_
    have hyu : y = u := by
      have : its[i]? = some y := by simpa using hy
      rw [hu] at this
      cases this
      rfl
    subst hyu
    refine ⟨_, rfl, wpAny_letOwnedTupleGo_enum (s := { s with heap := h', toks := tk + 1 }) ho' fun h'' he' sb => ?_⟩
    have hT2 : h''.get? s.heap.objs.size = some { cls := .type "tuple", data := .seq #[.int i tk, y] } := (sb.2 _ (Nat.ne_of_gt hel)).trans hT
    have new : ObjOk X.prog X.w (upd H s.heap.objs.size (.tup [.int (i : Nat), x])) h'' s.heap.objs.size (.tup [.int (i : Nat), x]) :=
      ⟨by show 2 ≤ sizeLine; decide, [.int i tk, y], .cons ⟨_, rfl⟩ (.cons ru .nil), ⟨_, hT2, rfl, _, rfl⟩⟩
    have I1 : Inv X pins σ (upd H s.heap.objs.size (.tup [.int (i : Nat), x])) { s with heap := h'', toks := tk + 1 } :=
      I.turnedNew (ch := [e, it]) (fun b ob hb q => (sb.2 b (fun z => hb (by simp [z]))).trans (hk b ob (fun z => hb (by simp [z])) (fun z => hb (by simp [z])) q)) hf (Nat.le_refl _) new
    refine ⟨.ref s.heap.objs.size, _, I1, rfl, ⟨_, x, rfl, I.hok.fresh (Nat.le_refl _), rfl, fun ys hys => by rw [I.tuple_inj hys hq]; exact hx⟩, ⟨⟨y, ?_⟩, st'.1.at fun o q => (sb.2 it (Ne.symm hne)).trans q, hne⟩, fun b hb => ?_⟩
    · have e1 : ((i + 1 : Nat) : Int) = (i : Int) + 1 := by omega
      rw [e1]; exact he'
    · have hb' : b < s.heap.objs.size := by
        have e' : b = e ∨ b = it := by simpa using hb
        rcases e' with z | z
        · rw [z]; exact hel
        · rw [z]; exact hil
      rw [upd_ne (Nat.ne_of_lt hb')]
      exact (hf b hb).1
  done := by
    intro X hP hw hK hc i pins s σ H E I hf st hg
    subst hP hw hK
    obtain ⟨⟨old, he⟩, hit, hne⟩ := st
    obtain ⟨xs, hq, hx⟩ := hg
    obtain ⟨its, rv, p, hz⟩ := I.tuple hq
    obtain ⟨f0, f1, f2, f3, f4, f5⟩ := hf it (by simp)
    have hl := rv.length
    have hia : a ≠ it := fun z => by
      obtain ⟨o, ho, hcl, _⟩ := p
      obtain ⟨o2, ho2, hc2, _⟩ := hit
      rw [z, ho2] at ho
      cases ho
      rw [hc2] at hcl
      exact absurd (Value.type.inj hcl) (by decide)
    have hd0 : X.A.in1.handled = none := by show X.A.handled = none; exact I.ok.hd hc
    -- behind the last item the iterator stands anywhere beyond: its end is told at its own place
    have hT : s.TypeIs (.ref e) "enumerate" := ⟨_, he, rfl⟩
    unfold pyNext
    refine wpAny_bind (wpAny_attempt (wpAny_callSpecial?_slot (name := Str.ofString "__next__") hT F.slot_enumerate_next (wpAny_call_entry F.slot_enumerate_next hT F.entry_enumerate_next ?_ (F.args_enumerate_next_1 _))))
    show wpAny _ _ (field (.ref e) 2 >>= _) _ _ _
    refine wpAny_bind (wpAny_field he rfl (x := .ref it) rfl ?_)
    refine wpAny_bind (nextT_end hd0 hit p (by simp; omega) fun h' x he' hx' => ?_)
    obtain ⟨o, ho, hcl⟩ := hx'
    refine wpAny_bind (wpAny_isInstance (T := "StopIteration") (b := true) ⟨o, ho, hcl⟩ isSubtype_stop ?_)
    exact wpAny_pure ⟨rfl, I.turned (t' := s.toks) (fun b o hb q => he' b o hb q) f0 f1 f3 f4 f5⟩
  self := fun A i s Q E st h => let ⟨⟨_, he⟩, _⟩ := st; wpAny_pyIter_enum he h
def iEnT (K : PySem.W.Frag) (ta : TA) : TI := fun σ H R => ta σ H fun vs H1 => ∃ a xs, vs = [.ref a] ∧ SqT K H1 a xs ∧ R (Iet K a) H1
theorem pi_enT {X : Cx} {e : Expr} {ta : TA} {p pos tpos : Pos} {elts : List Expr} {kk : Nat} (hg : Gl X "enumerate") (hm : X.mg "enumerate" = none) (ha : PA X [e] ta) (hs : starEach [e] X.env = [(false, eval e X.env)] := by rfl) :
    PI X (.Tuple elts kk tpos) (.Call (.Name "enumerate" p) [e] [] pos) (iEnT X.K ta) := by
  refine ⟨fun pins s σ H R I h => ?_⟩
  refine Call_ (ld_blt I hg hm boot_enumerate (PyProof.Rows.callWith_type1 (thn (ha.run pos pins s σ H _ I h) fun us s1 ⟨vs, H1, I1, r1, q1⟩ => ?_) hs rfl))
  obtain ⟨a, xs, ex, hq, q⟩ := q1
  subst ex
  cases r1 with
  | cons r rr =>
    cases rr
    cases r
    obtain ⟨its, rv, p', hz⟩ := I1.tuple hq
    refine callT p' fun h' he hit hsz hk => wpAny_pyIter_enum he ?_
    have I2 : Inv X pins σ H1 { s1 with heap := h' } := I1.kept (t' := s1.toks) hk
    refine ⟨s1.heap.objs.size + 1, [s1.heap.objs.size + 1, s1.heap.objs.size], _, _, H1, rfl, I2, turn_et a (s1.heap.objs.size + 1) s1.heap.objs.size, ⟨⟨.none, he⟩, hit, Nat.succ_ne_self _⟩, fun b hb => ?_, q⟩
    have hle : s1.heap.objs.size ≤ b := by
      have e' : b = s1.heap.objs.size + 1 ∨ b = s1.heap.objs.size := by simpa using hb
      rcases e' with z | z <;> rw [z] <;> omega
    exact I1.fpOk hle (I1.hok.fresh hle)
end FrE

set_option maxRecDepth 100000
namespace Fr
open PySem PySem.Spec PyProof.Rows L2

/-! ### what a def does: values and cells in, a value and cells out -/
abbrev MF := List D → List D → Option (D × List D)
def gap (H : Hp) (fp : List Addr) : Hp := fun a => if a ∈ fp then none else H a
theorem gap_ex {H : Hp} {fp : List Addr} : Ex (gap H fp) H := fun a o h => by
  unfold gap at h
  split at h
  · cases h
  · exact h
def spD (K : PySem.W.Frag) (ar : Nat) (m : MF) : Sp := fun vs H Q _ => ∃ (F : Hp) (ρ : List Addr) (M ds : List D) (fp : List Addr) (d : D) (M' : List D), vs.length = ar ∧ Ex F H ∧ RepL K ρ F ds vs ∧ ρ.length = M.length ∧
  OwnR K ρ F H (M.zip (ρ.map V.ref)) fp ∧ fp.Nodup ∧ (∀ a ∈ fp, F a = none) ∧ m ds M = some (d, M') ∧
  ∀ F' ρ' v H', Ex F F' → ρ <+: ρ' → ρ'.length = M'.length → Core K F (gap H fp) F' ρ' ((d, v) :: M'.zip (ρ'.map V.ref)) H' → Q v H'
def mOf (n : Nat) (cb : Cs) : MF := fun ds M => match cb ⟨ds ++ List.replicate (n - ds.length) .unb, M⟩ with
  | some (.ret d, s') => some (d, s'.mem)
  | some (.next, s') => some (.non, s'.mem)
  | _ => none

section
variable {P : Program} {w : World} {K : PySem.W.Frag} {mg : Str → Option Value} {base : Heap}
theorem sim_start {F H : Hp} {ρ : List Addr} {M ds : List D} {us : List V} {fp : List Addr} {N : List Str} (e : Ex F H) (r : RepL K ρ F ds us) (hl : ρ.length = M.length) (ow : OwnR K ρ F H (M.zip (ρ.map V.ref)) fp) (nd : fp.Nodup) (hf : ∀ a ∈ fp, F a = none) (hn : us.length ≤ N.length) :
    Sim K F (gap H fp) F ρ [] ⟨ds ++ List.replicate (N.length - ds.length) .unb, M⟩ (L2.start N us) (us ++ List.replicate (N.length - us.length) .non) H := by
  have hlen := r.len
  refine ⟨?_, by simp [hlen], hl, by unfold L2.start; simp; omega, fun i d v h1 h2 h3 => ?_⟩
  · have c0 : Core K F (gap H fp) F ρ (M.zip (ρ.map V.ref)) H := ⟨gap_ex, e, Ex.rfl', fun a h => .inl h, fp, ow, nd, fun a ha => ⟨hf a ha, if_pos ha⟩⟩
    have c1 : ∀ n, Core K F (gap H fp) F ρ ((List.replicate n D.unb).zip (List.replicate n V.non) ++ M.zip (ρ.map V.ref)) H := by
      intro n
      induction n with
      | zero => simpa using c0
      | succ n ih => exact ih.unb
    have c2 := roots_push (c1 (N.length - us.length)) r
    show Core K F (gap H fp) F ρ ([] ++ ((ds ++ List.replicate (N.length - ds.length) D.unb).zip (us ++ List.replicate (N.length - us.length) V.non) ++ M.zip (ρ.map V.ref))) H
    rw [List.nil_append, List.zip_append hlen, hlen, List.append_assoc]
    exact c2
  · by_cases hi : i < us.length
    · rw [List.getElem?_append_left hi] at h2
      unfold L2.start
      rw [List.getElem?_append_left (by simpa using hi), List.getElem?_map, h2]
      rfl
    · rw [List.getElem?_append_right (by omega)] at h1
      have := List.mem_of_getElem? h1
      exact absurd (List.eq_of_mem_replicate this) h3
/-- THE RULE for a def -/
theorem fn_d {x qual : Str} {st : Stmt} {f : Addr} {fd : FuncData} {N ps : List Str} {k : Nat} {cb : Cs} (Fn : Fun K x qual st f fd) (S : FnScope N ps (defScope st)) (hN : ps.length ≤ N.length)
    (hbody : ∀ (cdv : Value) (A : Around) (outer : List Env) (s : Shared) (H : Hp) (E : XK), Room k (A.deeper (envOfC qual (defScope st) s.heap.objs.size f cdv)) →
      PSl (cxOf CX0 P w K mg base N qual (defScope st) f cdv A outer s H E).nox (defBody st) cb) : FnOk P w K mg base CX0 (k + 1) f fd ps (spD K ps.length (mOf N.length cb)) := by
  refine Fn.ok S (fun vs H Q E h => ?_) (fun cdv A outer s H vs Q E hr h => ⟨_, hbody cdv A outer s H E hr, ?_⟩)
  · obtain ⟨_, _, _, _, _, _, _, hl, _⟩ := h
    exact hl
  · obtain ⟨F, ρ, M, ds, fp, d, M', hl, e, r, hρ, ow, nd, hf, hm, q⟩ := h
    have m := sim_start (N := N) e r hρ ow nd hf (by omega)
    unfold mOf at hm
    split at hm
    · rename_i d' s' h1
      cases hm
      exact ⟨F, gap H fp, F, ρ, _, _, .ret d, s', m, h1, fun F' ρ' v H' e' p' l' c' => q F' ρ' v H' e' p' l' c'⟩
    · rename_i s' h1
      cases hm
      exact ⟨F, gap H fp, F, ρ, _, _, .next, s', m, h1, fun F' ρ' vs' σ' H' e' p' m' => q F' ρ' .non H' e' p' m'.lm (m'.push (by unfold Rep; rfl)).fin⟩
    · cases hm
end

section
variable {X : Cx} {e a b o : Expr} {es : List Expr} {pos p apos cpos : Pos} {x : Str} {k : Nat} {f : Addr} {fd : FuncData} {ps : List Str} {ar : Nat} {m : MF} {CX : CXT} {cs : S → Option (List D × S)}
/-- the promise is met: behind it the caller's state -/
theorem call_ok {K : PySem.W.Frag} {F0 G F H : Hp} {ρ : List Addr} {s : S} {σ : L2.St} {vs us : List V} {ds : List D} {d : D} {M' : List D} {Q : VK} {E : XK} (sm : Sim K F0 G F ρ [] s σ vs H) (r : RepL K ρ F ds us) (hl : us.length = ar) (hm : m ds s.mem = some (d, M'))
    (q : ∀ F' ρ' vs' v H', Ex F F' → ρ <+: ρ' → Sim K F0 G F' ρ' [(d, v)] { s with mem := M' } σ vs' H' → Q v H') : spD K ar m us H Q E := by
  obtain ⟨fp, ow, nd, dj⟩ := sm.core.own
  have ow' : OwnR K ρ F H (s.env.zip vs ++ s.mem.zip (ρ.map V.ref)) fp := ow
  obtain ⟨f1, f2, rfl, o1, o2⟩ := ow'.split
  refine ⟨F, ρ, s.mem, ds, f2, d, M', hl, sm.core.f, r, sm.lm, o2, (List.nodup_append.mp nd).2.1, fun a ha => (dj a (List.mem_append_right _ ha)).1, hm, fun F' ρ' v H' e p l c => ?_⟩
  have dis : ∀ a ∈ f1, a ∉ f2 := fun a h1 h2 => (List.nodup_append.mp nd).2.2 a h1 a h2 rfl
  have hs : ∀ a ∈ f1, H a ≠ none := ownR_some o1
  have hk : ∀ a ∈ f1, H' a = H a := fun a ha => by
    cases hh : H a with
    | none => exact absurd hh (hs a ha)
    | some u => exact c.g a u (by unfold gap; rw [if_neg (dis a ha)]; exact hh)
  have hG : ∀ a, gap H f2 a = none → G a = none := fun a ha => by
    unfold gap at ha
    split at ha
    · rename_i h2; exact (dj a (List.mem_append_right _ h2)).2
    · exact none_of_ex sm.core.g ha
  obtain ⟨fp', ow2, nd2, dj2⟩ := c.own
  refine q F' ρ' vs v H' e p ⟨⟨fun a u ha => ?_, c.f, sm.core.f0.tr e, fun a ha => ?_, ?_⟩, sm.lv, l, sm.ls, sm.sl⟩
  · refine c.g a u ?_
    unfold gap
    rw [if_neg (fun z => by rw [(dj a (List.mem_append_right _ z)).2] at ha; cases ha)]
    exact sm.core.g a u ha
  · rcases c.fg a ha with z | z
    · exact sm.core.fg a z
    · exact .inr (hG a z)
  · obtain ⟨g1, g2, rfl, q1, q2⟩ := ow2.inv
    have oE : OwnR K ρ' F' H' (s.env.zip vs) f1 := o1.mono e p hk
    refine ⟨g1 ++ (f1 ++ g2), .cons q1 (oE.app q2), ?_, fun a ha => ?_⟩
    · have d1 : ∀ a ∈ f1, a ∉ g1 ++ g2 := fun a h1 h2 => by
        have := (dj2 a h2).2
        unfold gap at this
        rw [if_neg (dis a h1)] at this
        exact hs a h1 this
      have hp : (g1 ++ (f1 ++ g2)).Perm (f1 ++ (g1 ++ g2)) := by
        rw [← List.append_assoc, ← List.append_assoc]
        exact List.Perm.append_right _ List.perm_append_comm
      refine hp.nodup_iff.mpr (List.nodup_append.mpr ⟨(List.nodup_append.mp nd).1, nd2, fun a h1 b h2 z => ?_⟩)
      subst z
      exact d1 a h1 h2
    · have key : a ∈ f1 ∨ a ∈ g1 ++ g2 := by
        simp only [List.mem_append] at ha ⊢
        rcases ha with z | z | z
        · exact .inr (.inl z)
        · exact .inl z
        · exact .inr (.inr z)
      rcases key with h1 | h2
      · refine ⟨?_, (dj a (List.mem_append_left _ h1)).2⟩
        cases hf : F' a with
        | none => rfl
        | some u =>
          rcases c.fg a (by rw [hf]; simp) with z | z
          · exact absurd (dj a (List.mem_append_left _ h1)).1 z
          · unfold gap at z
            rw [if_neg (dis a h1)] at z
            exact absurd z (hs a h1)
      · exact ⟨(dj2 a h2).1, hG a (dj2 a h2).2⟩
def cCall (m : MF) (cs : S → Option (List D × S)) : C := fun s => match cs s with
  | some (ds, s1) => (match m ds s1.mem with
    | some (d, M') => some (d, { s1 with mem := M' })
    | none => none)
  | none => none
theorem tcall_ok {K : PySem.W.Frag} {ar : Nat} {m : MF} {cs : S → Option (List D × S)} {E : XK} {σ : L2.St} {H : Hp} {Q : VK} (hl : ∀ ds s s', cs s = some (ds, s') → ds.length = ar) (h : tO K (cCall m cs) σ H Q) : tCall (spD K ar m) [] E (tA K cs) σ H Q := by
  obtain ⟨F0, G, F, ρ, vs, s, d, s', sm, hc, q⟩ := h
  unfold cCall at hc
  split at hc
  case h_2 => cases hc
  rename_i ds s1 h1
  split at hc
  case h_2 => cases hc
  rename_i d1 M' h2
  cases hc
  refine ⟨F0, G, F, ρ, vs, s, ds, s1, sm, h1, fun F1 ρ1 vs1 us H1 e1 p1 m1 r1 => ?_⟩
  show spD K ar m (us ++ []) H1 Q E
  rw [List.append_nil]
  exact call_ok m1 r1 (by rw [← r1.len]; exact hl _ _ _ h1) h2 fun F2 ρ2 vs2 v H2 e2 p2 m2 => q F2 ρ2 vs2 v H2 (e1.tr e2) (p1.trans p2) m2
theorem cNil_len {ds : List D} {s s' : S} (h : cNil s = some (ds, s')) : ds.length = 0 := by cases h; rfl
theorem cCons_len {c : C} {cs : S → Option (List D × S)} {n : Nat} (hl : ∀ ds s s', cs s = some (ds, s') → ds.length = n) : ∀ ds s s', cCons c cs s = some (ds, s') → ds.length = n + 1 := fun ds s s' h => by
  unfold cCons at h
  cases h1 : c s with
  | none => rw [h1] at h; cases h
  | some p =>
    obtain ⟨d, s1⟩ := p
    rw [h1] at h
    cases h2 : cs s1 with
    | none => simp [h2] at h
    | some q =>
      obtain ⟨ds', s2⟩ := q
      simp [h2] at h
      obtain ⟨rfl, rfl⟩ := h
      rw [List.length_cons, hl _ _ _ h2]
theorem po_call (F : FnOk X.prog X.w X.K X.mg X.base CX k f fd ps (spD X.K ar m)) {j : Nat} (hr : Room j X.A) (hkj : k ≤ j) (hg : Gl X x) (hm : X.mg x = some (.ref f)) (hk : PySem.W.keepIn X.K (.ref f) = true) (hb : Binds X.K fd ps []) (hx : Passes CX X E0)
    (ha : PAr X (e :: es) cs) (hl : ∀ ds s s', cs s = some (ds, s') → ds.length = ar) (hdb : (x == ("__debug__" : Str)) = false := by decide) (he : starEach (e :: es) X.env = (false, eval e X.env) :: starEach es X.env := by rfl) (hpl : (backTo pos (starEach es X.env)).any (·.1) = false := by rfl) :
    PO' X (.Call (.Name x p) (e :: es) [] pos) (cCall m cs) :=
  pe_w (pe_call F (hr.mono hkj) hg hm hk hb .nil hx ha hdb he hpl) fun σ H Q h => tcall_ok hl h

/-! ### a cell -/
def cCell (i : Nat) (c : C) : Cs := fun s => match c s with
  | some (.own ds, s1) => some (.next, ⟨s1.env.set i (.cell s1.mem.length), s1.mem ++ [.own ds]⟩)
  | _ => none
theorem ps_cell {i : Nat} {y : Str} {e : Expr} {c : C} {pos' : Pos} (hN : X.N.Nodup) (hi : X.N[i]? = some y) (hx : Loc X.env.scope y) (he : PO' X e c) (hs : swapsWith e (some (.Name y pos')) pos.line X.env = pure false := by rfl)
    (hf : X.fn y = true ∨ X.env.scope.names.lookup y = some .local := by first | exact .inl rfl | exact .inr rfl | assumption) : PSt X (.Assign [.Name y pos'] e pos) (cCell i c) :=
  ps_w (ps_set hN hi hx he hs hf) fun DD σ H ⟨F0, G, F, ρ, vs, s, fl, s', m, hc, post⟩ => by
    unfold cCell at hc
    split at hc
    case h_2 => cases hc
    rename_i ds s1 h1
    cases hc
    refine ⟨F0, G, F, ρ, vs, s, _, s1, m, h1, fun F1 ρ1 vs1 v H1 e1 p1 m1 => ?_⟩
    obtain ⟨aa, us, rfl, ha, hl⟩ := Core.headL m1.core
    have pp : ρ1 <+: ρ1 ++ [aa] := List.prefix_append _ _
    -- the list goes to the cells
    have c : Core X.K F0 G F1 (ρ1 ++ [aa]) ((.own ds, .ref aa) :: (s1.env.zip vs1 ++ s1.mem.zip (ρ1.map V.ref))) H1 := by
      have c0 : Core X.K F0 G F1 ρ1 ((.own ds, .ref aa) :: (s1.env.zip vs1 ++ s1.mem.zip (ρ1.map V.ref))) H1 := m1.core
      obtain ⟨fp, ow, nd, dj⟩ := c0.own
      exact ⟨c0.g, c0.f, c0.f0, c0.fg, fp, ow.mono Ex.rfl' pp (fun _ _ => rfl), nd, dj⟩
    have c2 : Core X.K F0 G F1 (ρ1 ++ [aa]) (s1.env.zip vs1 ++ (s1.mem ++ [D.own ds]).zip ((ρ1 ++ [aa]).map V.ref)) H1 := by
      refine c.perm ?_
      rw [List.map_append, List.zip_append (by rw [List.length_map, m1.lm]), ← List.append_assoc]
      show ((D.own ds, V.ref aa) :: (s1.env.zip vs1 ++ s1.mem.zip (ρ1.map V.ref))).Perm ((s1.env.zip vs1 ++ s1.mem.zip (ρ1.map V.ref)) ++ [(D.own ds, V.ref aa)])
      exact (List.perm_append_singleton _ _).symm
    have m2 : Sim X.K F0 G F1 (ρ1 ++ [aa]) [] ⟨s1.env, s1.mem ++ [D.own ds]⟩ σ vs1 H1 := ⟨c2, m1.lv, by simp [m1.lm], m1.ls, m1.sl⟩
    have r : Rep X.K (ρ1 ++ [aa]) F1 (.cell s1.mem.length) (.ref aa) := by
      unfold Rep
      exact ⟨aa, by rw [← m1.lm]; simp, rfl⟩
    exact post F1 (ρ1 ++ [aa]) _ _ H1 e1 (p1.trans pp) ((m2.push r).store i)

/-! ### built-ins -/
section
variable {K : PySem.W.Frag}
theorem repL_ints {ρ : List Addr} {F : Hp} : ∀ {ns : List Int} {us : List V}, RepL K ρ F (ns.map D.int) us → us = ns.map V.int
  | [], us, r => by
    have r' : RepL K ρ F [] us := r
    unfold RepL at r'
    exact r'
  | n :: ns, us, r => by
    have r' : RepL K ρ F (.int n :: ns.map D.int) us := r
    unfold RepL at r'
    obtain ⟨v, t, rfl, r1, r2⟩ := r'
    rw [r1.ofI, repL_ints r2]
    rfl
theorem repL_bls {ρ : List Addr} {F : Hp} : ∀ {ns : List Bool} {us : List V}, RepL K ρ F (ns.map D.bl) us → us = ns.map V.bl
  | [], us, r => by
    have r' : RepL K ρ F [] us := r
    unfold RepL at r'
    exact r'
  | n :: ns, us, r => by
    have r' : RepL K ρ F (.bl n :: ns.map D.bl) us := r
    unfold RepL at r'
    obtain ⟨v, t, rfl, r1, r2⟩ := r'
    rw [r1.ofB, repL_bls r2]
    rfl
theorem ints_rep {ρ : List Addr} {F : Hp} : ∀ (ns : List Int), RepL K ρ F (ns.map D.int) (ns.map V.int)
  | [] => by show RepL K ρ F [] []; unfold RepL; rfl
  | n :: ns => by
    show RepL K ρ F (.int n :: ns.map D.int) (.int n :: ns.map V.int)
    unfold RepL
    exact ⟨_, _, rfl, rep_i n, ints_rep ns⟩
/-- the ints of a list -/
def intsOf : List D → Option (List Int)
  | [] => some []
  | .int i :: ds => (intsOf ds).map fun l => i :: l
  | _ :: _ => none
theorem intsOf_eq : ∀ {ds : List D} {ns : List Int}, intsOf ds = some ns → ds = ns.map D.int
  | [], ns, h => by cases h; rfl
  | d :: ds, ns, h => by
    cases d with
    | int i =>
      have h' : (intsOf ds).map (fun l => i :: l) = some ns := h
      cases h2 : intsOf ds with
      | none => rw [h2] at h'; cases h'
      | some l =>
        rw [h2] at h'
        cases h'
        rw [intsOf_eq h2]
        rfl
    | _ => cases h
theorem intsOf_map : ∀ ns : List Int, intsOf (ns.map D.int) = some ns
  | [] => rfl
  | n :: ns => by
    show (intsOf (ns.map D.int)).map (fun l => n :: l) = some (n :: ns)
    rw [intsOf_map ns]
    rfl
def blsOf : List D → Option (List Bool)
  | [] => some []
  | .bl i :: ds => (blsOf ds).map fun l => i :: l
  | _ :: _ => none
theorem blsOf_eq : ∀ {ds : List D} {ns : List Bool}, blsOf ds = some ns → ds = ns.map D.bl
  | [], ns, h => by cases h; rfl
  | d :: ds, ns, h => by
    cases d with
    | bl i =>
      have h' : (blsOf ds).map (fun l => i :: l) = some ns := h
      cases h2 : blsOf ds with
      | none => rw [h2] at h'; cases h'
      | some l =>
        rw [h2] at h'
        cases h'
        rw [blsOf_eq h2]
        rfl
    | _ => cases h
theorem blsOf_map : ∀ ns : List Bool, blsOf (ns.map D.bl) = some ns
  | [] => rfl
  | n :: ns => by
    show (blsOf (ns.map D.bl)).map (fun l => n :: l) = some (n :: ns)
    rw [blsOf_map ns]
    rfl
/-- len -/
def gLen : List D → Option D
  | [.lst ds] => some (.int ds.length)
  | [.tup ds] => some (.int ds.length)
  | [.scr ds] => some (.int ds.length)
  | _ => none
abbrev rLenS (K : PySem.W.Frag) : List V → Hp → VK → Prop := fun xs H Q => ∃ p ys, xs = [.ref p] ∧ (SqL K H p ys ∨ SqT K H p ys) ∧ Q (.int ys.length) H
theorem l_len : LCall K (rLenS K) gLen := by
  intro F0 G F ρ rts H us ds d Q c r e k
  unfold gLen at e
  split at e
  · rename_i xs
    cases e
    obtain ⟨v, rfl, rv⟩ := repl1 r
    obtain ⟨a, ws, rfl, ha, ra⟩ := rv.ls
    exact ⟨a, ws, rfl, .inl (.of (c.f _ _ ha)), by rw [← ra.len]; exact k F _ H Ex.rfl' (c.push (rep_i _))⟩
  · rename_i xs
    cases e
    obtain ⟨v, rfl, rv⟩ := repl1 r
    obtain ⟨a, ws, rfl, ha, ra⟩ := rv.tp
    exact ⟨a, ws, rfl, .inr (Ex.st c.f ha), by rw [← ra.len]; exact k F _ H Ex.rfl' (c.push (rep_i _))⟩
  · rename_i xs
    cases e
    obtain ⟨v, rfl, rv⟩ := repl1 r
    obtain ⟨a, ws, rfl, ha, ra⟩ := rv.sc
    exact ⟨a, ws, rfl, .inl (Ex.sl c.f ha), by rw [← ra.len]; exact k F _ H Ex.rfl' (c.push (rep_i _))⟩
  · cases e
/-- int, abs, max, min -/
def gInt : List D → Option D
  | [.int i] => some (.int i)
  | [.bl b] => some (.int (if b then 1 else 0))
  | _ => none
theorem l_int : LCall K (fun xs H Q => (∃ i, xs = [V.int i] ∧ Q (V.int i) H) ∨ ∃ k, xs = [V.bl k] ∧ Q (V.int (if k then 1 else 0)) H) gInt := by
  intro F0 G F ρ rts H us ds d Q c r e k
  unfold gInt at e
  split at e
  · rename_i i
    cases e
    obtain ⟨v, rfl, rv⟩ := repl1 r
    exact .inl ⟨i, by rw [rv.ofI], k F _ H Ex.rfl' (c.push (rep_i _))⟩
  · rename_i i
    cases e
    obtain ⟨v, rfl, rv⟩ := repl1 r
    exact .inr ⟨i, by rw [rv.ofB], k F _ H Ex.rfl' (c.push (rep_i _))⟩
  · cases e
def gAbs : List D → Option D
  | [.int i] => some (.int (if i < 0 then -i else i))
  | _ => none
theorem l_abs : LCall K (fun xs H Q => ∃ i, xs = [V.int i] ∧ Q (V.int (if i < 0 then -i else i)) H) gAbs := by
  intro F0 G F ρ rts H us ds d Q c r e k
  unfold gAbs at e
  split at e
  · rename_i i
    cases e
    obtain ⟨v, rfl, rv⟩ := repl1 r
    exact ⟨i, by rw [rv.ofI], k F _ H Ex.rfl' (c.push (rep_i _))⟩
  · cases e
def gII (f : Int → Int → Int) : List D → Option D
  | [.int i, .int j] => some (.int (f i j))
  | _ => none
theorem l_II {f : Int → Int → Int} : LCall K (fun xs H Q => ∃ i j, xs = [V.int i, V.int j] ∧ Q (V.int (f i j)) H) (gII f) := by
  intro F0 G F ρ rts H us ds d Q c r e k
  unfold gII at e
  split at e
  · rename_i i j
    cases e
    obtain ⟨v, w, rfl, rv, rw'⟩ := repl2 r
    exact ⟨i, j, by rw [rv.ofI, rw'.ofI], k F _ H Ex.rfl' (c.push (rep_i _))⟩
  · cases e
/-- list(..), tuple(..) -/
def gList : List D → Option D
  | [.lst ds] => some (.own ds)
  | [.tup ds] => some (.own ds)
  | [.scr ds] => some (.own ds)
  | _ => none
theorem l_list : LCall K (fun xs H Q => ∃ p ys, xs = [V.ref p] ∧ (SqL K H p ys ∨ SqT K H p ys) ∧ ∀ l, H l = none → Q (V.ref l) (upd H l (.lst ys))) gList := by
  intro F0 G F ρ rts H us ds d Q c r e k
  unfold gList at e
  split at e
  · rename_i xs
    cases e
    obtain ⟨v, rfl, rv⟩ := repl1 r
    obtain ⟨a, ws, rfl, ha, ra⟩ := rv.ls
    exact ⟨a, ws, rfl, .inl (.of (c.f _ _ ha)), fun l hl => k F _ _ Ex.rfl' (c.newL ra hl)⟩
  · rename_i xs
    cases e
    obtain ⟨v, rfl, rv⟩ := repl1 r
    obtain ⟨a, ws, rfl, ha, ra⟩ := rv.tp
    exact ⟨a, ws, rfl, .inr (Ex.st c.f ha), fun l hl => k F _ _ Ex.rfl' (c.newL ra hl)⟩
  · rename_i xs
    cases e
    obtain ⟨v, rfl, rv⟩ := repl1 r
    obtain ⟨a, ws, rfl, ha, ra⟩ := rv.sc
    exact ⟨a, ws, rfl, .inl (Ex.sl c.f ha), fun l hl => k F _ _ Ex.rfl' (c.newL ra hl)⟩
  · cases e
def gTuple : List D → Option D
  | [.lst ds] => some (.tup ds)
  | [.tup ds] => some (.tup ds)
  | _ => none
theorem l_tuple : LCall K (fun xs H Q => ∃ p ys, xs = [V.ref p] ∧ ((SqL K H p ys ∧ ∀ l, H l = none → Q (V.ref l) (upd H l (.tup ys))) ∨ (SqT K H p ys ∧ Q (V.ref p) H))) gTuple := by
  intro F0 G F ρ rts H us ds d Q c r e k
  unfold gTuple at e
  split at e
  · rename_i xs
    cases e
    obtain ⟨v, rfl, rv⟩ := repl1 r
    obtain ⟨a, ws, rfl, ha, ra⟩ := rv.ls
    refine ⟨a, ws, rfl, .inl ⟨.of (c.f _ _ ha), fun l hl => ?_⟩⟩
    obtain ⟨F', e', c'⟩ := c.newT ra hl
    exact k F' _ _ e' c'
  · rename_i xs
    cases e
    obtain ⟨v, rfl, rv⟩ := repl1 r
    obtain ⟨a, ws, e1, ha, ra⟩ := rv.tp
    subst e1
    exact ⟨a, ws, rfl, .inr ⟨Ex.st c.f ha, k F _ H Ex.rfl' (c.push rv)⟩⟩
  · cases e
/-- sum, min, max of a list of ints; all, any of a list of bools -/
def gSum : List D → Option D
  | [.lst ds] => (intsOf ds).map fun ns => .int ns.sum
  | _ => none
theorem l_sum : LCall K (rSum K) gSum := by
  intro F0 G F ρ rts H us ds d Q c r e k
  unfold gSum at e
  split at e
  · rename_i xs
    cases h : intsOf xs with
    | none => rw [h] at e; cases e
    | some ns =>
      rw [h] at e
      cases e
      obtain ⟨v, rfl, rv⟩ := repl1 r
      obtain ⟨a, ws, rfl, ha, ra⟩ := rv.ls
      rw [intsOf_eq h] at ra
      rw [repL_ints ra] at ha
      exact ⟨a, ns, rfl, .of (c.f _ _ ha), k F _ H Ex.rfl' (c.push (rep_i _))⟩
  · cases e
def minI : List Int → Int
  | [] => 0
  | [x] => x
  | x :: xs => min x (minI xs)
theorem minI_spec : ∀ {ns : List Int}, ns ≠ [] → minI ns ∈ ns ∧ ∀ y ∈ ns, minI ns ≤ y
  | [], h => absurd rfl h
  | [x], _ => by simp [minI]
  | x :: y :: r, _ => by
    obtain ⟨h1, h2⟩ := minI_spec (ns := y :: r) (by simp)
    show min x (minI (y :: r)) ∈ _ ∧ _
    refine ⟨?_, fun z hz => ?_⟩
    · by_cases h : x ≤ minI (y :: r)
      · rw [Int.min_eq_left h]; exact List.mem_cons_self ..
      · rw [Int.min_eq_right (by omega)]; exact List.mem_cons_of_mem _ h1
    · show min x (minI (y :: r)) ≤ z
      rcases List.mem_cons.mp hz with e | e
      · rw [e]; exact Int.min_le_left _ _
      · exact Int.le_trans (Int.min_le_right _ _) (h2 z e)
theorem minI_uniq {ns : List Int} {m : Int} (h : ns ≠ []) (h1 : m ∈ ns) (h2 : ∀ y ∈ ns, m ≤ y) : m = minI ns := by
  obtain ⟨a, b⟩ := minI_spec h
  have := b m h1
  have := h2 _ a
  omega
def maxI (ns : List Int) : Int := -(minI (ns.map fun x => -x))
theorem maxI_uniq {ns : List Int} {m : Int} (h : ns ≠ []) (h1 : m ∈ ns) (h2 : ∀ y ∈ ns, y ≤ m) : m = maxI ns := by
  have := minI_uniq (ns := ns.map fun x => -x) (m := -m) (by simpa using h) (List.mem_map.mpr ⟨m, h1, rfl⟩) (fun y hy => by
    obtain ⟨z, hz, rfl⟩ := List.mem_map.mp hy
    have := h2 z hz
    omega)
  unfold maxI
  omega
def gMin : List D → Option D
  | [.lst ds] => (intsOf ds).bind fun ns => if ns = [] then none else some (.int (minI ns))
  | _ => none
def gMax : List D → Option D
  | [.lst ds] => (intsOf ds).bind fun ns => if ns = [] then none else some (.int (maxI ns))
  | _ => none
theorem l_min : LCall K (rMin K) gMin := by
  intro F0 G F ρ rts H us ds d Q c r e k
  unfold gMin at e
  split at e
  · rename_i xs
    cases h : intsOf xs with
    | none => rw [h] at e; cases e
    | some ns =>
      rw [h] at e
      have e' : (if ns = [] then none else some (D.int (minI ns))) = some d := e
      split at e'
      · cases e'
      rename_i hn
      cases e'
      obtain ⟨v, rfl, rv⟩ := repl1 r
      obtain ⟨a, ws, rfl, ha, ra⟩ := rv.ls
      rw [intsOf_eq h] at ra
      rw [repL_ints ra] at ha
      exact ⟨a, ns, rfl, .of (c.f _ _ ha), List.length_pos_iff.mpr hn, fun m h1 h2 => by rw [minI_uniq hn h1 h2]; exact k F _ H Ex.rfl' (c.push (rep_i _))⟩
  · cases e
theorem l_max : LCall K (rMax K) gMax := by
  intro F0 G F ρ rts H us ds d Q c r e k
  unfold gMax at e
  split at e
  · rename_i xs
    cases h : intsOf xs with
    | none => rw [h] at e; cases e
    | some ns =>
      rw [h] at e
      have e' : (if ns = [] then none else some (D.int (maxI ns))) = some d := e
      split at e'
      · cases e'
      rename_i hn
      cases e'
      obtain ⟨v, rfl, rv⟩ := repl1 r
      obtain ⟨a, ws, rfl, ha, ra⟩ := rv.ls
      rw [intsOf_eq h] at ra
      rw [repL_ints ra] at ha
      exact ⟨a, ns, rfl, .of (c.f _ _ ha), List.length_pos_iff.mpr hn, fun m h1 h2 => by rw [maxI_uniq hn h1 h2]; exact k F _ H Ex.rfl' (c.push (rep_i _))⟩
  · cases e
def gAll : List D → Option D
  | [.lst ds] => (blsOf ds).map fun ns => .bl (ns.all id)
  | _ => none
theorem l_all : LCall K (rAll K) gAll := by
  intro F0 G F ρ rts H us ds d Q c r e k
  unfold gAll at e
  split at e
  · rename_i xs
    cases h : blsOf xs with
    | none => rw [h] at e; cases e
    | some ns =>
      rw [h] at e
      cases e
      obtain ⟨v, rfl, rv⟩ := repl1 r
      obtain ⟨a, ws, rfl, ha, ra⟩ := rv.ls
      rw [blsOf_eq h] at ra
      rw [repL_bls ra] at ha
      exact ⟨a, ns, rfl, .of (c.f _ _ ha), k F _ H Ex.rfl' (c.push (rep_b _))⟩
  · cases e
def gAny : List D → Option D
  | [.lst ds] => (blsOf ds).map fun ns => .bl (ns.any id)
  | _ => none
theorem l_any : LCall K (rAny K) gAny := by
  intro F0 G F ρ rts H us ds d Q c r e k
  unfold gAny at e
  split at e
  · rename_i xs
    cases h : blsOf xs with
    | none => rw [h] at e; cases e
    | some ns =>
      rw [h] at e
      cases e
      obtain ⟨v, rfl, rv⟩ := repl1 r
      obtain ⟨a, ws, rfl, ha, ra⟩ := rv.ls
      rw [blsOf_eq h] at ra
      rw [repL_bls ra] at ha
      exact ⟨a, ns, rfl, .of (c.f _ _ ha), k F _ H Ex.rfl' (c.push (rep_b _))⟩
  · cases e
end
theorem L2.CallR.orC' {X : Cx} {f : Value} {r r' : List V → Hp → VK → Prop} (h : CallR X f r) (h' : CallR X f r') : CallR X f (fun x H Q => r x H Q ∨ r' x H Q) := by
  intro pins s σ H xs us Q I rx q
  rcases q with q | q
  · exact h pins s σ H xs us Q I rx q
  · exact h' pins s σ H xs us Q I rx q
/-- len(x), x a name: what it holds stays its own -/
def cLenP (i : Nat) : C := fun s => match plc s i with
  | none => none
  | some r => match rget s r with
    | some (.own ds) => some (.int ds.length, s)
    | some (.lst ds) => some (.int ds.length, s)
    | some (.tup ds) => some (.int ds.length, s)
    | some (.scr ds) => some (.int ds.length, s)
    | some (.odic _ ds) => some (.int ds.length, s)
    | some (.dic _ ds) => some (.int ds.length, s)
    | _ => none
theorem po_lenP {i : Nat} {y : Str} {py : Pos} (hy : PE X (.Name y py) (tVar i)) (hg : Gl X "len") (hm : X.mg "len" = none) (hs : starEach [.Name y py] X.env = (false, eval (.Name y py) X.env) :: starEach [] X.env := by rfl) :
    PO' X (.Call (.Name "len" p) [.Name y py] [] pos) (cLenP i) :=
  pe_w (pe_callB (L2.CallR.orC' call_len call_lenD) hg hm PySem.boot_len (pa_cons hy pa_nil hs)) fun σ H Q ⟨F0, G, F, ρ, vs, s, d, s', m, hc, k⟩ => by
    unfold cLenP at hc
    cases h1 : plc s i with
    | none => rw [h1] at hc; cases hc
    | some r =>
      rw [h1] at hc
      dsimp only at hc
      cases h2 : rget s r with
      | none => rw [h2] at hc; cases hc
      | some dd =>
        rw [h2] at hc
        obtain ⟨v, rest, hv, c, back⟩ := m.focus h1 h2
        refine ⟨v, hv, ?_⟩
        have done : ∀ n : Nat, d = .int n → s' = s → Q (.int n) H := fun n e1 e2 => by
          subst e1 e2
          exact k F ρ vs _ H Ex.rfl' (List.prefix_refl _) (m.push (rep_i _))
        have frz' : frzn dd = true → Rep X.K ρ F dd v := fun hf => by
          obtain ⟨fp, ow, _⟩ := c.own
          obtain ⟨f1, f2, _, q, _⟩ := ow.inv
          exact q.rep hf
        cases dd with
        | own ds =>
          cases hc
          obtain ⟨aa, us, rfl, ha, hl⟩ := c.headL
          exact .inl ⟨_, _, rfl, .inl ⟨us, .of ha, rfl⟩, done us.length (by rw [hl]) rfl⟩
        | lst ds =>
          cases hc
          obtain ⟨aa, us, rfl, ha, ra⟩ := (frz' rfl).ls
          exact .inl ⟨_, _, rfl, .inl ⟨us, .of (c.f _ _ ha), rfl⟩, done us.length (by rw [ra.len]) rfl⟩
        | tup ds =>
          cases hc
          obtain ⟨aa, us, rfl, ha, ra⟩ := (frz' rfl).tp
          exact .inl ⟨_, _, rfl, .inr ⟨us, Ex.st c.f ha, rfl⟩, done us.length (by rw [ra.len]) rfl⟩
        | scr ds =>
          cases hc
          obtain ⟨aa, us, rfl, ha, ra⟩ := (frz' rfl).sc
          exact .inl ⟨_, _, rfl, .inl ⟨us, Ex.sl c.f ha, rfl⟩, done us.length (by rw [ra.len]) rfl⟩
        | odic ks ds =>
          cases hc
          obtain ⟨aa, kvs, rfl, ha, hk, hl⟩ := c.headD
          exact .inr ⟨aa, kvs, rfl, ha, done kvs.length (by rw [hl]) rfl⟩
        | dic ks ds =>
          cases hc
          have r := frz' rfl
          unfold Rep at r
          obtain ⟨aa, kvs, rfl, ha, hk, ra⟩ := r
          exact .inr ⟨aa, kvs, rfl, c.f _ _ ha, done kvs.length (by rw [ra.len]; simp) rfl⟩
        | _ => cases hc
end
end Fr

set_option maxRecDepth 100000
/-! Over the machine: set(a tuple of tuples of ints); {e for ..} of ints. -/
namespace FrS
open PySem PySem.Spec PyProof.Rows L2
section
variable {P : Program} {w : World} {A : Around} {E : Value → Shared → Prop} {s : Shared}
abbrev nuSet (w : World) : Obj := { cls := .type "set", dict := none, data := .set #[] 0 (.fresh 0 0 (!w.params.followText "set-order")) }
set_option maxHeartbeats 4000000 in
theorem setOfT {T : Addr} {vs : Array Value} (ks : List (Addr × List Int)) {Q : Value → Shared → Prop} (hh : A.handled = none) (hT : s.heap.IsTuple T vs) (hv : vs.toList = ks.map fun p => Value.ref p.1)
    (hk : ∀ p ∈ ks, IsT P w s.heap p.2 p.1) (few : ks.length < 64) (hu : A.units + 3 < cLine)
    (q : ∀ (h' : Heap) (tk : Nat) L es ep t, SetTR P w h' s.heap.objs.size L es ep t → Got ks ks.length L → (∀ b o, s.heap.get? b = some o → h'.get? b = some o) → Q (.ref s.heap.objs.size) { s with heap := h', toks := tk }) :
    wpAny (model P w) A (call (.type "set") [.ref T]) Q E s := by
  have sz : vs.size = ks.length := by
    have z := congrArg List.length hv
    simpa using z
  obtain ⟨c, tl, hmro⟩ := F.called_set.mro
  have hmade := F.called_set.made
  have hsub := F.called_set.sub
  refine wpAny_call (codeAny_of_tree ?_)
  show wpAny _ _ (callAny (.type "set") _) _ _ _
  refine wpAny_pure ⟨Code.quiet_builtin _ (by decide +kernel), codeAny_builtin F.entry_type_call ?_⟩
  rw [Around.under_plain (weight_type_call_type "set" [.ref T] []) rfl]
  have h1 := F.called_set.notType
  have h2 := F.called_set.canCreate
  have hct := F.typeCall_set_1 (.ref T)
  repeat (any_goals (first | assumption | wp_step))
  refine codeAny_mono (code_set_led1 (.ref T) (E := E) (Q₁ := fun obj s₁ => obj = .ref s.heap.objs.size ∧ s₁ = { s with heap := s.heap.push (nuSet w) }) ⟨rfl, rfl⟩) fun r s₁ hr => ?_
  cases r with
  | error e => exact hr
  | ok fl =>
    cases fl with
    | ret obj =>
      obtain ⟨rfl, rfl⟩ := hr
      have hS : (s.heap.push (nuSet w)).get? s.heap.objs.size = some (nuSet w) := Heap.get?_push_size _ rfl
      have hTy : Shared.TypeIs { s with heap := s.heap.push (nuSet w) } (.ref s.heap.objs.size) "set" := ⟨_, hS, rfl⟩
      have hli := F.called_set.init.lookup
      have hbi := F.called_set.init.bind (.ref s.heap.objs.size)
      repeat (any_goals (first | assumption | wp_step))
      refine codeAny_mono (codeAny_call_builtin (R := wants (fun r s₂ => r = .none ∧ ∃ h' tk L es ep t, s₂ = { s with heap := h', toks := tk } ∧ SetTR P w h' s.heap.objs.size L es ep t ∧ Got ks ks.length L ∧
          (∀ b o, s.heap.get? b = some o → h'.get? b = some o)) E) F.called_set.init.plain F.entry_set_init (check_set_init_1 hTy ?_)) fun r₂ s₂ hr₂ => ?_
      · obtain ⟨⟨tcls, tdict, tdata, tslots⟩, hot, hcl, nt, hdt⟩ := hT
        simp only at hcl hdt
        subst hcl; subst hdt
        have hot' : (s.heap.push (nuSet w)).get? T = some { cls := .type "tuple", dict := tdict, data := .seq vs nt, slots := tslots } := Heap.get?_push_of_some _ hot
        have hsls := F.sub_tuple_set
        have hslf := F.sub_tuple_frozenset
        have hne : (Value.type "tuple" == Value.type "dict") = false := by decide
        have hT1 : (s.heap.push (nuSet w)).IsTuple T vs := ⟨_, hot', rfl, nt, rfl⟩
        unfold Builtin.«set.__init__» noKeywords Builtin.Frozenset.updateFrom
        generalize hPI : pyIter = PI
        wp_walk
        subst hPI
        refine wpAny_pyIter_tuple hT1 ?_
        refine wpAny_bind (wpAny_runValue ?_)
        have hTS : T < s.heap.objs.size := Heap.lt_size hot
        have hh3 : A.in1.in1.in1.handled = none := by simp [hh]
        have hz1 : (s.heap.push (nuSet w)).objs.size = s.heap.objs.size + 1 := Heap.size_push ..
        have hneI : T ≠ (s.heap.push (nuSet w)).objs.size := by
          rw [Heap.size_push]; exact Nat.ne_of_lt (Nat.lt_succ_of_lt hTS)
        have hSf : s.heap.objs.size ∉ [(s.heap.push (nuSet w)).objs.size, T] := by
          rw [Heap.size_push]
          simp only [List.mem_cons, List.not_mem_nil, or_false, not_or]
          exact ⟨Nat.ne_of_lt (Nat.lt_succ_self _), Nat.ne_of_gt hTS⟩
        have hval : ∀ (i : Nat) (v : Value), vs[i]? = some v → ∃ p, ks[i]? = some p ∧ v = .ref p.1 := fun i v hvi => by
          have z : vs.toList[i]? = some v := by rw [Array.getElem?_toList]; exact hvi
          rw [hv, List.getElem?_map] at z
          cases hq : ks[i]? with
          | none => rw [hq] at z; cases z
          | some p =>
            rw [hq] at z
            exact ⟨p, rfl, (Option.some.inj z).symm⟩
        have none_of : ∀ b, s.heap.objs.size ≤ b → s.heap.get? b = none := fun b hb => by
          cases z : s.heap.get? b with
          | none => rfl
          | some o => exact absurd (Nat.lt_of_lt_of_le (Heap.lt_size z) hb) (Nat.lt_irrefl _)
        refine set_update_tups ((Walks.tuple hh3 _ T hneI vs).toS) s.heap.objs.size hSf ks sz few hval s.heap hk (none_of _ (Nat.le_refl _)) (fun b hb => none_of b (by
            rw [List.mem_singleton.mp hb, Heap.size_push]
            exact Nat.le_succ _)) hu (vs.size - 0) 0 _ (by omega) (Nat.zero_le _)
          ⟨⟨_, Heap.get?_push_size _ rfl, rfl, rfl⟩, (hT1.push _)⟩ (fun b o e => Heap.get?_push_of_some _ (Heap.get?_push_of_some _ e)) ?hS0 ?hR
        case hS0 =>
          have hget : ((s.heap.push (nuSet w)).push { cls := .type "tuple_iterator", data := .fields #[.ref T, .int 0 0] }).get? s.heap.objs.size = some (nuSet w) := Heap.get?_push_of_some _ hS
          exact ⟨[], #[], 0, _, setTR_fresh hget, Got.zero ks⟩
        case hR =>
          intro s' L es ep t hm hS' g' hkp
          obtain ⟨h', g2, d', tk', os'⟩ := s'
          have eg : g2 = s.gens := hm.gens
          have ed : d' = s.drawn := hm.drawn
          have eo : os' = s.os := hm.os
          subst eg; subst ed; subst eo
          show wpAny _ _ _ _ _ _
          refine wpAny_pure ?_
          show wpAny _ _ (ret Value.none) _ _ _
          rw [sz] at g'
          exact wpAny_pure ⟨rfl, h', tk', L, es, ep, t, rfl, hS', g', hkp⟩
      · cases r₂ with
        | error e => exact hr₂
        | ok fl₂ =>
          cases fl₂ with
          | ret r =>
            obtain ⟨rfl, h', tk, L, es, ep, t, rfl, hS', g', hk'⟩ := hr₂
            repeat (any_goals (first | assumption | wp_step))
            exact q _ _ _ _ _ _ hS' g' hk'
          | _ => exact hr₂.elim
    | _ => exact hr.elim
end
/-- len(set(xs)), xs a tuple of tuples of ints -/
def tLenST (K : PySem.W.Frag) (ta : TE) : TE := fun σ H Q => ta σ H fun x H1 => ∃ (l : Addr) (ks : List (Addr × List Int)), x = .ref l ∧ SqT K H1 l (ks.map fun p => V.ref p.1) ∧ (∀ p ∈ ks, SqT K H1 p.1 (p.2.map V.int)) ∧ ks.length < 64 ∧
  ∀ L : List (List Int), L.Nodup → (∀ k, k ∈ L ↔ k ∈ ks.map (·.2)) → Q (.int (L.length : Nat)) H1
theorem pe_lenST {X : Cx} {a : Expr} {ta : TE} {p p2 q pos : Pos} (hc : X.calm = true) (hu : X.A.units + 64 < cLine) (hg : Gl X "len") (hm : X.mg "len" = none) (hg2 : Gl X "set") (hm2 : X.mg "set" = none) (ha : PE X a ta)
    (na : starEach [a] X.env = (false, eval a X.env) :: starEach [] X.env := by rfl) : PE X (.Call (.Name "len" p) [.Call (.Name "set" p2) [a] [] q] [] pos) (tLenST X.K ta) := by
  refine ⟨fun pins s σ H Q I h => ?_⟩
  refine Call_ (ld_blt I hg hm PySem.boot_len ?_)
  refine PyProof.Rows.callWith_builtin1 (PyProof.Rows.args_cons ?_ rfl) rfl rfl
  refine Call_ (ld_blt I hg2 hm2 PyProof.Rows.boot_set ?_)
  refine PyProof.Rows.callWith_type1 (PyProof.Rows.args_cons (thn (ha.run pins s σ H _ I h) fun v s1 ⟨x, H1, I1, r1, q1⟩ => PyProof.Rows.args_nil ?_) na) na rfl
  obtain ⟨l, ks, rfl, hq, hk, few, q1⟩ := q1
  cases r1
  obtain ⟨its, r, pl, hz⟩ := I1.tuple hq
  refine setOfT (P := X.prog) (w := X.w) ks (I1.ok.hd hc) pl (by simpa using refs_of_vals r) (fun p hp => I1.isT (hk p hp)) few (by omega) fun h' tk L es ep t R g k => ?_
  refine PyProof.Rows.args_nil ?_
  have I2 : Inv X pins σ H1 { s1 with heap := h', toks := tk } := I1.kept fun b o e => k b o e
  obtain ⟨o, ho, hex, hd⟩ := R.ob
  have hn : es.size = L.length := by
    have z := congrArg List.length R.rows
    unfold rowsOf at z
    simpa using z
  refine call_len_set ho hex hd (SetTR.fits (s := { s1 with heap := h', toks := tk }) R) (by rw [hn]; have := g.len; omega) ⟨.int (L.map (·.2)).length, H1, I2.tok _, ⟨_, by rw [hn, List.length_map]⟩, q1 (L.map (·.2)) R.nd fun z => ⟨fun hz => ?_, fun hz => ?_⟩⟩
  · obtain ⟨p, hp, rfl⟩ := List.mem_map.mp hz
    exact List.mem_map.mpr ⟨p, List.mem_of_mem_take (g.sub p hp), rfl⟩
  · obtain ⟨p, hp, rfl⟩ := List.mem_map.mp hz
    exact g.all p (by rw [List.take_length]; exact hp)

/-! ### {elt for target in iter if ..}, elt an int -/
section
variable {X : Cx}
def tScI (w : World) (wi : TI) (g : TG) (tt : TT) (te : TE) (vs : List Nat) : TE := fun σ H Q => wi σ H fun J H1 => ∀ D, H1 D = none → ∃ W : Nat → Nat → Hp → Prop, (∃ m, W 0 m (upd H1 D (SetO w D (fun _ => false) 0))) ∧ ∀ i m H, W i m H →
  (J.stop i H ∧ Q (.ref D) H) ∨ (J.go i H ∧ ∃ Nx : Hp → Prop, (∀ H', Nx H' → ∃ m', m' < m ∧ W (i + 1) m' H') ∧ ∀ x H', J.yld i H x H' → g x (wipe σ vs) H' fun σ2 H2 => wipe σ2 vs = wipe σ vs ∧ tt σ2 H2 fun b H3 =>
    if b = true then te σ2 H3 fun y H4 => ∃ (c : Int) (S : Int → Bool) (n : Nat), y = .int c ∧ H4 D = some (SetO w D S n) ∧ n + 1 < scanBound ∧ Nx (upd H4 D (SetO w D (fun j => S j || decide (j = c)) (if S c = true then n else n + 1))) else Nx H3)
theorem pe_scI {elt tg iter : Expr} {ifs : List Expr} {scope : Scope} {own : List (PySem.Str × Nat)} {pos : Pos} {wi : TI} {g : TG} {tt : TT} {te : TE} (hc : X.calm = true) (hN : X.N.Nodup) (hi : PI X tg iter wi) (ok : BlkOk X.N X.env.scope scope own)
    (hg : ∀ (s : Shared) (H : Hp) (C : Addr) (cl : List (PySem.Str × Addr)) (fp : List Addr), PG (X.blk s H scope (compEnvC scope cl C X.env) fp) tg g)
    (ht : ∀ (s : Shared) (H : Hp) (C : Addr) (cl : List (PySem.Str × Addr)) (fp : List Addr), PTs (X.blk s H scope (compEnvC scope cl C X.env) fp) ifs tt)
    (he : ∀ (s : Shared) (H : Hp) (C : Addr) (cl : List (PySem.Str × Addr)) (fp : List Addr), PE (X.blk s H scope (compEnvC scope cl C X.env) fp) elt te) (hs : ∀ x, foldedSetIterable iter X.env x = pure x := by intro _; rfl) :
    PE X (.SetComp elt [⟨tg, iter, ifs, 0⟩] scope pos) (tScI X.w wi g tt te (own.map (·.2))) := by
  refine ⟨fun pins s σ H Q I h => ?_⟩
  rw [PpSet.eval_SetComp]
  have fre : ∀ y ∈ scope.names, y.2 = .free → ∃ c, X.env.cells.lookup y.1 = some c := fun y hy e => (ok.free y hy e).elim (fun k => I.ok.has _ (.inl k)) fun k => I.ok.has _ (.inr k)
  refine wpAny_comprehension_free (use := none) rfl hs (closure_ok fre) ok.kind (fun y hy e => by rw [ok.uniq y hy, e]) (thn (hi.run pins s σ H _ I h) fun xv s1 hx => thn hx fun itv s2 h2 => ?_)
  obtain ⟨it, fp, tn, J, H2, e, I2, T, st2, f2, q⟩ := h2
  subst e
  refine PpSet.newSet_ok (newEnv_comp ?_)
  generalize hD : s2.heap.objs.size = D
  have hDn : H2 D = none := I2.hok.fresh (Nat.le_of_eq hD)
  obtain ⟨W, ⟨m0, w0⟩, turn⟩ := q D hDn
  generalize hs3 : ({ s2 with heap := s2.heap.push (nuSet X.w) } : Shared) = s3
  have nw : SetR X.w (s2.heap.push (nuSet X.w)) s2.heap.objs.size (fun _ => false) 0 := by
    have z := setR_new_at (w := X.w) (ns := []) (Heap.get?_push_size s2.heap (o := nuSet X.w) rfl)
    have e : (fun j : Int => decide (j ∈ ([] : List Int).take 0)) = fun _ => false := by funext j; simp
    rw [e] at z
    exact z
  have I3 : Inv X pins σ (upd H2 D (SetO X.w D (fun _ => false) 0)) s3 := by
    rw [← hs3]
    refine I2.laid (t' := s2.toks) (fun b o e => Heap.get?_push_of_some _ e) (Nat.le_of_eq hD) ?_
    rw [← hD]
    exact setO_new nw
  have h3 : s3.heap = s2.heap.push (nuSet X.w) := by rw [← hs3]
  have f3 : ∀ b ∈ fp, FpOk X pins (upd H2 D (SetO X.w D (fun _ => false) 0)) b ∧ b < s3.heap.objs.size := fun b hb => by
    obtain ⟨o, e, _⟩ := T.obj _ _ st2 b hb
    have hlt := Heap.lt_size e
    refine ⟨⟨?_, (f2 b hb).2⟩, by rw [h3, Heap.size_push]; exact Nat.lt_succ_of_lt hlt⟩
    rw [upd_ne (by rw [← hD]; exact Nat.ne_of_lt hlt)]
    exact (f2 b hb).1
  have st3 : tn 0 s3.heap := T.keep _ _ _ st2 fun b _ o e => by rw [h3]; exact Heap.get?_push_of_some _ e
  have I4 := block_start I3 ok hN f3
  show codeAny _ _ (.compStart (.SetComp elt [⟨tg, iter, ifs, 0⟩] scope pos) 0 (.ref it) (.ref D) (compEnvC scope (cellsFrom (s3.heap.objs.size + 1) scope.names (cloFrom X.env.cells scope.names [])) s3.heap.objs.size X.env)) (compPost (model X.prog X.w) X.A X.xe none (EP X pins σ Q) (.ref D) s3.heap.objs.size) { s3 with heap := pushCells (s3.heap.push { cls := .type "dict", data := .dict #[] }) scope.names }
  generalize hcl : cellsFrom (s3.heap.objs.size + 1) scope.names (cloFrom X.env.cells scope.names []) = cl at I4 ⊢
  have pg := hg s3 (upd H2 D (SetO X.w D (fun _ => false) 0)) s3.heap.objs.size cl fp
  have pt := ht s3 (upd H2 D (SetO X.w D (fun _ => false) 0)) s3.heap.objs.size cl fp
  have pe := he s3 (upd H2 D (SetO X.w D (fun _ => false) 0)) s3.heap.objs.size cl fp
  have nfp : ∀ b ∈ fp, (upd H2 D (SetO X.w D (fun _ => false) 0)) b = none := fun b hb => (f3 b hb).1.1
  have fin : codeAny (model X.prog X.w) X.A (.compStart (.SetComp elt [⟨tg, iter, ifs, 0⟩] scope pos) 0 (.ref it) (.ref D) (compEnvC scope cl s3.heap.objs.size X.env)) (compPost (model X.prog X.w) X.A X.xe none (EP X pins σ Q) (.ref D) s3.heap.objs.size)
      { s3 with heap := pushCells (s3.heap.push { cls := .type "dict", data := .dict #[] }) scope.names } := by
    generalize hce : compEnvC scope cl s3.heap.objs.size X.env = ce at I4 pg pt pe ⊢
    have cL : ce.locals = s3.heap.objs.size := by subst hce; rfl
    generalize hH3 : upd H2 D (SetO X.w D (fun _ => false) 0) = H3 at I3 I4 pg pt pe w0 nfp f3
    generalize hs4 : ({ s3 with heap := pushCells (s3.heap.push { cls := .type "dict", data := .dict #[] }) scope.names } : Shared) = s4 at I4 ⊢
    have st4 : tn 0 s4.heap := T.keep _ _ _ st3 fun b _ o e => by rw [← hs4]; exact pushCells_keeps _ _ _ _ (Heap.get?_push_of_some _ e)
    have stat : ∀ {σ' : L2.St} {H' : Hp} {s' : Shared}, Inv (X.blk s3 H3 scope ce fp) [] σ' H' s' → (∀ b ∈ fp, H' b = none) → ∀ b ∈ fp, FpOk (X.blk s3 H3 scope ce fp) [] H' b := fun {σ' H' s'} I' hn b hb =>
      ⟨hn b hb, (I'.ok.exf b hb).1, I'.ok.exfs b hb, .inl hb, fun x c e => (I'.ok.exf b hb).2 x c e, fun p hp => absurd (show p ∈ ([] : List (Addr × Obj)) ++ [] from hp) (by simp)⟩
    have loop : codeAny (model X.prog X.w) X.A (.compLoop (.SetComp elt [⟨tg, iter, ifs, 0⟩] scope pos) 0 (.ref it) (.ref D) ce) (compPost (model X.prog X.w) X.A X.xe none (EP X pins σ Q) (.ref D) s3.heap.objs.size) s4 := by
      refine PpSet.compLoopS_any (fun n s' => ∃ i H', Inv (X.blk s3 H3 scope ce fp) [] (wipe σ (own.map (·.2))) H' s' ∧ tn i s'.heap ∧ (∀ b ∈ fp, H' b = none) ∧ W i n H') ?_ m0 ⟨0, H3, I4, st4, nfp, w0⟩
      rintro n s5 ⟨i, H5, I5, st5, n5, w5⟩
      rcases turn i n H5 w5 with ⟨stop, qq⟩ | ⟨go, Nx, hNx, step⟩
      · refine thnF (T.done (X.blk s3 H3 scope ce fp) rfl rfl rfl hc i [] s5 _ H5 (fun _ _ => False) I5 (stat I5 n5) st5 stop) fun r s6 ⟨hr, I6⟩ => ?_
        subst hr
        have I7 : Inv X pins σ H5 s6 := I3.call' (ch := fp) I6.os I6.base I6.hok I6.bare fun b hb => ⟨(f3 b hb).1.2.2.2.1, (f3 b hb).1.2.1, (f3 b hb).1.2.2.2.2.1, (f3 b hb).1.2.2.2.2.2⟩
        have nC : H5 s3.heap.objs.size = none := by
          have z : H5 ce.locals = none := I6.free
          rw [cL] at z
          exact z
        obtain ⟨m, hn, _⟩ := I6.loc
        have hn : s6.heap.Ns ce.locals m := hn
        rw [cL] at hn
        obtain ⟨f0, f1, f2', f3', f4, f5⟩ := I3.fpOk (Nat.le_refl _) nC
        exact ⟨m, hn, fun h'' sb => ⟨.ref D, H5, I7.turned (t' := s6.toks) (fun b o hb e => (sb.2 b hb).trans e) f0 f1 f3' f4 f5, rfl, qq⟩⟩
      · refine thnF (T.item (X.blk s3 H3 scope ce fp) rfl rfl rfl hc i [] s5 _ H5 (fun _ _ => False) I5 (stat I5 n5) st5 go) fun r s6 ⟨u, hr, h6⟩ => ?_
        subst hr
        refine thnF h6 fun _ s7 ⟨x, H7, I7, r7, y7, st7, n7⟩ => ?_
        have I7' := I7.pinned (stat I7 n7) (T.obj _ _ st7)
        refine thnF (pg.run _ s7 _ H7 x u _ I7' r7 (step x H7 y7)) fun _ s8 ⟨σ8, H8, I8, hw8, q8⟩ => ?_
        refine thnF (pt.run _ s8 σ8 H8 _ I8 q8) fun b s9 ⟨H9, I9, q9⟩ => ?_
        have fin : ∀ {s' : Shared} {H' : Hp}, Inv (X.blk s3 H3 scope ce fp) ([] ++ pinsAt fp s7.heap) σ8 H' s' → Nx H' → ∃ m, m < n ∧ ∃ i H', Inv (X.blk s3 H3 scope ce fp) [] (wipe σ (own.map (·.2))) H' s' ∧ tn i s'.heap ∧ (∀ b ∈ fp, H' b = none) ∧ W i m H' := fun {s' H'} I' nx => by
          obtain ⟨m', hm, w'⟩ := hNx H' nx
          have pin' : ∀ b ∈ fp, ∀ o, s7.heap.get? b = some o → s'.heap.get? b = some o ∧ H' b = none := fun b hb o e =>
            ⟨(I'.pin (b, o) (List.mem_append_right _ (List.mem_append_right _ (mem_pinsAt hb e)))).1, (I'.pin (b, o) (List.mem_append_right _ (List.mem_append_right _ (mem_pinsAt hb e)))).2.1⟩
          have hl : (wipe σ (own.map (·.2))).length = σ8.length := by rw [← hw8, wipe_length]
          refine ⟨m', hm, i + 1, H', (I'.unpinned (pins := [])).weak hl (fun j v e => ?_), T.keep _ _ _ st7 fun b hb o e => (pin' b hb o e).1, fun b hb => ?_, w'⟩
          · rw [← hw8] at e
            exact (wipe_some e).1
          · obtain ⟨o, e, _⟩ := T.obj _ _ st7 b hb
            exact (pin' b hb o e).2
        cases b with
        | false =>
          simp only [Bool.false_eq_true, if_false] at q9 ⊢
          exact fin I9 q9
        | true =>
          simp only [if_true] at q9 ⊢
          refine thnF (pe.run _ s9 σ8 H9 _ I9 q9) fun z s10 ⟨yv, H10, I10, r10, cb, S0, n0, ey, hD10, hz10, nx⟩ => ?_
          subst ey
          have qn : S0 = S0 := rfl
          obtain ⟨tk, ez⟩ := (show ∃ t, z = Value.int cb t from r10)
          subst ez
          have R : SetR (X.blk s3 H3 scope ce fp).w s10.heap D S0 n0 := setO_get I10 hD10
          refine setR_add R hz10 fun h' sb new => ?_
          have he2 : ∃ u, h'.get? D = some u := by
            have ⟨o, _, _, _, ho, _⟩ := new
            exact ⟨o, ho⟩
          exact fin (I10.write (e := D) (t' := s10.toks + 1) (by rw [hD10]; trivial) (.inl rfl) (fun b u hb hu => (sb.2 b hb).trans hu) he2 (setO_new new)) nx
    exact PpSet.codeAny_compStart_set loop (T.self X.A 0 _ _ _ st4 loop)
  exact fin
end
end FrS

set_option maxRecDepth 100000
namespace Fr
open PySem PySem.Spec PyProof.Rows _root_.L2

theorem Core.headRep {K : PySem.W.Frag} {F0 G F H : Hp} {ρ : List Addr} {rts : List (D × V)} {d : D} {v : V} (c : Core K F0 G F ρ ((d, v) :: rts) H) (hf : frzn d = true) : Rep K ρ F d v := by
  obtain ⟨fp, ow, _⟩ := c.own
  obtain ⟨f1, f2, _, q, _⟩ := ow.inv
  exact q.rep hf

/-! ### enumerate(a tuple) -/
def enD : Nat → List D → List D
  | _, [] => []
  | n, d :: ds => .tup [.int n, d] :: enD (n + 1) ds
theorem enD_len : ∀ (n : Nat) (ds : List D), (enD n ds).length = ds.length
  | _, [] => rfl
  | n, d :: ds => by unfold enD; rw [List.length_cons, List.length_cons, enD_len (n + 1) ds]
theorem enD_get : ∀ {n : Nat} {ds : List D} {i : Nat} {d : D}, (enD n ds)[i]? = some d → ∃ x, ds[i]? = some x ∧ d = .tup [.int ((n + i : Nat) : Int), x]
  | _, [], _, _, h => by unfold enD at h; simp at h
  | n, x :: ds, 0, d, h => by
    unfold enD at h
    simp at h
    exact ⟨x, rfl, by rw [← h]; rfl⟩
  | n, x :: ds, i + 1, d, h => by
    unfold enD at h
    simp at h
    obtain ⟨y, h1, h2⟩ := enD_get h
    exact ⟨y, by simpa using h1, by rw [h2]; congr 4; omega⟩
def itEn (cs : S → Option (List D × S)) : S → Option (List D × S) := fun s => match cs s with
  | some ([.tup ds], s') => some (enD 0 ds, s')
  | _ => none
section
variable {X : Cx} {e tg : Expr} {es : List Expr} {pos p : Pos}
theorem walk_et {K : PySem.W.Frag} {ρ : List Addr} {F : Hp} {a : Addr} {us : List V} {ds : List D} (h : SqT K F a us) (r : RepL K ρ F ds us) : WalkD K ρ F (FrE.Iet K a) (enD 0 ds) := by
  intro F0 G F1 ρ1 rts H i e p c
  have hH : SqT K H a us := Ex.st (e.tr c.f) h
  refine ⟨fun hi => ⟨us, hH, by rw [hi, enD_len, r.len]; exact Nat.le_refl _⟩, fun d hd => ?_⟩
  obtain ⟨dx, hdx, rfl⟩ := enD_get hd
  obtain ⟨u, hu, ru⟩ := r.get hdx
  refine ⟨⟨us, u, hH, hu⟩, fun x H' y => ?_⟩
  obtain ⟨T, x2, e9, hT, e8, y⟩ := y
  subst e9 e8
  have := y us hH
  rw [hu] at this
  have e7 : u = x2 := Option.some.inj this
  subst e7
  have ri : RepL K ρ1 F1 [.int ((0 + i : Nat) : Int), dx] [.int (i : Nat), u] := by
    unfold RepL
    refine ⟨_, _, rfl, ?_, ?_⟩
    · rw [Nat.zero_add]; exact rep_i _
    · unfold RepL
      exact ⟨_, _, rfl, ru.mono e p, by unfold RepL; rfl⟩
  obtain ⟨F2, e2, c2⟩ := c.newT ri hT
  exact ⟨F2, e2, c2.tail, c2.headRep rfl⟩
theorem pi_en {cs : S → Option (List D × S)} {elts : List Expr} {kk : Nat} {tpos : Pos} (hg : Gl X "enumerate") (hm : X.mg "enumerate" = none) (ha : PAr X [e] cs) (hs : starEach [e] X.env = [(false, eval e X.env)] := by rfl) :
    PId X (.Tuple elts kk tpos) (.Call (.Name "enumerate" p) [e] [] pos) (itEn cs) :=
  pi_w (FrE.pi_enT hg hm ha hs) fun σ H R ⟨F0, G, F, ρ, vs, s, ds, s', m, hc, k⟩ => by
    unfold itEn at hc
    split at hc
    case h_2 => cases hc
    rename_i ds1 s1 h1
    cases hc
    refine ⟨F0, G, F, ρ, vs, s, _, _, m, h1, fun F1 ρ1 vs1 us H1 e1 p1 m1 r1 => ?_⟩
    obtain ⟨v, rfl, rv⟩ := repl1 r1
    obtain ⟨a, us, rfl, ha, ra⟩ := rv.tp
    exact ⟨a, us, rfl, Ex.st m1.core.f ha, k F1 ρ1 vs1 H1 _ e1 p1 m1 (walk_et ha ra)⟩
end

/-! ### isinstance -/
abbrev tyNs : List String := ["NoneType", "bool", "int", "str", "tuple", "list", "dict", "set"]
theorem kit_tab (K : PySem.W.Frag) : ∀ a ∈ tyNs, ∀ b ∈ tyNs, PySem.W.kitOne K (.type a) (.type b) = some (a == b || (a == "bool" && b == "int")) := by
  intro a ha b hb
  simp only [tyNs, List.mem_cons, List.not_mem_nil, or_false] at ha hb
  rcases ha with rfl | rfl | rfl | rfl | rfl | rfl | rfl | rfl <;> rcases hb with rfl | rfl | rfl | rfl | rfl | rfl | rfl | rfl <;> first | rfl | kernel_rfl
def tyD : D → Option String
  | .non => some "NoneType"
  | .bl _ => some "bool"
  | .int _ => some "int"
  | .str _ => some "str"
  | .tup _ => some "tuple"
  | .lst _ => some "list"
  | .dic _ _ => some "dict"
  | .hset _ => some "set"
  | _ => none
def gIsi : List D → Option D
  | [x, .ty n] => (tyD x).bind fun t => if n ∈ tyNs then some (.bl (t == n || (t == "bool" && n == "int"))) else none
  | _ => none
theorem tyD_in {d : D} {t : String} (h : tyD d = some t) : t ∈ tyNs := by
  cases d <;> cases h <;> simp [tyNs]
theorem tyX_of {K : PySem.W.Frag} {ρ : List Addr} {F H : Hp} {d : D} {v : V} {t : String} (e : Ex F H) (r : Rep K ρ F d v) (h : tyD d = some t) : TyX K H v (.type t) := by
  cases d <;> cases h
  case non => unfold Rep at r; subst r; exact .base .non
  case bl => unfold Rep at r; subst r; exact .base (.bl _)
  case int => unfold Rep at r; subst r; exact .base (.int _)
  case str => unfold Rep at r; subst r; exact .base (.str _)
  case tup => unfold Rep at r; obtain ⟨a, vs, rfl, ha, _⟩ := r; exact .base (.tup (e _ _ ha))
  case lst => unfold Rep at r; obtain ⟨a, vs, rfl, ha, _⟩ := r; exact .base (.lst (e _ _ ha))
  case dic => unfold Rep at r; obtain ⟨a, vs, rfl, ha, _⟩ := r; exact .base (.dK (e _ _ ha))
  case hset => unfold Rep at r; obtain ⟨a, S, n, rfl, ha, _⟩ := r; exact .set (e _ _ ha)
theorem l_isi {K : PySem.W.Frag} : LCall K (rIsi K) gIsi := by
  intro F0 G F ρ rts H us ds d Q c r e k
  unfold gIsi at e
  split at e
  case h_2 => cases e
  rename_i x n
  cases h : tyD x with
  | none => rw [h] at e; cases e
  | some t =>
    rw [h] at e
    have e' : (if n ∈ tyNs then some (D.bl (t == n || (t == "bool" && n == "int"))) else none) = some d := e
    split at e'
    case isFalse => cases e'
    rename_i hn
    cases e'
    obtain ⟨v, w, rfl, rv, rw'⟩ := repl2 r
    unfold Rep at rw'
    subst rw'
    exact ⟨v, .ty n, .type t, .type n, _, rfl, .ty n, tyX_of c.f rv h, kit_tab K t (tyD_in h) n hn, k F _ H Ex.rfl' (c.push (rep_b _))⟩
section
variable {X : Cx} {a b e o : Expr} {es : List Expr} {pos p apos cpos : Pos} {cs : S → Option (List D × S)}
theorem pv_ty {x : Str} {n : String} (hg : Gl X x) (hm : X.mg x = none) (hv : bootBuiltins x = some (.type n)) (hn : x ≠ "__name__" := by decide) (hd : (x == ("__debug__" : Str)) = false := by decide) : PV X (.Name x pos) (cK (.ty n)) :=
  pv_k (pe_bltn (v := .ty n) hg hm hv rfl hn hd) fun _ _ => by unfold Rep; rfl
theorem pv_gint {x : Str} {i : Int} {t : Tok} (hg : Gl X x) (hm : X.mg x = some (.int i t)) (hd : (x == ("__debug__" : Str)) = false := by decide) : PV X (.Name x pos) (cK (.int i)) :=
  pv_k (pe_glob (v := .int i) hg hm ⟨t, rfl⟩ hd) fun _ _ => by unfold Rep; rfl

/-! ### set(a list of ints); in, not in -/
def rSetLI (K : PySem.W.Frag) : List V → Hp → VK → Prop := fun xs H Q => ∃ (l : Addr) (ns : List Int), xs = [.ref l] ∧ SqL K H l (ns.map V.int) ∧ ns.length < 1000 ∧ ∀ a n (S : Int → Bool), (∀ k, S k = decide (k ∈ ns)) → H a = none → Q (.ref a) (upd H a (.set S n))
theorem cr_setLI (hc : X.calm = true) : CallR X (.type "set") (rSetLI X.K) := by
  intro pins s σ H xs us Q I r h
  obtain ⟨l, ns, rfl, hl, hf, q⟩ := h
  rw [Vals.ref1 r]
  obtain ⟨its, rv, pl, hz⟩ := I.list hl
  have hi := intsAre_of rv
  have hn : H s.heap.objs.size = none := I.hok.fresh (Nat.le_refl _)
  have hlen : its.length = ns.length := IntsAre.length hi
  refine call_set_list (prog := X.prog) (w := X.w) (I.ok.hd hc) pl.isList hi (by simp [hlen, scanBound]; omega) fun h' tk R g => ?_
  refine ⟨.ref s.heap.objs.size, upd H s.heap.objs.size (.set _ _), I.laid (t' := tk) (fun b o e => (g b o (Heap.lt_size e) e)) (Nat.le_refl _) R, rfl, q _ _ _ (fun k => ?_) hn⟩
  rw [firstMet_any]
  have e : (List.range its.toArray.size).map (fun i => ns.getD i 0) = ns := by
    refine List.ext_getElem (by simp [hlen]) fun i h1 h2 => ?_
    simp [List.getElem?_eq_getElem h2]
  rw [e]
  by_cases hk : k ∈ ns
  · rw [decide_eq_true hk]
    exact List.any_eq_true.mpr ⟨k, hk, by simp⟩
  · rw [decide_eq_false hk]
    refine Bool.eq_false_iff.mpr fun z => ?_
    obtain ⟨y, hy, hyk⟩ := List.any_eq_true.mp z
    have : y = k := by simpa using hyk
    exact hk (this ▸ hy)
def gSetL : List D → Option D
  | [.lst ds] => (intsOf ds).bind fun ns => if ns.length < 1000 then some (.hset ns) else none
  | _ => none
theorem l_setL {K : PySem.W.Frag} : LCall K (rSetLI K) gSetL := by
  intro F0 G F ρ rts H us ds d Q c r e k
  unfold gSetL at e
  split at e
  case h_2 => cases e
  rename_i xs
  cases h : intsOf xs with
  | none => rw [h] at e; cases e
  | some ns =>
    rw [h] at e
    have e' : (if ns.length < 1000 then some (D.hset ns) else none) = some d := e
    split at e'
    case isFalse => cases e'
    rename_i hz
    cases e'
    obtain ⟨v, rfl, rv⟩ := repl1 r
    obtain ⟨a, ws, rfl, ha, ra⟩ := rv.ls
    rw [intsOf_eq h] at ra
    rw [repL_ints ra] at ha
    refine ⟨a, ns, rfl, .of (c.f _ _ ha), hz, fun b n S hS hb => ?_⟩
    obtain ⟨c', e'⟩ := c.newF (o := .set S n) hb
    refine k _ _ _ e' (c'.push ?_)
    unfold Rep
    exact ⟨b, S, n, rfl, upd_same, hS⟩
abbrev rInS (f : Bool → Bool) : R2 := fun x y H Q => ∃ k a S n, x = V.int k ∧ y = V.ref a ∧ H a = some (.set S n) ∧ Q (.bl (f (S k))) H
theorem or_inS : OpR X (compareOp .In) (rInS id) := by
  intro pins s σ H x y v u Q I rx ry h
  obtain ⟨k, a, S, n, rfl, rfl, ha, q⟩ := h
  obtain ⟨tk, rfl⟩ := rx
  cases ry
  exact wpAny_inSet_of (intKind_is _ _ _ _) rfl (I.hok a _ ha) ⟨.bl (S k), H, I.tok _, rfl, q⟩
theorem or_niS : OpR X (compareOp .NotIn) (rInS not) := by
  intro pins s σ H x y v u Q I rx ry h
  obtain ⟨k, a, S, n, rfl, rfl, ha, q⟩ := h
  obtain ⟨tk, rfl⟩ := rx
  cases ry
  exact wpAny_notInSet_of (intKind_is _ _ _ _) rfl (I.hok a _ ha) ⟨.bl (!S k), H, I.tok _, rfl, q⟩
def gInS (f : Bool → Bool) : D → D → Option D
  | .int k, .hset ns => some (.bl (f (decide (k ∈ ns))))
  | _, _ => none
theorem l_inS {K : PySem.W.Frag} {f : Bool → Bool} : LOp K (rInS f) (gInS f) := by
  intro F0 G F ρ rts H x y dx dy d Q c rx ry e k
  unfold gInS at e
  split at e
  case h_2 => cases e
  rename_i i ns
  cases e
  unfold Rep at ry
  obtain ⟨a, S, n, rfl, ha, hS⟩ := ry
  exact ⟨i, a, S, n, rx.ofI, rfl, c.f _ _ ha, by rw [hS]; exact k F _ H Ex.rfl' (c.push (rep_b _))⟩
theorem pb_inS {ca cb : C} (ha : PV X a ca) (hb : PV X b cb) (hm : behindInMarks .In b = false := by rfl) : PB X (.Compare a [.In] [b] pos) (cT (cBin (gInS id) ca cb)) := pb_cmp or_inS l_inS ha hb hm
theorem pb_niS {ca cb : C} (ha : PV X a ca) (hb : PV X b cb) (hm : behindInMarks .NotIn b = false := by rfl) : PB X (.Compare a [.NotIn] [b] pos) (cT (cBin (gInS not) ca cb)) := pb_cmp or_niS l_inS ha hb hm

/-! ### {} -/
theorem po_dnew : PO' X (.Dict [] [] pos) (cK (.odic [] [])) :=
  pe_w pe_dnewK fun σ H Q ⟨F0, G, F, ρ, vs, s, d, s', m, hc, k⟩ => by
    cases hc
    intro p hp
    refine k F ρ vs (.ref p) _ Ex.rfl' (List.prefix_refl _) (m.core_of (tmp' := [(_, _)]) ?_)
    have c := m.core
    have hF := none_of_ex c.f hp
    have hG := none_of_ex c.g hp
    obtain ⟨fp, ow, nd, dj⟩ := c.own
    have np : ∀ a ∈ fp, a ≠ p := fun a ha z => ownR_some ow a ha (by rw [z]; exact hp)
    refine ⟨c.g.tr (ex_upd hp), c.f.tr (ex_upd hp), c.f0, c.fg, p :: fp, ?_, List.nodup_cons.mpr ⟨fun z => np p z rfl, nd⟩, fun a ha => ?_⟩
    · refine OwnR.cons (f1 := [p]) ?_ (ow.mono Ex.rfl' (List.prefix_refl _) (fun a ha => upd_ne (np a ha)))
      unfold Own
      exact ⟨p, [], [], rfl, upd_same, rfl, rfl, by show OwnL _ _ _ _ [] [] []; unfold OwnL; exact ⟨rfl, rfl⟩⟩
    · rcases List.mem_cons.mp ha with z | ha
      · rw [z]; exact ⟨hF, hG⟩
      · exact dj a ha
end
end Fr

set_option maxRecDepth 100000
namespace Fr
open PySem PySem.Spec PyProof.Rows _root_.L2

section
variable {K : PySem.W.Frag} {F0 G F H : Hp} {ρ : List Addr} {rts : List (D × V)} {d d' : D} {v : V} {a p : Addr} {o : HO}
/-- the head's own object changed -/
theorem Core.chg (c : Core K F0 G F ρ ((d, v) :: rts) H) (h : ∀ fp, Own K ρ F H d v fp → fp.Nodup → a ∈ fp ∧ Own K ρ F (upd H a o) d' v fp) : Core K F0 G F ρ ((d', v) :: rts) (upd H a o) := by
  obtain ⟨fp, ow, nd, dj⟩ := c.own
  obtain ⟨f1, f2, rfl, q, t⟩ := ow.inv
  obtain ⟨ha, q'⟩ := h f1 q (List.nodup_append.mp nd).1
  have hFG := dj a (List.mem_append_left _ ha)
  have na : ∀ b ∈ f2, b ≠ a := fun b hb z => (List.nodup_append.mp nd).2.2 a ha b hb z.symm
  refine ⟨fun b u e => ?_, fun b u e => ?_, c.f0, c.fg, f1 ++ f2, .cons q' (t.mono Ex.rfl' (List.prefix_refl _) (fun b hb => upd_ne (na b hb))), nd, dj⟩
  · rw [upd_ne (ne_of_none e hFG.2)]; exact c.g b u e
  · rw [upd_ne (ne_of_none e hFG.1)]; exact c.f b u e
/-- a new own object -/
theorem Core.newX (c : Core K F0 G F ρ rts H) (hp : H p = none) (h : Own K ρ F (upd H p o) d (.ref p) [p]) : Core K F0 G F ρ ((d, .ref p) :: rts) (upd H p o) := by
  have hF := none_of_ex c.f hp
  have hG := none_of_ex c.g hp
  obtain ⟨fp, ow, nd, dj⟩ := c.own
  have np : ∀ a ∈ fp, a ≠ p := fun a ha z => ownR_some ow a ha (by rw [z]; exact hp)
  refine ⟨c.g.tr (ex_upd hp), c.f.tr (ex_upd hp), c.f0, c.fg, p :: fp, ?_, List.nodup_cons.mpr ⟨fun z => np p z rfl, nd⟩, fun a ha => ?_⟩
  · exact OwnR.cons (f1 := [p]) h (ow.mono Ex.rfl' (List.prefix_refl _) (fun a ha => upd_ne (np a ha)))
  · rcases List.mem_cons.mp ha with z | ha
    · rw [z]; exact ⟨hF, hG⟩
    · exact dj a ha
theorem Core.headS {w : World} {ns : List Int} (c : Core K F0 G F ρ ((.oset w ns, v) :: rts) H) : ∃ a S, v = .ref a ∧ H a = some (SetO w a S ns.length) ∧ ns.Nodup ∧ ∀ k, S k = decide (k ∈ ns) := by
  obtain ⟨fp, ow, nd, dj⟩ := c.own
  obtain ⟨f1, f2, rfl, q, t⟩ := ow.inv
  unfold Own at q
  obtain ⟨a, S, e1, h, z, y, _⟩ := q
  exact ⟨a, S, e1, h, z, y⟩
def addI (ns : List Int) (c : Int) : List Int := if c ∈ ns then ns else ns ++ [c]
theorem Core.addS {w : World} {ns : List Int} {S : Int → Bool} {k : Int} (c : Core K F0 G F ρ ((.oset w ns, .ref a) :: rts) H) (hS : ∀ k, S k = decide (k ∈ ns)) :
    Core K F0 G F ρ ((.oset w (addI ns k), .ref a) :: rts) (upd H a (SetO w a (fun j => S j || decide (j = k)) (if S k = true then ns.length else ns.length + 1))) := by
  refine c.chg fun fp q nd => ?_
  unfold Own at q
  obtain ⟨b, T, e1, h, z, y, e2⟩ := q
  cases e1
  subst e2
  refine ⟨List.mem_singleton_self _, ?_⟩
  unfold Own
  refine ⟨a, (fun j => S j || decide (j = k)), rfl, ?_, ?_, fun j => ?_, rfl⟩
  · show upd H a _ a = some (SetO w a (fun j => S j || decide (j = k)) (addI ns k).length)
    rw [upd_same]
    congr 2
    unfold addI
    rw [hS]
    by_cases hk : k ∈ ns <;> simp [hk]
  · unfold addI
    split
    · exact z
    · rename_i hk
      exact List.nodup_append.mpr ⟨z, by simp, fun x hx y hy => by rw [List.mem_singleton.mp hy]; exact fun e => hk (e ▸ hx)⟩
  · show (S j || decide (j = k)) = decide (j ∈ addI ns k)
    rw [hS]
    unfold addI
    split
    · rename_i hk
      by_cases hj : j = k
      · subst hj; simp [hk]
      · simp [hj]
    · simp [Bool.decide_or]
end

/-! ### {e for ..} of ints -/
def scLoop (js : List Nat) (tg : D → S → Option S) (tt : CB) (te : C) : List D → S → List Int → Option (List Int × S)
  | [], s, acc => some (acc, s)
  | d :: ds, s, acc => match tg d s with
    | none => none
    | some s1 => match tt s1 with
      | none => none
      | some (false, s2) => scLoop js tg tt te ds { s2 with env := unbs s2.env js } acc
      | some (true, s2) => match te s2 with
        | some (.int k, s3) => if acc.length < 1000 then scLoop js tg tt te ds { s3 with env := unbs s3.env js } (addI acc k) else none
        | _ => none
def cSc (w : World) (it : S → Option (List D × S)) (js : List Nat) (tg : D → S → Option S) (tt : CB) (te : C) : C := fun s => match it s with
  | none => none
  | some (ds, s1) => if allFrz s1.env js = true then (match scLoop js tg tt te ds { s1 with env := unbs s1.env js } [] with
    | some (acc, s2) => some (.oset w acc, { s2 with env := rst s2.env s1.env js })
    | none => none) else none
theorem tsc_ok {w : World} {it : S → Option (List D × S)} {js vs : List Nat} {tgd : D → S → Option S} {ct : CB} {ce : C} {K : PySem.W.Frag} (hj : ∀ j ∈ js, j ∈ vs) {σ : _root_.L2.St} {H : Hp} {Q : VK} (h : tO K (cSc w it vs tgd ct ce) σ H Q) :
    FrS.tScI w (tI K it) (tG K tgd js) (tT K ct) (tV K ce) vs σ H Q := by
  obtain ⟨F0, G, F, ρ, vs0, s, d, s', m, hc, k⟩ := h
  unfold cSc at hc
  split at hc
  · cases hc
  rename_i ds s1 h1
  split at hc
  case isFalse => cases hc
  rename_i haf
  split at hc
  case h_2 => cases hc
  rename_i acc sF hL
  cases hc
  refine ⟨F0, G, F, ρ, vs0, s, ds, s1, m, h1, fun F1 ρ1 vs1 H1 J e1 p1 m1 w' => fun Dl hD => ?_⟩
  have hfz : ∀ j ∈ vs, ∀ d, s1.env[j]? = some d → frzn d = true := fun j hj d hd => by
    have := List.all_eq_true.mp haf j hj
    rw [hd] at this
    exact this
  refine ⟨fun i n H => n = ds.length - i ∧ i ≤ ds.length ∧ ∃ F2 ρ2 vs2 s2 acc2, Ex F1 F2 ∧ ρ1 <+: ρ2 ∧ Sim K F0 G F2 ρ2 [(.oset w acc2, .ref Dl)] s2 (wipe σ vs) vs2 H ∧ scLoop vs tgd ct ce (ds.drop i) s2 acc2 = some (acc, sF),
    ⟨ds.length, by simp, Nat.zero_le _, F1, ρ1, vs1, _, [], Ex.rfl', List.prefix_refl _, ?_, by simpa using hL⟩, ?_⟩
  · have mw := m1.wiped vs
    refine mw.core_of (tmp' := [(_, _)]) (mw.core.newX hD ?_)
    unfold Own
    exact ⟨Dl, fun _ => false, rfl, upd_same, List.nodup_nil, fun k => by simp, rfl⟩
  rintro i n H2 ⟨rfl, hi, F2, ρ2, vs2, s2, acc2, e2, p2, m2, hl⟩
  obtain ⟨wS, wG⟩ := w' F0 G F2 ρ2 _ H2 i e2 p2 m2.core
  by_cases hlt : i < ds.length
  · obtain ⟨d, hd⟩ : ∃ d, ds[i]? = some d := ⟨_, List.getElem?_eq_getElem hlt⟩
    obtain ⟨go, yld⟩ := wG d hd
    have hdr : ds.drop i = d :: ds.drop (i + 1) := by
      obtain ⟨h', e'⟩ := List.getElem?_eq_some_iff.mp hd
      rw [← e', List.getElem_cons_drop]
    rw [hdr] at hl
    unfold scLoop at hl
    refine .inr ⟨go, fun H => ∃ F3 ρ3 vs3 s3 acc3, Ex F1 F3 ∧ ρ1 <+: ρ3 ∧ Sim K F0 G F3 ρ3 [(.oset w acc3, .ref Dl)] s3 (wipe σ vs) vs3 H ∧ scLoop vs tgd ct ce (ds.drop (i + 1)) s3 acc3 = some (acc, sF), fun H3 hN => ⟨ds.length - (i + 1), by omega, rfl, hlt, hN⟩, fun x H3 hy => ?_⟩
    obtain ⟨F3, e3, c3, r3⟩ := yld x H3 hy
    obtain ⟨G', cf, unf⟩ := Core.frame c3
    split at hl
    · cases hl
    rename_i s3 h3
    refine ⟨F0, G', F3, ρ2, vs2, s2, d, s3, ⟨cf, m2.lv, m2.lm, m2.ls, m2.sl⟩, r3, h3, fun F4 vs4 σ4 H4 e4 m4 o4 l4 => ?_⟩
    have hw : wipe σ4 vs = wipe σ vs := wipe_same hj o4 l4
    refine ⟨hw, ?_⟩
    split at hl
    · cases hl
    · rename_i s4 h4
      refine ⟨F0, G', F4, ρ2, vs4, s3, false, s4, m4, h4, fun F5 ρ5 vs5 H5 e5 p5 m5 => ?_⟩
      dsimp only
      rw [if_neg (by decide)]
      have m5' := m5.wiped vs
      rw [hw] at m5'
      have c6 := unf F5 ρ5 _ H5 (e4.tr e5) p5 m5'.core
      exact ⟨F5, ρ5, vs5, _, acc2, e2.tr (e3.tr (e4.tr e5)), p2.trans p5, ⟨c6, m5'.lv, m5'.lm, m5'.ls, m5'.sl⟩, hl⟩
    · rename_i s4 h4
      refine ⟨F0, G', F4, ρ2, vs4, s3, true, s4, m4, h4, fun F5 ρ5 vs5 H5 e5 p5 m5 => ?_⟩
      dsimp only
      rw [if_pos rfl]
      split at hl
      case h_2 => cases hl
      rename_i x5 s5 h5
      split at hl
      case isFalse => cases hl
      rename_i hz
      refine ⟨F0, G', F5, ρ5, vs5, s4, _, s5, m5, h5, fun F6 ρ6 vs6 y H6 e6 p6 m6 r6 => ?_⟩
      have c7 := unf F6 ρ6 _ H6 (e4.tr (e5.tr e6)) (p5.trans p6) m6.core
      obtain ⟨a', S0, ea, ha, hnd, hS⟩ := Core.headS c7
      cases ea
      refine ⟨x5, S0, acc2.length, r6.ofI, ha, by unfold scanBound; omega, ?_⟩
      have c8 := c7.addS (k := x5) hS
      have m8 : Sim K F0 G F6 ρ6 [(.oset w (addI acc2 x5), .ref Dl)] s5 σ4 vs6 _ := ⟨c8, m6.lv, m6.lm, m6.ls, m6.sl⟩
      have m9 := m8.wiped vs
      rw [hw] at m9
      exact ⟨F6, ρ6, vs6, _, _, e2.tr (e3.tr (e4.tr (e5.tr e6))), p2.trans (p5.trans p6), m9, hl⟩
  · have hi' : i = ds.length := by omega
    rw [hi', List.drop_length] at hl
    unfold scLoop at hl
    cases hl
    obtain ⟨vs3, m3⟩ := Sim.backs m1 e2 p2 vs hfz m2.unwiped
    exact .inl ⟨wS hi', k F2 ρ2 vs3 _ H2 (e1.tr e2) (p1.trans p2) m3⟩
section
variable {X : Cx} {elt tg iter : Expr} {ifs : List Expr} {scope : Scope} {own : List (Str × Nat)} {it : S → Option (List D × S)} {js : List Nat} {tgd : D → S → Option S} {ct : CB} {ce : C} {pos : Pos}
theorem po_sc (hc : X.calm = true) (hN : X.N.Nodup) (hi : PId X tg iter it) (ok : BlkOk X.N X.env.scope scope own)
    (hg : ∀ (s : Shared) (H : Hp) (C : Addr) (cl : List (Str × Addr)) (fp : List Addr), PG (X.blk s H scope (compEnvC scope cl C X.env) fp) tg (tG X.K tgd js))
    (ht : ∀ (s : Shared) (H : Hp) (C : Addr) (cl : List (Str × Addr)) (fp : List Addr), PTd (X.blk s H scope (compEnvC scope cl C X.env) fp) ifs ct)
    (he : ∀ (s : Shared) (H : Hp) (C : Addr) (cl : List (Str × Addr)) (fp : List Addr), PV (X.blk s H scope (compEnvC scope cl C X.env) fp) elt ce) (hj : ∀ j ∈ js, j ∈ own.map (·.2)) (hs : ∀ x, foldedSetIterable iter X.env x = pure x := by intro _; rfl) :
    PO' X (.SetComp elt [⟨tg, iter, ifs, 0⟩] scope pos) (cSc X.w it (own.map (·.2)) tgd ct ce) :=
  pe_w (FrS.pe_scI hc hN hi ok hg ht he hs) fun σ H Q h => tsc_ok hj h
end

/-! ### orders -/
theorem srt_uniq {α : Type} {le : α → α → Prop} (anti : ∀ x y, le x y → le y x → x = y) : ∀ {l m : List α}, l.Pairwise le → m.Pairwise le → l.Perm m → l = m
  | [], m, _, _, p => (List.nil_perm.mp p).symm
  | x :: l, [], _, _, p => absurd p.symm (by simp)
  | x :: l, y :: m, h1, h2, p => by
    have hx := List.pairwise_cons.mp h1
    have hy := List.pairwise_cons.mp h2
    have e : x = y := by
      have a : x ∈ y :: m := p.mem_iff.mp (List.mem_cons_self ..)
      have b : y ∈ x :: l := p.mem_iff.mpr (List.mem_cons_self ..)
      rcases List.mem_cons.mp a with a | a
      · exact a
      rcases List.mem_cons.mp b with b | b
      · exact b.symm
      · exact anti _ _ (hx.1 y b) (hy.1 x a)
    subst e
    rw [srt_uniq anti hx.2 hy.2 (List.Perm.cons_inv p)]
def insB {α : Type} (le : α → α → Bool) (x : α) : List α → List α
  | [] => [x]
  | y :: l => if le x y = true then x :: y :: l else y :: insB le x l
def srtB {α : Type} (le : α → α → Bool) : List α → List α
  | [] => []
  | x :: l => insB le x (srtB le l)
theorem insB_perm {α : Type} {le : α → α → Bool} (x : α) : ∀ l : List α, (insB le x l).Perm (x :: l)
  | [] => .refl _
  | y :: l => by
    unfold insB
    split
    · exact .refl _
    · exact ((insB_perm x l).cons y).trans (.swap _ _ _)
theorem srtB_perm {α : Type} {le : α → α → Bool} : ∀ l : List α, (srtB le l).Perm l
  | [] => .refl _
  | x :: l => (insB_perm x _).trans ((srtB_perm l).cons x)
theorem insB_srt {α : Type} {le : α → α → Bool} (tot : ∀ x y, le x y = true ∨ le y x = true) (tr : ∀ x y z, le x y = true → le y z = true → le x z = true) (x : α) : ∀ {l : List α}, l.Pairwise (fun a b => le a b = true) → (insB le x l).Pairwise (fun a b => le a b = true)
  | [], _ => List.pairwise_singleton _ _
  | y :: l, h => by
    unfold insB
    have hy := List.pairwise_cons.mp h
    split
    · rename_i hx
      refine List.pairwise_cons.mpr ⟨fun z hz => ?_, h⟩
      rcases List.mem_cons.mp hz with e | e
      · rw [e]; exact hx
      · exact tr _ _ _ hx (hy.1 z e)
    · rename_i hx
      refine List.pairwise_cons.mpr ⟨fun z hz => ?_, insB_srt tot tr x hy.2⟩
      rcases List.mem_cons.mp ((insB_perm x l).mem_iff.mp hz) with e | e
      · rw [e]; exact (tot x y).resolve_left hx
      · exact hy.1 z e
theorem srtB_srt {α : Type} {le : α → α → Bool} (tot : ∀ x y, le x y = true ∨ le y x = true) (tr : ∀ x y z, le x y = true → le y z = true → le x z = true) : ∀ l : List α, (srtB le l).Pairwise (fun a b => le a b = true)
  | [] => List.Pairwise.nil
  | x :: l => insB_srt tot tr x (srtB_srt tot tr l)
def leI (x y : Int) : Bool := decide (x ≤ y)
def leP (x y : Int × Int) : Bool := decide (x.1 < y.1) || (decide (x.1 = y.1) && decide (x.2 ≤ y.2))
theorem leI_tot (x y : Int) : leI x y = true ∨ leI y x = true := by unfold leI; simp only [decide_eq_true_eq]; omega
theorem leI_tr (x y z : Int) : leI x y = true → leI y z = true → leI x z = true := by unfold leI; simp only [decide_eq_true_eq]; omega
theorem leP_iff {x y : Int × Int} : leP x y = true ↔ x.1 < y.1 ∨ (x.1 = y.1 ∧ x.2 ≤ y.2) := by unfold leP; simp
theorem leP_tot (x y : Int × Int) : leP x y = true ∨ leP y x = true := by rw [leP_iff, leP_iff]; omega
theorem leP_tr (x y z : Int × Int) : leP x y = true → leP y z = true → leP x z = true := by rw [leP_iff, leP_iff, leP_iff]; omega
theorem leP_anti (x y : Int × Int) (h1 : leP x y = true) (h2 : leP y x = true) : x = y := by
  rw [leP_iff] at h1 h2
  exact Prod.ext (by omega) (by omega)
section
variable {X : Cx} {K : PySem.W.Frag}
theorem ints_of_rep {ρ : List Addr} {F : Hp} (ns : List Int) : RepL K ρ F (ns.map D.int) (ns.map V.int) := ints_rep ns
open Classical in
/-- sorted(a set of ints) -/
noncomputable def gSrtS (w : World) : List D → Option D
  | [.rset w' ns] => if w' = w ∧ ns.length < 64 then some (.own ((srtB leI ns).map D.int)) else none
  | _ => none
theorem l_srtS {w : World} : LCall K (rSortedSet w) (gSrtS w) := by
  intro F0 G F ρ rts H us ds d Q c r e k
  unfold gSrtS at e
  split at e
  case h_2 => cases e
  rename_i w' ns
  split at e
  case isFalse => cases e
  rename_i hw
  obtain ⟨rfl, hz⟩ := hw
  cases e
  obtain ⟨v, rfl, rv⟩ := repl1 r
  unfold Rep at rv
  obtain ⟨a, S, rfl, ha, hnd, hS⟩ := rv
  refine ⟨a, S, ns.length, rfl, c.f _ _ ha, hz, fun ms p hs hm hl hp => ?_⟩
  have e : ms = srtB leI ns := by
    refine srt_uniq (le := fun a b => leI a b = true) (fun x y h1 h2 => by unfold leI at h1 h2; simp only [decide_eq_true_eq] at h1 h2; omega) (hs.imp fun h => by unfold leI; simp only [decide_eq_true_eq]; omega) (srtB_srt leI_tot leI_tr ns) ?_
    refine ((List.perm_ext_iff_of_nodup (hs.imp fun h => by omega) hnd).mpr fun x => ?_).trans (srtB_perm ns).symm
    rw [hm, hS, decide_eq_true_eq]
  rw [e]
  exact k F _ _ Ex.rfl' (c.newL (ints_rep _) hp)
/-- sorted(a list of pairs of ints) -/
def prsOf : List D → Option (List (Int × Int))
  | [] => some []
  | .tup [.int a, .int b] :: ds => (prsOf ds).map fun l => (a, b) :: l
  | _ :: _ => none
def dPr (p : Int × Int) : D := .tup [.int p.1, .int p.2]
theorem prsOf_eq : ∀ {ds : List D} {ps : List (Int × Int)}, prsOf ds = some ps → ds = ps.map dPr := by
  intro ds
  induction ds with
  | nil => intro ps h; cases h; rfl
  | cons d ds ih =>
    intro ps h
    unfold prsOf at h
    split at h
    · rename_i heq
      cases heq
    · rename_i a b ds' heq
      cases heq
      cases h2 : prsOf ds with
      | none => rw [h2] at h; cases h
      | some l =>
        rw [h2] at h
        cases h
        rw [ih h2]
        rfl
    · cases h
theorem prsOf_map : ∀ ps : List (Int × Int), prsOf (ps.map dPr) = some ps
  | [] => rfl
  | p :: ps => by
    show (prsOf (ps.map dPr)).map (fun l => (p.1, p.2) :: l) = some (p :: ps)
    rw [prsOf_map ps]
    rfl
def gSrtP : List D → Option D
  | [.lst ds] => (prsOf ds).map fun ps => .own ((srtB leP ps).map dPr)
  | _ => none
def keyV (H : Hp) : V → Int × Int := fun v => match v with
  | .ref t => (match H t with
    | some (.tup [.int a, .int b]) => (a, b)
    | _ => (0, 0))
  | _ => (0, 0)
theorem repL_prs {ρ : List Addr} {F H : Hp} (e : Ex F H) : ∀ {ps : List (Int × Int)} {us : List V}, RepL K ρ F (ps.map dPr) us → us.map (keyV H) = ps ∧ ∀ x ∈ us, ∃ t, x = V.ref t ∧ F t = some (.tup [.int (keyV H x).1, .int (keyV H x).2])
  | [], us, r => by
    have r' : RepL K ρ F [] us := r
    unfold RepL at r'
    subst r'
    exact ⟨rfl, fun x hx => by simp at hx⟩
  | p :: ps, us, r => by
    have r' : RepL K ρ F (dPr p :: ps.map dPr) us := r
    unfold RepL at r'
    obtain ⟨v, t, rfl, r1, r2⟩ := r'
    obtain ⟨h1, h2⟩ := repL_prs e r2
    unfold dPr Rep at r1
    obtain ⟨a, ws, rfl, ha, rw'⟩ := r1
    obtain ⟨x, y, rfl, rx, ry⟩ := repl2 rw'
    rw [rx.ofI, ry.ofI] at ha
    have hk : keyV H (.ref a) = p := by
      have := e _ _ ha
      unfold keyV
      dsimp only
      rw [this]
    refine ⟨by rw [List.map_cons, hk, h1], fun z hz => ?_⟩
    rcases List.mem_cons.mp hz with ez | hz
    · subst ez
      exact ⟨a, rfl, by rw [hk]; exact ha⟩
    · exact h2 z hz
theorem prs_repL {ρ : List Addr} {F : Hp} : ∀ {us : List V} (f : V → Int × Int), (∀ x ∈ us, ∃ t, x = V.ref t ∧ F t = some (.tup [.int (f x).1, .int (f x).2])) → RepL K ρ F ((us.map f).map dPr) us
  | [], f, _ => by show RepL K ρ F [] []; unfold RepL; rfl
  | u :: us, f, h => by
    obtain ⟨t, e, ht⟩ := h u (List.mem_cons_self ..)
    show RepL K ρ F (dPr (f u) :: (us.map f).map dPr) (u :: us)
    unfold RepL
    refine ⟨u, us, rfl, ?_, prs_repL f fun x hx => h x (List.mem_cons_of_mem _ hx)⟩
    unfold dPr Rep
    refine ⟨t, _, e, ht, ?_⟩
    unfold RepL
    refine ⟨_, _, rfl, rep_i _, ?_⟩
    unfold RepL
    exact ⟨_, _, rfl, rep_i _, by unfold RepL; rfl⟩
theorem l_srtP : LCall K (rSortedPO K) gSrtP := by
  intro F0 G F ρ rts H us ds d Q c r e k
  unfold gSrtP at e
  split at e
  case h_2 => cases e
  rename_i xs
  cases h : prsOf xs with
  | none => rw [h] at e; cases e
  | some ps =>
    rw [h] at e
    cases e
    obtain ⟨v, rfl, rv⟩ := repl1 r
    obtain ⟨a, ws, rfl, ha, ra⟩ := rv.ls
    rw [prsOf_eq h] at ra
    obtain ⟨hk, hx⟩ := repL_prs c.f ra
    refine ⟨a, ws, keyV H, rfl, .of (c.f _ _ ha), fun x hx' => ?_, fun ys p hs st hp => ?_⟩
    · obtain ⟨t, e1, e2⟩ := hx x hx'
      exact ⟨t, e1, c.f _ _ e2⟩
    · have e : ys.map (keyV H) = srtB leP ps := by
        refine srt_uniq (le := fun a b => leP a b = true) leP_anti ?_ (srtB_srt leP_tot leP_tr ps) (((st.perm.map (keyV H)).trans (by rw [hk])).trans (srtB_perm ps).symm)
        refine List.pairwise_map.mpr (hs.imp fun {x y} h => ?_)
        have := SrtO.lexB_no.mp h
        exact leP_iff.mpr (by omega)
      have k' : ∀ (F' : Hp) (v : V) (H' : Hp), Ex F F' → Core K F0 G F' ρ ((.own ((srtB leP ps).map dPr), v) :: rts) H' → Q v H' := k
      rw [← e] at k'
      exact k' F _ _ Ex.rfl' (c.newL (prs_repL _ fun x hx' => hx x (st.perm.mem_iff.mp hx')) hp)
/-- len(set(a tuple of tuples of ints)) -/
def rowD (ns : List Int) : D := .tup (ns.map D.int)
def rowsOf : List D → Option (List (List Int))
  | [] => some []
  | .tup xs :: ds => (intsOf xs).bind fun ns => (rowsOf ds).map fun l => ns :: l
  | _ :: _ => none
theorem rowsOf_map : ∀ ls : List (List Int), rowsOf (ls.map rowD) = some ls
  | [] => rfl
  | p :: ps => by
    show (intsOf (p.map D.int)).bind (fun ns => (rowsOf (ps.map rowD)).map fun l => ns :: l) = some (p :: ps)
    rw [intsOf_map, rowsOf_map ps]
    rfl
theorem rowsOf_eq : ∀ {ds : List D} {ps : List (List Int)}, rowsOf ds = some ps → ds = ps.map rowD := by
  intro ds
  induction ds with
  | nil => intro ps h; cases h; rfl
  | cons d ds ih =>
    intro ps h
    unfold rowsOf at h
    split at h
    · rename_i heq
      cases heq
    · rename_i xs ds' heq
      cases heq
      cases h1 : intsOf xs with
      | none => rw [h1] at h; cases h
      | some ns =>
        rw [h1] at h
        cases h2 : rowsOf ds with
        | none => rw [h2] at h; cases h
        | some l =>
          rw [h2] at h
          cases h
          rw [ih h2, intsOf_eq h1]
          rfl
    · cases h
def ded (l : List (List Int)) : List (List Int) := match l with
  | [] => []
  | x :: r => if x ∈ ded r then ded r else x :: ded r
theorem ded_mem : ∀ (l : List (List Int)) (x : List Int), x ∈ ded l ↔ x ∈ l
  | [], x => by unfold ded; exact Iff.rfl
  | y :: r, x => by
    have ih := ded_mem r
    unfold ded
    split
    · rename_i h
      rw [ih, List.mem_cons]
      exact ⟨.inr, fun z => z.elim (fun e => by rw [e]; exact (ih y).mp h) id⟩
    · rw [List.mem_cons, List.mem_cons, ih]
theorem ded_nodup : ∀ l : List (List Int), (ded l).Nodup
  | [] => by unfold ded; exact List.nodup_nil
  | y :: r => by
    unfold ded
    split
    · exact ded_nodup r
    · rename_i h
      exact List.nodup_cons.mpr ⟨h, ded_nodup r⟩
def cLenST (c : C) : C := fun s => match c s with
  | some (.tup ds, s') => (rowsOf ds).bind fun ls => if ls.length < 64 then some (.int ((ded ls).length : Nat), s') else none
  | _ => none
theorem repL_rows {ρ : List Addr} {F : Hp} : ∀ {ls : List (List Int)} {us : List V}, RepL K ρ F (ls.map rowD) us → ∃ ks : List (Addr × List Int), us = ks.map (fun p => V.ref p.1) ∧ ks.map (·.2) = ls ∧ ∀ p ∈ ks, F p.1 = some (.tup (p.2.map V.int))
  | [], us, r => by
    have r' : RepL K ρ F [] us := r
    unfold RepL at r'
    subst r'
    exact ⟨[], rfl, rfl, fun x hx => by simp at hx⟩
  | p :: ps, us, r => by
    have r' : RepL K ρ F (rowD p :: ps.map rowD) us := r
    unfold RepL at r'
    obtain ⟨v, t, rfl, r1, r2⟩ := r'
    obtain ⟨ks, h1, h2, h3⟩ := repL_rows r2
    unfold rowD Rep at r1
    obtain ⟨a, ws, rfl, ha, rw'⟩ := r1
    rw [repL_ints rw'] at ha
    refine ⟨(a, p) :: ks, by rw [h1]; rfl, by rw [List.map_cons, h2], fun z hz => ?_⟩
    rcases List.mem_cons.mp hz with ez | hz
    · subst ez; exact ha
    · exact h3 z hz
theorem po_lenST {a : Expr} {c : C} {p p2 q pos : Pos} (hc : X.calm = true) (hu : X.A.units + 65 < cLine) (hg : Gl X "len") (hm : X.mg "len" = none) (hg2 : Gl X "set") (hm2 : X.mg "set" = none) (ha : PV X a c)
    (na : starEach [a] X.env = (false, eval a X.env) :: starEach [] X.env := by rfl) : PO' X (.Call (.Name "len" p) [.Call (.Name "set" p2) [a] [] q] [] pos) (cLenST c) :=
  pe_w (FrS.pe_lenST hc (by omega) hg hm hg2 hm2 ha na) fun σ H Q ⟨F0, G, F, ρ, vs, s, d, s', m, hcc, k⟩ => by
    unfold cLenST at hcc
    split at hcc
    case h_2 => cases hcc
    rename_i ds s1 h1
    cases h : rowsOf ds with
    | none => rw [h] at hcc; cases hcc
    | some ls =>
      rw [h] at hcc
      have e' : (if ls.length < 64 then some (D.int ((ded ls).length : Nat), s1) else none) = some (d, s') := hcc
      split at e'
      case isFalse => cases e'
      rename_i hz
      cases e'
      refine ⟨F0, G, F, ρ, vs, s, _, _, m, h1, fun F1 ρ1 vs1 v H1 e1 p1 m1 r1 => ?_⟩
      obtain ⟨b, ws, rfl, hb, rb⟩ := r1.tp
      rw [rowsOf_eq h] at rb
      obtain ⟨ks, rfl, h2, h3⟩ := repL_rows rb
      refine ⟨b, ks, rfl, Ex.st m1.core.f hb, fun p hp => .of (m1.core.f _ _ (h3 p hp)), by rw [← h2, List.length_map] at hz; exact hz, fun L hL hm => ?_⟩
      have e2 : L.length = (ded ls).length := by
        refine ((List.perm_ext_iff_of_nodup hL (ded_nodup ls)).mpr fun x => ?_).length_eq
        rw [hm, h2, ded_mem]
      rw [e2]
      exact k F1 ρ1 vs1 _ H1 e1 p1 (m1.push (rep_i _))
/-- list(range(e)) -/
def cLRg (c : C) : C := fun s => match c s with
  | some (.int n, s') => if decide (0 ≤ n) && decide (n < 1000000) then some (.own (rgD 0 n.toNat), s') else none
  | _ => none
theorem rgD_rep {ρ : List Addr} {F : Hp} (n : Int) : RepL K ρ F (rgD 0 n.toNat) (rgV 0 n) := by
  have h := ints_rep (K := K) (ρ := ρ) (F := F) ((List.range n.toNat).map fun (i : Nat) => (0 : Int) + (i : Int))
  rw [List.map_map, List.map_map] at h
  unfold rgD rgV
  rw [Int.sub_zero]
  exact h
theorem po_lrg {a : Expr} {c : C} {p p2 q pos : Pos} (hc : X.calm = true) (hg : Gl X "list") (hm : X.mg "list" = none) (hg2 : Gl X "range") (hm2 : X.mg "range" = none) (ha : PV X a c)
    (na : starEach [a] X.env = (false, eval a X.env) :: starEach [] X.env := by rfl) (nb : starEach [.Call (.Name "range" p2) [a] [] q] X.env = (false, eval (.Call (.Name "range" p2) [a] [] q) X.env) :: starEach [] X.env := by rfl) :
    PO' X (.Call (.Name "list" p) [.Call (.Name "range" p2) [a] [] q] [] pos) (cLRg c) :=
  pe_w (pe_listRg hc hg hm (prg_1 hg2 hm2 ha na) nb) fun σ H Q ⟨F0, G, F, ρ, vs, s, d, s', m, hcc, k⟩ => by
    unfold cLRg at hcc
    split at hcc
    case h_2 => cases hcc
    rename_i n s1 h1
    split at hcc
    case isFalse => cases hcc
    rename_i hz
    cases hcc
    simp only [Bool.and_eq_true, decide_eq_true_eq] at hz
    refine ⟨F0, G, F, ρ, vs, s, _, _, m, h1, fun F1 ρ1 vs1 v H1 e1 p1 m1 r1 => ⟨n, r1.ofI, .of_le (by omega) (by omega) (by omega) hz.1, fun q hq => ?_⟩⟩
    exact k F1 ρ1 vs1 _ _ e1 p1 (m1.core_of (tmp' := [(_, _)]) (m1.core.newL (rgD_rep n) hq))
end
end Fr

set_option maxRecDepth 100000
namespace Fr
open PySem PySem.Spec PyProof.Rows _root_.L2

/-! ### methods of an owned list at a name -/
def cMt (i : Nat) (g : List D → List D → Option (D × List D)) (cs : S → Option (List D × S)) : C := fun s => match plc s i with
  | none => none
  | some r0 => match rget s r0 with
    | some (.own _) => (match cs s with
      | some (as, s1) => (match plc s1 i with
        | none => none
        | some r => match rget s1 r with
          | some (.own ds) => (g ds as).map fun p => (p.1, rset s1 r (.own p.2))
          | _ => none)
      | none => none)
    | _ => none
def LMt (K : PySem.W.Frag) (r : V → List V → Hp → VK → Prop) (g : List D → List D → Option (D × List D)) : Prop := ∀ (F0 G F : Hp) (ρ : List Addr) (rts : List (D × V)) (H : Hp) (a : Addr) (us xs : List V) (ds as : List D) (d : D) (ds2 : List D) (Q : VK),
  Core K F0 G F ρ ((.own ds, .ref a) :: rts) H → H a = some (.lst us) → RepL K ρ F as xs → g ds as = some (d, ds2) → (∀ F' v H', Ex F F' → Core K F0 G F' ρ ((.own ds2, .ref a) :: (d, v) :: rts) H' → Q v H') → r (.ref a) xs H Q
section
variable {X : Cx} {e b o : Expr} {es : List Expr} {pos p apos cpos : Pos} {cs : S → Option (List D × S)}
theorem po_mt {i : Nat} {x name : Str} {id : String} {r : V → List V → Hp → VK → Prop} {g : List D → List D → Option (D × List D)} (slot : Slot "list" name id) (hty : typeOf (.builtin id) = pure (.type "method_descriptor")) (hm : MtM X id r) (l : LMt X.K r g)
    (hx : PE X (.Name x p) (tVar i)) (ha : PAr X (e :: es) cs)
    (hbase : attributeBase (.Name x p) name X.env (eval (.Name x p) X.env) = eval (.Name x p) X.env := by rfl)
    (hfew : ((backTo cpos (starEach (e :: es) X.env)).all (fun x => !x.1) && (backToKw cpos (keywordEach [] X.env)).all (fun x => x.1.isSome)
      && decide ((e :: es).length + ([] : List Keyword).length + (if ([] : List Keyword).isEmpty then 0 else 1) < 30)) = true := by rfl)
    (hline : (apos.endLine == cpos.line) = true := by rfl) (hs : starEach (e :: es) X.env = (false, eval e X.env) :: starEach es X.env := by rfl) (hplain : (backTo cpos (starEach es X.env)).any (·.1) = false := by rfl) :
    PO' X (.Call (.Attribute (.Name x p) name apos) (e :: es) [] cpos) (cMt i g cs) :=
  pe_w (pe_bm PySem.F.plainAttrs_list slot hty hm hx ha hbase hfew hline hs hplain) fun σ H Q ⟨F0, G, F, ρ, vs, s, d, s', m, hc, k⟩ => by
    unfold cMt at hc
    cases h2 : plc s i with
    | none => rw [h2] at hc; cases hc
    | some r0 =>
      rw [h2] at hc
      dsimp only at hc
      split at hc
      case h_2 => cases hc
      rename_i ds0 h20
      obtain ⟨v0, rest0, hv0, c0, _⟩ := m.focus h2 h20
      obtain ⟨a0, us0, e0, ha0, _⟩ := c0.headL
      subst e0
      refine ⟨_, hv0, .inl ⟨rfl, _, .of ha0⟩, ?_⟩
      split at hc
      case h_2 => cases hc
      rename_i as s1 h3
      refine ⟨F0, G, F, ρ, vs, s, as, s1, m, h3, fun F1 ρ1 vs1 us H1 e1 p1 m1 r1 => ?_⟩
      cases h4 : plc s1 i with
      | none => rw [h4] at hc; cases hc
      | some r =>
        rw [h4] at hc
        dsimp only at hc
        split at hc
        case h_2 => cases hc
        rename_i ds h5
        cases h6 : g ds as with
        | none => rw [h6] at hc; cases hc
        | some p =>
          obtain ⟨d1, ds2⟩ := p
          rw [h6] at hc
          cases hc
          obtain ⟨v2, rest2, hv2, c2, back2⟩ := m1.focus h4 h5
          rw [hv0] at hv2
          cases hv2
          obtain ⟨a2, us2, e6, ha6, hl6⟩ := c2.headL
          cases e6
          refine l F0 G F1 ρ1 _ H1 a0 us2 us ds as d1 ds2 _ c2 ha6 r1 h6 fun F2 v H2 e2 c3 => ?_
          exact k F2 ρ1 vs1 v H2 (e1.tr e2) p1 (back2 F2 [(d1, v)] _ _ (fun z => by cases z) c3)
end
def gExt : List D → List D → Option (D × List D)
  | ds, [.lst es] => if ds.length + es.length < line then some (.non, ds ++ es) else none
  | _, _ => none
def gPop : List D → List D → Option (D × List D)
  | ds, [.int k] => (ixN ds.length k).bind fun j => (ds[j]?).bind fun d => if frzn d = true ∧ ds.length < line then some (d, ds.eraseIdx j) else none
  | _, _ => none
section
variable {K : PySem.W.Frag}
theorem l_ext : LMt K rExtend gExt := by
  intro F0 G F ρ rts H a us xs ds as d ds2 Q c h r e k
  unfold gExt at e
  split at e
  case h_2 => cases e
  rename_i es
  split at e
  case isFalse => cases e
  rename_i hz
  cases e
  obtain ⟨v, rfl, rv⟩ := repl1 r
  obtain ⟨b, zs, rfl, hb, rb⟩ := rv.ls
  obtain ⟨a', us', e1, h', hl⟩ := c.headL
  cases e1
  rw [h] at h'
  cases h'
  refine ⟨a, b, us, zs, rfl, rfl, h, c.f _ _ hb, ?_, ?_⟩
  · have := line_lt hz
    rw [← hl, ← rb.len]
    exact Nat.le_of_lt this
  · have c2 : Core K F0 G F ρ ((.own ds, .ref a) :: (es.zip zs ++ (.non, .non) :: rts)) H := (roots_push (c.push (d := .non) (v := .non) (by unfold Rep; rfl)) rb).perm (by
      exact (List.Perm.append_left _ (.swap _ _ _)).trans List.perm_middle)
    have := c2.mutL (dr := []) (its := ds.zip us ++ es.zip zs) (rts' := (.non, .non) :: rts) h (by
      rw [List.nil_append, List.append_assoc])
    rw [List.map_append, List.map_append, zip_fst hl, zip_snd hl, zip_fst rb.len, zip_snd rb.len] at this
    exact k F .non _ Ex.rfl' this
theorem zip_erase : ∀ (ds : List D) (us : List V) (j : Nat), (ds.eraseIdx j).zip (us.eraseIdx j) = (ds.zip us).eraseIdx j
  | [], us, j => by simp
  | d :: ds, [], j => by cases j <;> simp
  | d :: ds, u :: us, 0 => by simp
  | d :: ds, u :: us, j + 1 => by simp [zip_erase ds us j]
theorem l_pop : LMt K rPopAt gPop := by
  intro F0 G F ρ rts H a us xs ds as d ds2 Q c h r e k
  unfold gPop at e
  split at e
  case h_2 => cases e
  rename_i kk
  cases h1 : ixN ds.length kk with
  | none => rw [h1] at e; cases e
  | some j =>
    rw [h1] at e
    cases h2 : ds[j]? with
    | none => simp [h2] at e
    | some x =>
      simp only [Option.bind_some, h2] at e
      split at e
      case isFalse => cases e
      rename_i hz
      cases e
      obtain ⟨v, rfl, rv⟩ := repl1 r
      obtain ⟨a', us', e1, h', hl⟩ := c.headL
      cases e1
      rw [h] at h'
      cases h'
      obtain ⟨u, hu, ru⟩ := c.item h h2 hz.1
      have hq := ixN_seq h1
      have hsl : ds.length < 16777216 := by have := hz.2; unfold line at this; omega
      refine ⟨a, us, kk, j, u, rfl, by rw [rv.ofI], h, by omega, by omega, by rw [← hl]; exact hq.1, hu, ?_⟩
      have hzz : (ds.zip us)[j]? = some (d, u) := zip_get h2 hu
      have c2 : Core K F0 G F ρ ((.own ds, .ref a) :: (d, u) :: rts) H := (c.push ru).perm (.swap _ _ _)
      have := c2.mutL (dr := [(d, u)]) (its := (ds.zip us).eraseIdx j) (rts' := (d, u) :: rts) h (by
        rw [List.singleton_append]
        exact (perm_get hzz).append_right _)
      rw [← zip_erase, zip_fst (by rw [List.length_eraseIdx, List.length_eraseIdx, hl]), zip_snd (by rw [List.length_eraseIdx, List.length_eraseIdx, hl])] at this
      exact k F u _ Ex.rfl' this
end

/-! ### a root set aside, its objects kept -/
section
variable {K : PySem.W.Frag} {F0 G F F' H H' : Hp} {ρ ρ' : List Addr} {tmp rts : List (D × V)} {s : S} {σ : _root_.L2.St} {vs : List V} {d : D} {v : V}
theorem Core.frameA {fp0 : List Addr} (c : Core K F0 G F ρ ((d, v) :: rts) H) (hq0 : Own K ρ F H d v fp0) (hfp : ∀ fp, Own K ρ F H d v fp → fp = fp0) : ∃ G', (∀ a ∈ fp0, G' a = H a) ∧ Core K F0 G' F ρ rts H ∧ ∀ F' ρ' rts' H', Ex F F' → ρ <+: ρ' → Core K F0 G' F' ρ' rts' H' → Core K F0 G F' ρ' ((d, v) :: rts') H' := by
  obtain ⟨fp, o, nd, dj⟩ := c.own
  obtain ⟨f1, f2, rfl, q, t⟩ := o.inv
  have hf := hfp f1 q
  subst hf
  have e : Ex G (more G H f1) := more_ex fun a ha => (dj a (List.mem_append_left _ ha)).2
  have dis : ∀ a ∈ f2, a ∉ f1 := fun a h2 h1 => (List.nodup_append.mp nd).2.2 a h1 a h2 rfl
  have hs : ∀ a ∈ f1, H a ≠ none := own_some d v f1 q
  refine ⟨more G H f1, fun a ha => more_in ha, ⟨fun a u ha => ?_, c.f, c.f0, fun a ha => ?_, f2, t, (List.nodup_append.mp nd).2.1, fun a ha => ⟨(dj a (List.mem_append_right _ ha)).1, ?_⟩⟩, fun F' ρ' rts' H' e' p' c' => ?_⟩
  · unfold more at ha
    by_cases m : a ∈ f1
    · rw [if_pos m] at ha; exact ha
    · rw [if_neg m] at ha; exact c.g a u ha
  · by_cases m : a ∈ f1
    · exact absurd (dj a (List.mem_append_left _ m)).1 ha
    · rcases c.fg a ha with z | z
      · exact .inl z
      · refine .inr ?_
        unfold more
        rw [if_neg m]
        exact z
  · unfold more
    rw [if_neg (dis a ha)]
    exact (dj a (List.mem_append_right _ ha)).2
  · obtain ⟨fp', o', nd', dj'⟩ := c'.own
    have hk : ∀ a ∈ f1, H' a = H a := fun a ha => by
      cases hh : H a with
      | none => exact absurd hh (hs a ha)
      | some u => exact c'.g a u (by unfold more; rw [if_pos ha]; exact hh)
    refine ⟨e.tr c'.g, c'.f, c'.f0, fun a ha => ?_, f1 ++ fp', .cons (Own.mono e' p' d v f1 hk q) o', List.nodup_append.mpr ⟨(List.nodup_append.mp nd).1, nd', fun a h1 b h2 z => ?_⟩, fun a ha => ?_⟩
    · rcases c'.fg a ha with z | z
      · exact .inl z
      · refine .inr ?_
        unfold more at z
        by_cases m : a ∈ f1
        · rw [if_pos m] at z; exact absurd z (hs a m)
        · rw [if_neg m] at z; exact z
    · subst z
      have := (dj' a h2).2
      unfold more at this
      rw [if_pos h1] at this
      exact hs a h1 this
    · rcases List.mem_append.mp ha with ha | ha
      · refine ⟨?_, (dj a (List.mem_append_left _ ha)).2⟩
        cases hf : F' a with
        | none => rfl
        | some u =>
          rcases c'.fg a (by rw [hf]; simp) with z | z
          · cases h0 : F0 a with
            | none => exact absurd h0 z
            | some u0 => have := c.f0 a u0 h0; rw [(dj a (List.mem_append_left _ ha)).1] at this; cases this
          · unfold more at z
            rw [if_pos ha] at z
            exact absurd z (hs a ha)
      · refine ⟨(dj' a ha).1, ?_⟩
        have := (dj' a ha).2
        unfold more at this
        by_cases m : a ∈ f1
        · rw [if_pos m] at this
          exact absurd this (hs a m)
        · rw [if_neg m] at this; exact this
/-- the footprint is told by the value -/
theorem own_fp : ∀ (d : D) (v : V) (f g : List Addr), Own K ρ F H d v f → Own K ρ F H d v g → f = g := by
  intro d
  refine D.rec (motive_1 := fun d => ∀ v f g, Own K ρ F H d v f → Own K ρ F H d v g → f = g) (motive_2 := fun ds => ∀ vs f g, OwnL K ρ F H ds vs f → OwnL K ρ F H ds vs g → f = g)
    ?_ ?_ ?_ ?_ ?_ ?_ ?_ ?_ ?_ ?_ ?_ ?_ ?_ ?_ ?_ ?_ ?_ ?_ ?_ ?_ d
  case refine_9 =>
    intro ds ih v f g h1 h2
    unfold Own at h1 h2
    obtain ⟨a, vs, f', e1, q, ef, r⟩ := h1
    obtain ⟨a2, vs2, g', e2, q2, eg, r2⟩ := h2
    subst e1
    cases e2
    rw [q] at q2
    cases q2
    rw [ef, eg, ih _ _ _ r r2]
  case refine_12 =>
    intro ks ds ih v f g h1 h2
    unfold Own at h1 h2
    obtain ⟨a, vs, f', e1, q, _, ef, r⟩ := h1
    obtain ⟨a2, vs2, g', e2, q2, _, eg, r2⟩ := h2
    subst e1
    cases e2
    rw [q] at q2
    cases q2
    rw [ef, eg, ih _ _ _ r r2]
  case refine_14 =>
    intro C ks ds ih v f g h1 h2
    unfold Own at h1 h2
    obtain ⟨a, dx, vs, f', e1, q, _, ef, r⟩ := h1
    obtain ⟨a2, dx2, vs2, g', e2, q2, _, eg, r2⟩ := h2
    subst e1
    cases e2
    rw [q] at q2
    cases q2
    rw [ef, eg, ih _ _ _ r r2]
  case refine_18 =>
    intro w ns v f g h1 h2
    unfold Own at h1 h2
    obtain ⟨a, S, e1, q, z, y, ef⟩ := h1
    obtain ⟨a2, S2, e2, q2, z2, y2, eg⟩ := h2
    subst e1
    cases e2
    rw [ef, eg]
  case refine_19 =>
    intro vs f g h1 h2
    unfold OwnL at h1 h2
    rw [h1.2, h2.2]
  case refine_20 =>
    intro d ds ih1 ih2 vs f g h1 h2
    unfold OwnL at h1 h2
    obtain ⟨v, r, f1, f2, e1, ef, q, t⟩ := h1
    obtain ⟨v', r', g1, g2, e2, eg, q', t'⟩ := h2
    subst e1
    injection e2 with e3 e4
    subst e3 e4
    rw [ef, eg, ih1 _ _ _ q q', ih2 _ _ _ t t']
  all_goals
    intros
    rename_i h1 h2
    unfold Own at h1 h2
    first
      | rw [h1, h2]
      | rw [h1.1, h2.1]
theorem OwnL.snoc : ∀ {ds : List D} {us f : List _}, OwnL K ρ F H ds us f → Rep K ρ F d v → OwnL K ρ F H (ds ++ [d]) (us ++ [v]) f
  | [], us, f, h, r => by
    unfold OwnL at h
    rw [h.1, h.2]
    show OwnL K ρ F H [d] [v] []
    unfold OwnL
    exact ⟨v, [], [], [], rfl, rfl, r.own, by unfold OwnL; exact ⟨rfl, rfl⟩⟩
  | x :: ds, us, f, h, r => by
    unfold OwnL at h
    obtain ⟨w, t, f1, f2, e1, ef, q, q2⟩ := h
    subst e1 ef
    show OwnL K ρ F H (x :: (ds ++ [d])) (w :: (t ++ [v])) (f1 ++ f2)
    unfold OwnL
    exact ⟨w, _, f1, f2, rfl, rfl, q, OwnL.snoc q2 r⟩
theorem ownL_inner : ∀ {ds : List D} {us : List V} {f : List Addr} {j : Nat} {es : List D} {b : Addr} {ws : List V}, OwnL K ρ F H ds us f → f.Nodup → ds[j]? = some (.own es) → us[j]? = some (.ref b) → H b = some (.lst ws) → Rep K ρ F d v →
    b ∈ f ∧ OwnL K ρ F (upd H b (.lst (ws ++ [v]))) (ds.set j (.own (es ++ [d]))) us f
  | [], us, f, j, es, b, ws, h, nd, h1, h2, h3, r => by simp at h1
  | x :: ds, us, f, 0, es, b, ws, h, nd, h1, h2, h3, r => by
    unfold OwnL at h
    obtain ⟨w, t, f1, f2, e1, ef, q, q2⟩ := h
    subst e1 ef
    simp at h1 h2
    subst h1 h2
    unfold Own at q
    obtain ⟨a, vs, f', e3, q3, e4, q4⟩ := q
    cases e3
    rw [h3] at q3
    cases q3
    subst e4
    have nd1 : (b :: (f' ++ f2)).Nodup := nd
    have nb := (List.nodup_cons.mp nd1).1
    refine ⟨List.mem_cons_self .., ?_⟩
    show OwnL K ρ F (upd H b (.lst (ws ++ [v]))) (.own (es ++ [d]) :: ds) (.ref b :: t) ((b :: f') ++ f2)
    unfold OwnL
    refine ⟨_, t, b :: f', f2, rfl, rfl, ?_, OwnL.mono Ex.rfl' (List.prefix_refl _) _ _ _ (fun a ha => upd_ne (fun z => nb (z ▸ List.mem_append_right _ ha))) q2⟩
    unfold Own
    exact ⟨b, _, f', rfl, upd_same, rfl, OwnL.mono Ex.rfl' (List.prefix_refl _) _ _ _ (fun a ha => upd_ne (fun z => nb (z ▸ List.mem_append_left _ ha))) (q4.snoc r)⟩
  | x :: ds, us, f, j + 1, es, b, ws, h, nd, h1, h2, h3, r => by
    unfold OwnL at h
    obtain ⟨w, t, f1, f2, e1, ef, q, q2⟩ := h
    subst e1 ef
    have nd2 := List.nodup_append.mp nd
    obtain ⟨hb, q3⟩ := ownL_inner q2 nd2.2.1 (by simpa using h1) (by simpa using h2) h3 r
    refine ⟨List.mem_append_right _ hb, ?_⟩
    show OwnL K ρ F (upd H b (.lst (ws ++ [v]))) (x :: ds.set j (.own (es ++ [d]))) (w :: t) (f1 ++ f2)
    unfold OwnL
    exact ⟨w, t, f1, f2, rfl, rfl, Own.mono Ex.rfl' (List.prefix_refl _) _ _ _ (fun a ha => upd_ne (fun z => nd2.2.2 a ha b hb z)) q, q3⟩
end
/-- x[e].append(f) -/
def cApN (i : Nat) (ci ce : C) : C := fun s => match s.env[i]? with
  | some (.own _) => (match ci s with
    | some (.int k, s1) => (match s1.env[i]? with
      | some (.own ds) => (match ixN ds.length k with
        | some j => (match ds[j]? with
          | some (.own es) => (match ce { s1 with env := s1.env.set i .unb } with
            | some (d, s2) => if es.length < line then some (.non, { s2 with env := s2.env.set i (.own (ds.set j (.own (es ++ [d])))) }) else none
            | none => none)
          | _ => none)
        | none => none)
      | _ => none)
    | _ => none)
  | _ => none
section
variable {X : Cx} {e b o : Expr} {es : List Expr} {pos p apos cpos spos : Pos} {cs : S → Option (List D × S)}
theorem plc_own {s : S} {i : Nat} {ds : List D} (h : s.env[i]? = some (.own ds)) : plc s i = some (.e i) := by
  unfold plc
  rw [h]
theorem po_apN {i : Nat} {x : Str} {ix : Expr} {ci ce : C} (hx : PE X (.Name x p) (tVar i)) (hi : PV X ix ci) (he : PV X e ce) (hix : PlainIx ix := by exact fun _ _ => rfl)
    (hbase : attributeBase (.Subscript (.Name x p) ix spos) "append" X.env (eval (.Subscript (.Name x p) ix spos) X.env) = eval (.Subscript (.Name x p) ix spos) X.env := by rfl)
    (hfew : ((backTo cpos (starEach [e] X.env)).all (fun x => !x.1) && (backToKw cpos (keywordEach [] X.env)).all (fun x => x.1.isSome)
      && decide ([e].length + ([] : List Keyword).length + (if ([] : List Keyword).isEmpty then 0 else 1) < 30)) = true := by rfl)
    (hline : (apos.endLine == cpos.line) = true := by rfl) (hs : starEach [e] X.env = (false, eval e X.env) :: starEach [] X.env := by rfl) (hplain : (backTo cpos (starEach [] X.env)).any (·.1) = false := by rfl) :
    PO' X (.Call (.Attribute (.Subscript (.Name x p) ix spos) "append" apos) [e] [] cpos) (cApN i ci ce) :=
  pe_w (pe_bm PySem.F.plainAttrs_list PySem.F.slot_list_append PySem.F.type_list_append mt_append (pe_ix (ix_list.or ix_tup) hx hi hix) (pa_c he pa_n hs) hbase hfew hline hs hplain) fun σ H Q ⟨F0, G, F, ρ, vs, s, d, s', m, hc, k⟩ => by
    unfold cApN at hc
    split at hc
    case h_2 => cases hc
    rename_i ds0 h0
    obtain ⟨v0, rest0, hv0, c0, _⟩ := m.focus (plc_own h0) (show rget s (.e i) = _ from h0)
    refine ⟨v0, hv0, ?_⟩
    split at hc
    case h_2 => cases hc
    rename_i kk s1 h1
    refine ⟨F0, G, F, ρ, vs, s, _, s1, m, h1, fun F1 ρ1 vs1 v H1 e1 p1 m1 r1 => ?_⟩
    have er := r1.ofI
    subst er
    split at hc
    case h_2 => cases hc
    rename_i ds h2
    split at hc
    case h_2 => cases hc
    rename_i j h3
    split at hc
    case h_2 => cases hc
    rename_i es h4
    split at hc
    case h_2 => cases hc
    rename_i d1 s2 h5
    split at hc
    case isFalse => cases hc
    rename_i hz
    cases hc
    obtain ⟨v1, rest, hv1, c, back⟩ := m1.focus (plc_own h2) (show rget s1 (.e i) = _ from h2)
    rw [hv0] at hv1
    cases hv1
    -- the objects
    have c' : Core X.K F0 G F1 ρ1 ((.own ds, v0) :: rest) H1 := c
    obtain ⟨fp, ow, nd, dj⟩ := c'.own
    obtain ⟨f1, f2, _, q, _⟩ := ow.inv
    have q0 := q
    unfold Own at q
    obtain ⟨aa, us, f, e2, ha, ef, ql⟩ := q
    subst e2
    obtain ⟨u, g, hu, hu2, hg⟩ := ql.at h4
    have hu2' := hu2
    unfold Own at hu2
    obtain ⟨b, ws, g', e3, hb, eg, qe⟩ := hu2
    subst e3
    have hbf : b ∈ f1 := by rw [ef]; exact List.mem_cons_of_mem _ (hg b (by rw [eg]; exact List.mem_cons_self ..))
    have haf : aa ∈ f1 := by rw [ef]; exact List.mem_cons_self ..
    have hat : atI us kk = some (.ref b) := by
      unfold atI
      rw [← ql.len, h3]
      exact hu
    refine .inl ⟨aa, us, kk, .ref b, rfl, rfl, .of ha, hat, .inl ⟨rfl, ws, .of hb⟩, ?_⟩
    -- set aside
    have m2 : Sim X.K F0 G F1 ρ1 [(.own ds, .ref aa)] (rset s1 (.e i) .unb) σ vs1 H1 := back F1 [(.own ds, .ref aa)] .unb H1 (fun z => by cases z) (Core.unb c)
    have cc : Core X.K F0 G F1 ρ1 ((.own ds, .ref aa) :: ((s1.env.set i .unb).zip vs1 ++ s1.mem.zip (ρ1.map V.ref))) H1 := m2.core
    obtain ⟨G2, hG2, cf2, unf2⟩ := Core.frameA cc q0 (fun fp h => own_fp _ _ _ _ h q0)
    have m3 : Sim X.K F0 G2 F1 ρ1 [] { s1 with env := s1.env.set i .unb } σ vs1 H1 := ⟨cf2, m2.lv, m2.lm, m2.ls, m2.sl⟩
    refine ⟨F0, G2, F1, ρ1, vs1, _, [d1], s2, m3, by unfold cCons cNil; rw [h5]; rfl, fun F2 ρ2 vs2 us2 H2 e4 p4 m4 r4 => ?_⟩
    obtain ⟨v4, rfl, rv4⟩ := repl1 r4
    have hb2 : H2 b = some (.lst ws) := m4.core.g b _ (by rw [hG2 b hbf]; exact hb)
    have ha2 : H2 aa = some (.lst us) := m4.core.g aa _ (by rw [hG2 aa haf]; exact ha)
    refine ⟨b, ws, v4, rfl, rfl, hb2, line_lt (by rw [← qe.len]; exact hz), ?_⟩
    have cB := unf2 F2 ρ2 _ H2 e4 p4 m4.core
    have cC := cB.chg (a := b) (o := .lst (ws ++ [v4])) (d' := .own (ds.set j (.own (es ++ [d1])))) (fun fp h ndp => by
      unfold Own at h
      obtain ⟨a', us', f', e5, ha', ef', ql'⟩ := h
      cases e5
      rw [ha2] at ha'
      cases ha'
      subst ef'
      have nd5 := List.nodup_cons.mp ndp
      obtain ⟨i1, i2⟩ := ownL_inner ql' nd5.2 h4 hu hb2 rv4
      refine ⟨List.mem_cons_of_mem _ i1, ?_⟩
      unfold Own
      exact ⟨aa, us, f', rfl, (upd_ne (fun z => nd5.1 (by rw [z]; exact i1))).trans ha2, rfl, i2⟩)
    have m5 : Sim X.K F0 G F2 ρ2 [(.own (ds.set j (.own (es ++ [d1]))), .ref aa)] s2 σ vs2 (upd H2 b (.lst (ws ++ [v4]))) := ⟨cC, m4.lv, m4.lm, m4.ls, m4.sl⟩
    have m6 := m5.store i
    have eσ : σ.set i (some (V.ref aa)) = σ := by
      refine List.ext_getElem? fun n => ?_
      by_cases hn : i = n
      · subst hn
        rw [List.getElem?_set_self (List.getElem?_eq_some_iff.mp hv0).1, hv0]
      · rw [List.getElem?_set_ne hn]
    rw [eσ] at m6
    exact k F2 ρ2 _ .non _ (e1.tr e4) (p1.trans p4) (m6.push (by unfold Rep; rfl))
end
end Fr

set_option maxRecDepth 100000
namespace Fr
open PySem PySem.Spec PyProof.Rows _root_.L2

section
variable {K : PySem.W.Frag} {F0 G F F' H H' : Hp} {ρ ρ' : List Addr} {tmp rts : List (D × V)} {s : S} {σ : _root_.L2.St} {vs : List V} {d : D} {v : V} {a : Addr}
/-- what stands ahead goes to the cells -/
theorem Sim.toMem (m : Sim K F0 G F ρ ((d, .ref a) :: tmp) s σ vs H) : Sim K F0 G F (ρ ++ [a]) tmp ⟨s.env, s.mem ++ [d]⟩ σ vs H := by
  have pp : ρ <+: ρ ++ [a] := List.prefix_append _ _
  have c0 : Core K F0 G F ρ ((d, .ref a) :: (tmp ++ (s.env.zip vs ++ s.mem.zip (ρ.map V.ref)))) H := m.core
  have c : Core K F0 G F (ρ ++ [a]) ((d, .ref a) :: (tmp ++ (s.env.zip vs ++ s.mem.zip (ρ.map V.ref)))) H := by
    obtain ⟨fp, ow, nd, dj⟩ := c0.own
    exact ⟨c0.g, c0.f, c0.f0, c0.fg, fp, ow.mono Ex.rfl' pp (fun _ _ => rfl), nd, dj⟩
  refine ⟨c.perm ?_, m.lv, by simp [m.lm], m.ls, m.sl⟩
  rw [List.map_append, List.zip_append (by rw [List.length_map, m.lm]), ← List.append_assoc, ← List.append_assoc, ← List.append_assoc]
  exact (List.perm_append_singleton _ _).symm
/-- a cell's object is taken out -/
theorem Sim.takeM (m : Sim K F0 G F ρ tmp s σ vs H) {k : Nat} (h : s.mem[k]? = some d) (hr : ρ[k]? = some a) : Sim K F0 G F ρ ((d, .ref a) :: tmp) { s with mem := s.mem.set k .unb } σ vs H := by
  have hz : (s.env.zip vs ++ s.mem.zip (ρ.map V.ref))[(s.env.zip vs).length + k]? = some (d, .ref a) := by
    rw [List.getElem?_append_right (by omega), Nat.add_sub_cancel_left]
    exact zip_get h (by rw [List.getElem?_map, hr]; rfl)
  have c1 := (Core.unb (v := V.ref a) m.core)
  have c2 : Core K F0 G F ρ ((d, .ref a) :: (tmp ++ (s.env.zip vs ++ s.mem.zip (ρ.map V.ref)).set ((s.env.zip vs).length + k) (.unb, .ref a))) H := by
    refine c1.perm ?_
    have p1 := (((perm_get hz).append_left tmp).trans List.perm_middle).cons ((.unb, .ref a) : D × V)
    have p2 := ((((perm_set (.unb, .ref a) hz).append_left tmp).trans List.perm_middle).cons ((d, .ref a) : D × V)).symm
    exact p1.trans ((List.Perm.swap _ _ _).trans p2)
  rw [List.set_append_right _ _ (by omega), Nat.add_sub_cancel_left, ← zip_set _ _ _ _ _ (by rw [List.getElem?_map, hr]; rfl)] at c2
  exact ⟨c2, m.lv, by simp [m.lm], m.ls, m.sl⟩
theorem Core.headI {C : Addr} {fs : List Str} {xs : List D} (c : Core K F0 G F ρ ((.oins C fs xs, v) :: rts) H) : ∃ a dx kvs, v = .ref a ∧ H a = some (.ins C dx kvs) ∧ kvs.map (·.1) = fs := by
  obtain ⟨fp, ow, nd, dj⟩ := c.own
  obtain ⟨f1, f2, rfl, q, t⟩ := ow.inv
  unfold Own at q
  obtain ⟨a, dx, kvs, f, e1, h, kk, ef, r⟩ := q
  exact ⟨a, dx, kvs, e1, h, kk⟩
theorem putF_new {f : Str} {v : V} : ∀ {kvs : List (Str × V)}, f ∉ kvs.map (·.1) → putF f v kvs = kvs ++ [(f, v)]
  | [], _ => rfl
  | (g, x) :: r, h => by
    simp only [List.map_cons, List.mem_cons, not_or] at h
    show (if g = f then (g, v) :: r else (g, x) :: putF f v r) = _
    rw [if_neg (fun e => h.1 e.symm), putF_new h.2]
    rfl
end
/-- x.f = e, a new attribute of an own object -/
def cFld (C0 : Addr) (i : Nat) (f : Str) (c : C) : Cs := fun s => match c s with
  | some (d, s1) => (match plc s1 i with
    | none => none
    | some r => match rget s1 r with
      | some (.oins C fs xs) => if C = C0 ∧ f ∉ fs ∧ fs.length < 1000 then some (.next, rset s1 r (.oins C (fs ++ [f]) (xs ++ [d]))) else none
      | _ => none)
  | none => none
section
variable {X : Cx} {e value : Expr} {es : List Expr} {pos pos' p : Pos}
theorem pt_fld {C0 : Addr} {i : Nat} {x f : Str} {c : C} (cls : Cls X.K C0) (na : NoAttr X.K C0 f) (hx : PE X (.Name x p) (tVar i)) (hv : PV X value c) (hs : swapsWith value (some (.Attribute (.Name x p) f pos')) pos.line X.env = pure false := by rfl) :
    PSt X (.Assign [.Attribute (.Name x p) f pos'] value pos) (cFld C0 i f c) :=
  ps_w (ps_fld hx hv hs) fun DD σ H ⟨F0, G, F, ρ, vs, s, fl, s', m, hc, post⟩ => by
    unfold cFld at hc
    split at hc
    case h_2 => cases hc
    rename_i d s1 h1
    refine ⟨F0, G, F, ρ, vs, s, d, s1, m, h1, fun F1 ρ1 vs1 v H1 e1 p1 m1 r1 => ?_⟩
    cases h2 : plc s1 i with
    | none => rw [h2] at hc; cases hc
    | some r =>
      rw [h2] at hc
      dsimp only at hc
      split at hc
      case h_2 => cases hc
      rename_i C fs xs h3
      split at hc
      case isFalse => cases hc
      rename_i hz
      obtain ⟨rfl, hf, hl⟩ := hz
      cases hc
      obtain ⟨w, rest, hw, c, back⟩ := m1.focus h2 h3
      obtain ⟨a, dx, kvs, rfl, ha, hk⟩ := Core.headI c
      refine ⟨_, hw, a, C, dx, kvs, rfl, ha, cls, na, by rw [← hk, List.length_map] at hl; exact hl, ?_⟩
      refine post F1 ρ1 vs1 σ _ e1 p1 (back F1 [] _ _ (fun z => by cases z) ?_)
      have c' : Core X.K F0 G F1 ρ1 ((.oins C fs xs, .ref a) :: ([] ++ rest)) H1 := c
      refine c'.chg fun fp q nd => ?_
      unfold Own at q
      obtain ⟨a', dx', kvs', f', e2, ha', hk', ef, r⟩ := q
      cases e2
      rw [ha] at ha'
      cases ha'
      subst ef
      refine ⟨List.mem_cons_self .., ?_⟩
      unfold Own
      rw [putF_new (by rw [hk]; exact hf)]
      refine ⟨a, dx, _, f', rfl, upd_same, by rw [List.map_append, hk]; rfl, rfl, ?_⟩
      rw [List.map_append]
      exact (OwnL.mono Ex.rfl' (List.prefix_refl _) _ _ _ (fun b hb => upd_ne (fun z : b = a => (List.nodup_cons.mp nd).1 (by rw [← z]; exact hb))) r).snoc r1

/-! ### C(args) -/
def cMake (C0 : Addr) (m : MF) (cs : S → Option (List D × S)) : C := fun s => match cs s with
  | some (as, s1) => (match m (.cell s1.mem.length :: as) (s1.mem ++ [.oins C0 [] []]) with
    | some (.non, M') => (match M'[s1.mem.length]? with
      | some (.oins C fs xs) => some (.oins C fs xs, { s1 with mem := M'.set s1.mem.length .unb })
      | _ => none)
    | _ => none)
  | none => none
theorem po_make {C0 f : Addr} {fd : FuncData} {ps : List Str} {k ar : Nat} {m : MF} {CX : CXT} {x : Str} {cs : S → Option (List D × S)} (Mk' : Mk X.K C0 f) (Fo : FnOk X.prog X.w X.K X.mg X.base CX k f fd ps (spD X.K (ar + 1) m)) (hr : Room (k + 1) X.A) (hg : Gl X x) (hm : X.mg x = some (.ref C0))
    (hb : Binds X.K fd ps []) (hx : Passes CX X E0) (ha : PAr X (e :: es) cs) (hl : ∀ ds s s', cs s = some (ds, s') → ds.length = ar)
    (hdb : (x == ("__debug__" : Str)) = false := by decide) (he : starEach (e :: es) X.env = (false, eval e X.env) :: starEach es X.env := by rfl) (hpl : (backTo pos (starEach es X.env)).any (·.1) = false := by rfl) :
    PO' X (.Call (.Name x p) (e :: es) [] pos) (cMake C0 m cs) :=
  pe_w (pe_make Mk' Fo hr hg hm hb .nil hx ha hdb he hpl) fun σ H Q ⟨F0, G, F, ρ, vs, s, d, s', sm, hc, q⟩ => by
    unfold cMake at hc
    split at hc
    case h_2 => cases hc
    rename_i as s1 h1
    split at hc
    case h_2 => cases hc
    rename_i M' h2
    split at hc
    case h_2 => cases hc
    rename_i C fs xs h3
    cases hc
    refine ⟨F0, G, F, ρ, vs, s, as, s1, sm, h1, fun F1 ρ1 vs1 us H1 e1 p1 m1 r1 => fun x dx hx' hdx hne => ?_⟩
    rw [List.append_nil]
    -- the new objects
    obtain ⟨c2, e2⟩ := m1.core.newF (o := .own x) hdx
    have hx2 : upd H1 dx (.own x) x = none := by rw [upd_ne hne.symm]; exact hx'
    have c3 := c2.newX (p := x) (o := .ins C0 dx []) (d := .oins C0 [] []) hx2 (by
      unfold Own
      exact ⟨x, dx, [], [], rfl, upd_same, rfl, rfl, by show OwnL _ _ _ _ [] [] []; unfold OwnL; exact ⟨rfl, rfl⟩⟩)
    have m3 : Sim X.K F0 G _ ρ1 [(.oins C0 [] [], .ref x)] s1 σ vs1 _ := m1.core_of (tmp' := [(_, _)]) c3
    have m4 := m3.toMem
    have pp : ρ1 <+: ρ1 ++ [x] := List.prefix_append _ _
    have r2 : RepL X.K (ρ1 ++ [x]) (upd F1 dx (.own x)) (.cell s1.mem.length :: as) (.ref x :: us) := by
      unfold RepL
      refine ⟨_, _, rfl, ?_, r1.mono e2 pp⟩
      unfold Rep
      exact ⟨x, by rw [← m1.lm]; simp, rfl⟩
    refine call_ok m4 r2 (by rw [List.length_cons, ← r1.len, hl _ _ _ h1]) h2 fun F5 ρ5 vs5 v H5 e5 p5 m5 => ?_
    have hv := m5.core.headRep rfl
    unfold Rep at hv
    refine ⟨hv, ?_⟩
    have m6 := m5.tail
    have hk : ρ5[s1.mem.length]? = some x := pre_get p5 (by rw [← m1.lm]; simp)
    have m7 := m6.takeM (show ({ s1 with mem := M' } : S).mem[s1.mem.length]? = some (.oins C fs xs) from h3) hk
    exact q F5 ρ5 vs5 (.ref x) H5 (e1.tr (e2.tr e5)) (p1.trans (pp.trans p5)) m7
end
end Fr

set_option maxRecDepth 100000
namespace Fr
open PySem PySem.Spec PyProof.Rows _root_.L2
theorem OwnL.rep {K : PySem.W.Frag} {ρ : List Addr} {F H : Hp} : ∀ {ds : List D} {us : List V} {fp : List Addr}, OwnL K ρ F H ds us fp → ds.all frzn = true → RepL K ρ F ds us
  | [], us, fp, h, _ => by
    unfold OwnL at h
    unfold RepL
    exact h.1
  | d :: ds, us, fp, h, e => by
    unfold OwnL at h
    obtain ⟨v, r, f1, f2, rfl, _, q, t⟩ := h
    rw [List.all_cons, Bool.and_eq_true] at e
    unfold RepL
    exact ⟨v, r, rfl, q.rep e.1, OwnL.rep t e.2⟩
/-- x + e, x a name of an own list, which stays its own -/
def cCatP (i : Nat) (cb : C) : C := fun s => match plc s i with
  | none => none
  | some r0 => match rget s r0 with
    | some (.own _) => (match cb s with
      | some (.lst es, s1) => (match plc s1 i with
        | none => none
        | some r => match rget s1 r with
          | some (.own ds) => if ds.all frzn = true ∧ ds.length + es.length ≤ line then some (.own (ds ++ es), s1) else none
          | _ => none)
      | _ => none)
    | _ => none
section
variable {X : Cx} {b : Expr} {pos p : Pos}
theorem po_catP {i : Nat} {x : Str} {cb : C} (hx : PE X (.Name x p) (tVar i)) (hb : PV X b cb) : PO' X (.BinOp (.Name x p) .Add b pos) (cCatP i cb) :=
  pe_w (pe_op op_cat hx hb) fun σ H Q ⟨F0, G, F, ρ, vs, s, d, s', m, hc, k⟩ => by
    unfold cCatP at hc
    cases h0 : plc s i with
    | none => rw [h0] at hc; cases hc
    | some r0 =>
      rw [h0] at hc
      dsimp only at hc
      split at hc
      case h_2 => cases hc
      rename_i ds0 h00
      obtain ⟨v0, hv0⟩ := m.named h0
      refine ⟨v0, hv0, ?_⟩
      split at hc
      case h_2 => cases hc
      rename_i es s1 h1
      refine ⟨F0, G, F, ρ, vs, s, _, s1, m, h1, fun F1 ρ1 vs1 v H1 e1 p1 m1 r1 => ?_⟩
      obtain ⟨bb, ws, rfl, hbb, rb⟩ := r1.ls
      cases h2 : plc s1 i with
      | none => rw [h2] at hc; cases hc
      | some r =>
        rw [h2] at hc
        dsimp only at hc
        split at hc
        case h_2 => cases hc
        rename_i ds h3
        split at hc
        case isFalse => cases hc
        rename_i hz
        cases hc
        obtain ⟨v1, rest, hv1, c, back⟩ := m1.focus h2 h3
        rw [hv0] at hv1
        cases hv1
        obtain ⟨fp, ow, nd, dj⟩ := c.own
        obtain ⟨f1, f2, _, q, _⟩ := ow.inv
        unfold Own at q
        obtain ⟨aa, us, f, e2, ha, ef, ql⟩ := q
        subst e2
        have rd := ql.rep hz.1
        refine ⟨aa, bb, us, ws, rfl, rfl, ha, m1.core.f _ _ hbb, line_ok (by rw [← rd.len, ← rb.len]; exact hz.2), fun p hp => ?_⟩
        exact k F1 ρ1 vs1 _ _ e1 p1 (m1.core_of (tmp' := [(_, _)]) (m1.core.newL (rd.app rb) hp))
end
end Fr

set_option maxRecDepth 100000
namespace Fr
open PySem PySem.Spec PyProof.Rows _root_.L2
theorem hu65 {k : Nat} {A : Around} (r : Room k A) : A.units + 65 < cLine := by have := r.un; omega
structure Ok (P : Program) (w : World) (K : PySem.W.Frag) (mg : Str → Option Value) (base : Heap) (lv : Nat) (x : Str) (ps : List Str) (m : MF) : Prop where
  h : ∃ f fd, FnOk P w K mg base CX0 lv f fd ps (spD K ps.length m) ∧ mg x = some (.ref f) ∧ PySem.W.keepIn K (.ref f) = true ∧ Binds K fd ps []
structure OkM (P : Program) (w : World) (K : PySem.W.Frag) (mg : Str → Option Value) (base : Heap) (lv : Nat) (x : Str) (C : Addr) (ps : List Str) (m : MF) : Prop where
  h : ∃ f fd, Mk K C f ∧ FnOk P w K mg base CX0 lv f fd ps (spD K ps.length m) ∧ mg x = some (.ref C) ∧ Binds K fd ps []
abbrev ns (mg : Str → Option Value) (x : Str) : Prop := mg x = none
section
variable {X : Cx} {e a b c : Expr} {es : List Expr} {pos p q p2 cpos apos : Pos} {x : Str} {k j ar : Nat} {ps : List Str} {m : MF} {cs : S → Option (List D × S)} {ca cb cc : C} {C0 : Addr}
theorem kCall (h : Ok X.prog X.w X.K X.mg X.base k x ps m) (hr : Room j X.A) (hkj : k ≤ j) (hg : Gl X x) (ha : PAr X (e :: es) cs) (hl : ∀ ds s s', cs s = some (ds, s') → ds.length = ps.length)
    (hdb : (x == ("__debug__" : Str)) = false := by decide) (he : starEach (e :: es) X.env = (false, eval e X.env) :: starEach es X.env := by rfl) (hpl : (backTo pos (starEach es X.env)).any (·.1) = false := by rfl) :
    PO' X (.Call (.Name x p) (e :: es) [] pos) (cCall m cs) := by
  obtain ⟨f, fd, F, hm, hk, hb⟩ := h.h
  exact po_call F hr hkj hg hm hk hb pass0 ha hl hdb he hpl
theorem kMake (h : OkM X.prog X.w X.K X.mg X.base k x C0 ps m) (hr : Room j X.A) (hkj : k + 1 ≤ j) (hg : Gl X x) (ha : PAr X (e :: es) cs) (hl : ∀ ds s s', cs s = some (ds, s') → ds.length = ar) (hp : ps.length = ar + 1)
    (hdb : (x == ("__debug__" : Str)) = false := by decide) (he : starEach (e :: es) X.env = (false, eval e X.env) :: starEach es X.env := by rfl) (hpl : (backTo pos (starEach es X.env)).any (·.1) = false := by rfl) :
    PO' X (.Call (.Name x p) (e :: es) [] pos) (cMake C0 m cs) := by
  obtain ⟨f, fd, M, F, hm, hb⟩ := h.h
  rw [hp] at F
  exact po_make M F (hr.mono hkj) hg hm hb pass0 ha hl hdb he hpl
theorem kGint {i : Int} (hg : Gl X x) (hm : ∃ t, X.mg x = some (.int i t)) (hd : (x == ("__debug__" : Str)) = false := by decide) : PV X (.Name x pos) (cK (.int i)) := by
  obtain ⟨t, hm⟩ := hm
  exact pv_gint hg hm hd
theorem kTy {n : String} (hg : Gl X n) (hm : X.mg n = none) (hv : bootBuiltins n = some (.type n)) (hn : (n : Str) ≠ "__name__" := by decide) (hd : ((n : Str) == ("__debug__" : Str)) = false := by decide) : PV X (.Name n pos) (cK (.ty n)) := pv_ty hg hm hv hn hd
variable (st1 : starEach [a] X.env = (false, eval a X.env) :: starEach [] X.env := by rfl) (st2 : starEach [a, b] X.env = (false, eval a X.env) :: starEach [b] X.env := by rfl)
theorem kLen (hg : Gl X "len") (hm : X.mg "len" = none) (ha : PV X a ca) (he : starEach [a] X.env = (false, eval a X.env) :: starEach [] X.env := by rfl) : PO' X (.Call (.Name "len" p) [a] [] pos) (cCB gLen (cCons ca cNil)) :=
  po_callB call_len_seq l_len hg hm PySem.boot_len (pa_c ha pa_n he) (by decide) (by decide) he rfl
theorem kInt (hg : Gl X "int") (hm : X.mg "int" = none) (ha : PV X a ca) (he : starEach [a] X.env = (false, eval a X.env) :: starEach [] X.env := by rfl) : PO' X (.Call (.Name "int" p) [a] [] pos) (cCB gInt (cCons ca cNil)) :=
  po_callT call_int1 l_int hg hm PyProof.Rows.boot_int (pa_c ha pa_n he) (by decide) (by decide) he rfl
theorem kAbs (hg : Gl X "abs") (hm : X.mg "abs" = none) (ha : PV X a ca) (he : starEach [a] X.env = (false, eval a X.env) :: starEach [] X.env := by rfl) : PO' X (.Call (.Name "abs" p) [a] [] pos) (cCB gAbs (cCons ca cNil)) :=
  po_callB call_abs l_abs hg hm (by decide +kernel) (pa_c ha pa_n he) (by decide) (by decide) he rfl
theorem kSum (hc : X.calm = true) (hg : Gl X "sum") (hm : X.mg "sum" = none) (ha : PV X a ca) (he : starEach [a] X.env = (false, eval a X.env) :: starEach [] X.env := by rfl) : PO' X (.Call (.Name "sum" p) [a] [] pos) (cCB gSum (cCons ca cNil)) :=
  po_callB (cr_sum hc) l_sum hg hm (by decide +kernel) (pa_c ha pa_n he) (by decide) (by decide) he rfl
theorem kMin (hc : X.calm = true) (hg : Gl X "min") (hm : X.mg "min" = none) (ha : PV X a ca) (he : starEach [a] X.env = (false, eval a X.env) :: starEach [] X.env := by rfl) : PO' X (.Call (.Name "min" p) [a] [] pos) (cCB gMin (cCons ca cNil)) :=
  po_callB (cr_min hc) l_min hg hm (by decide +kernel) (pa_c ha pa_n he) (by decide) (by decide) he rfl
theorem kMax (hc : X.calm = true) (hg : Gl X "max") (hm : X.mg "max" = none) (ha : PV X a ca) (he : starEach [a] X.env = (false, eval a X.env) :: starEach [] X.env := by rfl) : PO' X (.Call (.Name "max" p) [a] [] pos) (cCB gMax (cCons ca cNil)) :=
  po_callB (cr_max hc) l_max hg hm (by decide +kernel) (pa_c ha pa_n he) (by decide) (by decide) he rfl
theorem kAll (hc : X.calm = true) (hg : Gl X "all") (hm : X.mg "all" = none) (ha : PV X a ca) (he : starEach [a] X.env = (false, eval a X.env) :: starEach [] X.env := by rfl) : PO' X (.Call (.Name "all" p) [a] [] pos) (cCB gAll (cCons ca cNil)) :=
  po_callB (cr_all hc) l_all hg hm (by decide +kernel) (pa_c ha pa_n he) (by decide) (by decide) he rfl
theorem kAny (hc : X.calm = true) (hg : Gl X "any") (hm : X.mg "any" = none) (ha : PV X a ca) (he : starEach [a] X.env = (false, eval a X.env) :: starEach [] X.env := by rfl) : PO' X (.Call (.Name "any" p) [a] [] pos) (cCB gAny (cCons ca cNil)) :=
  po_callB (cr_any hc) l_any hg hm (by decide +kernel) (pa_c ha pa_n he) (by decide) (by decide) he rfl
theorem kList (hg : Gl X "list") (hm : X.mg "list" = none) (ha : PV X a ca) (he : starEach [a] X.env = (false, eval a X.env) :: starEach [] X.env := by rfl) : PO' X (.Call (.Name "list" p) [a] [] pos) (cCB gList (cCons ca cNil)) :=
  po_callT call_list_of l_list hg hm PyProof.Rows.boot_list (pa_c ha pa_n he) (by decide) (by decide) he rfl
theorem kTuple (hg : Gl X "tuple") (hm : X.mg "tuple" = none) (ha : PV X a ca) (he : starEach [a] X.env = (false, eval a X.env) :: starEach [] X.env := by rfl) : PO' X (.Call (.Name "tuple" p) [a] [] pos) (cCB gTuple (cCons ca cNil)) :=
  po_callT call_tuple_of l_tuple hg hm PyProof.Rows.boot_tuple (pa_c ha pa_n he) (by decide) (by decide) he rfl
theorem kSetL (hc : X.calm = true) (hg : Gl X "set") (hm : X.mg "set" = none) (ha : PV X a ca) (he : starEach [a] X.env = (false, eval a X.env) :: starEach [] X.env := by rfl) : PO' X (.Call (.Name "set" p) [a] [] pos) (cCB gSetL (cCons ca cNil)) :=
  po_callT (cr_setLI hc) l_setL hg hm PyProof.Rows.boot_set (pa_c ha pa_n he) (by decide) (by decide) he rfl
theorem kSortS (hc : X.calm = true) (hg : Gl X "sorted") (hm : X.mg "sorted" = none) (ha : PV X a ca) (he : starEach [a] X.env = (false, eval a X.env) :: starEach [] X.env := by rfl) : PO' X (.Call (.Name "sorted" p) [a] [] pos) (cCB (gSrtS X.w) (cCons ca cNil)) :=
  po_callB (cr_sortedSet hc) l_srtS hg hm (by decide +kernel) (pa_c ha pa_n he) (by decide) (by decide) he rfl
theorem kSortP (hg : Gl X "sorted") (hm : X.mg "sorted" = none) (ha : PV X a ca) (he : starEach [a] X.env = (false, eval a X.env) :: starEach [] X.env := by rfl) : PO' X (.Call (.Name "sorted" p) [a] [] pos) (cCB gSrtP (cCons ca cNil)) :=
  po_callB cr_sortedPO l_srtP hg hm (by decide +kernel) (pa_c ha pa_n he) (by decide) (by decide) he rfl
theorem kIsi (hg : Gl X "isinstance") (hm : X.mg "isinstance" = none) (ha : PV X a ca) (hb : PV X b cb) (he : starEach [a, b] X.env = (false, eval a X.env) :: starEach [b] X.env := by rfl) (he2 : starEach [b] X.env = (false, eval b X.env) :: starEach [] X.env := by rfl)
    (hpl : (backTo pos (starEach [b] X.env)).any (·.1) = false := by rfl) :
    PO' X (.Call (.Name "isinstance" p) [a, b] [] pos) (cCB gIsi (cCons ca (cCons cb cNil))) :=
  po_callB call_isi l_isi hg hm (by decide +kernel) (pa_c ha (pa_c hb pa_n he2) he) (by decide) (by decide) he hpl
theorem kMax2 (hc : X.calm = true) (hg : Gl X "max") (hm : X.mg "max" = none) (ha : PV X a ca) (hb : PV X b cb) (he : starEach [a, b] X.env = (false, eval a X.env) :: starEach [b] X.env := by rfl) (he2 : starEach [b] X.env = (false, eval b X.env) :: starEach [] X.env := by rfl)
    (hpl : (backTo pos (starEach [b] X.env)).any (·.1) = false := by rfl) :
    PO' X (.Call (.Name "max" p) [a, b] [] pos) (cCB (gII fun i j => if j > i then j else i) (cCons ca (cCons cb cNil))) :=
  po_callB (call_max2 hc) l_II hg hm (by decide +kernel) (pa_c ha (pa_c hb pa_n he2) he) (by decide) (by decide) he hpl
theorem kMin2 (hc : X.calm = true) (hg : Gl X "min") (hm : X.mg "min" = none) (ha : PV X a ca) (hb : PV X b cb) (he : starEach [a, b] X.env = (false, eval a X.env) :: starEach [b] X.env := by rfl) (he2 : starEach [b] X.env = (false, eval b X.env) :: starEach [] X.env := by rfl)
    (hpl : (backTo pos (starEach [b] X.env)).any (·.1) = false := by rfl) :
    PO' X (.Call (.Name "min" p) [a, b] [] pos) (cCB (gII fun i j => if j < i then j else i) (cCons ca (cCons cb cNil))) :=
  po_callB (call_min2 hc) l_II hg hm (by decide +kernel) (pa_c ha (pa_c hb pa_n he2) he) (by decide) (by decide) he hpl
end
end Fr

set_option maxRecDepth 100000
namespace Fr
open PySem PySem.Spec PyProof.Rows _root_.L2
theorem pi_or {X : Cx} {tg iter : Expr} {t t' : TI} (h : PI X tg iter t) (h' : PI X tg iter t') : PI X tg iter (fun σ H R => t σ H R ∨ t' σ H R) :=
  ⟨fun pins s σ H R I q => q.elim (h.run pins s σ H R I) (h'.run pins s σ H R I)⟩
/-- over a list or a tuple -/
def itS (c : C) : S → Option (List D × S) := fun s => match c s with
  | some (.lst ds, s') => some (ds, s')
  | some (.scr ds, s') => some (ds, s')
  | some (.tup ds, s') => some (ds, s')
  | _ => none
section
variable {X : Cx} {a b e tg : Expr} {pos p : Pos} {ca cb : C}
theorem pi_s {c : C} (h : PV X e c) : PId X tg e (itS c) := pi_w (pi_or (pi_l (tg := tg) h) (pi_t (tg := tg) h)) fun σ H R ⟨F0, G, F, ρ, vs, s, ds, s', m, hc, k⟩ => by
  unfold itS at hc
  split at hc
  · rename_i ds1 s1 h1
    cases hc
    exact .inl ⟨F0, G, F, ρ, vs, s, ds, s', m, by unfold itL; rw [h1], k⟩
  · rename_i ds1 s1 h1
    cases hc
    exact .inl ⟨F0, G, F, ρ, vs, s, ds, s', m, by unfold itL; rw [h1], k⟩
  · rename_i ds1 s1 h1
    cases hc
    exact .inr ⟨F0, G, F, ρ, vs, s, ds, s', m, by unfold itT; rw [h1], k⟩
  · cases hc
theorem opr_or {op : Value → Value → Sem Value} {r r' : R2} (h : OpR X op r) (h' : OpR X op r') : OpR X op (fun x y H Q => r x y H Q ∨ r' x y H Q) := h.or h'
def gIn (f : Bool → Bool) : D → D → Option D := fun x y => (gInL f x y).or (gInS f x y)
theorem po_in (hu : X.A.units + 65 < cLine) (ha : PV X a ca) (hb : PV X b cb) (hm : behindInMarks .In b = false := by rfl) : PO' X (.Compare a [.In] [b] pos) (cBin (gIn id) ca cb) := po_cmp ((op_inD hu).or or_inS) (l_inL.or l_inS) ha hb hm
theorem po_ni (hu : X.A.units + 65 < cLine) (ha : PV X a ca) (hb : PV X b cb) (hm : behindInMarks .NotIn b = false := by rfl) : PO' X (.Compare a [.NotIn] [b] pos) (cBin (gIn not) ca cb) := po_cmp ((op_notInD hu).or or_niS) (l_niL.or l_inS) ha hb hm
theorem pb_in (hu : X.A.units + 65 < cLine) (ha : PV X a ca) (hb : PV X b cb) (hm : behindInMarks .In b = false := by rfl) : PB X (.Compare a [.In] [b] pos) (cT (cBin (gIn id) ca cb)) := pb_cmp ((op_inD hu).or or_inS) (l_inL.or l_inS) ha hb hm
theorem pb_ni (hu : X.A.units + 65 < cLine) (ha : PV X a ca) (hb : PV X b cb) (hm : behindInMarks .NotIn b = false := by rfl) : PB X (.Compare a [.NotIn] [b] pos) (cT (cBin (gIn not) ca cb)) := pb_cmp ((op_notInD hu).or or_niS) (l_niL.or l_inS) ha hb hm
noncomputable def gSrt (w : World) : List D → Option D := fun x => (gSrtS w x).or (gSrtP x)
theorem kSort (hc : X.calm = true) (hg : Gl X "sorted") (hm : X.mg "sorted" = none) (ha : PV X a ca) (he : starEach [a] X.env = (false, eval a X.env) :: starEach [] X.env := by rfl) : PO' X (.Call (.Name "sorted" p) [a] [] pos) (cCB (gSrt X.w) (cCons ca cNil)) :=
  po_callB (L2.CallR.orC' (cr_sortedSet hc) cr_sortedPO) (l_srtS.or l_srtP) hg hm (by decide +kernel) (pa_c ha pa_n he) (by decide) (by decide) he rfl
end
end Fr

set_option maxRecDepth 100000
namespace Fr
open PySem PySem.Spec PyProof.Rows _root_.L2
/-! ### reading the mirrors -/
theorem cLst_nil (s : S) : cLst cNil s = some (.own [], s) := by
  unfold cLst cNil
  dsimp only
  exact if_pos (show ([] : List D).length ≤ line from Nat.zero_le _)
theorem cNil_of {s : S} : cNil s = some ([], s) := rfl
theorem cCons_of {c : C} {cs : S → Option (List D × S)} {s s1 s2 : S} {d : D} {ds : List D} (h1 : c s = some (d, s1)) (h2 : cs s1 = some (ds, s2)) : cCons c cs s = some (d :: ds, s2) := by
  unfold cCons
  rw [h1]
  show ((cs s1).map fun q => (d :: q.1, q.2)) = _
  rw [h2]
  rfl
theorem cSeq_next {a b : Cs} {s s1 : S} (h : a s = some (.next, s1)) : cSeq a b s = b s1 := by unfold cSeq; rw [h]
theorem cSeq_ret {a b : Cs} {s s1 : S} {d : D} (h : a s = some (.ret d, s1)) : cSeq a b s = some (.ret d, s1) := by unfold cSeq; rw [h]
/-- a for loop by its invariant -/
theorem forLoop_inv {tg : D → S → Option S} {body : Cs} (Inv : Nat → S → Prop) : ∀ (ds : List D) (n : Nat) (s : S), Inv n s →
    (∀ (i : Nat) (d : D) (s : S), ds[i]? = some d → Inv (n + i) s → ∃ s1 s2 fl, tg d s = some s1 ∧ body s1 = some (fl, s2) ∧ (fl = .next ∨ fl = .cnt) ∧ Inv (n + i + 1) s2) → ∃ s', forLoop tg body ds s = some (.next, s') ∧ Inv (n + ds.length) s'
  | [], n, s, h, _ => ⟨s, rfl, h⟩
  | d :: ds, n, s, h, st => by
    obtain ⟨s1, s2, fl, h1, h2, h3, h4⟩ := st 0 d s rfl h
    obtain ⟨s', h5, h6⟩ := forLoop_inv Inv ds (n + 1) s2 h4 fun i d s e hi => by
      obtain ⟨t1, t2, gl, a1, a2, a3, a4⟩ := st (i + 1) d s (by simpa using e) (by rw [show n + (i + 1) = n + 1 + i by omega]; exact hi)
      exact ⟨t1, t2, gl, a1, a2, a3, by rw [show n + 1 + i + 1 = n + (i + 1) + 1 by omega]; exact a4⟩
    refine ⟨s', ?_, by rw [List.length_cons, show n + (ds.length + 1) = n + 1 + ds.length by omega]; exact h6⟩
    unfold forLoop
    rw [h1]
    dsimp only
    rw [h2]
    rcases h3 with rfl | rfl <;> exact h5
/-- a for loop that may return: one step at a time -/
theorem forLoop_next {tg : D → S → Option S} {body : Cs} {d : D} {ds : List D} {s s1 s2 : S} (h1 : tg d s = some s1) (h2 : body s1 = some (.next, s2)) : forLoop tg body (d :: ds) s = forLoop tg body ds s2 := by
  rw [forLoop, h1]
  dsimp only
  rw [h2]
theorem forLoop_ret {tg : D → S → Option S} {body : Cs} {d x : D} {ds : List D} {s s1 s2 : S} (h1 : tg d s = some s1) (h2 : body s1 = some (.ret x, s2)) : forLoop tg body (d :: ds) s = some (.ret x, s2) := by
  rw [forLoop, h1]
  dsimp only
  rw [h2]
/-- a comprehension that only reads -/
theorem lcLoop_pure {js : List Nat} {tg : D → S → Option S} {tt : CB} {te : C} {s : S} (b : D → Bool) (f : D → D) : ∀ (ds : List D) (acc : List D), acc.length + ds.length < line →
    (∀ d ∈ ds, ∃ s1, tg d s = some s1 ∧ tt s1 = some (b d, s1) ∧ { s1 with env := unbs s1.env js } = s ∧ (b d = true → te s1 = some (f d, s1))) →
    lcLoop js tg tt te ds s acc = some (acc ++ (ds.filter b).map f, s)
  | [], acc, _, _ => by unfold lcLoop; simp
  | d :: ds, acc, hl, h => by
    rw [List.length_cons] at hl
    obtain ⟨s1, h1, h2, h3, h4⟩ := h d (List.mem_cons_self ..)
    unfold lcLoop
    rw [h1]
    dsimp only
    rw [h2]
    cases hb : b d with
    | false =>
      dsimp only
      rw [h3, lcLoop_pure b f ds acc (by omega) fun d hd => h d (List.mem_cons_of_mem _ hd), List.filter_cons_of_neg (by rw [hb]; decide)]
    | true =>
      dsimp only
      rw [h4 hb]
      dsimp only
      rw [if_pos (by omega), h3, lcLoop_pure b f ds _ (by rw [List.length_append, List.length_singleton]; omega) fun d hd => h d (List.mem_cons_of_mem _ hd), List.filter_cons_of_pos hb, List.map_cons, List.append_assoc]
      rfl
/-- the same for sets -/
theorem scLoop_pure {js : List Nat} {tg : D → S → Option S} {tt : CB} {te : C} {s : S} (f : D → Int) : ∀ (ds : List D) (acc : List Int), acc.length + ds.length < 1000 →
    (∀ d ∈ ds, ∃ s1, tg d s = some s1 ∧ tt s1 = some (true, s1) ∧ { s1 with env := unbs s1.env js } = s ∧ te s1 = some (.int (f d), s1)) →
    scLoop js tg tt te ds s acc = some (ds.foldl (fun a d => addI a (f d)) acc, s)
  | [], acc, _, _ => by unfold scLoop; simp
  | d :: ds, acc, hl, h => by
    rw [List.length_cons] at hl
    obtain ⟨s1, h1, h2, h3, h4⟩ := h d (List.mem_cons_self ..)
    unfold scLoop
    rw [h1]
    dsimp only
    rw [h2]
    dsimp only
    rw [h4]
    dsimp only
    have ha : (addI acc (f d)).length ≤ acc.length + 1 := by
      unfold addI
      split
      · omega
      · rw [List.length_append, List.length_singleton]
        omega
    rw [if_pos (by omega), h3, scLoop_pure f ds _ (by omega) fun d hd => h d (List.mem_cons_of_mem _ hd), List.foldl_cons]
/-- a comprehension whose elements change the cells -/
theorem lcLoop_inv {js : List Nat} {tg : D → S → Option S} {te : C} (Inv : Nat → S → List D → Prop) : ∀ (ds : List D) (n : Nat) (s : S) (acc : List D), acc.length + ds.length < line → Inv n s acc →
    (∀ (i : Nat) (d : D) (s : S) (acc : List D), ds[i]? = some d → Inv (n + i) s acc → ∃ s1 x s2, tg d s = some s1 ∧ te s1 = some (x, s2) ∧ Inv (n + i + 1) { s2 with env := unbs s2.env js } (acc ++ [x])) →
    ∃ acc' s', lcLoop js tg bYes te ds s acc = some (acc', s') ∧ Inv (n + ds.length) s' acc'
  | [], n, s, acc, _, h, _ => ⟨acc, s, rfl, h⟩
  | d :: ds, n, s, acc, hl, h, st => by
    rw [List.length_cons] at hl
    obtain ⟨s1, x, s2, h1, h2, h3⟩ := st 0 d s acc rfl h
    obtain ⟨acc', s', h5, h6⟩ := lcLoop_inv Inv ds (n + 1) _ (acc ++ [x]) (by rw [List.length_append, List.length_singleton]; omega) h3 fun i d s acc e hi => by
      obtain ⟨t1, y, t2, a1, a2, a3⟩ := st (i + 1) d s acc (by simpa using e) (by rw [show n + (i + 1) = n + 1 + i by omega]; exact hi)
      exact ⟨t1, y, t2, a1, a2, by rw [show n + 1 + i + 1 = n + (i + 1) + 1 by omega]; exact a3⟩
    refine ⟨acc', s', ?_, by rw [List.length_cons, show n + (ds.length + 1) = n + 1 + ds.length by omega]; exact h6⟩
    unfold lcLoop
    rw [h1]
    show (match te s1 with
      | none => none
      | some (x, s3) => if acc.length < line then lcLoop js tg bYes te ds { s3 with env := unbs s3.env js } (acc ++ [x]) else none) = _
    rw [h2]
    dsimp only
    rw [if_pos (by omega), h5]
theorem map_erase {α β : Type} (f : α → β) : ∀ (l : List α) (i : Nat), (l.map f).eraseIdx i = (l.eraseIdx i).map f
  | [], i => by simp
  | x :: l, 0 => by simp
  | x :: l, i + 1 => by simp [map_erase f l i]
theorem itR1_of {c : C} {s s1 : S} {n : Int} (h : c s = some (.int n, s1)) (hn : Fr.small62 n = true) : itR1 (cCons c cNil) s = some (rgD 0 n.toNat, s1) := by
  unfold itR1 cCons cNil
  rw [h]
  simp [hn]
theorem itR2_of {c c' : C} {s s1 s2 : S} {m n : Int} (h : c s = some (.int m, s1)) (h' : c' s1 = some (.int n, s2)) (hm : Fr.small62 m = true) (hn : Fr.small62 n = true) : itR2 (cCons c (cCons c' cNil)) s = some (rgD m (n - m).toNat, s2) := by
  unfold itR2 cCons
  simp only [cCons, cNil]
  rw [h]
  simp [h', hn, hm]
theorem small62_of {n : Int} (h0 : -1000000 ≤ n) (h1 : n ≤ 1000000) : Fr.small62 n = true := by
  unfold Fr.small62
  simp only [Bool.and_eq_true, decide_eq_true_eq]
  omega
theorem mOf_ret {n : Nat} {cb : Cs} {ds M env : List D} {d : D} {s' : S} (hE : ds ++ List.replicate (n - ds.length) .unb = env) (h : cb ⟨env, M⟩ = some (.ret d, s')) : mOf n cb ds M = some (d, s'.mem) := by
  unfold mOf
  rw [hE, h]
theorem mOf_next {n : Nat} {cb : Cs} {ds M env : List D} {s' : S} (hE : ds ++ List.replicate (n - ds.length) .unb = env) (h : cb ⟨env, M⟩ = some (.next, s')) : mOf n cb ds M = some (.non, s'.mem) := by
  unfold mOf
  rw [hE, h]
theorem cRet_of {c : C} {s s' : S} {d : D} (h : c s = some (d, s')) : cRet c s = some (.ret d, s') := by unfold cRet; rw [h]
theorem cLc_of {it : S → Option (List D × S)} {js : List Nat} {tg : D → S → Option S} {tt : CB} {te : C} {s s1 s2 : S} {ds acc : List D} (h1 : it s = some (ds, s1)) (hf : allFrz s1.env js = true) (h2 : lcLoop js tg tt te ds { s1 with env := unbs s1.env js } [] = some (acc, s2)) :
    cLc it js tg tt te s = some (.own acc, { s2 with env := rst s2.env s1.env js }) := by
  unfold cLc
  rw [h1]
  dsimp only
  rw [if_pos hf, h2]
theorem cAsg_of {i : Nat} {c : C} {s s1 : S} {d : D} (h : c s = some (d, s1)) : cAsg i c s = some (.next, { s1 with env := s1.env.set i d }) := by unfold cAsg; rw [h]
theorem cCall_of {m : MF} {cs : S → Option (List D × S)} {s s1 : S} {ds M' : List D} {d : D} (h1 : cs s = some (ds, s1)) (h2 : m ds s1.mem = some (d, M')) : cCall m cs s = some (d, { s1 with mem := M' }) := by unfold cCall; rw [h1]; dsimp only; rw [h2]
theorem cFor_of {it : S → Option (List D × S)} {tg : D → S → Option S} {body : Cs} {s s1 : S} {ds : List D} (h1 : it s = some (ds, s1)) : cFor it tg body s = forLoop tg body ds s1 := by unfold cFor; rw [h1]
end Fr

set_option maxRecDepth 100000
namespace Fr
open PySem PySem.Spec PyProof.Rows _root_.L2
/-! ### data that is compared -/
structure Em (α : Type) [DecidableEq α] where
  d : α → D
  p : α → PyData
  k : Nat
  hp : ∀ a, toP (d a) = some (p a)
  lay : ∀ a, PyData.canLay0 (p a) = true
  dep : ∀ a, PyData.depth (p a) ≤ k
  eq : ∀ a b, PyData.eqv (p a) (p b) = decide (a = b)
namespace Em
variable {α : Type} [DecidableEq α]
def int : Em Int := ⟨D.int, PyData.int, 0, fun _ => by unfold toP; rfl, fun _ => by unfold PyData.canLay0; rfl, fun _ => by unfold PyData.depth; exact Nat.le_refl _, fun a b => by
  unfold PyData.eqv
  exact Bool.eq_iff_iff.mpr (by simp)⟩
theorem allP (e : Em α) : ∀ as : List α, toPL (as.map e.d) = some (as.map e.p)
  | [] => by simp [toPL]
  | a :: as => by
    show toPL (e.d a :: as.map e.d) = _
    unfold toPL
    rw [e.hp, allP e as]
    rfl
theorem allLay (e : Em α) : ∀ as : List α, PyData.canLayAll0 (as.map e.p) = true
  | [] => by simp [PyData.canLayAll0]
  | a :: as => by
    show PyData.canLayAll0 (e.p a :: as.map e.p) = true
    unfold PyData.canLayAll0
    rw [e.lay, allLay e as]
    rfl
theorem allDep (e : Em α) : ∀ as : List α, PyData.depthAll (as.map e.p) ≤ e.k
  | [] => by simp [PyData.depthAll]
  | a :: as => by
    show PyData.depthAll (e.p a :: as.map e.p) ≤ e.k
    unfold PyData.depthAll
    exact Nat.max_le.mpr ⟨e.dep a, allDep e as⟩
theorem allEq (e : Em α) : ∀ as bs : List α, PyData.eqvAll (as.map e.p) (bs.map e.p) = decide (as = bs)
  | [], [] => by simp [PyData.eqvAll]
  | [], b :: bs => by simp [PyData.eqvAll]
  | a :: as, [] => by simp [PyData.eqvAll]
  | a :: as, b :: bs => by
    show PyData.eqvAll (e.p a :: as.map e.p) (e.p b :: bs.map e.p) = _
    unfold PyData.eqvAll
    rw [e.eq, allEq e as bs]
    by_cases h1 : a = b <;> by_cases h2 : as = bs <;> simp [h1, h2]
def tup (e : Em α) : Em (List α) := ⟨fun as => .tup (as.map e.d), fun as => .tuple (as.map e.p), e.k + 1, fun as => by unfold toP; rw [e.allP]; rfl, fun as => by unfold PyData.canLay0; exact e.allLay as,
  fun as => by unfold PyData.depth; exact Nat.succ_le_succ (e.allDep as), fun as bs => by unfold PyData.eqv; exact e.allEq as bs⟩
def lst (e : Em α) : Em (List α) := ⟨fun as => .lst (as.map e.d), fun as => .list (as.map e.p), e.k + 1, fun as => by unfold toP; rw [e.allP]; rfl, fun as => by unfold PyData.canLay0; exact e.allLay as,
  fun as => by unfold PyData.depth; exact Nat.succ_le_succ (e.allDep as), fun as bs => by unfold PyData.eqv; exact e.allEq as bs⟩
/-- read through a one-to-one function -/
def via {β : Type} [DecidableEq β] (e : Em α) (f : β → α) (inj : ∀ x y, f x = f y → x = y) : Em β := ⟨fun b => e.d (f b), fun b => e.p (f b), e.k, fun b => e.hp _, fun b => e.lay _, fun b => e.dep _, fun a b => by
  rw [e.eq]
  exact Bool.eq_iff_iff.mpr (by simp; exact ⟨inj a b, fun h => by rw [h]⟩)⟩
def tri : Em (Int × Int × Int) := int.tup.via (fun t => [t.1, t.2.1, t.2.2]) fun x y h => by
  simp at h
  exact Prod.ext h.1 (Prod.ext h.2.1 h.2.2)
def pr : Em (Int × Int) := int.tup.via (fun t => [t.1, t.2]) fun x y h => by
  simp at h
  exact Prod.ext h.1 h.2
theorem shp_d (e : Em α) (hk : e.k ≤ 64) (a : α) : shp (e.d a) = some (e.p a) := by
  unfold shp
  rw [e.hp]
  show (if SeqAt.shaped (e.p a) = true then some (e.p a) else none) = _
  rw [if_pos]
  unfold SeqAt.shaped
  rw [e.lay]
  simp
  exact Nat.le_trans (e.dep a) hk
theorem gEqv_d (e : Em α) (hk : e.k ≤ 64) (f : Bool → Bool) (a b : α) : gEqv f (e.d a) (e.d b) = some (.bl (f (decide (a = b)))) := by
  unfold gEqv
  rw [e.shp_d hk, e.shp_d hk]
  show some (D.bl (f (PyData.eqv (e.p a) (e.p b)))) = _
  rw [e.eq]
theorem gIn_d (e : Em α) (hk : e.k ≤ 63) (f : Bool → Bool) (a : α) (as : List α) : gIn f (e.d a) (.lst (as.map e.d)) = some (.bl (f (decide (a ∈ as)))) := by
  have h : gInL f (e.d a) (e.lst.d as) = some (.bl (f (decide (a ∈ as)))) := by
    unfold gInL
    rw [e.shp_d (by omega), (e.lst).shp_d (show e.k + 1 ≤ 64 by omega)]
    show some (D.bl (f ((as.map e.p).any fun z => PyData.eqv z (e.p a)))) = _
    congr 3
    rw [List.any_map]
    induction as with
    | nil => simp
    | cons b bs ih =>
      rw [List.any_cons, ih]
      show (PyData.eqv (e.p b) (e.p a) || decide (a ∈ bs)) = _
      rw [e.eq]
      by_cases h : b = a
      · subst h; simp
      · simp [h, Ne.symm h]
  unfold gIn
  have h' : gInL f (e.d a) (.lst (as.map e.d)) = some (.bl (f (decide (a ∈ as)))) := h
  rw [h']
  rfl
end Em
theorem cF_of {c : C} {s s1 : S} {d : D} (h : c s = some (d, s1)) : cF c s = some (frz d, s1) := by unfold cF; rw [h]; rfl
theorem cBin_of {g : D → D → Option D} {ca cb : C} {s s1 s2 : S} {x y d : D} (h1 : ca s = some (x, s1)) (h2 : cb s1 = some (y, s2)) (h3 : g x y = some d) : cBin g ca cb s = some (d, s2) := by
  unfold cBin
  rw [h1]
  show ((cb s1).bind fun q => (g x q.1).map fun d => (d, q.2)) = _
  rw [h2]
  show ((g x y).map fun d => (d, s2)) = _
  rw [h3]
  rfl
theorem cT_of {c : C} {s s1 : S} {b : Bool} (h : c s = some (.bl b, s1)) : cT c s = some (b, s1) := by unfold cT; rw [h]
theorem cCB_of {g : List D → Option D} {cs : S → Option (List D × S)} {s s1 : S} {ds : List D} {d : D} (h1 : cs s = some (ds, s1)) (h2 : g ds = some d) : cCB g cs s = some (d, s1) := by unfold cCB; rw [h1]; dsimp only; rw [h2]; rfl
theorem cApp_of {i : Nat} {ce : C} {s s1 : S} {d : D} {es ds : List D} {r0 r : R} (h1 : plc s i = some r0) (h2 : rget s r0 = some (.own es)) (h3 : ce s = some (d, s1)) (h4 : plc s1 i = some r) (h5 : rget s1 r = some (.own ds)) (hz : ds.length < line) :
    cApp i ce s = some (.non, Fr.rset s1 r (.own (ds ++ [d]))) := by
  unfold cApp
  rw [h1]
  dsimp only
  rw [h2]
  dsimp only
  rw [h3]
  dsimp only
  rw [h4]
  dsimp only
  rw [h5]
  dsimp only
  rw [if_pos hz]
theorem cDrop_of {c : C} {s s1 : S} {d : D} (h : c s = some (d, s1)) : cDrop c s = some (.next, s1) := by unfold cDrop; rw [h]
theorem cIfS_t {c : CB} {a b : Cs} {s s1 : S} (h : c s = some (true, s1)) : cIfS c a b s = a s1 := by unfold cIfS; rw [h]
theorem cIfS_f {c : CB} {a b : Cs} {s s1 : S} (h : c s = some (false, s1)) : cIfS c a b s = b s1 := by unfold cIfS; rw [h]
theorem cApN_of {i j : Nat} {ci ce : C} {s s1 s2 : S} {k : Int} {d : D} {xs ds es : List D} (h1 : s.env[i]? = some (.own xs)) (h2 : ci s = some (.int k, s1)) (h3 : s1.env[i]? = some (.own ds)) (h4 : ixN ds.length k = some j) (h5 : ds[j]? = some (.own es))
    (h6 : ce { s1 with env := s1.env.set i .unb } = some (d, s2)) (hz : es.length < line) : cApN i ci ce s = some (.non, { s2 with env := s2.env.set i (.own (ds.set j (.own (es ++ [d])))) }) := by
  unfold cApN
  rw [h1]
  dsimp only
  rw [h2]
  dsimp only
  rw [h3]
  dsimp only
  rw [h4]
  dsimp only
  rw [h5]
  dsimp only
  rw [h6]
  dsimp only
  rw [if_pos hz]
theorem cAugIx_of {i j : Nat} {f : Int → Int → Int} {ci cv : C} {s : S} {ds : List D} {k x y : Int} (h1 : s.env[i]? = some (.own ds)) (h2 : ci s = some (.int k, s)) (h3 : ixN ds.length k = some j) (h4 : ds[j]? = some (.int x)) (h5 : cv s = some (.int y, s)) :
    cAugIx i f ci cv s = some (.next, { s with env := s.env.set i (.own (ds.set j (.int (f x y)))) }) := by
  have hp := plc_own h1
  have hr : rget s (.e i) = some (.own ds) := h1
  have ha : atI ds k = some (.int x) := by
    unfold atI
    rw [h3]
    exact h4
  unfold cAugIx
  rw [hp]
  dsimp only
  rw [h2]
  dsimp only
  rw [hp]
  dsimp only
  rw [hr]
  dsimp only
  rw [ha]
  dsimp only
  rw [h5]
  dsimp only
  rw [hp]
  dsimp only
  rw [hr]
  dsimp only
  rw [h3]
  rfl
theorem cIx_own {i j : Nat} {ci : C} {s : S} {ds : List D} {k : Int} {d : D} (h1 : s.env[i]? = some (.own ds)) (h2 : ci s = some (.int k, s)) (h3 : ixN ds.length k = some j) (h4 : ds[j]? = some d) (hf : frzn d = true) : cIx i ci s = some (d, s) := by
  have hp := plc_own h1
  have hr : rget s (.e i) = some (.own ds) := h1
  have ha : atI ds k = some d := by
    unfold atI
    rw [h3]
    exact h4
  unfold cIx
  rw [hp]
  dsimp only
  rw [h2]
  dsimp only
  rw [hp]
  dsimp only
  rw [hr]
  dsimp only
  rw [ha]
  dsimp only
  rw [if_pos hf]
theorem cWhile_t {c : CB} {body : Cs} {s s1 s2 : S} {r : Fl × S} (h1 : c s = some (true, s1)) (h2 : body s1 = some (.next, s2)) (h3 : cWhile c body s2 = some r) : cWhile c body s = some r := by
  obtain ⟨n, hn⟩ := cWhile_inv h3
  refine cWhile_of (n := n + 1) ?_
  unfold whileN
  rw [h1]
  dsimp only
  rw [h2]
  exact hn
theorem cWhile_f {c : CB} {body : Cs} {s s1 : S} (h1 : c s = some (false, s1)) : cWhile c body s = some (.next, s1) := by
  refine cWhile_of (n := 1) ?_
  unfold whileN
  rw [h1]
theorem range_set {α : Type} (f : Nat → α) (v : α) : ∀ (n k : Nat), ((List.range n).map f).set k v = (List.range n).map fun i => if i = k then v else f i := by
  intro n k
  refine List.ext_getElem? fun i => ?_
  rw [List.getElem?_map]
  by_cases hi : i < n
  · by_cases hk : k = i
    · subst hk
      rw [List.getElem?_set_self (by simpa using hi), List.getElem?_range hi]
      simp
    · rw [List.getElem?_set_ne hk, List.getElem?_map, List.getElem?_range hi]
      simp [Ne.symm hk]
  · have h1 : (List.range n)[i]? = none := List.getElem?_eq_none (by simpa using hi)
    rw [h1, List.getElem?_eq_none (by simpa using hi)]
    rfl
theorem gEq_i (i j : Int) : gEq (.int i) (.int j) = some (.bl (decide (i = j))) := Em.int.gEqv_d (by decide) id i j
theorem gNe_i (i j : Int) : gNe (.int i) (.int j) = some (.bl (!decide (i = j))) := Em.int.gEqv_d (by decide) not i j
theorem gEq_b (i j : Bool) : gEq (.bl i) (.bl j) = some (.bl (decide (i = j))) := by
  cases i <;> cases j <;> rfl
end Fr

set_option maxRecDepth 100000
namespace Fr
open PySem PySem.Spec PyProof.Rows _root_.L2
/-! ### exceptions: their class by its name, the fields frozen -/
structure Exn where
  n : Nat
  fs : List Str
  xs : List D
inductive Rs where
  | ok (d : D) | exc (e : Exn)
inductive FlX where
  | fl (f : Fl) | exc (e : Exn)
abbrev CX1 := S → Option (Rs × S)
abbrev CsX := S → Option (FlX × S)
abbrev MFX := List D → List D → Option (Rs × List D)
section
variable (K : PySem.W.Frag) (ea : Nat → Addr)
/-- the own dict of an exception -/
def ExAt (ρ : List Addr) (F : Hp) (e : Exn) (d : Option Addr) : Prop :=
  (e.fs = [] ∧ e.xs = [] ∧ d = none) ∨ e.fs ≠ [] ∧ ∃ a kvs, d = some a ∧ F a = some (.xd kvs) ∧ kvs.map (·.1) = e.fs ∧ RepL K ρ F e.xs (kvs.map (·.2))
def PostE (W : WX) (F0 G F : Hp) (ρ : List Addr) (e : Exn) (s' : S) : Prop :=
  ∀ F' ρ' vs' σ' d H', Ex F F' → ρ <+: ρ' → Sim K F0 G F' ρ' [] s' σ' vs' H' → ExAt K ρ' F' e d → W (.ref (ea e.n)) d σ' H'
def PostX (W : WX) (F0 G F : Hp) (ρ : List Addr) (σ : L2.St) (r : Rs) (s' : S) (Q : VK) : Prop :=
  match r with
  | .ok d => ∀ F' ρ' vs' v H', Ex F F' → ρ <+: ρ' → Sim K F0 G F' ρ' [(d, v)] s' σ vs' H' → Q v H'
  | .exc e => ∀ F' ρ' vs' d H', Ex F F' → ρ <+: ρ' → Sim K F0 G F' ρ' [] s' σ vs' H' → ExAt K ρ' F' e d → W (.ref (ea e.n)) d σ H'
def tX (W : WX) (c : CX1) : TE := fun σ H Q => ∃ F0 G F ρ vs s r s', Sim K F0 G F ρ [] s σ vs H ∧ c s = some (r, s') ∧ PostX K ea W F0 G F ρ σ r s' Q
def PostSX (W : WX) (F0 G F : Hp) (ρ : List Addr) (fl : FlX) (s' : S) (D : Ends) : Prop :=
  match fl with
  | .fl f => PostS K F0 G F ρ f s' D
  | .exc e => PostE K ea W F0 G F ρ e s'
def tSX (W : WX) (c : CsX) : TS := fun D σ H => ∃ F0 G F ρ vs s fl s', Sim K F0 G F ρ [] s σ vs H ∧ c s = some (fl, s') ∧ PostSX K ea W F0 G F ρ fl s' D
end
abbrev PXe (X : Cx) (ea : Nat → Addr) (W : WX) (e : Expr) (c : CX1) : Prop := PE X e (tX X.K ea W c)
abbrev PStX (X : Cx) (ea : Nat → Addr) (W : WX) (st : Stmt) (c : CsX) : Prop := PS X st (tSX X.K ea W c)
abbrev PSlX (X : Cx) (ea : Nat → Addr) (W : WX) (sts : List Stmt) (c : CsX) : Prop := PSs X sts (tSX X.K ea W c)
theorem PostE.mono {K : PySem.W.Frag} {ea : Nat → Addr} {W : WX} {F0 G F F' : Hp} {ρ ρ' : List Addr} {e : Exn} {s' : S} (h : PostE K ea W F0 G F ρ e s') (x : Ex F F') (p : ρ <+: ρ') : PostE K ea W F0 G F' ρ' e s' :=
  fun F1 ρ1 vs1 σ1 d H1 e1 p1 m1 a => h F1 ρ1 vs1 σ1 d H1 (x.tr e1) (p.trans p1) m1 a
theorem PostSX.mono {K : PySem.W.Frag} {ea : Nat → Addr} {W : WX} {F0 G F F' : Hp} {ρ ρ' : List Addr} {fl : FlX} {s' : S} {D : Ends} (h : PostSX K ea W F0 G F ρ fl s' D) (x : Ex F F') (p : ρ <+: ρ') : PostSX K ea W F0 G F' ρ' fl s' D := by
  cases fl with
  | fl f => exact PostS.mono h x p
  | exc e => exact PostE.mono h x p
section
variable {X : Cx} {ea : Nat → Addr} {W : WX} {e : Expr} {es : List Expr} {st : Stmt} {rest body : List Stmt} {pos p : Pos}
def cUp (c : Cs) : CsX := fun s => (c s).map fun q => (.fl q.1, q.2)
theorem up_ok {K : PySem.W.Frag} {c : Cs} {D : Ends} {σ : L2.St} {H : Hp} (h : tSX K ea W (cUp c) D σ H) : tS K c D σ H := by
  obtain ⟨F0, G, F, ρ, vs, s, fl, s', m, hc, post⟩ := h
  unfold cUp at hc
  cases h1 : c s with
  | none => rw [h1] at hc; cases hc
  | some q =>
    obtain ⟨f, s1⟩ := q
    rw [h1] at hc
    cases hc
    exact ⟨F0, G, F, ρ, vs, s, f, _, m, h1, post⟩
theorem px_up {c : Cs} (h : PSt X st c) : PStX X ea W st (cUp c) := ps_w h fun D σ H q => up_ok q
theorem plx_up {c : Cs} (h : PSl X rest c) : PSlX X ea W rest (cUp c) := pss_w h fun D σ H q => up_ok q
def cSeqX (a b : CsX) : CsX := fun s => match a s with
  | some (.fl .next, s1) => b s1
  | r => r
theorem plx_cons {ca cb : CsX} (h1 : PStX X ea W st ca) (h2 : PSlX X ea W rest cb) : PSlX X ea W (st :: rest) (cSeqX ca cb) := pss_w (pss_cons h1 h2) fun D σ H ⟨F0, G, F, ρ, vs, s, fl, s', m, hc, post⟩ => by
  unfold cSeqX at hc
  split at hc
  · rename_i s1 h1
    exact ⟨F0, G, F, ρ, vs, s, .fl .next, s1, m, h1, fun F1 ρ1 vs1 σ1 H1 e1 p1 m1 => ⟨F0, G, F1, ρ1, vs1, s1, fl, s', m1, hc, post.mono e1 p1⟩⟩
  · rename_i h1
    refine ⟨F0, G, F, ρ, vs, s, fl, s', m, hc, ?_⟩
    cases fl with
    | exc e => exact post
    | fl f =>
      cases f with
      | next => exact absurd hc (h1 _)
      | brk => exact post
      | cnt => exact post
      | ret d => exact post
theorem plx_one {ca : CsX} (h1 : PStX X ea W st ca) : PSlX X ea W [st] ca := pss_one h1
theorem plx_nil : PSlX X ea W [] (cUp cSkip) := plx_up pl_nil
def cIfX (c : CB) (a b : CsX) : CsX := fun s => match c s with
  | some (true, s1) => a s1
  | some (false, s1) => b s1
  | none => none
theorem px_ifS {c : Expr} {x y : List Stmt} {cc : CB} {ca cb : CsX} (hc : PB X c cc) (ha : PSlX X ea W x ca) (hb : PSlX X ea W y cb) : PStX X ea W (.If c x y pos) (cIfX cc ca cb) :=
  ps_w (ps_if hc ha hb) fun D σ H ⟨F0, G, F, ρ, vs, s, fl, s', m, hc, post⟩ => by
    unfold cIfX at hc
    split at hc
    · rename_i s1 h1
      refine ⟨F0, G, F, ρ, vs, s, true, s1, m, h1, fun F1 ρ1 vs1 H1 e1 p1 m1 => ?_⟩
      dsimp only
      rw [if_pos rfl]
      exact ⟨F0, G, F1, ρ1, vs1, s1, fl, s', m1, hc, post.mono e1 p1⟩
    · rename_i s1 h1
      refine ⟨F0, G, F, ρ, vs, s, false, s1, m, h1, fun F1 ρ1 vs1 H1 e1 p1 m1 => ?_⟩
      dsimp only
      rw [if_neg (by decide)]
      exact ⟨F0, G, F1, ρ1, vs1, s1, fl, s', m1, hc, post.mono e1 p1⟩
    · cases hc
/-! ### an expression that may raise, as a whole statement's -/
def cAsgX (i : Nat) (c : CX1) : CsX := fun s => match c s with
  | some (.ok d, s1) => some (.fl .next, { s1 with env := s1.env.set i d })
  | some (.exc e, s1) => some (.exc e, s1)
  | none => none
theorem px_as {i : Nat} {x : Str} {c : CX1} {pos' : Pos} (hN : X.N.Nodup) (hi : X.N[i]? = some x) (hx : Loc X.env.scope x) (he : PXe X ea W e c) (hs : swapsWith e (some (.Name x pos')) pos.line X.env = pure false := by rfl)
    (hf : X.fn x = true ∨ X.env.scope.names.lookup x = some .local := by first | exact .inl rfl | exact .inr rfl | assumption) : PStX X ea W (.Assign [.Name x pos'] e pos) (cAsgX i c) :=
  ps_w (ps_set hN hi hx he hs hf) fun D σ H ⟨F0, G, F, ρ, vs, s, fl, s', m, hc, post⟩ => by
    unfold cAsgX at hc
    split at hc
    · rename_i d s1 h1
      cases hc
      exact ⟨F0, G, F, ρ, vs, s, .ok d, s1, m, h1, fun F1 ρ1 vs1 v H1 e1 p1 m1 => post F1 ρ1 _ _ H1 e1 p1 (m1.store i)⟩
    · rename_i ex s1 h1
      cases hc
      exact ⟨F0, G, F, ρ, vs, s, .exc ex, _, m, h1, fun F' ρ' vs' d H' e' p' m' a => post F' ρ' vs' σ d H' e' p' m' a⟩
    · cases hc
def cDropX (c : CX1) : CsX := fun s => match c s with
  | some (.ok _, s1) => some (.fl .next, s1)
  | some (.exc e, s1) => some (.exc e, s1)
  | none => none
theorem px_drop {c : CX1} (he : PXe X ea W e c) (hs : swapsWith e none pos.line X.env = pure false := by rfl) : PStX X ea W (.Expr e pos) (cDropX c) := ps_w (ps_expr he hs) fun D σ H ⟨F0, G, F, ρ, vs, s, fl, s', m, hc, post⟩ => by
  unfold cDropX at hc
  split at hc
  · rename_i d s1 h1
    cases hc
    exact ⟨F0, G, F, ρ, vs, s, .ok d, _, m, h1, fun F1 ρ1 vs1 v H1 e1 p1 m1 => post F1 ρ1 vs1 σ H1 e1 p1 m1.tail⟩
  · rename_i ex s1 h1
    cases hc
    exact ⟨F0, G, F, ρ, vs, s, .exc ex, _, m, h1, fun F' ρ' vs' d H' e' p' m' a => post F' ρ' vs' σ d H' e' p' m' a⟩
  · cases hc
def cRetX (c : CX1) : CsX := fun s => match c s with
  | some (.ok d, s1) => some (.fl (.ret d), s1)
  | some (.exc e, s1) => some (.exc e, s1)
  | none => none
theorem px_ret {c : CX1} (he : PXe X ea W e c) : PStX X ea W (.Return (some e) pos) (cRetX c) := ps_w (ps_ret he) fun D σ H ⟨F0, G, F, ρ, vs, s, fl, s', m, hc, post⟩ => by
  unfold cRetX at hc
  split at hc
  · rename_i d s1 h1
    cases hc
    exact ⟨F0, G, F, ρ, vs, s, .ok d, _, m, h1, fun F1 ρ1 vs1 v H1 e1 p1 m1 => post F1 ρ1 v H1 e1 p1 m1.lm m1.fin⟩
  · rename_i ex s1 h1
    cases hc
    exact ⟨F0, G, F, ρ, vs, s, .exc ex, _, m, h1, fun F' ρ' vs' d H' e' p' m' a => post F' ρ' vs' σ d H' e' p' m' a⟩
  · cases hc
end
/-! ### defs that raise -/
def spX (K : PySem.W.Frag) (ea : Nat → Addr) (ar : Nat) (m : MFX) : Sp := fun vs H Q E => ∃ (F : Hp) (ρ : List Addr) (M ds : List D) (fp : List Addr) (r : Rs) (M' : List D), vs.length = ar ∧ Ex F H ∧ RepL K ρ F ds vs ∧ ρ.length = M.length ∧
  OwnR K ρ F H (M.zip (ρ.map V.ref)) fp ∧ fp.Nodup ∧ (∀ a ∈ fp, F a = none) ∧ m ds M = some (r, M') ∧
  match r with
  | .ok d => ∀ F' ρ' v H', Ex F F' → ρ <+: ρ' → ρ'.length = M'.length → Core K F (gap H fp) F' ρ' ((d, v) :: M'.zip (ρ'.map V.ref)) H' → Q v H'
  | .exc e => ∀ F' ρ' d H', Ex F F' → ρ <+: ρ' → ρ'.length = M'.length → Core K F (gap H fp) F' ρ' (M'.zip (ρ'.map V.ref)) H' → ExAt K ρ' F' e d → E (.ref (ea e.n)) d H'
def mOfX (n : Nat) (cb : CsX) : MFX := fun ds M => match cb ⟨ds ++ List.replicate (n - ds.length) .unb, M⟩ with
  | some (.fl (.ret d), s') => some (.ok d, s'.mem)
  | some (.fl .next, s') => some (.ok .non, s'.mem)
  | some (.exc e, s') => some (.exc e, s'.mem)
  | _ => none
/-- where it raises nothing -/
def okOf (m : MFX) : MF := fun ds M => match m ds M with
  | some (.ok d, M') => some (d, M')
  | _ => none
section
variable {P : Program} {w : World} {K : PySem.W.Frag} {mg : Str → Option Value} {base : Heap} {ea : Nat → Addr}
theorem Sim.finE {F0 G F H : Hp} {ρ : List Addr} {s : S} {σ : L2.St} {vs : List V} (m : Sim K F0 G F ρ [] s σ vs H) : Core K F0 G F ρ (s.mem.zip (ρ.map V.ref)) H := by
  have c : Core K F0 G F ρ (s.env.zip vs ++ s.mem.zip (ρ.map V.ref)) H := m.core
  exact Core.right (l := s.env.zip vs) c
theorem fn_x {x qual : Str} {st : Stmt} {f : Addr} {fd : FuncData} {N ps : List Str} {k : Nat} {cb : CsX} (Fn : Fun K x qual st f fd) (S : FnScope N ps (defScope st)) (hN : ps.length ≤ N.length)
    (hbody : ∀ (cdv : Value) (A : Around) (outer : List Env) (s : Shared) (H : Hp) (E : XK), Room k (A.deeper (envOfC qual (defScope st) s.heap.objs.size f cdv)) →
      PSlX (cxOf (L2.CX P w) P w K mg base N qual (defScope st) f cdv A outer s H E) ea (fun cls d _ H' => E cls d H') (defBody st) cb) : FnOk P w K mg base (L2.CX P w) (k + 1) f fd ps (spX K ea ps.length (mOfX N.length cb)) := by
  refine Fn.okX S (fun vs H Q E h => ?_) (fun cdv A outer s H vs Q E hr h => ⟨_, hbody cdv A outer s H E hr, ?_⟩)
  · obtain ⟨_, _, _, _, _, _, _, hl, _⟩ := h
    exact hl
  · obtain ⟨F, ρ, M, ds, fp, r0, M', hl, e, r, hρ, ow, nd, hf, hm, q⟩ := h
    have m := sim_start (N := N) e r hρ ow nd hf (by omega)
    unfold mOfX at hm
    split at hm
    · rename_i d' s' h1
      cases hm
      exact ⟨F, gap H fp, F, ρ, _, _, .fl (.ret d'), s', m, h1, fun F' ρ' v H' e' p' l' c' => q F' ρ' v H' e' p' l' c'⟩
    · rename_i s' h1
      cases hm
      exact ⟨F, gap H fp, F, ρ, _, _, .fl .next, s', m, h1, fun F' ρ' vs' σ' H' e' p' m' => q F' ρ' .non H' e' p' m'.lm (m'.push (by unfold Rep; rfl)).fin⟩
    · rename_i ex s' h1
      cases hm
      exact ⟨F, gap H fp, F, ρ, _, _, .exc ex, s', m, h1, fun F' ρ' vs' σ' d H' e' p' m' a => q F' ρ' d H' e' p' m'.lm m'.finE a⟩
    · cases hm
theorem calm_sp {ar : Nat} {m : MFX} {vs : List V} {H : Hp} {Q : VK} {E E' : XK} (h : spD K ar (okOf m) vs H Q E) : spX K ea ar m vs H Q E' := by
  obtain ⟨F, ρ, M, ds, fp, d, M', hl, e, r, hρ, ow, nd, hf, hm, q⟩ := h
  unfold okOf at hm
  split at hm
  · rename_i d' M1 h1
    cases hm
    exact ⟨F, ρ, M, ds, fp, .ok _, _, hl, e, r, hρ, ow, nd, hf, h1, q⟩
  · cases hm
/-- a def that raises, where it is known not to -/
theorem calm_of {k : Nat} {f : Addr} {fd : FuncData} {ps : List Str} {ar : Nat} {m : MFX} (F : FnOk P w K mg base (L2.CX P w) k f fd ps (spX K ea ar m)) : FnOk P w K mg base CX0 k f fd ps (spD K ar (okOf m)) :=
  ⟨fun vs H Q E h => F.len vs H Q E (calm_sp h), fun A outer s H args us vs Q E hr e0 b r h => codeAny_mono (F.run A outer s H args us vs Q (fun _ _ _ => False) hr e0 b r (calm_sp h)) fun r s' q => by
    cases r with
    | error e =>
      obtain ⟨_, _, _, _, _, _, _, _, _, _, _, _, z⟩ := (show L2.CX P w outer H s (fun _ _ _ => False) e s' from q)
      exact z.elim
    | ok fl => cases fl <;> exact q⟩
end
section
variable {X : Cx} {ea : Nat → Addr} {W : WX} {e : Expr} {es : List Expr} {pos p : Pos} {x : Str} {k : Nat} {f : Addr} {fd : FuncData} {ps : List Str} {ar : Nat} {m : MFX} {cs : S → Option (List D × S)}
theorem call_back {K : PySem.W.Frag} {F0 G F H : Hp} {ρ : List Addr} {s : S} {σ : L2.St} {vs : List V} (sm : Sim K F0 G F ρ [] s σ vs H) :
    ∃ f2, OwnR K ρ F H (s.mem.zip (ρ.map V.ref)) f2 ∧ f2.Nodup ∧ (∀ a ∈ f2, F a = none) ∧ ∀ F' ρ' (M' : List D) tmp H', Ex F F' → ρ <+: ρ' → ρ'.length = M'.length → Core K F (gap H f2) F' ρ' (tmp ++ M'.zip (ρ'.map V.ref)) H' → Sim K F0 G F' ρ' tmp { s with mem := M' } σ vs H' := by
  obtain ⟨fp, ow, nd, dj⟩ := sm.core.own
  have ow' : OwnR K ρ F H (s.env.zip vs ++ s.mem.zip (ρ.map V.ref)) fp := ow
  obtain ⟨f1, f2, rfl, o1, o2⟩ := ow'.split
  refine ⟨f2, o2, (List.nodup_append.mp nd).2.1, fun a ha => (dj a (List.mem_append_right _ ha)).1, fun F' ρ' M' tmp H' e p l c => ?_⟩
  have dis : ∀ a ∈ f1, a ∉ f2 := fun a h1 h2 => (List.nodup_append.mp nd).2.2 a h1 a h2 rfl
  have hs : ∀ a ∈ f1, H a ≠ none := ownR_some o1
  have hk : ∀ a ∈ f1, H' a = H a := fun a ha => by
    cases hh : H a with
    | none => exact absurd hh (hs a ha)
    | some u => exact c.g a u (by unfold gap; rw [if_neg (dis a ha)]; exact hh)
  have hG : ∀ a, gap H f2 a = none → G a = none := fun a ha => by
    unfold gap at ha
    split at ha
    · rename_i h2; exact (dj a (List.mem_append_right _ h2)).2
    · exact none_of_ex sm.core.g ha
  obtain ⟨fp', ow2, nd2, dj2⟩ := c.own
  refine ⟨⟨fun a u ha => ?_, c.f, sm.core.f0.tr e, fun a ha => ?_, ?_⟩, sm.lv, l, sm.ls, sm.sl⟩
  · refine c.g a u ?_
    unfold gap
    rw [if_neg (fun z => by rw [(dj a (List.mem_append_right _ z)).2] at ha; cases ha)]
    exact sm.core.g a u ha
  · rcases c.fg a ha with z | z
    · exact sm.core.fg a z
    · exact .inr (hG a z)
  · obtain ⟨g1, g2, rfl, q1, q2⟩ := ow2.split
    have oE : OwnR K ρ' F' H' (s.env.zip vs) f1 := o1.mono e p hk
    refine ⟨g1 ++ (f1 ++ g2), q1.app (oE.app q2), ?_, fun a ha => ?_⟩
    · have d1 : ∀ a ∈ f1, a ∉ g1 ++ g2 := fun a h1 h2 => by
        have := (dj2 a h2).2
        unfold gap at this
        rw [if_neg (dis a h1)] at this
        exact hs a h1 this
      have hp : (g1 ++ (f1 ++ g2)).Perm (f1 ++ (g1 ++ g2)) := by
        rw [← List.append_assoc, ← List.append_assoc]
        exact List.Perm.append_right _ List.perm_append_comm
      refine hp.nodup_iff.mpr (List.nodup_append.mpr ⟨(List.nodup_append.mp nd).1, nd2, fun a h1 b h2 z => ?_⟩)
      subst z
      exact d1 a h1 h2
    · have key : a ∈ f1 ∨ a ∈ g1 ++ g2 := by
        simp only [List.mem_append] at ha ⊢
        rcases ha with z | z | z
        · exact .inr (.inl z)
        · exact .inl z
        · exact .inr (.inr z)
      rcases key with h1 | h2
      · refine ⟨?_, (dj a (List.mem_append_left _ h1)).2⟩
        cases hf : F' a with
        | none => rfl
        | some u =>
          rcases c.fg a (by rw [hf]; simp) with z | z
          · exact absurd (dj a (List.mem_append_left _ h1)).1 z
          · unfold gap at z
            rw [if_neg (dis a h1)] at z
            exact absurd z (hs a h1)
      · exact ⟨(dj2 a h2).1, hG a (dj2 a h2).2⟩
def cCallX (m : MFX) (cs : S → Option (List D × S)) : CX1 := fun s => match cs s with
  | some (ds, s1) => (match m ds s1.mem with
    | some (r, M') => some (r, { s1 with mem := M' })
    | none => none)
  | none => none
theorem px_call (F : FnOk X.prog X.w X.K X.mg X.base (L2.CX X.prog X.w) k f fd ps (spX X.K ea ar m)) {j : Nat} (hr : Room j X.A) (hkj : k ≤ j) (hg : Gl X x) (hm : X.mg x = some (.ref f)) (hk : PySem.W.keepIn X.K (.ref f) = true) (hb : Binds X.K fd ps []) (tk : Takes X W)
    (ha : PAr X (e :: es) cs) (hl : ∀ ds s s', cs s = some (ds, s') → ds.length = ar) (hdb : (x == ("__debug__" : Str)) = false := by decide) (he : starEach (e :: es) X.env = (false, eval e X.env) :: starEach es X.env := by rfl) (hpl : (backTo pos (starEach es X.env)).any (·.1) = false := by rfl) :
    PXe X ea W (.Call (.Name x p) (e :: es) [] pos) (cCallX m cs) :=
  pe_w (pe_callS F (hr.mono hkj) hg hm hk hb (E := WE W) (fun σ => passAt tk σ) ha hdb he hpl) fun σ H Q ⟨F0, G, F, ρ, vs, s, r, s', sm, hc, post⟩ => by
    unfold cCallX at hc
    split at hc
    case h_2 => cases hc
    rename_i ds s1 h1
    split at hc
    case h_2 => cases hc
    rename_i r1 M' h2
    cases hc
    refine ⟨F0, G, F, ρ, vs, s, ds, s1, sm, h1, fun F1 ρ1 vs1 us H1 e1 p1 m1 r1 => ?_⟩
    obtain ⟨f2, o2, nd2, hf2, back⟩ := call_back m1
    refine ⟨F1, ρ1, s1.mem, ds, f2, r, M', by rw [← r1.len]; exact hl _ _ _ h1, m1.core.f, r1, m1.lm, o2, nd2, hf2, h2, ?_⟩
    cases r with
    | ok d => exact fun F' ρ' v H' e' p' l' c' => post F' ρ' vs1 v H' (e1.tr e') (p1.trans p') (back F' ρ' M' [(d, v)] H' e' p' l' c')
    | exc ex => exact fun F' ρ' d H' e' p' l' c' a => post F' ρ' vs1 d H' (e1.tr e') (p1.trans p') (back F' ρ' M' [] H' e' p' l' c') a
/-! ### try: body; except A: ..; except B: .. -/
/-- the clauses: the class's name, the suite -/
def hdl (sub : Nat → Nat → Bool) (n : Nat) : List (Nat × Cs) → Option Cs
  | [] => none
  | (h, c) :: r => if sub n h = true then some c else hdl sub n r
def cTry (ns : List Nat) (sub : Nat → Nat → Bool) (cb : CsX) (hs : List (Nat × Cs)) : Cs := fun s => match cb s with
  | some (.fl f, s1) => some (f, s1)
  | some (.exc e, s1) => if e.n ∈ ns then (match hdl sub e.n hs with
    | some c => c s1
    | none => none) else none
  | none => none

/-- what stands behind a clause's class: its name, the address, the suite -/
theorem try_w {K : PySem.W.Frag} {ns : List Nat} {sub : Nat → Nat → Bool} {D : Ends} {hs : List (Nat × Cs)} (hx : ∀ n ∈ ns, ∀ h ∈ hs.map (·.1), PySem.W.exmOne K (.ref (ea n)) (.ref (ea h)) = some (sub n h)) {n : Nat} (hn : n ∈ ns) {d : Option Addr} {σ : L2.St} {H : Hp} {c : Cs} :
    hdl sub n hs = some c → tS K c D σ H → wMany K (fun _ _ _ _ => False) D (hs.map fun q => (.ref (ea q.1), fun _ _ _ => tS K q.2)) (.ref (ea n)) d σ H := by
  induction hs with
  | nil => intro h _; cases h
  | cons q r ih =>
    intro h t
    unfold hdl at h
    refine ⟨sub n q.1, hx n hn q.1 (by simp), fun hb a _ => ?_, fun hb => ?_⟩
    · rw [if_pos hb] at h
      cases h
      exact t
    · rw [if_neg (by rw [hb]; decide)] at h
      exact ih (fun n hn h hh => hx n hn h (by simp at hh ⊢; exact .inr hh)) h t
theorem px_try {body : List Stmt} {h₀ : ExceptHandler} {hds : List ExceptHandler} {cb : CsX} {ns : List Nat} {sub : Nat → Nat → Bool} {hs : List (Nat × Cs)} (hst : X.stack = X.env :: X.outer) (hf : X.env.frame = some X.env.locals)
    (hx : ∀ n ∈ ns, ∀ h ∈ hs.map (·.1), PySem.W.exmOne X.K (.ref (ea n)) (.ref (ea h)) = some (sub n h))
    (hb : ∀ (W : WX) (pn : List (Addr × Obj)) (xe : Value → Shared → Prop), Takes (X.tr pn xe) W → PassesOwn (model X.prog X.w) X.A X.env xe → PSlX (X.tr pn xe) ea W body cb)
    (hh : HdsOk X (h₀ :: hds) (hs.map fun q => (.ref (ea q.1), fun _ _ _ => tS X.K q.2))) : PSt X (.Try body (h₀ :: hds) [] [] pos) (cTry ns sub cb hs) :=
  ps_w (ps_try_many hst hf L2.takes0 (tb := fun W => tSX X.K ea W cb) hb hh) fun D σ H ⟨F0, G, F, ρ, vs, s, fl, s', m, hc, post⟩ => by
    unfold cTry at hc
    split at hc
    · rename_i f s1 h1
      cases hc
      exact ⟨F0, G, F, ρ, vs, s, .fl _, _, m, h1, post⟩
    · rename_i e s1 h1
      split at hc
      case isFalse => cases hc
      rename_i hn
      split at hc
      case h_2 => cases hc
      rename_i c h2
      exact ⟨F0, G, F, ρ, vs, s, .exc e, s1, m, h1, fun F' ρ' vs' σ' d H' e' p' m' a => try_w hx hn h2 ⟨F0, G, F', ρ', vs', s1, fl, s', m', hc, post.mono e' p'⟩⟩
    · cases hc
/-- one clause -/
theorem hd_c {h : Str} {i : Nat} {c : Cs} {b₀ : Stmt} {suite : List Stmt} {np pos' : Pos} {hds : List ExceptHandler} {hs : List (Nat × Cs)} (hc : Names X h (.ref (ea i)))
    (hsu : ∀ (a : Addr) (oe : Obj) (pn : List (Addr × Obj)), PSl (X.suite a ((a, oe) :: pn)) (b₀ :: suite) c) (r : HdsOk X hds (hs.map fun q => (.ref (ea q.1), fun _ _ _ => tS X.K q.2))) :
    HdsOk X (.ExceptHandler (some (.Name h np)) none (b₀ :: suite) pos' :: hds) (((i, c) :: hs).map fun q => (.ref (ea q.1), fun _ _ _ => tS X.K q.2)) :=
  .cons hc (fun a oe cls d pn _ _ => hsu a oe pn) r
/-! ### raise C(), where C's __init__ does nothing -/
def cRaise0 (n : Nat) : CsX := fun s => some (.exc ⟨n, [], []⟩, s)
theorem mk_end0' {pins : List (Addr × Obj)} {σ : L2.St} {H1 H2 : Hp} {Q : XK} {hp hp2 h2 : Heap} {g1 g2 : Array GenState} {d1 d2 : Drawn} {t1 t2 : Nat} {os1 os2 : OsState} {a C : Addr} (T : Raises X (.ref C)) (I1 : Inv X pins σ H1 ⟨hp, g1, d1, t1, os1⟩)
    (ha : hp.objs.size ≤ a) (k : ∀ b o, hp.get? b = some o → hp2.get? b = some o) (un : Un (frs X.stack) [] (upd H1 a (exo a C none)) H2 hp2 h2) (hok : HOk X.prog X.w H2 h2) (ho : os2 = os1) (hb : AllBare g2)
    (ea : H2 a = some (exo a C none)) (q : Q (.ref C) none (del H2 a)) : MkP X pins σ Q (.ref a) ⟨h2, g2, d2, t2, os2⟩ := by
  obtain ⟨t0, hoe⟩ := exo_at hok ea
  have hn : H1 a = none := I1.hok.fresh ha
  obtain ⟨G, g1', g2'⟩ := restrict h2 fun b => decide (b ≠ a)
  have gk : ∀ b, b ≠ a → G.get? b = h2.get? b := fun b hb => g1' b (decide_eq_true hb)
  have ge : G.get? a = none := g2' a (by simp)
  have nha : ∀ {b : Addr} {o : Obj}, hp.get? b = some o → b ≠ a := fun {b o} z => Nat.ne_of_lt (Nat.lt_of_lt_of_le (Heap.lt_size z) ha)
  have up : ∀ {b : Addr}, b ≠ a → H1 b = none → upd H1 a (exo a C none) b = none := fun {b} hb n => by rw [upd_ne hb]; exact n
  have U : Un (frs X.stack) [] H1 (del H2 a) hp G := {
    keep := fun b o z n hf hx => by
      rw [gk b (nha z)]
      exact un.keep b o (k b o z) (up (nha z) n) hf hx
    slot := fun b o z n hf hx => by
      rw [gk b (nha z)]
      exact un.slot b o (k b o z) (up (nha z) n) hf hx
    free := fun b o z n hx => by
      rw [del_ne (nha z)]
      exact un.free b o (k b o z) (up (nha z) n) hx
    there := fun b o z hx => by
      rw [gk b (nha z)]
      exact un.there b o (k b o z) hx
    tups := fun b xs z => by
      rw [del_ne (ne_of_none z hn)]
      exact un.tups b xs (by rw [upd_ne (ne_of_none z hn)]; exact z)
    frzs := fun b o v z => by
      rw [del_ne (ne_of_none z hn)]
      exact un.frzs b o v (by rw [upd_ne (ne_of_none z hn)]; exact z)
    tbls := fun b ps z => by
      rw [del_ne (ne_of_none z hn)]
      exact un.tbls b ps (by rw [upd_ne (ne_of_none z hn)]; exact z) }
  have hok3 : HOk X.prog X.w (del H2 a) G := fun b o z => by
    have hba : b ≠ a := fun e => by
      rw [e, del_same] at z
      cases z
    rw [del_ne hba] at z
    have noa : ∀ {c : Addr}, H2 c = some (.own b) → c ≠ a := fun {c} hc => at_ne ea hc exo_own
    exact (hok b o z).stay (fun c v hc y => by
        have hca : c ≠ a := by
          rcases hc with hc | hc
          · rw [hc]
            exact hba
          · exact noa hc
        rw [gk c hca]
        exact y)
      (fun c hc => by rw [del_ne (noa hc)]; exact hc) (fun c xs hc => by rw [del_ne (at_ne ea hc exo_tup)]; exact hc)
  have J : Inv X pins σ (del H2 a) ⟨G, g2, d2, t2, os2⟩ := I1.call' (ch := []) ho U hok3 hb (fun b z => absurd z (by simp))
  exact ⟨a, _, _, ⟨G, g2, d2, t2, os2⟩, _, .ref C, none, rfl, J, fun b o z => by
    by_cases hba : b = a
    · rw [hba, ge] at z
      cases z
    · exact (gk b hba).symm.trans z, ge, hoe, ⟨rfl, rfl⟩, rfl, rfl, del_same, rfl, hb, T, q⟩

/-- what the __init__ of such a class keeps -/
def sp0 : Sp := fun vs H Q _ => ∃ a, vs = [.ref a] ∧ Q .non H
theorem init0 {P : Program} {w : World} {K : PySem.W.Frag} {mg : Str → Option Value} {base : Heap} {qual : Str} {st : Stmt} {f : Addr} {fd : FuncData} {pos : Pos} (Fn : Fun K "__init__" qual st f fd) (S : FnScope ["self"] ["self"] (defScope st)) (hb : defBody st = [.Pass pos]) :
    FnOk P w K mg base CX0 1 f fd ["self"] sp0 :=
  Fn.ok S (fun vs H Q E ⟨a, e, _⟩ => by rw [e]; rfl) fun cdv A outer s H vs Q E hr ⟨a, e, q⟩ => ⟨_, by rw [hb]; exact pss_one ps_pass, q⟩
structure Ex0 (P : Program) (w : World) (K : PySem.W.Frag) (mg : Str → Option Value) (base : Heap) (ea : Nat → Addr) (n : Str) (i : Nat) : Prop where
  gC : mg n = some (.ref (ea i))
  T : OexC K (ea i)
  h : ∃ fI fd, PySem.W.findIn K (.ref (ea i)) "__init__" = some (some (.ref fI)) ∧ PySem.W.typeIn K (.ref fI) = some (.type "function") ∧ FnOk P w K mg base CX0 1 fI fd ["self"] sp0 ∧ Binds K fd ["self"] []
theorem pmk_ex0 {n : Str} {i k : Nat} (Z : Ex0 X.prog X.w X.K X.mg X.base ea n i) (hr : Room k X.A) (hk : 2 ≤ k) (hg : Gl X n) (hdb : (n == ("__debug__" : Str)) = false := by decide) :
    PMk X (.Call (.Name n p) [] [] pos) (fun _ H Q => Q (.ref (ea i)) none H) := by
  obtain ⟨fI, fd, iC, tI, F1, hb⟩ := Z.h
  intro pins s σ H Q I h
  obtain ⟨nm, q, N, bs, bm, sn, sub, ab, col, dd, k0, k1, k2, k3, k5, hC, hbm⟩ := Z.T.cls
  refine wpAny_Call_Name_kw (ld_glob I hg Z.gC ?_ hdb)
  refine PySem.W.callWith_K0 I.kIn Z.T.kC ?_
  obtain ⟨hp, g, dr, tk, os⟩ := s
  have hsz : hp.objs.size ≤ hp.objs.size + 1 := Nat.le_succ _
  have hn : H (hp.objs.size + 1) = none := I.hok.fresh hsz
  have kk : ∀ b o, hp.get? b = some o → ((hp.push (PySem.W.kdv_tup [])).push (PySem.HandSPX.excO (ea i) hp.objs.size)).get? b = some o := fun b o e => Heap.get?_push_of_some _ (Heap.get?_push_of_some _ e)
  have hget : ((hp.push (PySem.W.kdv_tup [])).push (PySem.HandSPX.excO (ea i) hp.objs.size)).get? (hp.objs.size + 1) = some (PySem.HandSPX.excO (ea i) hp.objs.size) := by heap_get
  have I2 : Inv X pins σ (upd H (hp.objs.size + 1) (exo (hp.objs.size + 1) (ea i) none)) ⟨(hp.push (PySem.W.kdv_tup [])).push (PySem.HandSPX.excO (ea i) hp.objs.size), g, dr, tk, os⟩ :=
    I.laid (t' := tk) (a := hp.objs.size + 1) (o := exo (hp.objs.size + 1) (ea i) none) (h' := (hp.push (PySem.W.kdv_tup [])).push (PySem.HandSPX.excO (ea i) hp.objs.size)) kk hsz (exo_ok hget)
  have r2 : Vals [V.ref (hp.objs.size + 1)] [Value.ref (hp.objs.size + 1)] := .cons rfl .nil
  refine wpAny_call (PySem.HandSPX.call_own F.excBase_ValueError (fun Y => PySem.HandSPX.refsVE_contains Y bm hbm) (I.kIn _ _ hC) (PySem.W.looks_findIn I.kIn iC) (fun self => PySem.W.bind_fn I.kIn self tI) (Nat.zero_le _)
    (codeAny_mono (F1.run _ X.stack _ _ ⟨[Value.ref (hp.objs.size + 1)], []⟩ _ _ (fun v H2 => v = .non ∧ H2 = upd H (hp.objs.size + 1) (exo (hp.objs.size + 1) (ea i) none)) (fun _ _ _ => False) ((hr.mono hk).make (ea i) [] []) (I2.env0.make (ea i) [] []) (hb _ [Value.ref (hp.objs.size + 1)] I2.kIn rfl) r2 ⟨_, rfl, rfl, rfl⟩) fun r s' hq' => ?_))
  cases r with
  | error er => exact hq'.elim
  | ok fl =>
    cases fl with
    | ret u =>
      obtain ⟨v, H2, os2, bare2, un2, hok2, rv, ev, eH⟩ := hq'
      subst ev
      obtain ⟨h2, g2, d2, t2, os'⟩ := s'
      refine ⟨rv, mk_end0' (raises_own Z.T.exC Z.T.tyC) I hsz kk un2 hok2 os2 bare2 (by rw [eH, upd_same]) ?_⟩
      have : del H2 (hp.objs.size + 1) = H := by
        funext b
        by_cases hb : b = hp.objs.size + 1
        · subst hb
          rw [del_same, hn]
        · rw [del_ne hb, eH, upd_ne hb]
      rw [this]
      exact h
    | next => exact False.elim hq'
    | brk => exact False.elim hq'
    | cont => exact False.elim hq'
theorem px_raise0 {n : Str} {i k : Nat} {p1 : Pos} (hc : X.calm = true) (tk : Takes X W) (Z : Ex0 X.prog X.w X.K X.mg X.base ea n i) (hr : Room k X.A) (hk : 2 ≤ k) (hg : Gl X n) (hdb : (n == ("__debug__" : Str)) = false := by decide) :
    PStX X ea W (.Raise (some (.Call (.Name n p) [] [] p1)) none pos) (cRaise0 i) :=
  ps_w (ps_raise hc tk (pmk_ex0 Z hr hk hg hdb)) fun D σ H ⟨F0, G, F, ρ, vs, s, fl, s', m, hc, post⟩ => by
    cases hc
    exact post F ρ vs σ none H Ex.rfl' (List.prefix_refl _) m (.inl ⟨rfl, rfl, rfl⟩)
theorem exm_gen {K : PySem.W.Frag} {t S : Addr} {b : Bool} (h1 : PySem.W.subIn K (.ref S) (.type "BaseException") = some true) (h2 : PySem.W.isClsIn K S = true) (h3 : PySem.W.typeIn K (.ref S) = some (.type "type")) (h4 : PySem.W.subIn K (.ref t) (.ref S) = some b) :
    PySem.W.exmOne K (.ref t) (.ref S) = some b := by
  have e1 : (PySem.W.subIn K (.ref S) (.type "BaseException") == some true) = true := by rw [h1] <;> rfl
  have e2 : ((PySem.W.clsIn K S).isSome && PySem.W.typeIn K (.ref S) == some (.type "type")) = true := by
    have h2' : (PySem.W.clsIn K S).isSome = true := h2
    rw [h2', h3] <;> rfl
  show (if (PySem.W.subIn K (.ref S) (.type "BaseException") == some true) = true then (if ((PySem.W.clsIn K S).isSome && PySem.W.typeIn K (.ref S) == some (.type "type")) = true then PySem.W.subIn K (.ref t) (.ref S) else none) else none) = some b
  rw [if_pos e1, if_pos e2]
  exact h4
theorem hd_sub {a b : List Nat} (s : a ⊆ b) {h : Nat} (m : h ∈ a) : h ∈ b := s m
/-! ### short words -/
structure OkX (P : Program) (w : World) (K : PySem.W.Frag) (mg : Str → Option Value) (base : Heap) (ea : Nat → Addr) (lv : Nat) (x : Str) (ps : List Str) (m : MFX) : Prop where
  h : ∃ f fd, FnOk P w K mg base (L2.CX P w) lv f fd ps (spX K ea ps.length m) ∧ mg x = some (.ref f) ∧ PySem.W.keepIn K (.ref f) = true ∧ Binds K fd ps []
theorem OkX.calm {P : Program} {w : World} {K : PySem.W.Frag} {mg : Str → Option Value} {base : Heap} {lv : Nat} {x : Str} {ps : List Str} {m : MFX} (h : OkX P w K mg base ea lv x ps m) : Ok P w K mg base lv x ps (okOf m) := by
  obtain ⟨f, fd, F, r⟩ := h.h
  exact ⟨f, fd, calm_of F, r⟩
theorem kCallX {j : Nat} (h : OkX X.prog X.w X.K X.mg X.base ea k x ps m) (hr : Room j X.A) (hkj : k ≤ j) (hg : Gl X x) (tk : Takes X W) (ha : PAr X (e :: es) cs) (hl : ∀ ds s s', cs s = some (ds, s') → ds.length = ps.length)
    (hdb : (x == ("__debug__" : Str)) = false := by decide) (he : starEach (e :: es) X.env = (false, eval e X.env) :: starEach es X.env := by rfl) (hpl : (backTo pos (starEach es X.env)).any (·.1) = false := by rfl) :
    PXe X ea W (.Call (.Name x p) (e :: es) [] pos) (cCallX m cs) := by
  obtain ⟨f, fd, F, hm, hk, hb⟩ := h.h
  exact px_call F hr hkj hg hm hk hb tk ha hl hdb he hpl
end
/-! ### a quiet reading of what may raise: where it gives something, so does the other one -/
def LeS (c : Cs) (cx : CsX) : Prop := ∀ s fl s', c s = some (fl, s') → cx s = some (.fl fl, s')
def LeE (c : C) (cx : CX1) : Prop := ∀ s d s', c s = some (d, s') → cx s = some (.ok d, s')
def LeM (m : MF) (mx : MFX) : Prop := ∀ ds M d M', m ds M = some (d, M') → mx ds M = some (.ok d, M')
theorem le_up {c : Cs} : LeS c (cUp c) := fun s fl s' h => by unfold cUp; rw [h]; rfl
theorem le_never {cx : CsX} : LeS cNever cx := fun s fl s' h => by cases h
theorem le_seq {a b : Cs} {ax bx : CsX} (h1 : LeS a ax) (h2 : LeS b bx) : LeS (cSeq a b) (cSeqX ax bx) := fun s fl s' h => by
  unfold cSeq at h
  cases ha : a s with
  | none => rw [ha] at h; cases h
  | some q =>
    obtain ⟨f, s1⟩ := q
    have e := h1 _ _ _ ha
    rw [ha] at h
    show (match ax s with
      | some (.fl .next, s1) => bx s1
      | r => r) = _
    rw [e]
    cases f with
    | next => exact h2 _ _ _ h
    | brk => cases h; rfl
    | cnt => cases h; rfl
    | ret d => cases h; rfl
theorem le_if {c : CB} {a b : Cs} {ax bx : CsX} (h1 : LeS a ax) (h2 : LeS b bx) : LeS (cIfS c a b) (cIfX c ax bx) := fun s fl s' h => by
  unfold cIfS at h
  cases hc : c s with
  | none => rw [hc] at h; cases h
  | some q =>
    obtain ⟨f, s1⟩ := q
    rw [hc] at h
    show (match c s with
      | some (true, s1) => ax s1
      | some (false, s1) => bx s1
      | none => none) = _
    rw [hc]
    cases f with
    | true => exact h1 _ _ _ h
    | false => exact h2 _ _ _ h
theorem le_as {i : Nat} {c : C} {cx : CX1} (h1 : LeE c cx) : LeS (cAsg i c) (cAsgX i cx) := fun s fl s' h => by
  unfold cAsg at h
  unfold cAsgX
  split at h
  · rename_i d s1 e1
    cases h
    rw [h1 _ _ _ e1]
  · cases h
theorem le_drop {c : C} {cx : CX1} (h1 : LeE c cx) : LeS (cDrop c) (cDropX cx) := fun s fl s' h => by
  unfold cDrop at h
  unfold cDropX
  split at h
  · rename_i d s1 e1
    cases h
    rw [h1 _ _ _ e1]
  · cases h
theorem le_ret {c : C} {cx : CX1} (h1 : LeE c cx) : LeS (cRet c) (cRetX cx) := fun s fl s' h => by
  unfold cRet at h
  unfold cRetX
  split at h
  · rename_i d s1 e1
    cases h
    rw [h1 _ _ _ e1]
  · cases h
theorem le_call {m : MF} {mx : MFX} {cs : S → Option (List D × S)} (h1 : LeM m mx) : LeE (cCall m cs) (cCallX mx cs) := fun s d s' h => by
  unfold cCall at h
  cases hc : cs s with
  | none => rw [hc] at h; cases h
  | some q =>
    obtain ⟨ds, s1⟩ := q
    rw [hc] at h
    dsimp only at h
    cases hm : m ds s1.mem with
    | none => rw [hm] at h; cases h
    | some r =>
      obtain ⟨d1, M'⟩ := r
      rw [hm] at h
      cases h
      have e := h1 _ _ _ _ hm
      show (match cs s with
        | some (ds, s1) => (match mx ds s1.mem with
          | some (r, M') => some (r, ({ s1 with mem := M' } : S))
          | none => none)
        | none => none) = _
      rw [hc]
      dsimp only
      rw [e]
theorem le_m {n : Nat} {c : Cs} {cx : CsX} (h1 : LeS c cx) : LeM (mOf n c) (mOfX n cx) := fun ds M d M' h => by
  unfold mOf at h
  unfold mOfX
  split at h
  · rename_i d' s' e1
    cases h
    rw [h1 _ _ _ e1]
  · rename_i s' e1
    cases h
    rw [h1 _ _ _ e1]
  · cases h
theorem OkX.calmL {P : Program} {w : World} {K : PySem.W.Frag} {mg : Str → Option Value} {base : Heap} {ea : Nat → Addr} {lv : Nat} {x : Str} {ps : List Str} {m : MF} {mx : MFX} (h : OkX P w K mg base ea lv x ps mx) (l : LeM m mx) : Ok P w K mg base lv x ps m := by
  obtain ⟨f, fd, F, r⟩ := h.calm.h
  refine ⟨f, fd, F.imp fun vs H Q E q => ?_, r⟩
  obtain ⟨F0, ρ, M, ds, fp, d, M', hl, e, r, hρ, ow, nd, hf, hm, q⟩ := q
  exact ⟨F0, ρ, M, ds, fp, d, M', hl, e, r, hρ, ow, nd, hf, by unfold okOf; rw [l _ _ _ _ hm], q⟩
end Fr

set_option maxRecDepth 100000
namespace Fr
open PySem PySem.Spec PyProof.Rows _root_.L2 HT
section
variable {prog : PySem.Program} {w : World} {A : Around} {E : Value → Shared → Prop} {s : Shared}
theorem applied_rev {sl : Addr} {vs : Value} {n : Nat} {Q : Int × Int × Nat → Shared → Prop} (hs : s.heap.IsSliceOf sl .none .none vs) (ps : IsPart vs (some (-1)))
    (h : Q ((n : Int) - 1, -1, n) s) : wpAny (model prog w) A (Builtin.Slice.sliceApplied (.ref sl) (pure (n : Int))) Q E s := by
  obtain ⟨os, hos, hcs, hds⟩ := id hs
  unfold Builtin.Slice.sliceApplied Builtin.Slice.sliceFields
  refine wpAny_bind (wpAny_bind (wpAny_field hos hds (x := .none) rfl (wpAny_bind (wpAny_field hos hds (x := .none) rfl (wpAny_bind (wpAny_field hos hds (x := vs) rfl (wpAny_pure ?_)))))))
  refine wpAny_bind (slicePart_ ps ?_)
  show wpAny _ _ (if ((-1 : Int) == 0) = true then _ else _) _ _ s
  rw [if_neg (by decide)]
  refine wpAny_bind (slicePart_none (wpAny_bind (slicePart_none (wpAny_bind (wpAny_pure ?_)))))
  show wpAny _ _ (match Builtin.Slice.sliceAdjust none none (-1) (n : Int) with | (lo, hi) => pure (lo, (-1 : Int), Builtin.Slice.slicePlaces lo hi (-1))) _ _ s
  have e1 : Builtin.Slice.sliceAdjust none none (-1) (n : Int) = ((n : Int) - 1, -1) := rfl
  have e2 : Builtin.Slice.slicePlaces ((n : Int) - 1) (-1) (-1) = n := by
    unfold Builtin.Slice.slicePlaces
    have h1 : ¬ ((-1 : Int) > 0) := by omega
    simp only [h1, if_false]
    by_cases h2 : (n : Int) - 1 > -1
    · rw [if_pos h2, show (- -1 : Int) = 1 by decide, Int.ediv_one]
      omega
    · rw [if_neg h2]
      omega
  rw [e1]
  show wpAny _ _ (pure ((n : Int) - 1, (-1 : Int), Builtin.Slice.slicePlaces ((n : Int) - 1) (-1) (-1))) _ _ s
  rw [e2]
  exact wpAny_pure h
theorem pick_rev (xs : Array Value) : ((List.range xs.size).filterMap fun (m : Nat) => xs[(((xs.size : Int) - 1) + (m : Int) * -1).toNat]?).toArray = xs.toList.reverse.toArray := by
  congr 1
  have e : (fun (m : Nat) => xs[(((xs.size : Int) - 1) + (m : Int) * -1).toNat]?) = fun (m : Nat) => xs[(((xs.size : Int) - 1) - (m : Int)).toNat]? := by
    funext m
    congr 2
    omega
  rw [e]
  have h := PySem.W.krv_all xs
  rw [← h, ← List.filterMap_reverse, ← PySem.W.krv_range, List.filterMap_map]
  have key : ∀ l : List Nat, (∀ m ∈ l, m < xs.size) → l.filterMap (fun (m : Nat) => xs[(((xs.size : Int) - 1) - (m : Int)).toNat]?) = l.filterMap ((fun x => xs[x]?) ∘ fun k => xs.size - 1 - k) := by
    intro l
    induction l with
    | nil => intro _; rfl
    | cons m l ih =>
      intro hl
      have hm := hl m (List.mem_cons_self ..)
      have e : (((xs.size : Int) - 1) - (m : Int)).toNat = xs.size - 1 - m := by omega
      rw [List.filterMap_cons, List.filterMap_cons, ih fun m hm => hl m (List.mem_cons_of_mem _ hm)]
      rw [e]
      rfl
  exact key _ fun m hm => List.mem_range.mp hm
theorem getItem_tuple_rev {t sl : Addr} {items : Array Value} {vs : Value} {Q : Value → Shared → Prop} (ht : IsTup s.heap t items) (hs : s.heap.IsSliceOf sl .none .none vs) (ps : IsPart vs (some (-1)))
    (h : Q (.ref s.heap.objs.size) { s with heap := s.heap.push { cls := .type "tuple", data := .seq items.toList.reverse.toArray } })
    (hsz : items.size ≤ sizeLine) : wpAny (model prog w) A (getItem (.ref t) (.ref sl)) Q E s := by
  have htake : sizeOk (.seq items.toList.reverse.toArray) := by
    show items.toList.reverse.toArray.size ≤ sizeLine
    rw [List.size_toArray, List.length_reverse, Array.length_toList]
    omega
  obtain ⟨os, hos, hcs, hds⟩ := id hs
  have hTs : s.TypeIs (.ref sl) "slice" := ⟨os, hos, hcs⟩
  unfold getItem
  try with_reducible refine wpAny_holding ?_
  first | refine wpAny_bind (wpAny_pure ?_) | skip
  refine wpAny_bind (wpAny_sequenceKey ht.typeIs (by decide) ?_)
  refine wpAny_bind (wpAny_callSpecial?_slot (name := Str.ofString "__getitem__") ht.typeIs PyProof.Rows.slot_tuple_getitem
    (wpAny_call_entry PyProof.Rows.slot_tuple_getitem ht.typeIs entry_tuple_getitem ?_ (args_tuple_getitem _ _)))
  show wpAny _ _ (Builtin.Tuple.tupleItemsOf (.ref t) >>= _) _ _ s
  refine wpAny_bind (tupleItemsOf_ ht ?_)
  refine wpAny_bind (wpAny_typeOf hTs ?_)
  rw [if_pos (by decide)]
  refine wpAny_bind (applied_rev hs ps ?_)
  have hno : ¬ ((((items.size : Int) - 1) == 0 && (-1 : Int) == 1 && items.size == items.size) = true) := by
    intro q
    rw [Bool.and_eq_true, Bool.and_eq_true] at q
    exact absurd (eq_of_beq q.1.2) (by decide)
  show wpAny _ _ (if (((items.size : Int) - 1) == 0 && (-1 : Int) == 1 && items.size == items.size) = true then _ else _) _ _ s
  rw [if_neg hno, pick_rev]
  first
    | exact wpAny_bind (m := Builtin.Tuple.tupleExact _) (wpAny_newObj_type (wpAny_pure ⟨_, rfl, wpAny_pure h⟩) htake)
    | exact wpAny_bind (m := Builtin.Tuple.tupleExact _) (wpAny_newObj_type (wpAny_bind (wpAny_pure (wpAny_pure ⟨_, rfl, wpAny_pure h⟩))) htake)
    | exact wpAny_bind (wpAny_bind (m := Builtin.Tuple.tupleExact _) (wpAny_newObj_type (wpAny_pure (wpAny_pure ⟨_, rfl, wpAny_pure h⟩)) htake))
    | exact wpAny_bind (wpAny_bind (m := Builtin.Tuple.tupleExact _) (wpAny_newObj_type (wpAny_pure ⟨_, rfl, wpAny_pure h⟩) htake))
end
/-- xs[::-1] of a tuple -/
def tRevT (K : PySem.W.Frag) (te : TE) : TE := fun σ H Q => te σ H fun x H1 => ∃ a xs, x = .ref a ∧ SqT K H1 a xs ∧ ∀ p, H1 p = none → Q (.ref p) (upd H1 p (.tup xs.reverse))
section
variable {X : Cx}
theorem pe_revT {e : Expr} {te : TE} {k : Nat} {p1 p2 p3 pos : Pos} (he : PE X e te) : PE X (.Subscript e (.Slice none none (some (.UnaryOp .USub (.Constant (.int 1) k p1) p2)) p3) pos) (tRevT X.K te) := by
  refine ⟨fun pins s σ H Q I h => ?_⟩
  refine Subscript_ (thn (he.run pins s σ H _ I h) fun v s1 ⟨x, H1, I1, r1, q1⟩ => ?_)
  obtain ⟨a, xs, ex, hx, q⟩ := q1
  subst ex
  cases r1
  have hst : PO X (some (.UnaryOp .USub (.Constant (.int 1) k p1) p2)) (tPart (tUn (rU fun i => .int (-i)) (tC (.int 1)))) := po_some (pe_un un_neg pe_int)
  refine wpAny_Slice (thn (po_none.run pins s1 σ H1 (fun o H2 => o = none ∧ H2 = H1) I1 ⟨rfl, rfl⟩) fun vl s2 ⟨l, H2, I2, pl, el, e2⟩ => ?_)
  subst el e2
  refine thn (po_none.run pins s2 σ H2 (fun o H3 => o = none ∧ H3 = H2) I2 ⟨rfl, rfl⟩) fun vu s3 ⟨u, H3, I3, pu, eu, e3⟩ => ?_
  subst eu e3
  refine thn (hst.run pins s3 σ H3 (fun o H4 => o = some (-1) ∧ H4 = H3) I3 ⟨1, rfl, -1, rfl, rfl, rfl⟩) fun vs s4 ⟨o, H4, I4, ps, eo, e4⟩ => ?_
  subst eo e4
  cases pl
  cases pu
  have I5 : Inv X pins σ H4 { s4 with heap := s4.heap.push { cls := .type "slice", data := .fields #[.none, .none, vs] } } := I4.kept (t' := s4.toks) fun b ob q => Heap.get?_push_of_some _ q
  obtain ⟨its, r, ht, hz⟩ := I5.tuple hx
  have hlen := r.length
  show wpAny (model X.prog X.w) X.A (subscriptTail e (.Slice none none (some (.UnaryOp .USub (.Constant (.int 1) k p1) p2)) p3) (.ref a) (.ref s4.heap.objs.size)) (EP X pins σ Q) X.xe { s4 with heap := s4.heap.push { cls := .type "slice", data := .fields #[.none, .none, vs] } }
  refine tail_any (ops := [.ref a, .ref s4.heap.objs.size]) ht.typeIs (PyProof.Rows.slot_tuple_getitem.lookup) ?_ (by with_unfolding_all rfl)
  refine getItem_tuple_rev ht (Heap.IsSliceOf.new _ .none .none vs) ps ?_ (by rw [List.size_toArray]; omega)
  refine ⟨.ref _, _, I5.laid (t' := s4.toks) (o := .tup xs.reverse) (fun b ob q => Heap.get?_push_of_some _ q) (Nat.le_refl _) ?_, rfl, q _ (I5.hok.fresh (Nat.le_refl _))⟩
  exact ⟨by rw [List.length_reverse]; exact hz, _, r.reverse, ⟨_, Heap.get?_push_size _ rfl, rfl, by simp⟩⟩
def gRevT : D → Option D
  | .tup ds => some (.tup ds.reverse)
  | _ => none
theorem po_revT {e : Expr} {k : Nat} {p1 p2 p3 pos : Pos} {c : C} (h : PV X e c) : PO' X (.Subscript e (.Slice none none (some (.UnaryOp .USub (.Constant (.int 1) k p1) p2)) p3) pos) (cUn gRevT c) :=
  pe_w (pe_revT h) fun σ H Q ⟨F0, G, F, ρ, vs, s, d, s', m, hc, k⟩ => by
    obtain ⟨d1, h1, h2⟩ := cUn_inv hc
    refine ⟨F0, G, F, ρ, vs, s, d1, s', m, h1, fun F1 ρ1 vs1 v H1 e1 p1 m1 r1 => ?_⟩
    unfold gRevT at h2
    split at h2
    · cases h2
      obtain ⟨a, us, rfl, ha, ra⟩ := r1.tpS
      refine ⟨a, us, rfl, .of (m1.core.f _ _ ha), fun p hp => ?_⟩
      obtain ⟨c, e2⟩ := m1.core.newF (o := .tup us.reverse) hp
      refine k _ ρ1 vs1 _ _ (e1.tr e2) p1 (Sim.push (m1.core_of c) ?_)
      unfold Rep
      exact ⟨p, us.reverse, rfl, upd_same, RepL.mono e2 (List.prefix_refl _) _ _ ra.rev⟩
    · cases h2
/-- {'k': 'v'} -/
theorem po_disp1 {k v : Str} {j1 j2 : Nat} {p1 p2 pos : Pos} : PO' X (.Dict [some (.Constant (.str k) j1 p1)] [.Constant (.str v) j2 p2] pos) (cK (.odic [.inr k] [.str v])) :=
  pe_w (pe_disp (pps_cons pe_str pe_str pps_nil) rfl rfl (by intro z; cases z) (show 1 ≤ 15 by decide)) fun σ H Q ⟨F0, G, F, ρ, vs, s, d, s', m, hc, kk⟩ => by
    cases hc
    intro p hp
    show upd H p (.dK []) p = some (.dK []) ∧ _
    refine ⟨upd_same, [(.inr k, .str v)], rfl, show 1 ≤ 15 by decide, ?_⟩
    have eu : upd (upd H p (.dK [])) p (.dK (mergeK [] [(.inr k, .str v)])) = upd H p (.dK [(.inr k, .str v)]) := by
      funext b
      by_cases hb : b = p
      · subst hb
        rw [upd_same, upd_same]
        rfl
      · rw [upd_ne hb, upd_ne hb, upd_ne hb]
    rw [eu]
    refine kk F ρ vs (.ref p) _ Ex.rfl' (List.prefix_refl _) (m.core_of (tmp' := [(_, _)]) ?_)
    have c := m.core
    have hF := none_of_ex c.f hp
    have hG := none_of_ex c.g hp
    obtain ⟨fp, ow, nd, dj⟩ := c.own
    have np : ∀ a ∈ fp, a ≠ p := fun a ha z => ownR_some ow a ha (by rw [z]; exact hp)
    refine ⟨c.g.tr (ex_upd hp), c.f.tr (ex_upd hp), c.f0, c.fg, p :: fp, ?_, List.nodup_cons.mpr ⟨fun z => np p z rfl, nd⟩, fun a ha => ?_⟩
    · refine OwnR.cons (f1 := [p]) ?_ (ow.mono Ex.rfl' (List.prefix_refl _) (fun a ha => upd_ne (np a ha)))
      unfold Own
      refine ⟨p, _, [], rfl, upd_same, rfl, rfl, ?_⟩
      show OwnL _ _ _ _ [.str v] [.str v] []
      unfold OwnL
      refine ⟨_, _, [], [], rfl, rfl, ?_, ?_⟩
      · unfold Own; exact ⟨rfl, rfl⟩
      · unfold OwnL; exact ⟨rfl, rfl⟩
    · rcases List.mem_cons.mp ha with z | ha
      · rw [z]; exact ⟨hF, hG⟩
      · exact dj a ha
end
/-- a cell made of a comprehension whose own variable is the def's, too -/
theorem cell_ok {K : PySem.W.Frag} {i : Nat} {c : C} {DD : Ends} {σ : L2.St} {H : Hp} (h : tS K (cCell i c) DD σ H) : ∃ F0 G F ρ vs s d s', Sim K F0 G F ρ [] s σ vs H ∧ c s = some (d, s') ∧
    ∀ F' ρ' vs' v H', Ex F F' → ρ <+: ρ' → Sim K F0 G F' ρ' [(d, v)] s' σ vs' H' → DD.nx (σ.set i (some v)) H' := by
  obtain ⟨F0, G, F, ρ, vs, s, fl, s', m, hc, post⟩ := h
  unfold cCell at hc
  split at hc
  case h_2 => cases hc
  rename_i ds s1 h1
  cases hc
  refine ⟨F0, G, F, ρ, vs, s, .own ds, s1, m, h1, fun F1 ρ1 vs1 v H1 e1 p1 m1 => ?_⟩
  obtain ⟨aa, us, rfl, ha, hl⟩ := Core.headL m1.core
  have pp : ρ1 <+: ρ1 ++ [aa] := List.prefix_append _ _
  -- the list goes to the cells
  have c : Core K F0 G F1 (ρ1 ++ [aa]) ((.own ds, .ref aa) :: (s1.env.zip vs1 ++ s1.mem.zip (ρ1.map V.ref))) H1 := by
    have c0 : Core K F0 G F1 ρ1 ((.own ds, .ref aa) :: (s1.env.zip vs1 ++ s1.mem.zip (ρ1.map V.ref))) H1 := m1.core
    obtain ⟨fp, ow, nd, dj⟩ := c0.own
    exact ⟨c0.g, c0.f, c0.f0, c0.fg, fp, ow.mono Ex.rfl' pp (fun _ _ => rfl), nd, dj⟩
  have c2 : Core K F0 G F1 (ρ1 ++ [aa]) (s1.env.zip vs1 ++ (s1.mem ++ [D.own ds]).zip ((ρ1 ++ [aa]).map V.ref)) H1 := by
    refine c.perm ?_
    rw [List.map_append, List.zip_append (by rw [List.length_map, m1.lm]), ← List.append_assoc]
    show ((D.own ds, V.ref aa) :: (s1.env.zip vs1 ++ s1.mem.zip (ρ1.map V.ref))).Perm ((s1.env.zip vs1 ++ s1.mem.zip (ρ1.map V.ref)) ++ [(D.own ds, V.ref aa)])
    exact (List.perm_append_singleton _ _).symm
  have m2 : Sim K F0 G F1 (ρ1 ++ [aa]) [] ⟨s1.env, s1.mem ++ [D.own ds]⟩ σ vs1 H1 := ⟨c2, m1.lv, by simp [m1.lm], m1.ls, m1.sl⟩
  have r : Rep K (ρ1 ++ [aa]) F1 (.cell s1.mem.length) (.ref aa) := by
    unfold Rep
    exact ⟨aa, by rw [← m1.lm]; simp, rfl⟩
  exact post F1 (ρ1 ++ [aa]) _ _ H1 e1 (p1.trans pp) ((m2.push r).store i)

section
variable {X : Cx} {e tg : Expr} {es : List Expr} {pos : Pos}
variable {elt iter : Expr} {ifs : List Expr} {scope : Scope} {own : List (Str × Nat)} {it : S → Option (List D × S)} {js : List Nat} {tgd : D → S → Option S} {ct : CB} {ce : C}
theorem ps_cellLc {i : Nat} {y : Str} {py spos : Pos} (hc : X.calm = true) (hN : X.N.Nodup) (hy : X.N[i]? = some y) (hyl : X.env.scope.names.lookup y = some .local)
    (hsw : swapsWith (.ListComp elt [⟨tg, iter, ifs, 0⟩] scope pos) (some (.Name y py)) spos.line X.env = pure true) (hi : PId X tg iter it) (ok : BlkOk X.N X.env.scope scope own)
    (hg : ∀ (s : Shared) (H : Hp) (C : Addr) (cl : List (Str × Addr)) (fp : List Addr), PG (X.blk s H scope (compEnvC scope cl C X.env) fp) tg (tG X.K tgd js))
    (ht : ∀ (s : Shared) (H : Hp) (C : Addr) (cl : List (Str × Addr)) (fp : List Addr), PTd (X.blk s H scope (compEnvC scope cl C X.env) fp) ifs ct)
    (he : ∀ (s : Shared) (H : Hp) (C : Addr) (cl : List (Str × Addr)) (fp : List Addr), PO' (X.blk s H scope (compEnvC scope cl C X.env) fp) elt ce) (hj : ∀ j ∈ js, j ∈ own.map (·.2)) (hs : ∀ x, foldedSetIterable iter X.env x = pure x := by intro _; rfl) :
    PSt X (.Assign [.Name y py] (.ListComp elt [⟨tg, iter, ifs, 0⟩] scope pos) spos) (cCell i (cLc it (own.map (·.2)) tgd ct ce)) :=
  ps_w (ps_setLc hc hN hy hyl hsw hi ok hg ht he hs) fun D σ H h => tlc_ok hj (Q := fun x H1 => gName i x σ H1 D.nx) (cell_ok h)
end
end Fr

set_option maxRecDepth 100000
set_option maxHeartbeats 1000000
namespace Fr
open PySem PySem.Spec PyProof.Rows _root_.L2
/-! ### several clauses, some with a name -/
abbrev Cl := Value × Option Nat × (Addr → Value → Option Addr → TS)
/-- the name is gone behind the suite -/
def gone1 (oi : Option Nat) (σ : L2.St) : L2.St := match oi with
  | none => σ
  | some i => σ.set i none
def put1 (oi : Option Nat) (a : Addr) (σ : L2.St) : L2.St := match oi with
  | none => σ
  | some i => σ.set i (some (.ref a))
def cut1 (oi : Option Nat) (D : Ends) : Ends := { nx := fun σ H => D.nx (gone1 oi σ) H, rt := D.rt, bk := fun σ H => D.bk (gone1 oi σ) H, ct := fun σ H => D.ct (gone1 oi σ) H }
def wCl (K : PySem.W.Frag) (Wo : WX) (D : Ends) : List Cl → WX
  | [] => Wo
  | (c, oi, ts) :: r => fun cls d σ H => ∃ b, PySem.W.exmOne K cls c = some b ∧ (b = true → ∀ a, H a = none → ts a cls d (cut1 oi D) (put1 oi a σ) H) ∧ (b = false → wCl K Wo D r cls d σ H)
/-- what a clause's suite does -/
def Suite (X : Cx) (ss : List Stmt) (ts : Addr → Value → Option Addr → TS) : Prop :=
  ∀ (a : Addr) (oe : Obj) (cls : Value) (d : Option Addr) (pn : List (Addr × Obj)), Zc cls d oe → (∃ vs, oe.data = .fields vs) → PSs (X.suite a ((a, oe) :: pn)) ss (ts a cls d)
inductive Cls2 (X : Cx) : List ExceptHandler → List Cl → Prop
  | nil : Cls2 X [] []
  | one {x : Str} {c : Value} {ts : Addr → Value → Option Addr → TS} {b0 : Stmt} {su : List Stmt} {p q : Pos} {hs : List ExceptHandler} {l : List Cl} (hc : Names X x c) (hsu : Suite X (b0 :: su) ts) (r : Cls2 X hs l) :
      Cls2 X (.ExceptHandler (some (.Name x p)) none (b0 :: su) q :: hs) ((c, none, ts) :: l)
  | as {x n : Str} {i : Nat} {c : Value} {ts : Addr → Value → Option Addr → TS} {b0 : Stmt} {su : List Stmt} {p q : Pos} {hs : List ExceptHandler} {l : List Cl} (hi : X.N[i]? = some n) (hl : X.env.kindOf n = some .local) (hc : Names X x c) (hsu : Suite X (b0 :: su) ts) (r : Cls2 X hs l) :
      Cls2 X (.ExceptHandler (some (.Name x p)) (some n) (b0 :: su) q :: hs) ((c, some i, ts) :: l)
section
variable {X : Cx} {body : List Stmt} {g0 : ExceptHandler} {gs : List ExceptHandler} {l : List Cl} {pos : Pos} {tb : WX → TS} {Wo : WX}
/-- the caught one, looked at clause by clause -/
theorem by_clauses (hs : X.stack = X.env :: X.outer) (hf : X.env.frame = some X.env.locals) (hN : X.N.Nodup) (tk : Takes X Wo) (ok : X.Ok) {pins : List (Addr × Obj)} {D : Ends} {a : Addr} {B : Heap} {sI : Shared} {σ : L2.St} {H : Hp} {cls : Value} {d : Option Addr} {s : Shared} {h3 : Heap}
    (J : Inv X pins σ H sI) (nb : ∀ b o, sI.heap.get? b = some o → b ∉ frs X.stack → B.get? b = some o) (up : sI.heap.UpToSlots h3) (os : s.os = sI.os) (ag : AllBare s.gens) (na : H a = none) (fl : HandSPX.FlyingZ B (X.env :: X.outer) a (Zc cls d) h3) :
    ∀ {cs : List ExceptHandler} {k : List Cl}, Cls2 X cs k → wCl X.K Wo D k cls d σ H → wpAny (model X.prog X.w) X.A (handleBy (.ref a) X.env cs) (SP X pins D) X.xe { s with heap := h3 } := by
  have away : ∀ {h : Heap} {o : Obj} {vs : Array Value}, h.FunFrames B (X.env :: X.outer) → h.get? a = some o → o.data = .fields vs → a ≠ X.env.locals ∧ a ∉ X.fs := fun {h o vs} ff e dd => by
    have no : a ∉ frs (X.env :: X.outer) := fun hm => by
      obtain ⟨_, o2, e2, nf⟩ := ff.mem hm
      rw [e] at e2
      cases e2
      exact nf _ dd
    exact ⟨fun z => no (List.mem_filterMap.mpr ⟨X.env, List.mem_cons_self, by rw [hf, z]⟩), fun hm => by
      obtain ⟨en, he, q⟩ := List.mem_filterMap.mp hm
      exact no (List.mem_filterMap.mpr ⟨en, List.mem_cons_of_mem _ he, q⟩)⟩
  obtain ⟨oe3, vs3, he3, hz3, hd3⟩ := fl.there
  obtain ⟨nL, nF⟩ := away fl.2.2.1 he3 hd3
  have J3 : Inv X pins σ H { s with heap := h3 } := J.landed nb fl.1 up os ag
  have T3 := J3.suite he3 hd3 na nL nF
  have kind : PySem.W.Looks (model X.prog X.w) h3 (typeOf (.ref a)) cls := fun _ _ _ _ k q => wpAny_typeOf_ref (k _ _ he3) (by rw [hz3.1]; exact q)
  have asks : ∀ {x : Str} {c : Value} {p : Pos} {Q : Value → Shared → Prop} {E : Value → Shared → Prop}, Names X x c → Q c { s with heap := h3 } → wpAny (model X.prog X.w) (X.A.mark (some (.ref a))) (eval (.Name x p) X.env) Q E { s with heap := h3 } := fun {x c p Q E} hc q => by
    obtain ⟨hg, hdb, hm | ⟨hm, hv, hn⟩⟩ := hc
    · exact ld_glob (X := X.suite a ((a, oe3) :: (X.pn ++ pins))) T3 hg hm q hdb
    · exact ld_blt (X := X.suite a ((a, oe3) :: (X.pn ++ pins))) T3 hg hm hv q hn hdb
  intro cs k hk
  induction hk with
  | nil =>
    intro w
    refine wpAny_handleBy_nil ?_
    obtain ⟨k1, k2, k3, oe, vs, T, oT, ts', he, hz, hd, h1, hr⟩ := id fl
    unfold PySem.passOn
    refine wpAny_bind (wpAny_field he hd h1 ?_)
    rw [if_neg (show ¬ ((Value.ref T == Value.none) = true) from by simp)]
    have out : wpAny (model X.prog X.w) X.A (setFlight (.ref a) X.env.frame) (fun _ s4 => wpAny (model X.prog X.w) X.A (throw (.ref a) : Sem Flow) (SP X pins D) X.xe s4) X.xe { s with heap := h3 } := by
      rw [hf]
      exact HandSPX.setFlight_upZ fl fun h4 hh4 up4 => wpAny_throw (tk _ _ ⟨a, B, sI, pins, σ, H, cls, d, rfl, J, nb, up.trans up4, .inr (.inr (by rw [hs]; exact hh4)), na, os, ag, w⟩)
    first
      | exact wpAny_bind (wpAny_pure (wpAny_bind out))
      | exact wpAny_bind out
  | @one x c ts b0 su p q gs2 l2 hc hsu r ih =>
    intro w
    obtain ⟨b, hb, yes, no⟩ := w
    refine wpAny_handleBy_cons (codeAny_handlers_test (asks hc ((PySem.W.exm_one (M := model X.prog X.w) J3.kIn kind hb).here ?_))) (by intro q; cases q)
    cases b with
    | false => exact ih (no rfl)
    | true =>
      refine codeAny_handlers_suite (HandSPX.lands_againZ fl fun h4 fl4 up4 => ?_)
      have J4 : Inv X pins σ H { s with heap := h4 } := J.landed nb fl4.1 (up.trans up4) os ag
      obtain ⟨oe4, vs4, he4, hz4, hd4⟩ := fl4.there
      refine wpAny_mono ((hsu a oe4 cls d (X.pn ++ pins) hz4 ⟨_, hd4⟩).run [] _ _ H _ (J4.suite he4 hd4 na nL nF) (yes rfl a na)) (fun f s6 hsp => ?_) (fun _ _ z => False.elim z)
      cases f with
      | ret u =>
        obtain ⟨v6, σ6, H6, S6, r6, q6⟩ := hsp
        exact ⟨_, _, _, S6.unsuite ok, r6, q6⟩
      | next =>
        obtain ⟨σ6, H6, S6, q6⟩ := hsp
        exact ⟨_, _, S6.unsuite ok, q6⟩
      | brk =>
        obtain ⟨σ6, H6, S6, q6⟩ := hsp
        exact ⟨_, _, S6.unsuite ok, q6⟩
      | cont =>
        obtain ⟨σ6, H6, S6, q6⟩ := hsp
        exact ⟨_, _, S6.unsuite ok, q6⟩
  | @as x n i c ts b0 su p q gs2 l2 hi hl hc hsu r ih =>
    intro w
    obtain ⟨b, hb, yes, no⟩ := w
    refine wpAny_handleBy_cons (codeAny_handlers_test (asks hc ((PySem.W.exm_one (M := model X.prog X.w) J3.kIn kind hb).here ?_))) (by intro q; cases q)
    cases b with
    | false => exact ih (no rfl)
    | true =>
      refine codeAny_handlers_suite_as (HandSPX.lands_againZ fl fun h4 fl4 up4 => ?_)
      have J4 : Inv X pins σ H { s with heap := h4 } := J.landed nb fl4.1 (up.trans up4) os ag
      obtain ⟨oe4, vs4, he4, hz4, hd4⟩ := fl4.there
      refine store_ok (X := X.suite a ((a, oe4) :: (X.pn ++ pins))) (v := .ref a) (J4.suite he4 hd4 na nL nF) hN hi (.inl hl) rfl (fun s5 S5 => ?_) (.inr hl)
      refine wpAny_mono ((hsu a oe4 cls d (X.pn ++ pins) hz4 ⟨_, hd4⟩).run [] s5 _ H _ S5 (yes rfl a na)) (fun f s6 hsp => ?_) (fun _ _ z => False.elim z)
      have fin : ∀ {σ6 : L2.St} {H6 : Hp} {Q : Shared → Prop}, Inv (X.suite a ((a, oe4) :: (X.pn ++ pins))) [] σ6 H6 s6 → (∀ s7, Inv X pins (σ6.set i none) H6 s7 → Q s7) →
          wpAny (model X.prog X.w) X.A (do bindName X.env n .none; unbindBehindTheSuite X.env n q) (fun _ s7 => Q s7) X.xe s6 := fun {σ6 H6 Q} S6 hq => gone_ok (S6.unsuite ok) hN hi hl hq
      cases f with
      | ret u =>
        obtain ⟨v6, σ6, H6, S6, r6, q6⟩ := hsp
        exact fin S6 fun s7 J7 => ⟨_, _, _, J7, r6, q6⟩
      | next =>
        obtain ⟨σ6, H6, S6, q6⟩ := hsp
        exact fin S6 fun s7 J7 => ⟨_, _, J7, q6⟩
      | brk =>
        obtain ⟨σ6, H6, S6, q6⟩ := hsp
        exact fin S6 fun s7 J7 => ⟨_, _, J7, q6⟩
      | cont =>
        obtain ⟨σ6, H6, S6, q6⟩ := hsp
        exact fin S6 fun s7 J7 => ⟨_, _, J7, q6⟩
theorem try_clauses (hs : X.stack = X.env :: X.outer) (hf : X.env.frame = some X.env.locals) (hN : X.N.Nodup) (tk : Takes X Wo)
    (hb : ∀ (W : WX) (pn : List (Addr × Obj)) (xe : Value → Shared → Prop), Takes (X.tr pn xe) W → PassesOwn (model X.prog X.w) X.A X.env xe → PSs (X.tr pn xe) body (tb W))
    (hh : Cls2 X (g0 :: gs) l) : PS X (.Try body (g0 :: gs) [] [] pos) (fun D σ H => tb (wCl X.K Wo D l) D σ H) := by
  refine ⟨fun pins s σ H D I h => wpAny_Try_except ?_⟩
  have ok := I.ok
  have hfr : X.A.frames = some (X.env :: X.outer) := by rw [ok.frames, hs]
  refine wpAny_mono ((hb (wCl X.K Wo D l) (X.pn ++ pins) (fun e s₁ => wpAny (model X.prog X.w) X.A (noteFrame e X.env) (fun _ s₂ => wpAny (model X.prog X.w) X.A (setFlight e none) (fun _ s₃ =>
    wpAny (model X.prog X.w) X.A (handleBy e X.env (g0 :: gs)) (SP X pins D) X.xe s₃) X.xe s₂) X.xe s₁) (fun u s1 xx => ?_) PassesOwn.looking).run [] s σ H D (I.toTry _) h) (fun f s1 hsp => ?_) (fun e s1 he => he)
  · obtain ⟨a, B, sI, pins2, σ2, H2, cls, d, rfl, J2, nb, up, sky, na, os, ag, w⟩ := xx
    show wpAny (model X.prog X.w) X.A (noteFrame (.ref a) X.env) _ _ _
    exact Sky.land Zc.steady hfr hf (by rw [← hs]; exact sky) fun h3 fl3 up3 => by_clauses hs hf hN tk ok (J2.ofTry ok) nb (up.trans up3) os ag na fl3 hh w
  · cases f with
    | ret u =>
      obtain ⟨v, σ2, H2, J2, r, q⟩ := hsp
      exact ⟨v, σ2, H2, J2.ofTry ok, r, q⟩
    | next =>
      obtain ⟨σ2, H2, J2, q⟩ := hsp
      exact wpAny_execs_nil ⟨σ2, H2, J2.ofTry ok, q⟩
    | brk =>
      obtain ⟨σ2, H2, J2, q⟩ := hsp
      exact ⟨σ2, H2, J2.ofTry ok, q⟩
    | cont =>
      obtain ⟨σ2, H2, J2, q⟩ := hsp
      exact ⟨σ2, H2, J2.ofTry ok, q⟩
end
/-! ### the mirror of such a try -/
def hdlA (sub : Nat → Nat → Bool) (n : Nat) : List (Nat × Option Nat × Cs) → Option (Option Nat × Cs)
  | [] => none
  | (h, oi, c) :: r => if sub n h = true then some (oi, c) else hdlA sub n r
def cTryA (ns : List Nat) (sub : Nat → Nat → Bool) (cb : CsX) (hs : List (Nat × Option Nat × Cs)) : Cs := fun s => match cb s with
  | some (.fl f, s1) => some (f, s1)
  | some (.exc e, s1) => if e.n ∈ ns then (match hdlA sub e.n hs with
    | some (none, c) => c s1
    | some (some i, c) => (match s1.env[i]? with
      | some .unb => if e.fs = [] then c s1 else none
      | _ => none)
    | none => none) else none
  | none => none
/-- one clause: its class, its name's slot, its mirror, its reading -/
structure HC where
  h : Nat
  oi : Option Nat
  c : Cs
  ts : Addr → Value → Option Addr → TS
def HC.m (q : HC) : Nat × Option Nat × Cs := (q.h, q.oi, q.c)
def HC.cl (ea : Nat → Addr) (q : HC) : Cl := (.ref (ea q.h), q.oi, q.ts)
/-- the mirror is the reading's -/
def HC.Ok (K : PySem.W.Frag) (ea : Nat → Addr) (ns : List Nat) (q : HC) : Prop :=
  ∀ (a : Addr) (e : Exn) (d : Option Addr) (D : Ends) (F0 G F : Hp) (ρ : List Addr) (vs : List V) (s s' : S) (σ : L2.St) (H : Hp) (fl : Fl), e.n ∈ ns → Sim K F0 G F ρ [] s σ vs H → ExAt K ρ F e d → H a = none →
    (∀ i, q.oi = some i → s.env[i]? = some .unb ∧ e.fs = []) → q.c s = some (fl, s') → PostS K F0 G F ρ fl s' D → q.ts a (.ref (ea e.n)) d (cut1 q.oi D) (put1 q.oi a σ) H
theorem ok_plain {K : PySem.W.Frag} {ea : Nat → Addr} {ns : List Nat} {h : Nat} {c : Cs} : HC.Ok K ea ns ⟨h, none, c, fun _ _ _ => tS K c⟩ :=
  fun a e d D F0 G F ρ vs s s' σ H fl _ m _ _ _ hc post => ⟨F0, G, F, ρ, vs, s, fl, s', m, hc, post⟩
theorem ok_cons {K : PySem.W.Frag} {ea : Nat → Addr} {ns : List Nat} {q : HC} {L : List HC} (h : q.Ok K ea ns) (t : ∀ x ∈ L, HC.Ok K ea ns x) : ∀ x ∈ q :: L, HC.Ok K ea ns x := fun x hx => by
  rcases List.mem_cons.mp hx with e | e
  · rw [e]
    exact h
  · exact t x e
section
variable {X : Cx} {ea : Nat → Addr} {pos : Pos}
theorem tryA_w {K : PySem.W.Frag} {ns : List Nat} {sub : Nat → Nat → Bool} {D : Ends} {F0 G F : Hp} {ρ : List Addr} {vs : List V} {s s' : S} {σ : L2.St} {H : Hp} {fl : Fl} {e : Exn} {d : Option Addr} (hn : e.n ∈ ns) (m : Sim K F0 G F ρ [] s σ vs H) (x : ExAt K ρ F e d) (post : PostS K F0 G F ρ fl s' D) :
    ∀ {L : List HC} {oi : Option Nat} {c : Cs}, (∀ n ∈ ns, ∀ h ∈ L.map (·.h), PySem.W.exmOne K (.ref (ea n)) (.ref (ea h)) = some (sub n h)) → (∀ q ∈ L, q.Ok K ea ns) → hdlA sub e.n (L.map HC.m) = some (oi, c) → (∀ i, oi = some i → s.env[i]? = some .unb ∧ e.fs = []) → c s = some (fl, s') →
      wCl K (fun _ _ _ _ => False) D (L.map (HC.cl ea)) (.ref (ea e.n)) d σ H
  | [], oi, c, _, _, h, _, _ => by cases h
  | q :: L, oi, c, hx, ok, h, ho, hc => by
    have h' : (if sub e.n q.h = true then some (q.oi, q.c) else hdlA sub e.n (L.map HC.m)) = some (oi, c) := h
    refine ⟨sub e.n q.h, hx e.n hn q.h (by simp), fun hb a na => ?_, fun hb => ?_⟩
    · rw [if_pos hb] at h'
      cases h'
      exact ok q (List.mem_cons_self ..) a e d D F0 G F ρ vs s s' σ H fl hn m x na ho hc post
    · rw [if_neg (by rw [hb]; decide)] at h'
      exact tryA_w hn m x post (fun n hn h hh => hx n hn h (by simp at hh ⊢; exact .inr hh)) (fun q hq => ok q (List.mem_cons_of_mem _ hq)) h' ho hc
theorem px_tryA {body : List Stmt} {g0 : ExceptHandler} {gs : List ExceptHandler} {cb : CsX} {ns : List Nat} {sub : Nat → Nat → Bool} {hs : List (Nat × Option Nat × Cs)} (L : List HC) (hL : L.map HC.m = hs) (hst : X.stack = X.env :: X.outer) (hf : X.env.frame = some X.env.locals) (hN : X.N.Nodup)
    (hx : ∀ n ∈ ns, ∀ h ∈ L.map (·.h), PySem.W.exmOne X.K (.ref (ea n)) (.ref (ea h)) = some (sub n h)) (ok : ∀ q ∈ L, q.Ok X.K ea ns)
    (hb : ∀ (W : WX) (pn : List (Addr × Obj)) (xe : Value → Shared → Prop), Takes (X.tr pn xe) W → PassesOwn (model X.prog X.w) X.A X.env xe → PSlX (X.tr pn xe) ea W body cb)
    (hh : Cls2 X (g0 :: gs) (L.map (HC.cl ea))) : PSt X (.Try body (g0 :: gs) [] [] pos) (cTryA ns sub cb hs) :=
  ps_w (try_clauses hst hf hN L2.takes0 (tb := fun W => tSX X.K ea W cb) hb hh) fun D σ H ⟨F0, G, F, ρ, vs, s, fl, s', m, hc, post⟩ => by
    subst hL
    unfold cTryA at hc
    split at hc
    · rename_i f s1 h1
      cases hc
      exact ⟨F0, G, F, ρ, vs, s, .fl _, _, m, h1, post⟩
    · rename_i e s1 h1
      split at hc
      case isFalse => cases hc
      rename_i hn
      split at hc
      case h_3 => cases hc
      · rename_i c h2
        exact ⟨F0, G, F, ρ, vs, s, .exc e, s1, m, h1, fun F' ρ' vs' σ' d H' e' p' m' a => tryA_w hn m' a (post.mono e' p') hx ok h2 (fun i z => by cases z) hc⟩
      · rename_i i c h2
        split at hc
        case h_2 => cases hc
        rename_i h3
        split at hc
        case isFalse => cases hc
        rename_i h4
        exact ⟨F0, G, F, ρ, vs, s, .exc e, s1, m, h1, fun F' ρ' vs' σ' d H' e' p' m' a => tryA_w hn m' a (post.mono e' p') hx ok h2 (fun i z => by cases z; exact ⟨h3, h4⟩) hc⟩
    · cases hc
/-! ### told = isinstance(e, A) and isinstance(e, B) -/
theorem Sim.slot_unb {K : PySem.W.Frag} {F0 G F H : Hp} {ρ : List Addr} {tmp : List (D × V)} {s : S} {σ : L2.St} {vs : List V} {i : Nat} {x : Option V} (m : Sim K F0 G F ρ tmp s σ vs H) (h : s.env[i]? = some .unb) : Sim K F0 G F ρ tmp s (σ.set i x) vs H :=
  ⟨m.core, m.lv, m.lm, by rw [List.length_set]; exact m.ls, fun j d v h1 h2 h3 => by
    by_cases hj : i = j
    · subst hj
      rw [h] at h1
      cases h1
      exact absurd rfl h3
    · rw [List.getElem?_set_ne hj]
      exact m.sl j d v h1 h2 h3⟩
def tIs (ns : List Nat) (ea : Nat → Addr) (i j : Nat) : Addr → Value → Option Addr → TS := fun a cls d D σ H =>
  (∃ n ∈ ns, cls = .ref (ea n) ∧ d = none) ∧ σ[i]? = some (some (.ref a)) ∧ D.nx (σ.set j (some (.bl true))) H
theorem ok_is {K : PySem.W.Frag} {ns : List Nat} {h i j : Nat} (hij : i ≠ j) : HC.Ok K ea ns ⟨h, some i, cAsg j (cK (.bl true)), tIs ns ea i j⟩ :=
  fun a e d D F0 G F ρ vs s s' σ H fl hn m x na ho hc post => by
    obtain ⟨hu, hfs⟩ := ho i rfl
    have hi : i < σ.length := by rw [m.ls]; exact (List.getElem?_eq_some_iff.mp hu).1
    have hd : d = none := by
      rcases x with ⟨_, _, z⟩ | ⟨z, _⟩
      · exact z
      · exact absurd hfs z
    refine ⟨⟨e.n, hn, rfl, hd⟩, by show (σ.set i _)[i]? = _; rw [List.getElem?_set_self hi], ?_⟩
    cases hc
    show D.nx (((σ.set i (some (.ref a))).set j (some (.bl true))).set i none) H
    have m2 : Sim K F0 G F ρ [] { s with env := s.env.set j (.bl true) } (σ.set j (some (.bl true))) _ H := (m.push (rep_b true)).store j
    have hu2 : (s.env.set j (.bl true))[i]? = some .unb := by rw [List.getElem?_set_ne (Ne.symm hij)]; exact hu
    rw [List.set_comm _ _ (Ne.symm hij), List.set_set, List.set_comm _ _ hij]
    exact post F ρ _ _ H Ex.rfl' (List.prefix_refl _) (m2.slot_unb hu2)
theorem isE1 {a D : Addr} {oe : Obj} {pn : List (Addr × Obj)} {i : Nat} {n m : Str} {c : V} {cv : Value} {p p1 pm : Pos} (EC : ExcC X.K D) (hz : Zc (.ref D) none oe) (hf : ∃ vs, oe.data = .fields vs) (hi : X.N[i]? = some n) (hv : Vis X.env.scope n) (hg : Gl X "isinstance") (hm : X.mg "isinstance" = none)
    (hc : PE (X.suite a ((a, oe) :: pn)) (.Name m pm) (tC c)) (hcv : ∀ u, RelV c u → u = cv) (hk : PySem.W.kitOne X.K (.ref D) cv = some true) (hd : (n == ("__debug__" : Str)) = false := by decide) (hcd : (n == ("__classdict__" : Str)) = false := by decide)
    (he : starEach [.Name n p1, .Name m pm] X.env = (false, eval (.Name n p1) X.env) :: starEach [.Name m pm] X.env := by rfl) (he2 : starEach [.Name m pm] X.env = (false, eval (.Name m pm) X.env) :: starEach [] X.env := by rfl) (hpl : (backTo pos (starEach [.Name m pm] X.env)).any (·.1) = false := by rfl) :
    PE (X.suite a ((a, oe) :: pn)) (.Call (.Name "isinstance" p) [.Name n p1, .Name m pm] [] pos) (fun σ H Q => σ[i]? = some (some (.ref a)) ∧ Q (.bl true) H) :=
  pe_w (pe_callB (X := X.suite a ((a, oe) :: pn)) (call_isE EC hz hf) hg hm (by decide +kernel) (pa_cons (pe_var (X := X.suite a ((a, oe) :: pn)) hi hv hd hcd) (pa_cons hc pa_nil he2) he) (by decide) (by decide) he hpl) fun σ H Q ⟨h1, q⟩ => ⟨.ref a, h1, c, cv, true, rfl, hcv, hk, q⟩
theorem suite_is {ns : List Nat} {i j ia : Nat} {n y A B : Str} {T : String} {py pa pb c1 c2 c3 c4 d1 d2 d3 d4 : Pos} (hN : X.N.Nodup) (hi : X.N[i]? = some n) (hv : Vis X.env.scope n) (hj : X.N[j]? = some y) (hy : L2.Loc X.env.scope y) (hyf : X.fn y = true ∨ X.env.scope.names.lookup y = some .local)
    (hg : Gl X "isinstance") (hm : X.mg "isinstance" = none) (hA : Gl X A) (mA : X.mg A = some (.ref (ea ia))) (hB : Gl X B) (mB : X.mg B = none) (bB : bootBuiltins B = some (.type T))
    (EC : ∀ k ∈ ns, ExcC X.K (ea k) ∧ PySem.W.kitOne X.K (.ref (ea k)) (.ref (ea ia)) = some true ∧ PySem.W.kitOne X.K (.ref (ea k)) (.type T) = some true)
    (nB : B ≠ "__name__") (dA : (A == ("__debug__" : Str)) = false) (dB : (B == ("__debug__" : Str)) = false) (dn : (n == ("__debug__" : Str)) = false) (dc : (n == ("__classdict__" : Str)) = false)
    (hs : swapsWith (.BoolOp .And [.Call (.Name "isinstance" c1) [.Name n c2, .Name A c3] [] c4, .Call (.Name "isinstance" d1) [.Name n d2, .Name B d3] [] d4] pb) (some (.Name y py)) pa.line X.env = pure false)
    (e1 : starEach [.Name n c2, .Name A c3] X.env = (false, eval (.Name n c2) X.env) :: starEach [.Name A c3] X.env) (e2 : starEach [.Name A c3] X.env = (false, eval (.Name A c3) X.env) :: starEach [] X.env) (e3 : (backTo c4 (starEach [.Name A c3] X.env)).any (·.1) = false)
    (f1 : starEach [.Name n d2, .Name B d3] X.env = (false, eval (.Name n d2) X.env) :: starEach [.Name B d3] X.env) (f2 : starEach [.Name B d3] X.env = (false, eval (.Name B d3) X.env) :: starEach [] X.env) (f3 : (backTo d4 (starEach [.Name B d3] X.env)).any (·.1) = false) :
    Suite X [.Assign [.Name y py] (.BoolOp .And [.Call (.Name "isinstance" c1) [.Name n c2, .Name A c3] [] c4, .Call (.Name "isinstance" d1) [.Name n d2, .Name B d3] [] d4] pb) pa] (tIs ns ea i j) :=
  fun a oe cls d pn hz hf => ⟨fun pins s σ H D I ⟨⟨k, hk, q1, q2⟩, h1, q⟩ => by
    subst q1 q2
    obtain ⟨ec, kA, kB⟩ := EC k hk
    have a1 := isE1 (X := X) (pos := c4) (p := c1) (p1 := c2) (pm := c3) ec hz hf hi hv hg hm (pe_glob (X := X.suite a ((a, oe) :: pn)) (v := .ref (ea ia)) hA mA rfl dA) (fun u r => r) kA dn dc e1 e2 e3
    have a2 := isE1 (X := X) (pos := d4) (p := d1) (p1 := d2) (pm := d3) ec hz hf hi hv hg hm (pe_bltn (X := X.suite a ((a, oe) :: pn)) (v := .ty T) hB mB bB rfl nB dB) (fun u r => r) kB dn dc f1 f2 f3
    exact (pss_one (ps_set (X := X.suite a ((a, oe) :: pn)) hN hj hy (pe_and a1 (pe_one a2)) hs hyf)).run pins s σ H D I ⟨h1, true, rfl, by rw [if_pos rfl]; exact ⟨h1, q⟩⟩⟩
theorem kit_of {K : PySem.W.Frag} {t c : Value} (h : PySem.W.kitCls K t c = some true) : PySem.W.kitOne K t c = some true := by
  unfold PySem.W.kitOne
  split
  · rfl
  · exact h
theorem kit_own {K : PySem.W.Frag} {t : Value} {C : Addr} (h2 : PySem.W.isClsIn K C = true) (h3 : PySem.W.typeIn K (.ref C) = some (.type "type")) (h4 : PySem.W.subIn K t (.ref C) = some true) : PySem.W.kitOne K t (.ref C) = some true := by
  refine kit_of ?_
  have e2 : ((PySem.W.clsIn K C).isSome && PySem.W.typeIn K (.ref C) == some (.type "type")) = true := by
    have h2' : (PySem.W.clsIn K C).isSome = true := h2
    rw [h2', h3] <;> rfl
  show (if ((PySem.W.clsIn K C).isSome && PySem.W.typeIn K (.ref C) == some (.type "type")) = true then PySem.W.subIn K t (.ref C) else none) = some true
  rw [if_pos e2]
  exact h4
theorem kit_bt {K : PySem.W.Frag} {t : Value} {T : String} (h : PySem.W.kitMeta T = true) (h4 : PySem.W.subIn K t (.type T) = some true) : PySem.W.kitOne K t (.type T) = some true := by
  refine kit_of ?_
  show (if PySem.W.kitMeta T = true then PySem.W.subIn K t (.type T) else none) = some true
  rw [if_pos h]
  exact h4
end
/-! ### isinstance(x, (A, B)), built-in types -/
def tysOf : List D → Option (List String)
  | [] => some []
  | .ty n :: r => if n ∈ tyNs then (tysOf r).map fun l => n :: l else none
  | _ => none
def isOf (t : String) (ns : List String) : Bool := ns.any fun n => t == n || (t == "bool" && n == "int")
def gIsiT : List D → Option D
  | [x, .tup ts] => (tyD x).bind fun t => (tysOf ts).map fun ns => .bl (isOf t ns)
  | _ => none
theorem tys_all {K : PySem.W.Frag} {ρ : List Addr} {F : Hp} {t : String} (ht : t ∈ tyNs) : ∀ {ts : List D} {ns : List String} {vs : List V}, tysOf ts = some ns → RepL K ρ F ts vs →
    vs = ns.map V.ty ∧ PySem.W.kitAny K (.type t) (ns.map Value.type) = some (isOf t ns)
  | [], ns, vs, h, r => by
    cases h
    unfold RepL at r
    exact ⟨r, rfl⟩
  | d :: ts, ns, vs, h, r => by
    cases d with
    | ty n =>
      unfold tysOf at h
      split at h
      case isFalse => cases h
      rename_i hn
      cases h2 : tysOf ts with
      | none => rw [h2] at h; cases h
      | some l =>
        rw [h2] at h
        cases h
        unfold RepL at r
        obtain ⟨v, vs', rfl, r1, r2⟩ := r
        unfold Rep at r1
        subst r1
        obtain ⟨e1, e2⟩ := tys_all ht h2 r2
        refine ⟨by rw [e1]; rfl, ?_⟩
        have hk := kit_tab K t ht n hn
        refine kitAny_cons hk (fun hb => ?_) (fun hb => ?_)
        · show _ = some ((t == n || (t == "bool" && n == "int")) || isOf t l)
          rw [hb, Bool.false_or]
          exact e2
        · show ((t == n || (t == "bool" && n == "int")) || isOf t l) = true
          rw [hb]
          rfl
    | _ => cases h
theorem tys_cl : ∀ ns : List String, Paired ClsV (ns.map V.ty) (ns.map Value.type)
  | [] => .nil
  | n :: ns => .cons (.ty n) (tys_cl ns)
theorem l_isiT {K : PySem.W.Frag} : LCall K (rIsiT K) gIsiT := by
  intro F0 G F ρ rts H us ds d Q c r e k
  unfold gIsiT at e
  split at e
  case h_2 => cases e
  rename_i x ts
  cases h : tyD x with
  | none => rw [h] at e; cases e
  | some t =>
    rw [h] at e
    have e' : ((tysOf ts).map fun ns => D.bl (isOf t ns)) = some d := e
    cases h2 : tysOf ts with
    | none => rw [h2] at e'; cases e'
    | some ns =>
      rw [h2] at e'
      cases e'
      obtain ⟨v, w, rfl, rv, rw'⟩ := repl2 r
      obtain ⟨a, vs, rfl, ha, ra⟩ := rw'.tpS
      obtain ⟨e1, e2⟩ := tys_all (tyD_in h) h2 ra
      refine ⟨v, a, vs, .type t, ns.map Value.type, _, rfl, c.f _ _ ha, ?_, tyX_of c.f rv h, e2, k F _ H Ex.rfl' (c.push (rep_b _))⟩
      rw [e1]
      exact tys_cl ns
theorem kIsiT {X : Cx} {a b : Expr} {pos p : Pos} {ca cb : C} (hg : Gl X "isinstance") (hm : X.mg "isinstance" = none) (ha : PV X a ca) (hb : PV X b cb) (he : starEach [a, b] X.env = (false, eval a X.env) :: starEach [b] X.env := by rfl) (he2 : starEach [b] X.env = (false, eval b X.env) :: starEach [] X.env := by rfl)
    (hpl : (backTo pos (starEach [b] X.env)).any (·.1) = false := by rfl) :
    PO' X (.Call (.Name "isinstance" p) [a, b] [] pos) (cCB gIsiT (cCons ca (cCons cb cNil))) :=
  po_callB call_isiT l_isiT hg hm (by decide +kernel) (pa_c ha (pa_c hb pa_n he2) he) (by decide) (by decide) he hpl
end Fr

set_option maxRecDepth 100000
set_option maxHeartbeats 1000000
namespace Fr
open PySem PySem.Spec PyProof.Rows _root_.L2
/-! ### in a tuple of data -/
def rInT (K : PySem.W.Frag) (f : Bool → Bool) : R2 := fun x y H Q => ∃ d ds, Dp K H x d ∧ Dp K H y (.tuple ds) ∧ SeqAt.shaped d = true ∧ SeqAt.shaped (.tuple ds) = true ∧ Q (.bl (f (ds.any fun z => PyData.eqv z d))) H
theorem op_inT {X : Cx} (hu : X.A.units + 65 < cLine) : OpR X (compareOp .In) (rInT X.K id) := by
  intro pins s σ H x y v u Q I rx ry h
  obtain ⟨d, ds, hd, he, sd, se, q⟩ := h
  obtain ⟨as, r1⟩ := Dp.reads I d x v hd rx
  obtain ⟨bs, r2⟩ := Dp.reads I (.tuple ds) y u he ry
  exact SeqAt.in_tuple_reads r2 r1 (SeqAt.canLay_of_shaped se) (SeqAt.canLay_of_shaped sd) (room_in_shaped sd hu) ⟨.bl _, H, I, rfl, q⟩
theorem op_niT {X : Cx} (hu : X.A.units + 65 < cLine) : OpR X (compareOp .NotIn) (rInT X.K not) := by
  intro pins s σ H x y v u Q I rx ry h
  obtain ⟨d, ds, hd, he, sd, se, q⟩ := h
  obtain ⟨as, r1⟩ := Dp.reads I d x v hd rx
  obtain ⟨bs, r2⟩ := Dp.reads I (.tuple ds) y u he ry
  exact SeqAt.notIn_tuple_reads r2 r1 (SeqAt.canLay_of_shaped se) (SeqAt.canLay_of_shaped sd) (room_in_shaped sd hu) ⟨.bl _, H, I, rfl, q⟩
def gInT (f : Bool → Bool) (x y : D) : Option D := (shp x).bind fun p => (shp y).bind fun q => match q with
  | .tuple ds => some (.bl (f (ds.any fun z => PyData.eqv z p)))
  | _ => none
theorem gInT_inv {f : Bool → Bool} {x y d : D} (h : gInT f x y = some d) : ∃ p ds, shp x = some p ∧ shp y = some (.tuple ds) ∧ d = .bl (f (ds.any fun z => PyData.eqv z p)) := by
  unfold gInT at h
  cases h1 : shp x with
  | none => rw [h1] at h; cases h
  | some p =>
    cases h2 : shp y with
    | none => rw [h1, h2] at h; cases h
    | some q =>
      rw [h1, h2] at h
      cases q with
      | tuple ds =>
        cases h
        exact ⟨p, ds, rfl, rfl, rfl⟩
      | _ => cases h
theorem l_inT {K : PySem.W.Frag} {f : Bool → Bool} : LOp K (rInT K f) (gInT f) := by
  intro F0 G F ρ rts H x y dx dy d Q c rx ry e k
  obtain ⟨p, ds, h1, h2, rfl⟩ := gInT_inv e
  obtain ⟨a1, b1⟩ := shp_inv h1
  obtain ⟨a2, b2⟩ := shp_inv h2
  exact ⟨p, ds, rep_dp c.f _ _ _ rx a1, rep_dp c.f _ _ _ ry a2, b1, b2, k F _ H Ex.rfl' (c.push (rep_b _))⟩
def gInA (f : Bool → Bool) : D → D → Option D := fun x y => (gIn f x y).or (gInT f x y)
section
variable {X : Cx}
theorem po_inA {ca cb : C} (hu : X.A.units + 65 < cLine) (ha : PV X a ca) (hb : PV X b cb) (hm : behindInMarks .In b = false := by rfl) : PO' X (.Compare a [.In] [b] pos) (cBin (gInA id) ca cb) := po_cmp (((op_inD hu).or or_inS).or (op_inT hu)) ((l_inL.or l_inS).or l_inT) ha hb hm
theorem po_niA {ca cb : C} (hu : X.A.units + 65 < cLine) (ha : PV X a ca) (hb : PV X b cb) (hm : behindInMarks .NotIn b = false := by rfl) : PO' X (.Compare a [.NotIn] [b] pos) (cBin (gInA not) ca cb) := po_cmp (((op_notInD hu).or or_niS).or (op_niT hu)) ((l_niL.or l_inS).or l_inT) ha hb hm
theorem pb_inA {ca cb : C} (hu : X.A.units + 65 < cLine) (ha : PV X a ca) (hb : PV X b cb) (hm : behindInMarks .In b = false := by rfl) : PB X (.Compare a [.In] [b] pos) (cT (cBin (gInA id) ca cb)) := pb_cmp (((op_inD hu).or or_inS).or (op_inT hu)) ((l_inL.or l_inS).or l_inT) ha hb hm
theorem pb_niA {ca cb : C} (hu : X.A.units + 65 < cLine) (ha : PV X a ca) (hb : PV X b cb) (hm : behindInMarks .NotIn b = false := by rfl) : PB X (.Compare a [.NotIn] [b] pos) (cT (cBin (gInA not) ca cb)) := pb_cmp (((op_notInD hu).or or_niS).or (op_niT hu)) ((l_niL.or l_inS).or l_inT) ha hb hm
end
theorem gIn_lst_none {f : Bool → Bool} {x : D} {ds : List D} : gIn f x (.tup ds) = none := by
  have h1 : gInL f x (.tup ds) = none := by
    unfold gInL
    cases h : shp x with
    | none => rfl
    | some p =>
      cases h2 : shp (.tup ds) with
      | none => rfl
      | some q =>
        obtain ⟨a, _⟩ := shp_inv h2
        cases q with
        | list qs =>
          exfalso
          unfold toP at a
          revert a
          cases toPL ds with
          | none => intro a; cases a
          | some z => intro a; cases a
        | _ => rfl
  have h2 : gInS f x (.tup ds) = none := by unfold gInS; cases x <;> rfl
  unfold gIn
  rw [h1, h2]
  rfl
theorem Em.gInA_t {α : Type} [DecidableEq α] (e : Em α) (hk : e.k ≤ 63) (f : Bool → Bool) (a : α) (as : List α) : gInA f (e.d a) (.tup (as.map e.d)) = some (.bl (f (decide (a ∈ as)))) := by
  unfold gInA
  rw [gIn_lst_none]
  have h : gInT f (e.d a) (e.tup.d as) = some (.bl (f (decide (a ∈ as)))) := by
    unfold gInT
    rw [e.shp_d (by omega), (e.tup).shp_d (show e.k + 1 ≤ 64 by omega)]
    show some (D.bl (f ((as.map e.p).any fun z => PyData.eqv z (e.p a)))) = _
    congr 3
    rw [List.any_map]
    induction as with
    | nil => simp
    | cons b bs ih =>
      rw [List.any_cons, ih]
      show (PyData.eqv (e.p b) (e.p a) || decide (a ∈ bs)) = _
      rw [e.eq]
      by_cases h : b = a
      · subst h; simp
      · simp [h, Ne.symm h]
  exact h
end Fr

set_option maxRecDepth 100000
set_option maxHeartbeats 1000000
namespace Fr
open PySem PySem.Spec PyProof.Rows _root_.L2
/-! ### a, b = e -/
def cAsgG (tg : D → S → Option S) (c : C) : Cs := fun s => match c s with
  | some (d, s1) => (tg d s1).map fun s2 => (.next, s2)
  | none => none
section
variable {X : Cx} {e tg : Expr} {pos : Pos}
theorem ps_asgG {tgd : D → S → Option S} {js : List Nat} {c : C} (he : PV X e c) (hg : PG X tg (tG X.K tgd js)) (hs : swapsWithSole [tg] e pos.line X.env = pure false := by rfl) (hw : swappedStores [tg] e X.env = pure none := by rfl)
    (h1 : (assignEach [tg] X.env).map (·.2) = [assign tg X.env] := by rfl) : PSt X (.Assign [tg] e pos) (cAsgG tgd c) :=
  ps_w (ps_asg he hg hs hw h1) fun D σ H ⟨F0, G, F, ρ, vs, s, fl, s', m, hc, post⟩ => by
    unfold cAsgG at hc
    split at hc
    · rename_i d s1 h2
      cases h3 : tgd d s1 with
      | none => rw [h3] at hc; cases hc
      | some s2 =>
        rw [h3] at hc
        cases hc
        exact ⟨F0, G, F, ρ, vs, s, d, s1, m, h2, fun F1 ρ1 vs1 v H1 e1 p1 m1 r1 => ⟨F0, G, F1, ρ1, vs1, s1, d, s', m1, r1, h3, fun F2 vs2 σ2 H2 e2 m2 _ _ => post F2 ρ1 vs2 σ2 H2 (e1.tr e2) p1 m2⟩⟩
    · cases hc
end
theorem cAsgG_of {tg : D → S → Option S} {c : C} {s s1 s2 : S} {d : D} (h : c s = some (d, s1)) (h2 : tg d s1 = some s2) : cAsgG tg c s = some (.next, s2) := by unfold cAsgG; rw [h]; dsimp only; rw [h2]; rfl
end Fr

set_option maxRecDepth 100000
set_option maxHeartbeats 1000000
namespace Fr
open PySem PySem.Spec PyProof.Rows _root_.L2
/-! ### errors with one field: raise C(e), where C's __init__ is self.f = x -/
def spF (K : PySem.W.Frag) (fl : Str) : Sp := fun vs H Q _ => ∃ (a : Addr) (y : V) (C : Addr), vs = [.ref a, y] ∧ OexC K C ∧ PySem.W.findIn K (.ref C) fl = some none ∧ H a = some (exo a C none) ∧
  ∀ dx, H dx = none → dx ≠ a → Q .non (upd (upd H dx (exd dx [(fl, y)])) a (exo a C (some dx)))
theorem initF {P : Program} {w : World} {K : PySem.W.Frag} {mg : Str → Option Value} {base : Heap} {qual x fl : Str} {st : Stmt} {f : Addr} {fd : FuncData} {p1 p2 p3 pos : Pos} (Fn : Fun K "__init__" qual st f fd) (S : FnScope ["self", x] ["self", x] (defScope st))
    (hb : defBody st = [.Assign [.Attribute (.Name "self" p1) fl p2] (.Name x p3) pos]) (v0 : Vis (defScope st) "self") (v1 : Vis (defScope st) x) (hd : (x == ("__debug__" : Str)) = false) (hcd : (x == ("__classdict__" : Str)) = false) :
    FnOk P w K mg base CX0 1 f fd ["self", x] (spF K fl) :=
  Fn.ok S (fun vs H Q E ⟨a, y, C, e, _⟩ => by rw [e]; rfl) fun cdv A outer s H vs Q E hr ⟨a, y, C, e, T, hno, ha, q⟩ => ⟨_, by
    rw [hb]
    exact pss_one (ps_ost (pe_var (i := 0) rfl v0) (pe_var (i := 1) rfl v1 hd hcd)), by
    subst e
    exact ⟨y, rfl, .ref a, rfl, a, C, rfl, T, hno, .inl ⟨ha, q⟩⟩⟩
structure ExF (P : Program) (w : World) (K : PySem.W.Frag) (mg : Str → Option Value) (base : Heap) (ea : Nat → Addr) (n : Str) (i : Nat) (fl : Str) : Prop where
  gC : mg n = some (.ref (ea i))
  T : OexC K (ea i)
  no : PySem.W.findIn K (.ref (ea i)) fl = some none
  xf : XfC K (ea i)
  h : ∃ fI fd x, PySem.W.findIn K (.ref (ea i)) "__init__" = some (some (.ref fI)) ∧ PySem.W.typeIn K (.ref fI) = some (.type "function") ∧ FnOk P w K mg base CX0 1 fI fd ["self", x] (spF K fl) ∧ Binds K fd ["self", x] []
def cRaiseF (i : Nat) (fl : Str) (c : C) : CsX := fun s => match c s with
  | some (d, s1) => some (.exc ⟨i, [fl], [d]⟩, s1)
  | none => none
section
variable {X : Cx} {ea : Nat → Addr} {W : WX} {e : Expr} {pos p : Pos}
theorem xd_heap {H1 : Hp} {a dx C : Addr} {fl : Str} {y : V} (ha : H1 a = none) (hne : dx ≠ a) : upd (del (upd (upd (upd H1 a (exo a C none)) dx (exd dx [(fl, y)])) a (exo a C (some dx))) a) dx (.xd [(fl, y)]) = upd H1 dx (.xd [(fl, y)]) := by
  funext b
  by_cases h1 : b = dx
  · subst h1
    rw [upd_same, upd_same]
  · rw [upd_ne h1, upd_ne h1]
    by_cases h2 : b = a
    · subst h2
      rw [del_same, ha]
    · rw [del_ne h2, upd_ne h2, upd_ne h1, upd_ne h2]
theorem px_raiseF {n fl : Str} {i k : Nat} {p1 : Pos} {c : C} (hc : X.calm = true) (tk : Takes X W) (Z : ExF X.prog X.w X.K X.mg X.base ea n i fl) (hr : Room k X.A) (hk : 2 ≤ k) (hg : Gl X n) (he : PV X e c) (hdb : (n == ("__debug__" : Str)) = false := by decide)
    (hst : starEach [e] X.env = (false, eval e X.env) :: starEach [] X.env := by rfl) (hpl : (backTo p1 (starEach ([] : List Expr) X.env)).any (·.1) = false := by rfl) :
    PStX X ea W (.Raise (some (.Call (.Name n p) [e] [] p1)) none pos) (cRaiseF i fl c) := by
  obtain ⟨fI, fd, x, iC, tI, F1, hb⟩ := Z.h
  refine ps_w (ps_raise hc tk (pmk_oex (dvs := []) (ds := []) Z.T iC tI F1 (hr.mono hk) hb .nil pass0 hg Z.gC (pa_c he pa_n hst) hdb hst hpl)) fun D σ H ⟨F0, G, F, ρ, vs, s, fl', s', m, hcc, post⟩ => ?_
  unfold cRaiseF at hcc
  split at hcc
  case h_2 => cases hcc
  rename_i d s1 h1
  cases hcc
  refine ⟨F0, G, F, ρ, vs, s, [d], s', m, cCons_of h1 cNil_of, fun F1 ρ1 vs1 us H1 e1 p1 m1 r1 => ?_⟩
  have hus : ∃ y, us = [y] := by
    have := r1.len
    match us, this with
    | [y], _ => exact ⟨y, rfl⟩
  obtain ⟨y, rfl⟩ := hus
  refine ⟨by simp, fun a ha => ⟨a, y, ea i, rfl, Z.T, Z.no, upd_same, fun dx hn hne => ?_⟩⟩
  have hdx : H1 dx = none := by rw [upd_ne hne] at hn; exact hn
  refine ⟨rfl, dx, [(fl, y)], upd_same, by rw [upd_ne hne, upd_same], hdx, ?_⟩
  rw [xd_heap ha hne]
  obtain ⟨cN, eN⟩ := m1.core.newF (o := .xd [(fl, y)]) hdx
  refine post _ ρ1 _ σ (some dx) _ (e1.tr eN) p1 (m1.core_of (tmp' := []) cN) (.inr ⟨by simp, dx, [(fl, y)], rfl, upd_same, rfl, ?_⟩)
  exact RepL.mono eN (List.prefix_refl _) _ _ r1
end
/-! ### clauses that read what the error holds -/
def cNil' : Cs := fun _ => none
def hdlF (sub : Nat → Nat → Bool) (n : Nat) : List (Nat × Option Nat × (Exn → Cs)) → Option (Option Nat × (Exn → Cs))
  | [] => none
  | q :: r => if sub n q.1 = true then some q.2 else hdlF sub n r
def cTryF (ns : List Nat) (sub : Nat → Nat → Bool) (cb : CsX) (hs : List (Nat × Option Nat × (Exn → Cs))) : Cs := fun s => match cb s with
  | some (.fl f, s1) => some (f, s1)
  | some (.exc e, s1) => if e.n ∈ ns then (match hdlF sub e.n hs with
    | some (none, c) => c e s1
    | some (some i, c) => (match s1.env[i]? with
      | some .unb => c e s1
      | _ => none)
    | none => none) else none
  | none => none
structure HF where
  h : Nat
  oi : Option Nat
  c : Exn → Cs
  ts : Addr → Value → Option Addr → TS
def HF.m (q : HF) : Nat × Option Nat × (Exn → Cs) := (q.h, q.oi, q.c)
def HF.cl (ea : Nat → Addr) (q : HF) : Cl := (.ref (ea q.h), q.oi, q.ts)
def HF.Ok (K : PySem.W.Frag) (ea : Nat → Addr) (ns : List Nat) (q : HF) : Prop :=
  ∀ (a : Addr) (e : Exn) (d : Option Addr) (D : Ends) (F0 G F : Hp) (ρ : List Addr) (vs : List V) (s s' : S) (σ : L2.St) (H : Hp) (fl : Fl), e.n ∈ ns → Sim K F0 G F ρ [] s σ vs H → ExAt K ρ F e d → H a = none →
    (∀ i, q.oi = some i → s.env[i]? = some .unb) → q.c e s = some (fl, s') → PostS K F0 G F ρ fl s' D → q.ts a (.ref (ea e.n)) d (cut1 q.oi D) (put1 q.oi a σ) H
theorem okF_plain {K : PySem.W.Frag} {ea : Nat → Addr} {ns : List Nat} {h : Nat} {c : Cs} : HF.Ok K ea ns ⟨h, none, fun _ => c, fun _ _ _ => tS K c⟩ :=
  fun a e d D F0 G F ρ vs s s' σ H fl _ m _ _ _ hc post => ⟨F0, G, F, ρ, vs, s, fl, s', m, hc, post⟩
theorem okF_cons {K : PySem.W.Frag} {ea : Nat → Addr} {ns : List Nat} {q : HF} {L : List HF} (h : q.Ok K ea ns) (t : ∀ x ∈ L, HF.Ok K ea ns x) : ∀ x ∈ q :: L, HF.Ok K ea ns x := fun x hx => by
  rcases List.mem_cons.mp hx with e | e
  · rw [e]
    exact h
  · exact t x e
theorem okF_nil {K : PySem.W.Frag} {ea : Nat → Addr} {ns : List Nat} : ∀ x ∈ ([] : List HF), HF.Ok K ea ns x := fun x hx => by cases hx
section
variable {X : Cx} {ea : Nat → Addr} {pos : Pos}
theorem tryF_w {K : PySem.W.Frag} {ns : List Nat} {sub : Nat → Nat → Bool} {D : Ends} {F0 G F : Hp} {ρ : List Addr} {vs : List V} {s s' : S} {σ : L2.St} {H : Hp} {fl : Fl} {e : Exn} {d : Option Addr} (hn : e.n ∈ ns) (m : Sim K F0 G F ρ [] s σ vs H) (x : ExAt K ρ F e d) (post : PostS K F0 G F ρ fl s' D) :
    ∀ {L : List HF} {oi : Option Nat} {c : Exn → Cs}, (∀ n ∈ ns, ∀ h ∈ L.map (·.h), PySem.W.exmOne K (.ref (ea n)) (.ref (ea h)) = some (sub n h)) → (∀ q ∈ L, q.Ok K ea ns) → hdlF sub e.n (L.map HF.m) = some (oi, c) → (∀ i, oi = some i → s.env[i]? = some .unb) → c e s = some (fl, s') →
      (∀ a, H a = none → True) → wCl K (fun _ _ _ _ => False) D (L.map (HF.cl ea)) (.ref (ea e.n)) d σ H
  | [], oi, c, _, _, h, _, _, _ => by cases h
  | q :: L, oi, c, hx, ok, h, ho, hc, ht => by
    have h' : (if sub e.n q.h = true then some (q.oi, q.c) else hdlF sub e.n (L.map HF.m)) = some (oi, c) := h
    refine ⟨sub e.n q.h, hx e.n hn q.h (by simp), fun hb a na => ?_, fun hb => ?_⟩
    · rw [if_pos hb] at h'
      cases h'
      exact ok q (List.mem_cons_self ..) a e d D F0 G F ρ vs s s' σ H fl hn m x na ho hc post
    · rw [if_neg (by rw [hb]; decide)] at h'
      exact tryF_w hn m x post (fun n hn h hh => hx n hn h (by simp at hh ⊢; exact .inr hh)) (fun q hq => ok q (List.mem_cons_of_mem _ hq)) h' ho hc ht
theorem px_tryF {body : List Stmt} {g0 : ExceptHandler} {gs : List ExceptHandler} {cb : CsX} {ns : List Nat} {sub : Nat → Nat → Bool} {hs : List (Nat × Option Nat × (Exn → Cs))} (L : List HF) (hL : L.map HF.m = hs) (hst : X.stack = X.env :: X.outer) (hf : X.env.frame = some X.env.locals) (hN : X.N.Nodup)
    (hx : ∀ n ∈ ns, ∀ h ∈ L.map (·.h), PySem.W.exmOne X.K (.ref (ea n)) (.ref (ea h)) = some (sub n h)) (ok : ∀ q ∈ L, q.Ok X.K ea ns)
    (hb : ∀ (W : WX) (pn : List (Addr × Obj)) (xe : Value → Shared → Prop), Takes (X.tr pn xe) W → PassesOwn (model X.prog X.w) X.A X.env xe → PSlX (X.tr pn xe) ea W body cb)
    (hh : Cls2 X (g0 :: gs) (L.map (HF.cl ea))) : PSt X (.Try body (g0 :: gs) [] [] pos) (cTryF ns sub cb hs) :=
  ps_w (try_clauses hst hf hN L2.takes0 (tb := fun W => tSX X.K ea W cb) hb hh) fun D σ H ⟨F0, G, F, ρ, vs, s, fl, s', m, hc, post⟩ => by
    subst hL
    unfold cTryF at hc
    split at hc
    · rename_i f s1 h1
      cases hc
      exact ⟨F0, G, F, ρ, vs, s, .fl _, _, m, h1, post⟩
    · rename_i e s1 h1
      split at hc
      case isFalse => cases hc
      rename_i hn
      split at hc
      case h_3 => cases hc
      · rename_i c h2
        exact ⟨F0, G, F, ρ, vs, s, .exc e, s1, m, h1, fun F' ρ' vs' σ' d H' e' p' m' a => tryF_w hn m' a (post.mono e' p') hx ok h2 (fun i z => by cases z) hc fun _ _ => trivial⟩
      · rename_i i c h2
        split at hc
        case h_2 => cases hc
        rename_i h3
        exact ⟨F0, G, F, ρ, vs, s, .exc e, s1, m, h1, fun F' ρ' vs' σ' d H' e' p' m' a => tryF_w hn m' a (post.mono e' p') hx ok h2 (fun i z => by cases z; exact h3) hc fun _ _ => trivial⟩
    · cases hc
end
/-! ### told = e.f -/
def cD (d : D) : C := fun s => some (d, s)
def tFld (ea : Nat → Addr) (nE i j : Nat) (fl : Str) : Addr → Value → Option Addr → TS := fun a cls d D σ H =>
  cls = .ref (ea nE) ∧ ∃ (dd : Addr) (fs : List (Str × V)) (v : V), d = some dd ∧ H dd = some (.xd fs) ∧ fs.lookup fl = some v ∧ σ[i]? = some (some (.ref a)) ∧ D.nx (σ.set j (some v)) H
def cFldE (nE : Nat) (fl : Str) (j : Nat) : Exn → Cs := fun e s => if e.n = nE ∧ e.fs = [fl] then (match e.xs with
  | [x] => cAsg j (cD x) s
  | _ => none) else none
theorem okF_fld {K : PySem.W.Frag} {ea : Nat → Addr} {ns : List Nat} {h i j nE : Nat} {fl : Str} (hij : i ≠ j) : HF.Ok K ea ns ⟨h, some i, cFldE nE fl j, tFld ea nE i j fl⟩ :=
  fun a e d D F0 G F ρ vs s s' σ H fo hn m x na ho hc post => by
    have hu := ho i rfl
    have hi : i < σ.length := by rw [m.ls]; exact (List.getElem?_eq_some_iff.mp hu).1
    have hc' : cFldE nE fl j e s = some (fo, s') := hc
    unfold cFldE at hc'
    split at hc'
    case isFalse => cases hc'
    rename_i hc2
    obtain ⟨he1, he2⟩ := hc2
    split at hc'
    case h_2 => cases hc'
    rename_i x0 hxs
    rcases x with ⟨z, _⟩ | ⟨_, dd, kvs, rfl, hF, hk, hr⟩
    · rw [he2] at z
      cases z
    rw [hxs] at hr
    rw [he2] at hk
    obtain ⟨v, rfl⟩ : ∃ v, kvs = [(fl, v)] := by
      match kvs, hk with
      | [(f, v)], hk =>
        cases hk
        exact ⟨v, rfl⟩
    have hv : Rep K ρ F x0 v := by
      unfold RepL at hr
      obtain ⟨v', r, e1, e2, _⟩ := hr
      cases e1
      exact e2
    cases hc'
    refine ⟨by rw [he1], dd, [(fl, v)], v, rfl, m.core.f _ _ hF, by simp [List.lookup], by show (σ.set i _)[i]? = _; rw [List.getElem?_set_self hi], ?_⟩
    show D.nx (((σ.set i (some (.ref a))).set j (some v)).set i none) H
    have m2 : Sim K F0 G F ρ [] { s with env := s.env.set j x0 } (σ.set j (some v)) _ H := (m.push hv).store j
    have hu2 : (s.env.set j x0)[i]? = some .unb := by rw [List.getElem?_set_ne (Ne.symm hij)]; exact hu
    rw [List.set_comm _ _ (Ne.symm hij), List.set_set, List.set_comm _ _ hij]
    exact post F ρ _ _ H Ex.rfl' (List.prefix_refl _) (m2.slot_unb hu2)
theorem suite_fld {X : Cx} {ea : Nat → Addr} {nE i j : Nat} {n y fl : Str} {py pa c1 c2 : Pos} (hN : X.N.Nodup) (hi : X.N[i]? = some n) (hv : Vis X.env.scope n) (hj : X.N[j]? = some y) (hy : L2.Loc X.env.scope y) (hyf : X.fn y = true ∨ X.env.scope.names.lookup y = some .local)
    (T : XfC X.K (ea nE)) (no : PySem.W.findIn X.K (.ref (ea nE)) fl = some none) (dn : (n == ("__debug__" : Str)) = false) (dc : (n == ("__classdict__" : Str)) = false)
    (hb : attributeBase (.Name n c1) fl X.env (eval (.Name n c1) X.env) = eval (.Name n c1) X.env)
    (hs : swapsWith (.Attribute (.Name n c1) fl c2) (some (.Name y py)) pa.line X.env = pure false) :
    Suite X [.Assign [.Name y py] (.Attribute (.Name n c1) fl c2) pa] (tFld ea nE i j fl) :=
  fun a oe cls d pn hz hf => pss_w (pss_one (ps_set (X := X.suite a ((a, oe) :: pn)) hN hj hy (pe_xf (X := X) T no hz hf (pe_var (X := X.suite a ((a, oe) :: pn)) hi hv dn dc) hb) hs hyf)) fun D σ H ⟨hcl, dd, fs, v, h1, h2, h3, h4, q⟩ =>
    ⟨.ref a, h4, rfl, hcl, dd, fs, v, h1, h2, h3, q⟩
end Fr

set_option maxRecDepth 100000
set_option maxHeartbeats 1000000
namespace Fr
open PySem PySem.Spec PyProof.Rows _root_.L2
/-! ### C(args), where C's __init__ may raise -/
def tMkS (C0 : Addr) (sp : Sp) (Ex : L2.St → XK) (ta : TA) : TE := fun σ H Q => ta σ H fun ys Ha => ∀ o od, Ha o = none → Ha od = none → od ≠ o → sp (.ref o :: ys) (upd (upd Ha od (.own o)) o (.ins C0 od [])) (fun r Hb => r = .non ∧ Q (.ref o) Hb) (Ex σ)
section
variable {X : Cx} {CX : CXT} {j : Nat} {g C0 : Addr} {fdt : FuncData} {qs : List Str} {sp : Sp} {Ex : L2.St → XK} {nm : Str} {p pos : Pos} {e : Expr} {es : List Expr} {ta : TA}
theorem run_mkS {pn : List (Addr × Obj)} {σ : L2.St} {Ha : Hp} {sh : Shared} {Q : VK} {args : List Value} {ys : List V} (M : Mk X.K C0 g) (Fo : FnOk X.prog X.w X.K X.mg X.base CX j g fdt qs sp) (hr : Room (j + 1) X.A) (hb : Binds X.K fdt qs []) (pa : PassesAt CX X σ (Ex σ))
    (I : Inv X pn σ Ha sh) (rv : Vals ys args) (h : ∀ o od, Ha o = none → Ha od = none → od ≠ o → sp (.ref o :: ys) (upd (upd Ha od (.own o)) o (.ins C0 od [])) (fun r Hb => r = .non ∧ Q (.ref o) Hb) (Ex σ)) :
    wpAny (model X.prog X.w) X.A (call (.ref C0) args) (EP X pn σ Q) X.xe sh := by
  generalize hod : sh.heap.objs.size = od
  have q0 := h (od + 1) od (I.hok.fresh (by rw [hod]; exact Nat.le_succ _)) (I.hok.fresh (by rw [hod]; exact Nat.le_refl _)) (Nat.ne_of_lt (Nat.lt_succ_self _))
  have J := Inv.made (C := C0) I
  rw [hod] at J
  have rr : Vals (V.ref (od + 1) :: ys) (Value.ref (od + 1) :: args) := .cons rfl rv
  have ln : (Value.ref (od + 1) :: args).length = qs.length := rr.length.symm.trans (Fo.len _ _ _ _ q0)
  have bd := fun sz => hb sz (Value.ref (od + 1) :: args)
  refine wpAny_call (make_map (f := g) I.kIn M.makes M.init (beq_iff_eq.mp M.fn) ?_)
  rw [hod]
  refine codeAny_mono (Fo.run _ X.stack _ _ ⟨Value.ref (od + 1) :: args, []⟩ (Value.ref (od + 1) :: args) _ _ (Ex σ) (hr.make C0 args []) (J.env0.make C0 args []) ?_ rr q0) fun res sh' hq => ?_
  · have := bd _ J.kIn (by rw [List.append_nil]; exact ln)
    rw [List.append_nil] at this
    exact this
  · cases res with
    | error ev => exact pa pn _ _ ev sh' J hq
    | ok fo =>
      cases fo with
      | ret u0 =>
        obtain ⟨r, Hb, I3, re, ev, q3⟩ := J.after hq
        subst ev
        exact ⟨re, .ref (od + 1), Hb, I3, rfl, q3⟩
      | next => exact hq.elim
      | brk => exact hq.elim
      | cont => exact hq.elim
theorem pe_mkS (M : Mk X.K C0 g) (Fo : FnOk X.prog X.w X.K X.mg X.base CX j g fdt qs sp) (hr : Room (j + 1) X.A) (hg : Gl X nm) (hm : X.mg nm = some (.ref C0)) (hb : Binds X.K fdt qs []) (pa : ∀ σ, PassesAt CX X σ (Ex σ)) (ha : PA X (e :: es) ta)
    (hdb : (nm == ("__debug__" : Str)) = false := by decide) (he : starEach (e :: es) X.env = (false, eval e X.env) :: starEach es X.env := by rfl) (hpl : (backTo pos (starEach es X.env)).any (·.1) = false := by rfl) :
    PE X (.Call (.Name nm p) (e :: es) [] pos) (tMkS C0 sp Ex ta) :=
  ⟨fun pn sh σ Ha Q I h => wpAny_Call_Name_kw (ld_glob I hg hm (PySem.W.callWith_K (h₀ := X.base) I.ok.mod.kin M.kp (thn (ha.run pos pn sh σ Ha _ I h) fun args s1 ⟨ys, H1, I1, rv, q⟩ => ⟨I1.kIn, run_mkS M Fo hr hb (pa σ) I1 rv q⟩) he hpl) hdb)⟩
end
def cMakeX (C0 : Addr) (m : MFX) (cs : S → Option (List D × S)) : CX1 := fun s => match cs s with
  | some (as, s1) => (match m (.cell s1.mem.length :: as) (s1.mem ++ [.oins C0 [] []]) with
    | some (.ok .non, M') => (match M'[s1.mem.length]? with
      | some (.oins C fs xs) => some (.ok (.oins C fs xs), { s1 with mem := M'.set s1.mem.length .unb })
      | _ => none)
    | some (.exc e, M') => some (.exc e, { s1 with mem := M' })
    | _ => none)
  | none => none
section
variable {X : Cx} {ea : Nat → Addr} {W : WX} {e : Expr} {es : List Expr} {p pos : Pos}
theorem px_make {C0 f : Addr} {fd : FuncData} {ps : List Str} {k ar : Nat} {m : MFX} {x : Str} {cs : S → Option (List D × S)} (Mk' : Mk X.K C0 f) (Fo : FnOk X.prog X.w X.K X.mg X.base (L2.CX X.prog X.w) k f fd ps (spX X.K ea (ar + 1) m)) (hr : Room (k + 1) X.A) (hg : Gl X x) (hm : X.mg x = some (.ref C0))
    (hb : Binds X.K fd ps []) (tk : Takes X W) (ha : PAr X (e :: es) cs) (hl : ∀ ds s s', cs s = some (ds, s') → ds.length = ar)
    (hdb : (x == ("__debug__" : Str)) = false := by decide) (he : starEach (e :: es) X.env = (false, eval e X.env) :: starEach es X.env := by rfl) (hpl : (backTo pos (starEach es X.env)).any (·.1) = false := by rfl) :
    PXe X ea W (.Call (.Name x p) (e :: es) [] pos) (cMakeX C0 m cs) :=
  pe_w (pe_mkS Mk' Fo hr hg hm hb (Ex := WE W) (fun σ => passAt tk σ) ha hdb he hpl) fun σ H Q ⟨F0, G, F, ρ, vs, s, r, s', sm, hc, post⟩ => by
    unfold cMakeX at hc
    split at hc
    case h_2 => cases hc
    rename_i as s1 h1
    refine ⟨F0, G, F, ρ, vs, s, as, s1, sm, h1, fun F1 ρ1 vs1 us H1 e1 p1 m1 r1 => fun x dx hx' hdx hne => ?_⟩
    obtain ⟨c2, e2⟩ := m1.core.newF (o := .own x) hdx
    have hx2 : upd H1 dx (.own x) x = none := by rw [upd_ne hne.symm]; exact hx'
    have c3 := c2.newX (p := x) (o := .ins C0 dx []) (d := .oins C0 [] []) hx2 (by
      unfold Own
      exact ⟨x, dx, [], [], rfl, upd_same, rfl, rfl, by show OwnL _ _ _ _ [] [] []; unfold OwnL; exact ⟨rfl, rfl⟩⟩)
    have m3 : Sim X.K F0 G _ ρ1 [(.oins C0 [] [], .ref x)] s1 σ vs1 _ := m1.core_of (tmp' := [(_, _)]) c3
    have m4 := m3.toMem
    have pp : ρ1 <+: ρ1 ++ [x] := List.prefix_append _ _
    have r2 : RepL X.K (ρ1 ++ [x]) (upd F1 dx (.own x)) (.cell s1.mem.length :: as) (.ref x :: us) := by
      unfold RepL
      refine ⟨_, _, rfl, ?_, r1.mono e2 pp⟩
      unfold Rep
      exact ⟨x, by rw [← m1.lm]; simp, rfl⟩
    obtain ⟨f2, o2, nd2, hf2, back⟩ := call_back m4
    have hlen : (V.ref x :: us).length = ar + 1 := by rw [List.length_cons, ← r1.len, hl _ _ _ h1]
    split at hc
    · rename_i M' h2
      split at hc
      case h_2 => cases hc
      rename_i C fs xs h3
      cases hc
      refine ⟨_, _, _, _, f2, .ok .non, M', hlen, m4.core.f, r2, m4.lm, o2, nd2, hf2, h2, ?_⟩
      intro F5 ρ5 v H5 e5 p5 l5 c5
      have m5 := back F5 ρ5 M' [(.non, v)] H5 e5 p5 l5 c5
      have hv := m5.core.headRep rfl
      unfold Rep at hv
      refine ⟨hv, ?_⟩
      have hk : ρ5[s1.mem.length]? = some x := pre_get p5 (by rw [← m1.lm]; simp)
      have m7 := m5.tail.takeM (show ({ s1 with mem := M' } : S).mem[s1.mem.length]? = some (.oins C fs xs) from h3) hk
      exact post F5 ρ5 vs1 (.ref x) H5 (e1.tr (e2.tr e5)) (p1.trans (pp.trans p5)) m7
    · rename_i ex M' h2
      cases hc
      refine ⟨_, _, _, _, f2, .exc ex, M', hlen, m4.core.f, r2, m4.lm, o2, nd2, hf2, h2, ?_⟩
      intro F5 ρ5 d H5 e5 p5 l5 c5 a5
      exact post F5 ρ5 vs1 d H5 (e1.tr (e2.tr e5)) (p1.trans (pp.trans p5)) (back F5 ρ5 M' [] H5 e5 p5 l5 c5) a5
    · cases hc
end
end Fr

set_option maxRecDepth 100000
set_option maxHeartbeats 1000000
namespace Fr
open PySem PySem.Spec PyProof.Rows _root_.L2
structure OkMX (P : Program) (w : World) (K : PySem.W.Frag) (mg : Str → Option Value) (base : Heap) (ea : Nat → Addr) (lv : Nat) (x : Str) (C : Addr) (ps : List Str) (m : MFX) : Prop where
  h : ∃ f fd, Mk K C f ∧ FnOk P w K mg base (L2.CX P w) lv f fd ps (spX K ea ps.length m) ∧ mg x = some (.ref C) ∧ Binds K fd ps []
theorem OkMX.calmL {P : Program} {w : World} {K : PySem.W.Frag} {mg : Str → Option Value} {base : Heap} {ea : Nat → Addr} {lv : Nat} {x : Str} {C : Addr} {ps : List Str} {m : MF} {mx : MFX} (h : OkMX P w K mg base ea lv x C ps mx) (l : LeM m mx) : OkM P w K mg base lv x C ps m := by
  obtain ⟨f, fd, M, F, r⟩ := h.h
  refine ⟨f, fd, M, (calm_of F).imp fun vs H Q E q => ?_, r⟩
  obtain ⟨F0, ρ, M, ds, fp, d, M', hl, e, r, hρ, ow, nd, hf, hm, q⟩ := q
  exact ⟨F0, ρ, M, ds, fp, d, M', hl, e, r, hρ, ow, nd, hf, by unfold okOf; rw [l _ _ _ _ hm], q⟩
section
variable {X : Cx} {ea : Nat → Addr} {W : WX} {e : Expr} {es : List Expr} {pos p : Pos} {x : Str} {k j ar : Nat} {ps : List Str} {m : MFX} {cs : S → Option (List D × S)} {C0 : Addr}
theorem kMakeX (h : OkMX X.prog X.w X.K X.mg X.base ea k x C0 ps m) (hr : Room j X.A) (hkj : k + 1 ≤ j) (hg : Gl X x) (tk : Takes X W) (ha : PAr X (e :: es) cs) (hl : ∀ ds s s', cs s = some (ds, s') → ds.length = ar) (hp : ps.length = ar + 1)
    (hdb : (x == ("__debug__" : Str)) = false := by decide) (he : starEach (e :: es) X.env = (false, eval e X.env) :: starEach es X.env := by rfl) (hpl : (backTo pos (starEach es X.env)).any (·.1) = false := by rfl) :
    PXe X ea W (.Call (.Name x p) (e :: es) [] pos) (cMakeX C0 m cs) := by
  obtain ⟨f, fd, M, F, hm, hb⟩ := h.h
  rw [hp] at F
  exact px_make M F (hr.mono hkj) hg hm hb tk ha hl hdb he hpl
end
theorem le_make {C0 : Addr} {m : MF} {mx : MFX} {cs : S → Option (List D × S)} (h1 : LeM m mx) : LeE (cMake C0 m cs) (cMakeX C0 mx cs) := fun s d s' h => by
  unfold cMake at h
  split at h
  case h_2 => cases h
  rename_i as s1 e1
  split at h
  case h_2 => cases h
  rename_i M' e2
  split at h
  case h_2 => cases h
  rename_i C fs xs e3
  cases h
  unfold cMakeX
  rw [e1]
  dsimp only
  rw [h1 _ _ _ _ e2]
  dsimp only
  rw [e3]
/-! ### tuple * number -/
def gRepT : D → D → Option D
  | .tup xs, .int k => if 2 ≤ k ∧ k ≤ 1000 ∧ xs ≠ [] ∧ xs.length ≤ 1000 then some (.tup (List.replicate k.toNat xs).flatten) else none
  | _, _ => none
theorem l_repT {K : PySem.W.Frag} : LOp K (rRepT K) gRepT := by
  intro F0 G F ρ rts H x y dx dy d Q c rx ry e k
  unfold gRepT at e
  split at e
  · rename_i xs n
    split at e
    · rename_i hz
      cases e
      obtain ⟨a, us, ea, ha, ra⟩ := rx.tp
      subst ea
      refine ⟨a, n, us, rfl, ry.ofI, Ex.st c.f ha, fun z => ?_, hz.1, hz.2.1, by rw [← ra.len]; exact hz.2.2.2, fun p hp => ?_⟩
      · exact hz.2.2.1 (List.eq_nil_of_length_eq_zero (by rw [ra.len, z]; rfl))
      · obtain ⟨F', e', c'⟩ := c.newT (ra.rep _) hp
        exact k F' _ _ e' c'
    · cases e
  · cases e
def gMulA : D → D → Option D := fun x y => (gMul x y).or (gRepT x y)
section
variable {X : Cx} {a b : Expr} {pos : Pos} {ca cb : C}
theorem po_mulA (ha : PV X a ca) (hb : PV X b cb) : PO' X (.BinOp a .Mult b pos) (cBin gMulA ca cb) := po_bin ((op_mul.or op_rep).or op_repT) (l_mul.or l_repT) ha hb
end
end Fr

set_option maxRecDepth 100000
set_option maxHeartbeats 1000000
namespace Fr
open PySem PySem.Spec PyProof.Rows _root_.L2
/-! ### l.index(x), l a list of data -/
def gIdx (ds : List D) (y : D) : Option Nat := (shp y).bind fun p => (shp (.lst ds)).bind fun q => match q with
  | .list ps => ps.findIdx? fun z => PyData.eqv z p
  | _ => none
def cIdx (co ce : C) : C := fun s => match co s with
  | some (.lst ds, s1) => (match ce s1 with
    | some (y, s2) => (gIdx ds y).map fun j => (.int (j : Nat), s2)
    | none => none)
  | _ => none
theorem gIdx_inv {ds : List D} {y : D} {j : Nat} (h : gIdx ds y = some j) : ∃ p ps, shp y = some p ∧ shp (.lst ds) = some (.list ps) ∧ ∃ z, ps[j]? = some z ∧ PyData.eqv z p = true ∧ ∀ (m : Nat) (z' : PyData), m < j → ps[m]? = some z' → PyData.eqv z' p = false := by
  unfold gIdx at h
  cases h1 : shp y with
  | none => rw [h1] at h; cases h
  | some p =>
    cases h2 : shp (.lst ds) with
    | none => rw [h1, h2] at h; cases h
    | some q =>
      rw [h1, h2] at h
      cases q with
      | list ps =>
        have h' : (ps.findIdx? fun z => PyData.eqv z p) = some j := h
        obtain ⟨hl, hp, hn⟩ := List.findIdx?_eq_some_iff_getElem.mp h'
        refine ⟨p, ps, rfl, rfl, ps[j], List.getElem?_eq_getElem hl, hp, fun m z' hm hz => ?_⟩
        obtain ⟨hml, e⟩ := List.getElem?_eq_some_iff.mp hz
        have := hn m hm
        rw [e] at this
        simpa using this
      | _ => cases h
section
variable {X : Cx} {o e : Expr} {apos cpos : Pos} {co ce : C}
theorem po_index (hu : X.A.units + 65 < cLine) (ho : PV X o co) (he : PV X e ce)
    (hbase : attributeBase o "index" X.env (eval o X.env) = eval o X.env := by rfl)
    (hfew : ((backTo cpos (starEach [e] X.env)).all (fun x => !x.1) && (backToKw cpos (keywordEach [] X.env)).all (fun x => x.1.isSome)
      && decide ([e].length + ([] : List Keyword).length + (if ([] : List Keyword).isEmpty then 0 else 1) < 30)) = true := by rfl)
    (hline : (apos.endLine == cpos.line) = true := by rfl) (hs : starEach [e] X.env = (false, eval e X.env) :: starEach [] X.env := by rfl) (hplain : (backTo cpos (starEach ([] : List Expr) X.env)).any (·.1) = false := by rfl) :
    PO' X (.Call (.Attribute o "index" apos) [e] [] cpos) (cIdx co ce) :=
  pe_w (pe_bm PySem.F.plainAttrs_list PySem.F.slot_list_index PySem.F.type_list_index (mt_indexD hu) ho (pa_c he pa_n hs) hbase hfew hline hs hplain) fun σ H Q ⟨F0, G, F, ρ, vs, s, d, s', m, hc, k⟩ => by
    unfold cIdx at hc
    split at hc
    case h_2 => cases hc
    rename_i ds s1 h1
    split at hc
    case h_2 => cases hc
    rename_i y s2 h2
    cases h3 : gIdx ds y with
    | none => rw [h3] at hc; cases hc
    | some j =>
      rw [h3] at hc
      cases hc
      obtain ⟨p, ps, e1, e2, z, e3, e4, e5⟩ := gIdx_inv h3
      refine ⟨F0, G, F, ρ, vs, s, .lst ds, s1, m, h1, fun F1 ρ1 vs1 x H1 x1 p1 m1 r1 => ?_⟩
      obtain ⟨a, us, rfl, ha, ra⟩ := r1.ls
      refine ⟨.inl ⟨rfl, us, .of (m1.core.f _ _ ha)⟩, F0, G, F1, ρ1, vs1, s1, [y], s', m1, cCons_of h2 cNil_of, fun F2 ρ2 vs2 xs H2 x2 p2 m2 r2 => ?_⟩
      have hxs : ∃ v, xs = [v] := by
        have := r2.len
        match xs, this with
        | [v], _ => exact ⟨v, rfl⟩
      obtain ⟨v, rfl⟩ := hxs
      have rv : Rep X.K ρ2 F2 y v := by
        unfold RepL at r2
        obtain ⟨v', r, q1, q2, _⟩ := r2
        cases q1
        exact q2
      obtain ⟨a1, b1⟩ := shp_inv e1
      obtain ⟨a2, b2⟩ := shp_inv e2
      exact ⟨a, v, p, ps, j, z, rfl, rfl, rep_dp m2.core.f _ _ _ (Rep.mono x2 p2 _ _ r1) a2, rep_dp m2.core.f _ _ _ rv a1, b2, b1, e3, e4, e5, k F2 ρ2 vs2 _ H2 (x1.tr x2) (p1.trans p2) (m2.push (rep_i _))⟩
end
end Fr

set_option maxRecDepth 100000
set_option maxHeartbeats 1000000
namespace Fr
open PySem PySem.Spec PyProof.Rows _root_.L2
/-! ### isinstance(x, C), C a class of the text -/
structure ClsI (K : PySem.W.Frag) (C : Addr) : Prop where
  cl : Cls K C
  ha : PySem.W.findIn K (.ref C) "__class__" = some (some (.builtin "object.__class__"))
  hn : PySem.W.specialIn K (.builtin "object.__class__") "__get__" = some (some (.builtin "getset_descriptor.__get__"))
  ht : PySem.W.takesIn K (.builtin "object.__class__") = some true
  hm : PySem.W.mroIn K C (.type "object") = some true
  own : PySem.W.kitOne K (.ref C) (.ref C) = some true
  oth : ∀ t ∈ tyNs, PySem.W.kitOne K (.type t) (.ref C) = some false
theorem kit_not {K : PySem.W.Frag} {t : Value} {C : Addr} (hne : t ≠ .ref C) (h2 : PySem.W.isClsIn K C = true) (h3 : PySem.W.typeIn K (.ref C) = some (.type "type")) (h4 : PySem.W.subIn K t (.ref C) = some false) : PySem.W.kitOne K t (.ref C) = some false := by
  unfold PySem.W.kitOne
  rw [if_neg (by simpa using hne)]
  unfold PySem.W.kitCls
  have h2' : (PySem.W.clsIn K C).isSome = true := h2
  simp [h2', h3, h4]
def cIsC (C0 : Addr) (ca : C) : C := fun s => match ca s with
  | some (.ins C1 fs xs, s1) => if C1 = C0 then some (.bl true, s1) else none
  | some (d, s1) => (tyD d).map fun _ => (.bl false, s1)
  | none => none
section
variable {X : Cx} {a : Expr} {pos p pc : Pos} {ca : C}
theorem po_isC {n : Str} {C0 : Addr} (Z : ClsI X.K C0) (hg : Gl X "isinstance") (hm : X.mg "isinstance" = none) (hC : Gl X n) (mC : X.mg n = some (.ref C0)) (ha : PV X a ca) (dn : (n == ("__debug__" : Str)) = false := by decide)
    (he : starEach [a, .Name n pc] X.env = (false, eval a X.env) :: starEach [.Name n pc] X.env := by rfl) (he2 : starEach [.Name n pc] X.env = (false, eval (.Name n pc) X.env) :: starEach [] X.env := by rfl) (hpl : (backTo pos (starEach [.Name n pc] X.env)).any (·.1) = false := by rfl) :
    PO' X (.Call (.Name "isinstance" p) [a, .Name n pc] [] pos) (cIsC C0 ca) :=
  pe_w (pe_callB (X := X) call_isi hg hm (by decide +kernel) (pa_cons ha (pa_cons (pe_glob (v := .ref C0) hC mC rfl dn) pa_nil he2) he) (by decide) (by decide) he hpl) fun σ H Q ⟨F0, G, F, ρ, vs, s, d, s', m, hc, k⟩ => by
    unfold cIsC at hc
    cases h1 : ca s with
    | none => rw [h1] at hc; cases hc
    | some q =>
      obtain ⟨x, s1⟩ := q
      rw [h1] at hc
      refine ⟨F0, G, F, ρ, vs, s, x, s1, m, h1, fun F1 ρ1 vs1 v H1 e1 p1 m1 r1 => ?_⟩
      have fin : ∀ (t : Value) (b : Bool), TyX X.K H1 v t → PySem.W.kitOne X.K t (.ref C0) = some b → d = .bl b → s' = s1 → rIsi X.K [v, .ref C0] H1 Q := fun t b ty ki hd hs => by
        subst hd hs
        exact ⟨v, .ref C0, t, .ref C0, b, rfl, .own C0, ty, ki, k F1 ρ1 vs1 _ H1 e1 p1 (m1.push (rep_b _))⟩
      have flat : ∀ t, tyD x = some t → d = .bl false → s' = s1 → rIsi X.K [v, .ref C0] H1 Q := fun t ht => fin (.type t) false (tyX_of m1.core.f r1 ht) (Z.oth t (tyD_in ht))
      cases x with
      | ins C1 fs xs =>
        dsimp only at hc
        split at hc
        · rename_i hq
          subst hq
          cases hc
          unfold Rep at r1
          obtain ⟨o, dx, kvs, rfl, ho, _⟩ := r1
          exact fin (.ref C1) true (.base (.ins (m1.core.f _ _ ho) Z.cl Z.ha Z.hn Z.ht Z.hm)) Z.own rfl rfl
        · cases hc
      | _ =>
        first
        | (cases hc; done)
        | (cases hc; exact flat _ rfl rfl rfl)
end
end Fr

set_option maxRecDepth 100000
set_option maxHeartbeats 1000000
namespace Fr
open PySem PySem.Spec PyProof.Rows _root_.L2
/-! ### x == y, x an instance of a class of the text with its own __eq__ -/
def rEqI (K : PySem.W.Frag) (C0 : Addr) (m : MF) : R2 := fun x y H Q => ∃ (a dx : Addr) (kvs : List (Str × V)) (tb : Value), x = .ref a ∧ H a = some (.ins C0 dx kvs) ∧ TyX K H y tb ∧ PySem.W.notFirst K C0 tb = true ∧
  spD K 2 m [.ref a, y] H (fun v H' => (∃ b, v = .bl b) ∧ Q v H') (fun _ _ _ => False)
section
variable {X : Cx} {k : Nat} {f C0 : Addr} {fd : FuncData} {ps : List Str} {m : MF}
theorem op_eqI (F : FnOk X.prog X.w X.K X.mg X.base CX0 k f fd ps (spD X.K 2 m)) (hs : PySem.W.findIn X.K (.ref C0) "__eq__" = some (some (.ref f))) (hf : PySem.W.isFn X.K (.ref f) = true) (hb : Binds X.K fd ps []) (hr : Room k X.A) : OpR X (compareOp .Eq) (rEqI X.K C0 m) := by
  intro pins s σ H x y v u Q I rx ry h
  obtain ⟨a, dx, kvs, tb, ex, ha, ty, hn, sp⟩ := h
  subst ex
  cases rx
  obtain ⟨mA, J, _⟩ := ins_get I.hok ha
  obtain ⟨od, J2, _⟩ := J.look
  obtain ⟨mm, hF⟩ := I.fr
  obtain ⟨P, Z, hP, _⟩ := L2.kit_of I ry ty
  show wpAny _ _ (richCompare .Eq (.ref a) u) _ _ _
  refine PySem.W.cmp_K (op := .Eq) (tb := tb) hr.units0 hF I.ok.mod.kin J2 (Z.ty _ _ I.kIn hP) hn hs hf ?_
  have e := run_fn (us := [.ref a, u]) (vs := [.ref a, y]) F hr hb .nil (pass0 (X := X)) I (.cons rfl (.cons ry .nil)) sp
  refine wpAny_mono e (fun r s' q => ?_) fun _ _ z => z
  obtain ⟨val, H', I', rv, ⟨b, hv⟩, q⟩ := q
  subst hv
  cases (show r = Value.bool b from rv)
  exact ⟨.bl b, H', I', rfl, q⟩
end
structure EqC (P : Program) (w : World) (K : PySem.W.Frag) (mg : Str → Option Value) (base : Heap) (lv : Nat) (C0 : Addr) (m : MF) : Prop where
  h : ∃ f fd ps, FnOk P w K mg base CX0 lv f fd ps (spD K 2 m) ∧ PySem.W.findIn K (.ref C0) "__eq__" = some (some (.ref f)) ∧ PySem.W.isFn K (.ref f) = true ∧ Binds K fd ps []
  oth : ∀ t ∈ tyNs, PySem.W.notFirst K C0 (.type t) = true
def okR (C0 : Addr) : D → Bool
  | .ins C2 _ _ => decide (C2 = C0)
  | d => (tyD d).isSome
def cEqI (C0 : Addr) (m : MF) (ca cb : C) : C := fun s => match ca s with
  | some (.ins C1 fs xs, s1) => if C1 = C0 then (match cb s1 with
    | some (y, s2) => if okR C0 y = true then (match m [.ins C1 fs xs, y] s2.mem with
      | some (.bl b, M') => some (.bl b, { s2 with mem := M' })
      | _ => none) else none
    | none => none) else none
  | _ => none
section
variable {X : Cx} {k j : Nat} {C0 : Addr} {m : MF} {a b : Expr} {pos : Pos} {ca cb : C}
theorem eqI_w (Z : ClsI X.K C0) (no : ∀ t ∈ tyNs, PySem.W.notFirst X.K C0 (.type t) = true) {σ : L2.St} {H : Hp} {Q : VK} (h : tO X.K (cEqI C0 m ca cb) σ H Q) : tOp (rEqI X.K C0 m) (tV X.K ca) (tV X.K cb) σ H Q := by
  obtain ⟨F0, G, F, ρ, vs, s, d, s', sm, hc, q⟩ := h
  unfold cEqI at hc
  split at hc
  case h_2 => cases hc
  rename_i C1 fs xs s1 h1
  split at hc
  case isFalse => cases hc
  rename_i hC
  subst hC
  split at hc
  case h_2 => cases hc
  rename_i y s2 h2
  split at hc
  case isFalse => cases hc
  rename_i hy
  split at hc
  case h_2 => cases hc
  rename_i bb M' h3
  cases hc
  refine ⟨F0, G, F, ρ, vs, s, .ins C1 fs xs, s1, sm, h1, fun F1 ρ1 vs1 u H1 e1 p1 m1 r1 => ⟨F0, G, F1, ρ1, vs1, s1, y, s2, m1, h2, fun F2 ρ2 vs2 v H2 e2 p2 m2 r2 => ?_⟩⟩
  have r1' := Rep.mono e2 p2 _ _ r1
  have r1c := r1'
  unfold Rep at r1c
  obtain ⟨o, dx, kvs, rfl, ho, _⟩ := r1c
  have flat : ∀ t, tyD y = some t → ∃ tb, TyX X.K H2 v tb ∧ PySem.W.notFirst X.K C1 tb = true := fun t ht => ⟨.type t, tyX_of m2.core.f r2 ht, no t (tyD_in ht)⟩
  have hty : ∃ tb, TyX X.K H2 v tb ∧ PySem.W.notFirst X.K C1 tb = true := by
    cases y with
    | ins C2 fs2 xs2 =>
      have hC2 : C2 = C1 := of_decide_eq_true hy
      subst hC2
      have r2c := r2
      unfold Rep at r2c
      obtain ⟨o2, dx2, kvs2, rfl, ho2, _⟩ := r2c
      exact ⟨.ref C2, .base (.ins (m2.core.f _ _ ho2) Z.cl Z.ha Z.hn Z.ht Z.hm), by unfold PySem.W.notFirst; simp⟩
    | _ =>
      first
      | (cases hy; done)
      | exact flat _ rfl
  obtain ⟨tb, ty, hn⟩ := hty
  refine ⟨o, dx, kvs, tb, rfl, m2.core.f _ _ ho, ty, hn, ?_⟩
  have r3 : RepL X.K ρ2 F2 [.ins C1 fs xs, y] [.ref o, v] := by
    unfold RepL
    refine ⟨_, _, rfl, r1', ?_⟩
    unfold RepL
    refine ⟨_, _, rfl, r2, ?_⟩
    unfold RepL
    rfl
  refine call_ok m2 r3 rfl h3 fun F3 ρ3 vs3 z H3 e3 p3 m3 => ?_
  have hz := m3.core.headRep rfl
  unfold Rep at hz
  exact ⟨⟨bb, hz⟩, q F3 ρ3 vs3 z H3 (e1.tr (e2.tr e3)) (p1.trans (p2.trans p3)) m3⟩
theorem po_eqI (Z : ClsI X.K C0) (E : EqC X.prog X.w X.K X.mg X.base k C0 m) (hr : Room j X.A) (hkj : k ≤ j) (ha : PV X a ca) (hb : PV X b cb) : PO' X (.Compare a [.Eq] [b] pos) (cEqI C0 m ca cb) := by
  obtain ⟨f, fd, ps, F, hs, hf, hb2⟩ := E.h
  exact pe_w (pe_cmpR (op_eqI F hs hf hb2 (hr.mono hkj)) ha hb (nomark _)) fun σ H Q q => eqI_w Z E.oth q
end
end Fr

set_option maxRecDepth 100000
set_option maxHeartbeats 1000000
namespace Fr
open PySem PySem.Spec PyProof.Rows _root_.L2
/-! ### x != y, x an instance of a class of the text with its own __eq__ and no __ne__ -/
section
variable {M : Model} {prog : Program} {w : World} {A : Around} {E : Value → Shared → Prop} {sh : Shared} {K : PySem.W.Frag} {o C0 g : Addr} {ox : Obj} {od : Option Obj} {b tb : Value}
theorem bound_ne {more : List Value} {Q : Option Value → Shared → Prop} (Y : K.In sh.heap) (J : PySem.W.InstAt sh.heap o ox C0 od) (hn : PySem.W.findIn K (.ref C0) "__ne__" = some (some (.builtin "object.__ne__")))
    (h : wpAny M A (call (.builtin "object.__ne__") (.ref o :: more)) (fun v => Q (some v)) E sh) : wpAny M A (callSpecialIfBound? (.ref o) "__ne__" more) Q E sh := by
  simp only [callSpecialIfBound?, bindSpecialIfBound?]
  refine wpAny_holding (wpAny_bind (wpAny_bind (wpAny_bind (J.type.here ((PySem.W.looks_findIn Y hn).here ?_)))))
  refine wpAny_bind (wpAny_askSetting (wpAny_ite ?_))
  have last : wpAny M A (call (.builtin "object.__ne__") ([.ref o] ++ more) >>= fun v => pure (some v)) Q E sh := wpAny_bind (wpAny_mono h (fun v s2 q => wpAny_pure q) fun _ _ q => q)
  split
  · exact wpAny_bind (wpAny_of_eq (F.cmp_object.ne.bind _) (wpAny_pure (by exact last)))
  · exact wpAny_tryCatch (wpAny_bind (wpAny_of_eq (F.cmp_object.ne.bind _) (wpAny_pure (by exact last))))
theorem entry_ne {Q : Fin → Shared → Prop} (Y : K.In sh.heap) (J : PySem.W.InstAt sh.heap o ox C0 od) (hs : PySem.W.findIn K (.ref C0) "__eq__" = some (some (.ref g))) (hf : PySem.W.isFn K (.ref g) = true) (hu : A.units < cLine)
    (h : wpAny (model prog w) A (call (.ref g) [.ref o, b]) (fun v s2 => ∃ r, v = .bool r ∧ Q (.done (.ret (.bool (!r)))) s2) E sh) : wpAny (model prog w) A (Builtin.«object.__ne__» ⟨[.ref o, b], []⟩) Q E sh := by
  unfold Builtin.«object.__ne__»
  repeat (first
    | with_reducible refine wpAny_cRoomFor hu ?_
    | (refine wpAny_bind (m := callSpecialIfBound? (.ref o) (Str.ofString "__eq__") [b])
        (PySem.W.ifBound_K Y J hs hf (wpAny_mono h (fun v s2 hv => by
          obtain ⟨r, rfl, q⟩ := hv
          repeat (first | exact q | exact wpAny_pure q | exact wpAny_truthy_bool q | (refine wpAny_bind (m := truthy (.bool _)) (wpAny_truthy_bool ?_)) | wp_step)) fun _ _ q => q)))
    | wp_step)
theorem try_ne {Q : Value → Shared → Prop} (Y : K.In sh.heap) (J : PySem.W.InstAt sh.heap o ox C0 od) (hn : PySem.W.findIn K (.ref C0) "__ne__" = some (some (.builtin "object.__ne__"))) (hs : PySem.W.findIn K (.ref C0) "__eq__" = some (some (.ref g))) (hf : PySem.W.isFn K (.ref g) = true)
    (hm : PySem.W.mroIn K C0 (.type "object") = some true) (hu : A.in1.units < cLine) (h : wpAny (model prog w) A.in1 (call (.ref g) [.ref o, b]) (fun v s2 => ∃ r, v = .bool r ∧ Q (.bool (!r)) s2) E sh) :
    wpAny (model prog w) A (tryCompare (.ref o) "__ne__" b) (fun r s2 => ∃ v, r = some v ∧ Q v s2) E sh := by
  unfold tryCompare
  refine wpAny_bind (bound_ne Y J hn (wpAny_call (codeAny_call_builtin F.cmp_object.ne.plain F.cmpEntry_ne (PySem.W.check_slot F.cmpKind_ne F.cmpSplit_ne (J.type.andThen (PySem.W.looks_mroIn Y hm)) (F.cmpArgs_ne _ _) (entry_ne Y J hs hf hu (wpAny_mono h (fun v s2 hv => ?_) fun _ _ q => q))))))
  obtain ⟨r, rfl, q⟩ := hv
  first | exact ⟨r, rfl, wpAny_pure ⟨_, rfl, q⟩⟩ | exact ⟨r, rfl, ⟨_, rfl, q⟩⟩
theorem rich_ne {Q : Value → Shared → Prop} (Y : K.In sh.heap) (J : PySem.W.InstAt sh.heap o ox C0 od) (hb : PySem.W.Looks (model prog w) sh.heap (typeOf b) tb) (hf1 : PySem.W.notFirst K C0 tb = true) (hn : PySem.W.findIn K (.ref C0) "__ne__" = some (some (.builtin "object.__ne__")))
    (hs : PySem.W.findIn K (.ref C0) "__eq__" = some (some (.ref g))) (hf : PySem.W.isFn K (.ref g) = true) (hm : PySem.W.mroIn K C0 (.type "object") = some true) (hu0 : A.units < cLine) (hu : A.in1.units < cLine)
    (h : wpAny (model prog w) A.in1 (call (.ref g) [.ref o, b]) (fun v s2 => ∃ r, v = .bool r ∧ Q (.bool (!r)) s2) E sh) : wpAny (model prog w) A (richCompare .NotEq (.ref o) b) Q E sh := by
  have one := try_ne (Q := Q) Y J hn hs hf hm hu h
  have back : ∀ (r : Option Value) (s2 : Shared), (∃ v, r = some v ∧ Q v s2) → ∃ v, r = some v ∧ Q v s2 := fun _ _ z => z
  unfold richCompare
  simp only [oneThing_ref]
  refine wpAny_holding (wpAny_bind (wpAny_cRoomFor hu0 ?_))
  refine wpAny_bind (J.type.here (wpAny_bind (hb.here ?_)))
  split
  · rename_i q
    have sub : PySem.W.subIn K tb (.ref C0) = some false := by
      rcases Bool.or_eq_true_iff.mp hf1 with z | z
      · rw [beq_iff_eq.mp z] at q
        simp at q
      · exact beq_iff_eq.mp z
    refine wpAny_bind ((PySem.W.looks_subIn Y sub).here ?_)
    simp only [Bool.false_eq_true, if_false]
    exact wpAny_bind (wpAny_mono one (fun r s2 z => by obtain ⟨v, rfl, hq⟩ := z; exact wpAny_pure hq) fun _ _ z => z)
  · refine wpAny_bind (wpAny_pure ?_)
    simp only [Bool.false_eq_true, if_false]
    exact wpAny_bind (wpAny_mono one (fun r s2 z => by obtain ⟨v, rfl, hq⟩ := z; exact wpAny_pure hq) fun _ _ z => z)
end
def rNeI (K : PySem.W.Frag) (C0 : Addr) (m : MF) : R2 := fun x y H Q => ∃ (a dx : Addr) (kvs : List (Str × V)) (tb : Value), x = .ref a ∧ H a = some (.ins C0 dx kvs) ∧ TyX K H y tb ∧ PySem.W.notFirst K C0 tb = true ∧
  spD K 2 m [.ref a, y] H (fun v H' => ∃ b, v = .bl b ∧ Q (.bl (!b)) H') (fun _ _ _ => False)
section
variable {X : Cx} {k j : Nat} {f C0 : Addr} {fd : FuncData} {ps : List Str} {m : MF}
theorem op_neI (F : FnOk X.prog X.w X.K X.mg X.base CX0 k f fd ps (spD X.K 2 m)) (hs : PySem.W.findIn X.K (.ref C0) "__eq__" = some (some (.ref f))) (hf : PySem.W.isFn X.K (.ref f) = true) (hb : Binds X.K fd ps []) (hn : PySem.W.findIn X.K (.ref C0) "__ne__" = some (some (.builtin "object.__ne__")))
    (hm : PySem.W.mroIn X.K C0 (.type "object") = some true) (hr : Room (k + 1) X.A) : OpR X (compareOp .NotEq) (rNeI X.K C0 m) := by
  intro pins s σ H x y v u Q I rx ry h
  obtain ⟨a, dx, kvs, tb, ex, ha, ty, hnf, sp⟩ := h
  subst ex
  cases rx
  obtain ⟨mA, J, _⟩ := ins_get I.hok ha
  obtain ⟨od, J2, _⟩ := J.look
  obtain ⟨P, Z, hP, _⟩ := L2.kit_of I ry ty
  have hr1 : Room k X.A.in1 := hr.in1
  show wpAny _ _ (richCompare .NotEq (.ref a) u) _ _ _
  refine rich_ne I.kIn J2 (Z.ty _ _ I.kIn hP) hnf hn hs hf hm hr.units0 hr1.units0 ?_
  have e1 : Env0 X.prog X.w X.K X.mg X.base X.A.in1 X.stack s H := by
    have e := I.env0
    exact ⟨e.frames, e.mod, e.bs, e.bsz, e.funs, e.frf, e.hok, e.bare⟩
  have ln := F.len _ _ _ _ sp
  have rr : Vals [V.ref a, y] [Value.ref a, u] := .cons rfl (.cons ry .nil)
  have bd := hb s [.ref a, u] I.kIn (by simpa using ln)
  refine wpAny_call (codeAny_mono (F.run X.A.in1 X.stack s H ⟨[.ref a, u], []⟩ [.ref a, u] [.ref a, y] _ (fun _ _ _ => False) hr1 e1 (by simpa using bd) rr sp) fun res s2 hq => ?_)
  cases res with
  | error ev => exact hq.elim
  | ok fo =>
    cases fo with
    | ret w0 =>
      obtain ⟨z, H', I', rz, b, hz, q⟩ := I.after hq
      subst hz
      cases (show w0 = Value.bool b from rz)
      exact ⟨b, rfl, .bl (!b), H', I', rfl, q⟩
    | next => exact hq.elim
    | brk => exact hq.elim
    | cont => exact hq.elim
end
end Fr

set_option maxRecDepth 100000
set_option maxHeartbeats 1000000
namespace Fr
open PySem PySem.Spec PyProof.Rows _root_.L2
def cNeI (C0 : Addr) (m : MF) (ca cb : C) : C := fun s => match cEqI C0 m ca cb s with
  | some (.bl b, s') => some (.bl (!b), s')
  | _ => none
section
variable {X : Cx} {k j : Nat} {C0 : Addr} {m : MF} {a b : Expr} {pos : Pos} {ca cb : C}
theorem neI_w (Z : ClsI X.K C0) (no : ∀ t ∈ tyNs, PySem.W.notFirst X.K C0 (.type t) = true) {σ : L2.St} {H : Hp} {Q : VK} (h : tO X.K (cNeI C0 m ca cb) σ H Q) : tOp (rNeI X.K C0 m) (tV X.K ca) (tV X.K cb) σ H Q := by
  obtain ⟨F0, G, F, ρ, vs, s, d, s', sm, hc, q⟩ := h
  unfold cNeI at hc
  split at hc
  case h_2 => cases hc
  rename_i b0 s0 hc0
  cases hc
  have hc := hc0
  clear hc0
  unfold cEqI at hc
  split at hc
  case h_2 => cases hc
  rename_i C1 fs xs s1 h1
  split at hc
  case isFalse => cases hc
  rename_i hC
  subst hC
  split at hc
  case h_2 => cases hc
  rename_i y s2 h2
  split at hc
  case isFalse => cases hc
  rename_i hy
  split at hc
  case h_2 => cases hc
  rename_i bb M' h3
  cases hc
  refine ⟨F0, G, F, ρ, vs, s, .ins C1 fs xs, s1, sm, h1, fun F1 ρ1 vs1 u H1 e1 p1 m1 r1 => ⟨F0, G, F1, ρ1, vs1, s1, y, s2, m1, h2, fun F2 ρ2 vs2 v H2 e2 p2 m2 r2 => ?_⟩⟩
  have r1' := Rep.mono e2 p2 _ _ r1
  have r1c := r1'
  unfold Rep at r1c
  obtain ⟨o, dx, kvs, rfl, ho, _⟩ := r1c
  have flat : ∀ t, tyD y = some t → ∃ tb, TyX X.K H2 v tb ∧ PySem.W.notFirst X.K C1 tb = true := fun t ht => ⟨.type t, tyX_of m2.core.f r2 ht, no t (tyD_in ht)⟩
  have hty : ∃ tb, TyX X.K H2 v tb ∧ PySem.W.notFirst X.K C1 tb = true := by
    cases y with
    | ins C2 fs2 xs2 =>
      have hC2 : C2 = C1 := of_decide_eq_true hy
      subst hC2
      have r2c := r2
      unfold Rep at r2c
      obtain ⟨o2, dx2, kvs2, rfl, ho2, _⟩ := r2c
      exact ⟨.ref C2, .base (.ins (m2.core.f _ _ ho2) Z.cl Z.ha Z.hn Z.ht Z.hm), by unfold PySem.W.notFirst; simp⟩
    | _ =>
      first
      | (cases hy; done)
      | exact flat _ rfl
  obtain ⟨tb, ty, hn⟩ := hty
  refine ⟨o, dx, kvs, tb, rfl, m2.core.f _ _ ho, ty, hn, ?_⟩
  have r3 : RepL X.K ρ2 F2 [.ins C1 fs xs, y] [.ref o, v] := by
    unfold RepL
    refine ⟨_, _, rfl, r1', ?_⟩
    unfold RepL
    refine ⟨_, _, rfl, r2, ?_⟩
    unfold RepL
    rfl
  refine call_ok m2 r3 rfl h3 fun F3 ρ3 vs3 z H3 e3 p3 m3 => ?_
  have hz := m3.core.headRep rfl
  unfold Rep at hz
  exact ⟨_, hz, q F3 ρ3 vs3 _ H3 (e1.tr (e2.tr e3)) (p1.trans (p2.trans p3)) (m3.tail.push (rep_b _))⟩
theorem po_neI (Z : ClsI X.K C0) (E : EqC X.prog X.w X.K X.mg X.base k C0 m) (hn : PySem.W.findIn X.K (.ref C0) "__ne__" = some (some (.builtin "object.__ne__"))) (hr : Room j X.A) (hkj : k + 1 ≤ j) (ha : PV X a ca) (hb : PV X b cb) : PO' X (.Compare a [.NotEq] [b] pos) (cNeI C0 m ca cb) := by
  obtain ⟨f, fd, ps, F, hs, hf, hb2⟩ := E.h
  exact pe_w (pe_cmpR (op_neI F hs hf hb2 hn Z.hm (hr.mono hkj)) ha hb (nomark _)) fun σ H Q q => neI_w Z E.oth q
theorem as_test {c : C} {σ : L2.St} {H : Hp} {Q : Bool → Hp → Prop} (h : tT X.K (cT c) σ H Q) : tO X.K c σ H fun x H' => ∃ k, x = .bl k ∧ Q k H' := by
  obtain ⟨F0, G, F, ρ, vs, s, d, s', m, hc, k⟩ := h
  refine ⟨F0, G, F, ρ, vs, s, .bl d, s', m, cT_inv hc, fun F' ρ' vs' v H' e p m' => ?_⟩
  obtain ⟨F'', e2, m2, r⟩ := m'.freeze
  unfold frz Rep at r
  exact ⟨d, r, k F'' ρ' vs' H' (e.tr e2) p m2⟩
theorem pb_eqI (Z : ClsI X.K C0) (E : EqC X.prog X.w X.K X.mg X.base k C0 m) (hr : Room j X.A) (hkj : k ≤ j) (ha : PV X a ca) (hb : PV X b cb) : PB X (.Compare a [.Eq] [b] pos) (cT (cEqI C0 m ca cb)) := by
  obtain ⟨f, fd, ps, F, hs, hf, hb2⟩ := E.h
  exact pt_w (pt_cmpR (op_eqI F hs hf hb2 (hr.mono hkj)) ha hb (nomark _)) fun σ H Q q => eqI_w Z E.oth (as_test q)
theorem pb_neI (Z : ClsI X.K C0) (E : EqC X.prog X.w X.K X.mg X.base k C0 m) (hn : PySem.W.findIn X.K (.ref C0) "__ne__" = some (some (.builtin "object.__ne__"))) (hr : Room j X.A) (hkj : k + 1 ≤ j) (ha : PV X a ca) (hb : PV X b cb) : PB X (.Compare a [.NotEq] [b] pos) (cT (cNeI C0 m ca cb)) := by
  obtain ⟨f, fd, ps, F, hs, hf, hb2⟩ := E.h
  exact pt_w (pt_cmpR (op_neI F hs hf hb2 hn Z.hm (hr.mono hkj)) ha hb (nomark _)) fun σ H Q q => neI_w Z E.oth (as_test q)
end
end Fr

set_option maxRecDepth 100000
set_option maxHeartbeats 1000000
namespace Fr
open PySem PySem.Spec PyProof.Rows _root_.L2
theorem sub_flat {K : PySem.W.Frag} {C0 : Addr} : ∀ t ∈ tyNs, PySem.W.subIn K (.type t) (.ref C0) = some false := by
  have key : ∀ {t : String} {l : List Value}, fastBuiltinMro t = some l → l.contains (.ref C0) = false → PySem.W.subIn K (.type t) (.ref C0) = some false := fun {t l} h1 h2 => by
    show (fastBuiltinMro t).map (·.contains (.ref C0)) = some false
    rw [h1]
    show some (l.contains (.ref C0)) = _
    rw [h2]
  have two : ∀ {t : String}, fastBuiltinMro t = some [.type t, .type "object"] → PySem.W.subIn K (.type t) (.ref C0) = some false := fun h => key h (by simp)
  intro t ht
  simp only [tyNs, List.mem_cons, List.not_mem_nil, or_false] at ht
  rcases ht with rfl | rfl | rfl | rfl | rfl | rfl | rfl | rfl
  all_goals first
    | exact two (by decide +kernel)
    | exact key (l := [.type "bool", .type "int", .type "object"]) (by decide +kernel) (by simp)
theorem kit_self {K : PySem.W.Frag} {C0 : Addr} : PySem.W.kitOne K (.ref C0) (.ref C0) = some true := by
  unfold PySem.W.kitOne
  simp
theorem mkClsI {K : PySem.W.Frag} {C0 : Addr} (cl : Cls K C0) (ha : PySem.W.findIn K (.ref C0) "__class__" = some (some (.builtin "object.__class__"))) (hn : PySem.W.specialIn K (.builtin "object.__class__") "__get__" = some (some (.builtin "getset_descriptor.__get__")))
    (ht : PySem.W.takesIn K (.builtin "object.__class__") = some true) (hm : PySem.W.mroIn K C0 (.type "object") = some true) (hi : PySem.W.isClsIn K C0 = true) (hty : PySem.W.typeIn K (.ref C0) = some (.type "type")) : ClsI K C0 :=
  ⟨cl, ha, hn, ht, hm, kit_self, fun t h => kit_not (by intro z; cases z) hi hty (sub_flat t h)⟩
theorem no_flat {K : PySem.W.Frag} {C0 : Addr} : ∀ t ∈ tyNs, PySem.W.notFirst K C0 (.type t) = true := fun t h => by
  unfold PySem.W.notFirst
  rw [sub_flat t h]
  simp
end Fr

/-! A binary heap in a list, as heappush and heappop turn it. -/
namespace HQ
section
variable {α : Type} (lt : α → α → Bool)
def swp (xs : List α) (i j : Nat) : List α := match xs[i]?, xs[j]? with
  | some x, some y => (xs.set i y).set j x
  | _, _ => xs
def up : Nat → List α → Nat → List α
  | 0, xs, _ => xs
  | n + 1, xs, pos => if 0 < pos then (match xs[pos]?, xs[(pos - 1) / 2]? with
      | some x, some p => if lt x p = true then up n (swp xs ((pos - 1) / 2) pos) ((pos - 1) / 2) else xs
      | _, _ => xs) else xs
def kid (xs : List α) (pos : Nat) : Nat := if 2 * pos + 1 + 1 < xs.length then (match xs[2 * pos + 1]?, xs[2 * pos + 1 + 1]? with
    | some l, some r => if lt l r = true then 2 * pos + 1 else 2 * pos + 1 + 1
    | _, _ => 2 * pos + 1) else 2 * pos + 1
def down : Nat → List α → Nat → List α
  | 0, xs, _ => xs
  | n + 1, xs, pos => if pos < xs.length / 2 then down n (swp xs (kid lt xs pos) pos) (kid lt xs pos) else up lt xs.length xs pos
def hpush (xs : List α) (x : α) : List α := up lt (xs.length + 1) (xs ++ [x]) xs.length
def hpop (xs : List α) : Option (α × List α) := match xs[0]?, xs.getLast? with
  | some x, some l => if xs.length = 1 then some (x, []) else some (x, down lt xs.length (xs.dropLast.set 0 l) 0)
  | _, _ => none
end
section
variable {α β : Type} {lt : α → α → Bool}
theorem swp_len (xs : List α) (i j : Nat) : (swp xs i j).length = xs.length := by
  unfold swp
  split
  · simp
  · rfl
theorem swp_get {xs : List α} {i j : Nat} (hi : i < xs.length) (hj : j < xs.length) (k : Nat) : (swp xs i j)[k]? = if k = j then xs[i]? else if k = i then xs[j]? else xs[k]? := by
  unfold swp
  rw [List.getElem?_eq_getElem hi, List.getElem?_eq_getElem hj]
  by_cases h1 : k = j
  · subst h1
    rw [if_pos rfl]
    show ((xs.set i xs[k]).set k xs[i])[k]? = _
    rw [List.getElem?_set_self (by simpa using hj)]
  · rw [if_neg h1]
    show ((xs.set i xs[j]).set j xs[i])[k]? = _
    rw [List.getElem?_set_ne (fun z => h1 z.symm)]
    by_cases h2 : k = i
    · subst h2
      rw [if_pos rfl, List.getElem?_set_self hi]
    · rw [if_neg h2, List.getElem?_set_ne (fun z => h2 z.symm)]
theorem set_perm : ∀ (xs : List α) (i : Nat) (y x : α), xs[i]? = some x → (x :: xs.set i y).Perm (y :: xs)
  | [], i, y, x, h => by simp at h
  | z :: t, 0, y, x, h => by
    simp at h
    subst h
    exact List.Perm.swap _ _ _
  | z :: t, i + 1, y, x, h => by
    have ih := set_perm t i y x (by simpa using h)
    show (x :: z :: t.set i y).Perm (y :: z :: t)
    exact (List.Perm.swap _ _ _).trans ((ih.cons z).trans (List.Perm.swap _ _ _))
theorem swp_perm (xs : List α) (i j : Nat) : (swp xs i j).Perm xs := by
  unfold swp
  split
  · rename_i x y h1 h2
    by_cases e : i = j
    · subst e
      rw [h1] at h2
      cases h2
      rw [List.set_set]
      have := set_perm xs i x x h1
      exact this.cons_inv
    · have a := set_perm xs i y x h1
      have b := set_perm (xs.set i y) j x y (by rw [List.getElem?_set_ne e]; exact h2)
      exact List.Perm.cons_inv (b.trans a)
  · exact .refl _
theorem up_len : ∀ (n : Nat) (xs : List α) (pos : Nat), (up lt n xs pos).length = xs.length
  | 0, xs, pos => rfl
  | n + 1, xs, pos => by
    unfold up
    split
    · split
      · split
        · rw [up_len, swp_len]
        · rfl
      · rfl
    · rfl
theorem up_perm : ∀ (n : Nat) (xs : List α) (pos : Nat), (up lt n xs pos).Perm xs
  | 0, xs, pos => .refl _
  | n + 1, xs, pos => by
    unfold up
    split
    · split
      · split
        · exact (up_perm n _ _).trans (swp_perm _ _ _)
        · exact .refl _
      · exact .refl _
    · exact .refl _
theorem down_len : ∀ (n : Nat) (xs : List α) (pos : Nat), (down lt n xs pos).length = xs.length
  | 0, xs, pos => rfl
  | n + 1, xs, pos => by
    unfold down
    split
    · rw [down_len, swp_len]
    · exact up_len _ _ _
theorem down_perm : ∀ (n : Nat) (xs : List α) (pos : Nat), (down lt n xs pos).Perm xs
  | 0, xs, pos => .refl _
  | n + 1, xs, pos => by
    unfold down
    split
    · exact (down_perm n _ _).trans (swp_perm _ _ _)
    · exact up_perm _ _ _
theorem hpush_perm (xs : List α) (x : α) : (hpush lt xs x).Perm (x :: xs) := (up_perm _ _ _).trans (by
  show (xs ++ [x]).Perm ([x] ++ xs)
  exact List.perm_append_comm)
theorem hpush_len (xs : List α) (x : α) : (hpush lt xs x).length = xs.length + 1 := (hpush_perm xs x).length_eq

/-! ### over another list, by keys -/
theorem swp_map (f : α → β) (xs : List α) (i j : Nat) : swp (xs.map f) i j = (swp xs i j).map f := by
  unfold swp
  rw [List.getElem?_map, List.getElem?_map]
  cases xs[i]? <;> cases xs[j]? <;> simp [List.map_set]
theorem kid_map {f : α → β} {l : β → β → Bool} (h : ∀ a b, l (f a) (f b) = lt a b) (xs : List α) (pos : Nat) : kid l (xs.map f) pos = kid lt xs pos := by
  unfold kid
  rw [List.length_map, List.getElem?_map, List.getElem?_map]
  cases xs[2 * pos + 1]? <;> cases xs[2 * pos + 1 + 1]? <;> simp [h]
theorem up_map {f : α → β} {l : β → β → Bool} (h : ∀ a b, l (f a) (f b) = lt a b) : ∀ (n : Nat) (xs : List α) (pos : Nat), up l n (xs.map f) pos = (up lt n xs pos).map f
  | 0, xs, pos => rfl
  | n + 1, xs, pos => by
    unfold up
    rw [List.getElem?_map, List.getElem?_map, swp_map, up_map h n]
    by_cases hp : 0 < pos
    · rw [if_pos hp, if_pos hp]
      cases xs[pos]? with
      | none => rfl
      | some x =>
        cases xs[(pos - 1) / 2]? with
        | none => rfl
        | some p =>
          simp only [Option.map_some, h]
          split <;> rfl
    · rw [if_neg hp, if_neg hp]
theorem down_map {f : α → β} {l : β → β → Bool} (h : ∀ a b, l (f a) (f b) = lt a b) : ∀ (n : Nat) (xs : List α) (pos : Nat), down l n (xs.map f) pos = (down lt n xs pos).map f
  | 0, xs, pos => rfl
  | n + 1, xs, pos => by
    unfold down
    rw [List.length_map, kid_map h, swp_map, down_map h n, up_map h]
    split <;> rfl
theorem hpush_map {f : α → β} {l : β → β → Bool} (h : ∀ a b, l (f a) (f b) = lt a b) (xs : List α) (x : α) : hpush l (xs.map f) (f x) = (hpush lt xs x).map f := by
  unfold hpush
  rw [List.length_map, show xs.map f ++ [f x] = (xs ++ [x]).map f by simp, up_map h]
theorem hpop_map {f : α → β} {l : β → β → Bool} (h : ∀ a b, l (f a) (f b) = lt a b) (xs : List α) : hpop l (xs.map f) = (hpop lt xs).map fun p => (f p.1, p.2.map f) := by
  unfold hpop
  rw [List.getElem?_map, List.getLast?_map, List.length_map]
  cases h1 : xs[0]? with
  | none => cases h2 : xs.getLast? <;> simp
  | some x =>
    cases h2 : xs.getLast? with
    | none => simp
    | some y =>
      simp only [Option.map_some]
      by_cases e : xs.length = 1
      · rw [if_pos e, if_pos e]; rfl
      · rw [if_neg e, if_neg e]
        have : ((xs.map f).dropLast.set 0 (f y)) = (xs.dropLast.set 0 y).map f := by simp [List.map_set, List.map_dropLast]
        rw [this, down_map h]
        rfl

/-! ### the least one stands ahead -/
structure Ord (lt : α → α → Bool) : Prop where
  as : ∀ a b, lt a b = true → lt b a = false
  tr : ∀ a b c, lt b a = false → lt c b = false → lt c a = false
def Edge (lt : α → α → Bool) (xs : List α) (i j : Nat) : Prop := ∀ p x, xs[i]? = some p → xs[j]? = some x → lt x p = false
def IsHeap (lt : α → α → Bool) (xs : List α) : Prop := ∀ i, 0 < i → Edge lt xs ((i - 1) / 2) i
structure UpI (lt : α → α → Bool) (xs : List α) (pos : Nat) : Prop where
  e : ∀ i, 0 < i → i ≠ pos → Edge lt xs ((i - 1) / 2) i
  g : 0 < pos → ∀ c, 0 < c → (c - 1) / 2 = pos → Edge lt xs ((pos - 1) / 2) c
structure DnI (lt : α → α → Bool) (xs : List α) (pos : Nat) : Prop where
  e : ∀ i, 0 < i → i ≠ pos → (i - 1) / 2 ≠ pos → Edge lt xs ((i - 1) / 2) i
  g : 0 < pos → ∀ c, 0 < c → (c - 1) / 2 = pos → Edge lt xs ((pos - 1) / 2) c
theorem up_heap (O : Ord lt) : ∀ (n : Nat) (xs : List α) (pos : Nat), pos < n → pos < xs.length → UpI lt xs pos → IsHeap lt (up lt n xs pos)
  | 0, xs, pos, h, _, _ => by omega
  | n + 1, xs, pos, h, hl, I => by
    unfold up
    by_cases hp : 0 < pos
    · rw [if_pos hp]
      have hq : (pos - 1) / 2 < pos := by omega
      have hql : (pos - 1) / 2 < xs.length := by omega
      generalize hqe : (pos - 1) / 2 = q at hq hql
      obtain ⟨x, hx⟩ : ∃ x, xs[pos]? = some x := ⟨_, List.getElem?_eq_getElem hl⟩
      obtain ⟨p, hpp⟩ : ∃ p, xs[q]? = some p := ⟨_, List.getElem?_eq_getElem hql⟩
      rw [hx, hpp]
      dsimp only
      by_cases hlt : lt x p = true
      · rw [if_pos hlt]
        refine up_heap O n _ q (by omega) (by rw [swp_len]; omega) ⟨fun i hi hne => ?_, fun hq0 c hc hcq => ?_⟩
        · intro a b ha hb
          rw [swp_get hql hl] at ha hb
          by_cases e1 : i = pos
          · -- the one that came down stands below the one that went up
            subst e1
            rw [hqe, if_neg (by omega), if_pos rfl, hx] at ha
            rw [if_pos rfl, hpp] at hb
            cases ha; cases hb
            exact O.as _ _ hlt
          · rw [if_neg e1, if_neg hne] at hb
            by_cases e2 : (i - 1) / 2 = pos
            · rw [if_pos e2, hpp] at ha
              cases ha
              exact I.g hp i hi e2 _ b (by rw [hqe]; exact hpp) hb
            · rw [if_neg e2] at ha
              by_cases e3 : (i - 1) / 2 = q
              · rw [if_pos e3, hx] at ha
                cases ha
                exact O.tr _ _ _ (O.as _ _ hlt) (I.e i hi e1 p b (by rw [e3]; exact hpp) hb)
              · rw [if_neg e3] at ha
                exact I.e i hi e1 a b ha hb
        · intro a b ha hb
          rw [swp_get hql hl] at ha hb
          have hq2 : (q - 1) / 2 < q := by omega
          rw [if_neg (by omega), if_neg (by omega)] at ha
          have ep := I.e q hq0 (by omega) a p ha hpp
          by_cases e1 : c = pos
          · rw [if_pos e1, hpp] at hb
            cases hb
            exact ep
          · rw [if_neg e1, if_neg (by omega)] at hb
            exact O.tr _ _ _ ep (I.e c hc e1 p b (by rw [hcq]; exact hpp) hb)
      · rw [if_neg hlt]
        intro i hi
        by_cases e1 : i = pos
        · subst e1
          intro a b ha hb
          rw [hqe, hpp] at ha
          rw [hx] at hb
          cases ha; cases hb
          simpa using hlt
        · exact I.e i hi e1
    · rw [if_neg hp]
      intro i hi
      exact I.e i hi (by omega)
theorem kid_or (xs : List α) (pos : Nat) : kid lt xs pos = 2 * pos + 1 ∨ (kid lt xs pos = 2 * pos + 1 + 1 ∧ 2 * pos + 1 + 1 < xs.length) := by
  unfold kid
  split
  · rename_i h
    split
    · split
      · exact .inl rfl
      · exact .inr ⟨rfl, h⟩
    · exact .inl rfl
  · exact .inl rfl
theorem kid_le (O : Ord lt) (xs : List α) (pos : Nat) (c : Nat) (hc : 0 < c) (e : (c - 1) / 2 = pos) (ne : c ≠ kid lt xs pos) : Edge lt xs (kid lt xs pos) c := by
  intro a b ha hb
  have hcl : c < xs.length := (List.getElem?_eq_some_iff.mp hb).1
  unfold kid at ha ne
  have hc2 : c = 2 * pos + 1 ∨ c = 2 * pos + 1 + 1 := by omega
  by_cases h : 2 * pos + 1 + 1 < xs.length
  · rw [if_pos h] at ha ne
    obtain ⟨l, hl⟩ : ∃ l, xs[2 * pos + 1]? = some l := ⟨_, List.getElem?_eq_getElem (by omega)⟩
    obtain ⟨r, hr⟩ : ∃ r, xs[2 * pos + 1 + 1]? = some r := ⟨_, List.getElem?_eq_getElem h⟩
    rw [hl, hr] at ha ne
    dsimp only at ha ne
    by_cases hlr : lt l r = true
    · rw [if_pos hlr] at ha ne
      have : c = 2 * pos + 1 + 1 := by omega
      subst this
      rw [hl] at ha; rw [hr] at hb
      cases ha; cases hb
      exact O.as _ _ hlr
    · rw [if_neg hlr] at ha ne
      have : c = 2 * pos + 1 := by omega
      subst this
      rw [hr] at ha; rw [hl] at hb
      cases ha; cases hb
      simpa using hlr
  · rw [if_neg h] at ha ne
    omega
theorem down_heap (O : Ord lt) : ∀ (n : Nat) (xs : List α) (pos : Nat), xs.length ≤ pos + n → pos < xs.length → DnI lt xs pos → IsHeap lt (down lt n xs pos)
  | 0, xs, pos, h, hl, _ => by omega
  | n + 1, xs, pos, h, hl, I => by
    unfold down
    by_cases hp : pos < xs.length / 2
    · rw [if_pos hp]
      have hk := kid_or (lt := lt) xs pos
      have hkl := kid_le O xs pos
      have hkp : kid lt xs pos < xs.length ∧ pos < kid lt xs pos ∧ (kid lt xs pos - 1) / 2 = pos := by omega
      generalize kid lt xs pos = c at hk hkl hkp
      obtain ⟨hcl, hpc, hcp⟩ := hkp
      refine down_heap O n _ c (by rw [swp_len]; omega) (by rw [swp_len]; exact hcl) ⟨fun i hi h1 h2 => ?_, fun _ d hd hdc => ?_⟩
      · intro a b ha hb
        rw [swp_get hcl hl] at ha hb
        rw [if_neg h2] at ha
        rw [if_neg h1] at hb
        by_cases e1 : i = pos
        · subst e1
          rw [if_pos rfl] at hb
          rw [if_neg (by omega)] at ha
          exact I.g hi c (by omega) hcp a b ha hb
        · rw [if_neg e1] at hb
          by_cases e2 : (i - 1) / 2 = pos
          · rw [if_pos e2] at ha
            exact hkl i hi e2 h1 a b ha hb
          · rw [if_neg e2] at ha
            exact I.e i hi e1 e2 a b ha hb
      · intro a b ha hb
        rw [swp_get hcl hl] at ha hb
        rw [hcp, if_pos rfl] at ha
        rw [if_neg (by omega), if_neg (by omega)] at hb
        exact I.e d hd (by omega) (by omega) a b (by rw [hdc]; exact ha) hb
    · rw [if_neg hp]
      refine up_heap O _ _ _ hl hl ⟨fun i hi h1 => ?_, fun h0 c hc e => I.g h0 c hc e⟩
      by_cases e : (i - 1) / 2 = pos
      · intro a b ha hb
        have : i < xs.length := (List.getElem?_eq_some_iff.mp hb).1
        omega
      · exact I.e i hi h1 e
theorem heap_nil : IsHeap lt ([] : List α) := fun i _ a b ha hb => by simp at ha
theorem heap_one (x : α) : IsHeap lt [x] := fun i hi a b ha hb => by
  have : i < [x].length := (List.getElem?_eq_some_iff.mp hb).1
  simp at this
  omega
theorem hpush_heap (O : Ord lt) {xs : List α} (h : IsHeap lt xs) (x : α) : IsHeap lt (hpush lt xs x) := by
  unfold hpush
  refine up_heap O _ _ _ (Nat.lt_succ_self _) (by simp) ⟨fun i hi hne a b ha hb => ?_, fun h0 c hc e a b ha hb => ?_⟩
  · have hl : i < (xs ++ [x]).length := (List.getElem?_eq_some_iff.mp hb).1
    rw [List.length_append, List.length_singleton] at hl
    rw [List.getElem?_append_left (by omega)] at ha hb
    exact h i hi a b ha hb
  · have hl : c < (xs ++ [x]).length := (List.getElem?_eq_some_iff.mp hb).1
    rw [List.length_append, List.length_singleton] at hl
    omega
theorem heap_least (O : Ord lt) {xs : List α} (h : IsHeap lt xs) {m : α} (hm : xs[0]? = some m) : ∀ (i : Nat) (x : α), xs[i]? = some x → lt x m = false := by
  intro i
  induction i using Nat.strongRecOn with
  | ind i ih =>
    intro x hx
    by_cases h0 : i = 0
    · subst h0
      rw [hm] at hx
      cases hx
      cases e : lt m m with
      | false => rfl
      | true => exact absurd (O.as _ _ e) (by simp [e])
    · have hl : i < xs.length := (List.getElem?_eq_some_iff.mp hx).1
      obtain ⟨p, hp⟩ : ∃ p, xs[(i - 1) / 2]? = some p := ⟨_, List.getElem?_eq_getElem (by omega)⟩
      exact O.tr _ _ _ (ih _ (by omega) p hp) (h i (by omega) p x hp hx)
theorem hpop_spec (O : Ord lt) {xs : List α} (h : IsHeap lt xs) (hne : xs ≠ []) : ∃ m rest, hpop lt xs = some (m, rest) ∧ (m :: rest).Perm xs ∧ IsHeap lt rest ∧ ∀ x ∈ xs, lt x m = false := by
  obtain ⟨m, t, rfl⟩ : ∃ m t, xs = m :: t := by cases xs with | nil => exact absurd rfl hne | cons m t => exact ⟨m, t, rfl⟩
  have least : ∀ x ∈ m :: t, lt x m = false := fun x hx => by
    obtain ⟨i, hi⟩ := List.getElem?_of_mem hx
    exact heap_least O h rfl i x hi
  cases t with
  | nil => exact ⟨m, [], rfl, .refl _, heap_nil, least⟩
  | cons y t =>
    obtain ⟨l, hl⟩ : ∃ l, (y :: t).getLast? = some l := ⟨_, List.getLast?_eq_getLast (by simp)⟩
    have hl2 : (m :: y :: t).getLast? = some l := by rw [List.getLast?_cons_cons]; exact hl
    have hd : (m :: y :: t).dropLast.set 0 l = l :: (y :: t).dropLast := rfl
    have hspl : (y :: t) = (y :: t).dropLast ++ [l] := by
      have hl3 := List.getLast?_eq_getLast (l := y :: t) (by simp)
      rw [hl3] at hl
      cases hl
      exact (List.dropLast_concat_getLast _).symm
    refine ⟨m, _, by unfold hpop; rw [hl2]; show (if _ then _ else _) = _; rw [if_neg (by simp)], ?_, ?_, least⟩
    · rw [hd]
      refine ((down_perm _ _ _).trans ?_).cons m
      show ([l] ++ (y :: t).dropLast).Perm (y :: t)
      rw (occs := .pos [2]) [hspl]
      exact List.perm_append_comm
    · rw [hd]
      refine down_heap O _ _ _ (by simp) (by simp) ⟨fun i hi _ hz a b ha hb => ?_, fun h0 => absurd h0 (by omega)⟩
      obtain ⟨j, rfl⟩ : ∃ j, i = j + 1 := ⟨i - 1, by omega⟩
      have key : ∀ (k : Nat) (z : α), 0 < k → (l :: (y :: t).dropLast)[k]? = some z → (m :: y :: t)[k]? = some z := by
        intro k z hk hz
        obtain ⟨k, rfl⟩ : ∃ k', k = k' + 1 := ⟨k - 1, by omega⟩
        simp only [List.getElem?_cons_succ] at hz ⊢
        have hkl : k < (y :: t).dropLast.length := (List.getElem?_eq_some_iff.mp hz).1
        rw [hspl, List.getElem?_append_left hkl]
        exact hz
      exact h (j + 1) hi a b (key _ _ (by omega) ha) (key _ _ (by omega) hb)
end
/-- pairs of whole numbers -/
def ltI (x y : Int × Int) : Bool := decide (x.1 < y.1) || (decide (x.1 = y.1) && decide (x.2 < y.2))
theorem ltI_ord : Ord ltI := ⟨fun a b h => by simp [ltI] at h ⊢; omega, fun a b c h1 h2 => by simp [ltI] at h1 h2 ⊢; omega⟩
theorem ltI_no {x y : Int × Int} (h : ltI x y = false) : y.1 ≤ x.1 := by simp [ltI] at h; omega
end HQ

set_option maxRecDepth 100000
set_option maxHeartbeats 1000000
/-! heappush and heappop over lists of pairs of ints -/
namespace HQ
open PySem PySem.Spec PyProof.Rows PySem.SeqAt
theorem entry_sift : entryFor table "_heapq.heapify.sift" = some Builtin.«_heapq.heapify.sift» := entryFor_of_tree (by kernel_rfl)
theorem plain_sift : plainId "_heapq.heapify.sift" = true := by decide +kernel
theorem entry_push : entryFor table "_heapq.heappush" = some Builtin.«_heapq.heappush» := entryFor_of_tree (by kernel_rfl)
theorem kind_push : builtinKind "_heapq.heappush" = none := by kernel_rfl
theorem plain_push : plainId "_heapq.heappush" = true := by decide +kernel
theorem args_push (a b : Value) : argsOk "_heapq.heappush" ⟨[a, b], []⟩ := by unfold argsOk; kernel_rfl
theorem entry_pop : entryFor table "_heapq.heappop" = some Builtin.«_heapq.heappop» := entryFor_of_tree (by kernel_rfl)
theorem kind_pop : builtinKind "_heapq.heappop" = none := by kernel_rfl
theorem plain_pop : plainId "_heapq.heappop" = true := by decide +kernel
theorem args_pop (a : Value) : argsOk "_heapq.heappop" ⟨[a], []⟩ := by unfold argsOk; kernel_rfl
/-- a pair of ints that stands apart from the list -/
def IsPr (h : Heap) (l : Addr) (k : Value → Int × Int) (x : Value) : Prop := ∃ t u v, x = .ref t ∧ t ≠ l ∧ h.IsTuple t #[.int (k x).1 u, .int (k x).2 v]
theorem IsPr.stay {h h' : Heap} {l : Addr} {k : Value → Int × Int} {x : Value} (p : IsPr h l k x) (e : ∀ b o, b ≠ l → h.get? b = some o → h'.get? b = some o) : IsPr h' l k x := by
  obtain ⟨t, u, v, e1, ne, o, ho, hc⟩ := p
  exact ⟨t, u, v, e1, ne, o, e t o ne ho, hc⟩
theorem IsPr.lt {s : Shared} {A : Around} {l : Addr} {k : Value → Int × Int} {x y : Value} (p : IsPr s.heap l k x) (q : IsPr s.heap l k y) (hu : A.units < cLine) : RcLt A s x y (ltI (k x) (k y)) := by
  obtain ⟨t, u, v, ex, ne, hx⟩ := p
  obtain ⟨t2, u2, v2, ey, ne2, hy⟩ := q
  have key := RcLt.tuples (A := A) (e := fun j => if j = 0 then (k x).1 == (k y).1 else (k x).2 == (k y).2) (r := fun j => if j = 0 then decide ((k x).1 < (k y).1) else decide ((k x).2 < (k y).2)) hx hy hu (fun j h1 h2 => by
      have : j = 0 ∨ j = 1 := by simp at h1; omega
      rcases this with rfl | rfl
      · exact EqAt.int_int _ _ _ _
      · exact EqAt.int_int _ _ _ _) (fun j h1 h2 hj => by
      have : j = 0 ∨ j = 1 := by simp at h1; omega
      rcases this with rfl | rfl
      · exact fun prog w E Q hq => P.lt_int hq
      · exact fun prog w E Q hq => P.lt_int hq)
  have e : firstLt (fun j => if j = 0 then (k x).1 == (k y).1 else (k x).2 == (k y).2) (fun j => if j = 0 then decide ((k x).1 < (k y).1) else decide ((k x).2 < (k y).2)) (decide ((#[Value.int (k x).1 u, .int (k x).2 v] : Array Value).size < (#[Value.int (k y).1 u2, .int (k y).2 v2] : Array Value).size)) (List.range (min (#[Value.int (k x).1 u, .int (k x).2 v] : Array Value).size (#[Value.int (k y).1 u2, .int (k y).2 v2] : Array Value).size)) = ltI (k x) (k y) := by
    show firstLt _ _ false [0, 1] = _
    unfold firstLt
    unfold firstLt
    unfold firstLt
    unfold ltI
    by_cases h1 : (k x).1 = (k y).1
    · by_cases h2 : (k x).2 = (k y).2
      · simp [h1, h2]
      · simp [h1, h2]
    · simp [h1]
  rw [e] at key
  rw [ex, ey]
  rw [ex, ey] at key
  exact key
theorem key_swp (k : Value → Int × Int) : ∀ a b, ltI (k a) (k b) = (fun x y => ltI (k x) (k y)) a b := fun _ _ => rfl
abbrev ltK (k : Value → Int × Int) : Value → Value → Bool := fun x y => ltI (k x) (k y)
theorem swp_arr {xs : List Value} {i j : Nat} {x y : Value} (h1 : xs[i]? = some x) (h2 : xs[j]? = some y) : (xs.toArray.setIfInBounds i y).setIfInBounds j x = (swp xs i j).toArray := by
  unfold swp
  rw [h1, h2]
  simp
/-- the end of it all -/
def Fin' (a : Addr) (s : Shared) (R : Result → Shared → Prop) (result : Value) (ys : List Value) : Prop :=
  ∀ h' tk n', h'.get? a = some { cls := .type "list", data := .seq ys.toArray n' } → (∀ b o, b ≠ a → s.heap.get? b = some o → h'.get? b = some o) → R (.ok (.ret result)) { s with heap := h', toks := tk }
theorem upd_at {h : Heap} {a : Addr} {xs ys : List Value} {n0 : Nat} {f : Array Value → Array Value} (ho : h.get? a = some { cls := .type "list", data := .seq xs.toArray n0 }) (hf : f xs.toArray = ys.toArray) :
    ∃ n1, (h.update a (Obj.mapSeq f)).get? a = some { cls := .type "list", data := .seq ys.toArray n1 } := by
  have q := PySem.IsL.update ho f
  rw [hf] at q
  exact ⟨_, q⟩
theorem upd_oth {h : Heap} {a : Addr} {f : Array Value → Array Value} : ∀ b o, b ≠ a → h.get? b = some o → (h.update a (Obj.mapSeq f)).get? b = some o := fun b o hb e => (Heap.get?_update_other _ _ (Ne.symm hb)).trans e
theorem Fin'.upd {a : Addr} {s : Shared} {R : Result → Shared → Prop} {result : Value} {ys : List Value} {f : Array Value → Array Value} (h : Fin' a s R result ys) : Fin' a { s with heap := s.heap.update a (Obj.mapSeq f) } R result ys :=
  fun h' tk n' e k => h h' tk n' e fun b o hb q => k b o hb (upd_oth b o hb q)
theorem swp_mem {α : Type} {xs : List α} {i j : Nat} {x : α} (h : x ∈ swp xs i j) : x ∈ xs := (swp_perm xs i j).mem_iff.mp h
theorem up_meets (a : Addr) (k : Value → Int × Int) (result : Value) : ∀ (n : Nat) (xs : List Value) (pos : Nat), pos < n → pos < xs.length → xs.length ≤ sizeLine →
    Meets (Builtin.«_heapq.heapify.sift» ⟨[.ref a, .bool false, .bool false, rawInt pos, rawInt (0 : Nat), result, rawInt (-1)], []⟩)
      (fun A R s => (∃ n0, s.heap.get? a = some { cls := .type "list", data := .seq xs.toArray n0 }) ∧ (∀ x ∈ xs, IsPr s.heap a k x) ∧ A.in1.units < cLine ∧ Fin' a s R result (up (ltK k) n xs pos)) := by
  intro n
  induction n with
  | zero => intro xs pos h; omega
  | succ n ih =>
    intro xs pos hn hl hz prog w A R s h
    obtain ⟨hp, g, d, tk, os⟩ := s
    obtain ⟨⟨n0, ho⟩, hx, hu, h⟩ := h
    dsimp only at ho hx
    unfold up at h
    wp_walk using wpAny_loadPart' ho
    by_cases hp0 : 0 < pos
    · rw [if_pos (show ((pos : Nat) : Int).toNat > ((0 : Nat) : Int).toNat from hp0)]
      obtain ⟨x, hxx⟩ : ∃ x, xs[pos]? = some x := ⟨_, List.getElem?_eq_getElem hl⟩
      obtain ⟨p, hpp⟩ : ∃ p, xs[(pos - 1) / 2]? = some p := ⟨_, List.getElem?_eq_getElem (by omega)⟩
      rw [if_pos hp0, hxx, hpp] at h
      dsimp only at h
      have a1 : xs.toArray[((pos : Nat) : Int).toNat]? = some x := by rw [List.getElem?_toArray]; exact hxx
      have a2 : xs.toArray[(((pos : Nat) : Int).toNat - 1) / 2]? = some p := by rw [List.getElem?_toArray]; exact hpp
      wp_walk using wpAny_loadPart' ho
      rw [a1]
      wp_walk using wpAny_loadPart' ho
      rw [a2]
      have hrc := (hx x (List.mem_of_getElem? hxx)).lt (s := ⟨hp, g, d, tk, os⟩) (hx p (List.mem_of_getElem? hpp)) hu prog w
      wp_walk using wpAny_loadPart' ho, hrc _ _
      by_cases hlt : ltI (k x) (k p) = true
      · rw [if_pos hlt]
        rw [if_pos (show ltK k x p = true from hlt)] at h
        wp_walk using wpAny_loadPart' ho
        rw [a2]
        wp_walk using wpAny_loadPart' ho
        rw [a1]
        wp_walk using (wpAny_updateSeq ho rfl (hz := by rw [List.size_toArray]; exact hz) (_hz' := by simp; omega))
        refine ⟨plainId_quiet plain_sift _, codeAny_builtin entry_sift ?_⟩
        rw [Around.under_plainId plain_sift _]
        refine ih (swp xs ((pos - 1) / 2) pos) ((pos - 1) / 2) (by omega) (by rw [swp_len]; omega) (by rw [swp_len]; exact hz) prog w A R _ ⟨upd_at ho (swp_arr hpp hxx), fun y hy => (hx y (swp_mem hy)).stay upd_oth, hu, Fin'.upd h⟩
      · rw [if_neg hlt]
        rw [if_neg (show ¬ ltK k x p = true from hlt)] at h
        wp_walk using wpAny_loadPart' ho
        exact h hp tk n0 ho fun b o _ e => e
    · rw [if_neg (show ¬ ((pos : Nat) : Int).toNat > ((0 : Nat) : Int).toNat from hp0)]
      rw [if_neg hp0] at h
      wp_walk using wpAny_loadPart' ho
      exact h hp tk n0 ho fun b o _ e => e
theorem down_meets (a : Addr) (k : Value → Int × Int) (result : Value) : ∀ (n : Nat) (xs : List Value) (pos : Nat), xs.length ≤ pos + n → pos < xs.length → xs.length ≤ sizeLine →
    Meets (Builtin.«_heapq.heapify.sift» ⟨[.ref a, .bool false, .bool true, rawInt pos, rawInt (0 : Nat), result, rawInt (-1)], []⟩)
      (fun A R s => (∃ n0, s.heap.get? a = some { cls := .type "list", data := .seq xs.toArray n0 }) ∧ (∀ x ∈ xs, IsPr s.heap a k x) ∧ A.in1.units < cLine ∧ Fin' a s R result (down (ltK k) n xs pos)) := by
  intro n
  induction n with
  | zero => intro xs pos h; omega
  | succ n ih =>
    intro xs pos hn hl hz prog w A R s h
    obtain ⟨hp, g, d, tk, os⟩ := s
    obtain ⟨⟨n0, ho⟩, hx, hu, h⟩ := h
    dsimp only at ho hx
    unfold down at h
    wp_walk using wpAny_loadPart' ho
    by_cases hp0 : pos < xs.length / 2
    · rw [if_pos (show ((pos : Nat) : Int).toNat < xs.toArray.size / 2 from by rw [List.size_toArray]; exact hp0)]
      rw [if_pos hp0] at h
      have hk : 2 * pos + 1 < xs.length := by omega
      obtain ⟨l, hll⟩ : ∃ l, xs[2 * pos + 1]? = some l := ⟨_, List.getElem?_eq_getElem hk⟩
      obtain ⟨e, hee⟩ : ∃ e, xs[pos]? = some e := ⟨_, List.getElem?_eq_getElem hl⟩
      have a0 : xs.toArray[((pos : Nat) : Int).toNat]? = some e := by rw [List.getElem?_toArray]; exact hee
      have a1 : xs.toArray[2 * ((pos : Nat) : Int).toNat + 1]? = some l := by rw [List.getElem?_toArray]; exact hll
      wp_walk using wpAny_loadPart' ho
      by_cases h2 : 2 * pos + 1 + 1 < xs.length
      · rw [if_pos (show 2 * ((pos : Nat) : Int).toNat + 1 + 1 < xs.toArray.size from by rw [List.size_toArray]; exact h2)]
        obtain ⟨r, hrr⟩ : ∃ r, xs[2 * pos + 1 + 1]? = some r := ⟨_, List.getElem?_eq_getElem h2⟩
        have a2 : xs.toArray[2 * ((pos : Nat) : Int).toNat + 1 + 1]? = some r := by rw [List.getElem?_toArray]; exact hrr
        wp_walk using wpAny_loadPart' ho
        rw [a1]
        wp_walk using wpAny_loadPart' ho
        rw [a2]
        have hrc := (hx l (List.mem_of_getElem? hll)).lt (s := ⟨hp, g, d, tk, os⟩) (hx r (List.mem_of_getElem? hrr)) hu prog w
        wp_walk using wpAny_loadPart' ho, hrc _ _
        by_cases hlt : ltI (k l) (k r) = true
        · have hkid : kid (ltK k) xs pos = 2 * pos + 1 := by unfold kid; rw [if_pos h2, hll, hrr]; exact if_pos hlt
          rw [hkid] at h
          rw [if_neg (show ¬ (!ltI (k l) (k r)) = true by rw [hlt]; simp)]
          wp_walk using wpAny_loadPart' ho
          rw [a1]
          wp_walk using wpAny_loadPart' ho
          rw [a0]
          wp_walk using (wpAny_updateSeq ho rfl (hz := by rw [List.size_toArray]; exact hz) (_hz' := by simp; omega))
          refine ⟨plainId_quiet plain_sift _, codeAny_builtin entry_sift ?_⟩
          rw [Around.under_plainId plain_sift _]
          exact ih (swp xs (2 * pos + 1) pos) (2 * pos + 1) (by rw [swp_len]; omega) (by rw [swp_len]; omega) (by rw [swp_len]; exact hz) prog w A R _ ⟨upd_at ho (swp_arr hll hee), fun y hy => (hx y (swp_mem hy)).stay upd_oth, hu, Fin'.upd h⟩
        · have hkid : kid (ltK k) xs pos = 2 * pos + 1 + 1 := by unfold kid; rw [if_pos h2, hll, hrr]; exact if_neg hlt
          rw [hkid] at h
          rw [if_pos (show (!ltI (k l) (k r)) = true by simpa using hlt)]
          wp_walk using wpAny_loadPart' ho
          rw [a2]
          wp_walk using wpAny_loadPart' ho
          rw [a0]
          wp_walk using (wpAny_updateSeq ho rfl (hz := by rw [List.size_toArray]; exact hz) (_hz' := by simp; omega))
          refine ⟨plainId_quiet plain_sift _, codeAny_builtin entry_sift ?_⟩
          rw [Around.under_plainId plain_sift _]
          exact ih (swp xs (2 * pos + 1 + 1) pos) (2 * pos + 1 + 1) (by rw [swp_len]; omega) (by rw [swp_len]; omega) (by rw [swp_len]; exact hz) prog w A R _ ⟨upd_at ho (swp_arr hrr hee), fun y hy => (hx y (swp_mem hy)).stay upd_oth, hu, Fin'.upd h⟩
      · rw [if_neg (show ¬ 2 * ((pos : Nat) : Int).toNat + 1 + 1 < xs.toArray.size from by rw [List.size_toArray]; exact h2)]
        have hkid : kid (ltK k) xs pos = 2 * pos + 1 := by unfold kid; exact if_neg h2
        rw [hkid] at h
        wp_walk using wpAny_loadPart' ho
        rw [a1]
        wp_walk using wpAny_loadPart' ho
        rw [a0]
        wp_walk using (wpAny_updateSeq ho rfl (hz := by rw [List.size_toArray]; exact hz) (_hz' := by simp; omega))
        refine ⟨plainId_quiet plain_sift _, codeAny_builtin entry_sift ?_⟩
        rw [Around.under_plainId plain_sift _]
        exact ih (swp xs (2 * pos + 1) pos) (2 * pos + 1) (by rw [swp_len]; omega) (by rw [swp_len]; omega) (by rw [swp_len]; exact hz) prog w A R _ ⟨upd_at ho (swp_arr hll hee), fun y hy => (hx y (swp_mem hy)).stay upd_oth, hu, Fin'.upd h⟩
    · rw [if_neg (show ¬ ((pos : Nat) : Int).toNat < xs.toArray.size / 2 from by rw [List.size_toArray]; exact hp0)]
      rw [if_neg hp0] at h
      wp_walk using wpAny_loadPart' ho
      refine ⟨plainId_quiet plain_sift _, codeAny_builtin entry_sift ?_⟩
      rw [Around.under_plainId plain_sift _]
      exact up_meets a k result xs.length xs pos hl hl hz prog w A R _ ⟨⟨n0, ho⟩, hx, hu, h⟩
theorem push_meets (a : Addr) (k : Value → Int × Int) (xs : List Value) (x : Value) (hz : xs.length < sizeLine) :
    Meets (Builtin.«_heapq.heappush» ⟨[.ref a, x], []⟩)
      (fun A R s => (∃ n0, s.heap.get? a = some { cls := .type "list", data := .seq xs.toArray n0 }) ∧ (∀ y ∈ xs ++ [x], IsPr s.heap a k y) ∧ A.in1.units < cLine ∧ Fin' a s R .none (hpush (ltK k) xs x)) := by
  intro prog w A R s h
  obtain ⟨hp, g, d, tk, os⟩ := s
  obtain ⟨⟨n0, ho⟩, hx, hu, h⟩ := h
  dsimp only at ho hx
  have f2 := AutoSeq1.sub_list_list
  obtain ⟨n1, ho1⟩ := upd_at (f := fun x_1 => x_1.push x) (ys := xs ++ [x]) ho (by simp)
  wp_walk using (wpAny_updateSeq ho rfl (hz := by rw [List.size_toArray]; omega) (_hz' := by simp; omega)), wpAny_loadPart' ho1
  refine ⟨plainId_quiet plain_sift _, codeAny_builtin entry_sift ?_⟩
  rw [Around.under_plainId plain_sift _]
  have e : (xs ++ [x]).toArray.size - 1 = xs.length := by simp
  rw [e]
  exact up_meets a k .none (xs.length + 1) (xs ++ [x]) xs.length (Nat.lt_succ_self _) (by simp) (by simp; omega) prog w A R _ ⟨⟨n1, ho1⟩, fun y hy => (hx y hy).stay upd_oth, hu, Fin'.upd h⟩
theorem pop_meets (a : Addr) (k : Value → Int × Int) (xs : List Value) (x : Value) (rest : List Value) (hp' : hpop (ltK k) xs = some (x, rest)) (hz : xs.length ≤ sizeLine) :
    Meets (Builtin.«_heapq.heappop» ⟨[.ref a], []⟩)
      (fun A R s => (∃ n0, s.heap.get? a = some { cls := .type "list", data := .seq xs.toArray n0 }) ∧ (∀ y ∈ xs, IsPr s.heap a k y) ∧ A.in1.units < cLine ∧ Fin' a s R x rest) := by
  intro prog w A R s h
  obtain ⟨hp, g, d, tk, os⟩ := s
  obtain ⟨⟨n0, ho⟩, hx, hu, h⟩ := h
  dsimp only at ho hx
  have f2 := AutoSeq1.sub_list_list
  unfold hpop at hp'
  cases h0 : xs[0]? with
  | none => rw [h0] at hp'; cases hp'
  | some y =>
  cases hl : xs.getLast? with
  | none => rw [h0, hl] at hp'; cases hp'
  | some l =>
  rw [h0, hl] at hp'
  dsimp only at hp'
  have hb : xs.toArray.back? = some l := by rw [List.back?_toArray]; exact hl
  have hi : xs.toArray[0]? = some y := by rw [List.getElem?_toArray]; exact h0
  obtain ⟨n1, ho1⟩ := upd_at (f := fun x_1 => x_1.pop) (ys := xs.dropLast) ho (by simp)
  wp_walk using wpAny_loadPart' ho
  rw [hb]
  wp_walk using (wpAny_updateSeq ho rfl (hz := by rw [List.size_toArray]; omega) (_hz' := by simp; omega)), wpAny_loadPart' ho
  by_cases h1 : xs.length = 1
  · rw [if_pos h1] at hp'
    injection hp' with hp'
    injection hp' with e1 e2
    subst e1 e2
    rw [if_pos (show (xs.toArray.size == 1) = true by simp [h1])]
    have hyl : y = l := by
      match xs, h1 with
      | [z], _ => simp at h0 hl; rw [← h0, ← hl]
    have hd : xs.dropLast = [] := by
      match xs, h1 with
      | [z], _ => rfl
    wp_walk
    rw [← hyl]
    rw [hd] at ho1
    exact h _ tk n1 ho1 fun b o hb e => upd_oth b o hb e
  · rw [if_neg h1] at hp'
    injection hp' with hp'
    injection hp' with e1 e2
    subst e1 e2
    rw [if_neg (show ¬ (xs.toArray.size == 1) = true by simpa using h1)]
    have hne : 1 < xs.length := by
      have : 0 < xs.length := (List.getElem?_eq_some_iff.mp h0).1
      omega
    obtain ⟨n2, ho2⟩ := upd_at (f := fun x_1 => x_1.setIfInBounds 0 l) (ys := xs.dropLast.set 0 l) ho1 (by simp)
    wp_walk
    rw [hi]
    wp_walk using (wpAny_updateSeq ho1 rfl (hz := by simp; omega) (_hz' := by simp; omega))
    refine ⟨plainId_quiet plain_sift _, codeAny_builtin entry_sift ?_⟩
    rw [Around.under_plainId plain_sift _]
    have mem : ∀ z ∈ xs.dropLast.set 0 l, z ∈ xs := fun z hz => by
      rcases List.mem_or_eq_of_mem_set hz with h | h
      · exact List.dropLast_subset _ h
      · rw [h]; exact List.mem_of_getLast? hl
    exact down_meets a k y xs.length (xs.dropLast.set 0 l) 0 (by simp) (by simp; omega) (by simp; omega) prog w A R _ ⟨⟨n2, ho2⟩, fun z hz => ((hx z (mem z hz)).stay upd_oth).stay upd_oth, hu, Fin'.upd (Fin'.upd h)⟩
end HQ

set_option maxRecDepth 100000
set_option maxHeartbeats 1000000
namespace HQ
open PySem PySem.Spec PyProof.Rows L2
abbrev ltV (k : V → Int × Int) : V → V → Bool := fun x y => ltI (k x) (k y)
def PrV (H : Hp) (k : V → Int × Int) (x : V) : Prop := ∃ t, x = V.ref t ∧ H t = some (.tup [.int (k x).1, .int (k x).2])
def rPush : List V → Hp → VK → Prop := fun vs H Q => ∃ (l : Addr) (xs : List V) (y : V) (k : V → Int × Int), vs = [V.ref l, y] ∧ H l = some (.lst xs) ∧ xs.length < sizeLine ∧ (∀ x ∈ xs ++ [y], PrV H k x) ∧
  Q .non (upd H l (.lst (hpush (ltV k) xs y)))
def rPop : List V → Hp → VK → Prop := fun vs H Q => ∃ (l : Addr) (xs : List V) (k : V → Int × Int) (y : V) (rest : List V), vs = [V.ref l] ∧ H l = some (.lst xs) ∧ (∀ x ∈ xs, PrV H k x) ∧ hpop (ltV k) xs = some (y, rest) ∧
  Q y (upd H l (.lst rest))
section
variable {X : Cx}
theorem isPr_of {pins : List (Addr × Obj)} {s : Shared} {σ : L2.St} {H : Hp} (I : Inv X pins σ H s) {l : Addr} {xs : List V} (hl : H l = some (.lst xs)) {k : V → Int × Int} {u : Value} (e : ∃ a, u = Value.ref a) (h : PrV H k (backV u)) : IsPr s.heap l (fun u => k (backV u)) u := by
  obtain ⟨t, rfl⟩ := e
  obtain ⟨t', e, ht⟩ := h
  cases e
  obtain ⟨_, its2, r2, o, ho, hc, n, hd⟩ := I.hok _ _ ht
  obtain ⟨u1, u2, rfl, ri, rj⟩ := vals2 r2
  obtain ⟨t1, rfl⟩ := ri
  obtain ⟨t2, rfl⟩ := rj
  exact ⟨t, t1, t2, rfl, ne_of ht hl (fun z => nomatch z), o, ho, hc, n, hd⟩
theorem cr_push (hu : X.A.units + 1 < cLine) : CallR X (.builtin "_heapq.heappush") rPush := by
  intro pins s σ H vs us Q I r h
  obtain ⟨l, xs, y, k, rfl, hl, hz, hx, q⟩ := h
  obtain ⟨z, its, n, rv, hlen, e⟩ := I.lstM hl
  obtain ⟨u1, u2, rfl, ru, ry⟩ := vals2 r
  obtain rfl : u1 = Value.ref l := ru
  obtain ⟨e1, e2⟩ := refs_back (rv.append (.cons ry .nil)) fun x m => by
    obtain ⟨t, e, _⟩ := hx x m
    exact ⟨t, e⟩
  rw [List.map_append] at e1
  have hxs : xs = its.map backV ∧ [y] = [u2].map backV := List.append_inj e1 (by rw [List.length_map, hlen])
  obtain ⟨hxs, hy⟩ := hxs
  have hy' : y = backV u2 := by simpa using hy
  refine call_function_meets kind_push plain_push entry_push (args_push _ _) (push_meets l (fun u => k (backV u)) its u2 (by omega)) ⟨⟨n, e⟩, fun v hv => isPr_of I hl (e2 v hv) (hx _ ?_), hu, fun h' tk n' g gk => ?_⟩
  · rw [hxs, hy]
    rw [← List.map_append]
    exact List.mem_map.mpr ⟨_, hv, rfl⟩
  · have hm := hpush_map (lt := ltK fun u => k (backV u)) (f := backV) (l := ltV k) (fun _ _ => rfl) its u2
    have h3 : ∀ u ∈ hpush (ltK fun u => k (backV u)) its u2, ∃ a, u = Value.ref a := fun u hu => e2 u (by
      rcases List.mem_cons.mp ((hpush_perm its u2).mem_iff.mp hu) with h | h
      · rw [h]; simp
      · exact List.mem_append_left _ h)
    refine ⟨.non, upd H l (.lst (hpush (ltV k) xs y)), I.write (x := l) (e := l) (by rw [hl]; exact trivial) (.inl rfl) gk ⟨_, g⟩ ⟨?_, _, n', ?_, g⟩, rfl, q⟩
    · rw [hpush_len]; omega
    · rw [hxs, hy', hm]
      exact vals_back h3
theorem cr_pop (hu : X.A.units + 1 < cLine) : CallR X (.builtin "_heapq.heappop") rPop := by
  intro pins s σ H vs us Q I r h
  obtain ⟨l, xs, k, y, rest, rfl, hl, hx, hp, q⟩ := h
  obtain ⟨z, its, n, rv, hlen, e⟩ := I.lstM hl
  obtain ⟨u, rfl, ru⟩ := vals1 r
  obtain rfl : u = Value.ref l := ru
  obtain ⟨e1, e2⟩ := refs_back rv fun x m => by
    obtain ⟨t, e, _⟩ := hx x m
    exact ⟨t, e⟩
  have hm := hpop_map (lt := ltK fun u => k (backV u)) (f := backV) (l := ltV k) (fun _ _ => rfl) its
  rw [← e1, hp] at hm
  cases h0 : hpop (ltK fun u => k (backV u)) its with
  | none => rw [h0] at hm; cases hm
  | some p =>
    obtain ⟨u, out⟩ := p
    rw [h0] at hm
    injection hm with hm
    injection hm with ey er
    have hsub : u ∈ its ∧ ∀ v ∈ out, v ∈ its := by
      unfold hpop at h0
      split at h0
      · rename_i a b ha hb
        split at h0
        · injection h0 with h0
          injection h0 with q1 q2
          subst q1 q2
          exact ⟨List.mem_of_getElem? ha, fun v hv => by simp at hv⟩
        · injection h0 with h0
          injection h0 with q1 q2
          subst q1 q2
          refine ⟨List.mem_of_getElem? ha, fun v hv => ?_⟩
          rcases List.mem_or_eq_of_mem_set ((down_perm _ _ _).mem_iff.mp hv) with h | h
          · exact List.dropLast_subset _ h
          · rw [h]; exact List.mem_of_getLast? hb
      · cases h0
    have hol : out.length ≤ its.length := by
      unfold hpop at h0
      split at h0
      · split at h0
        · injection h0 with h0
          injection h0 with q1 q2
          subst q2
          simp
        · injection h0 with h0
          injection h0 with q1 q2
          subst q2
          rw [down_len]
          simp
      · cases h0
    refine call_function_meets kind_pop plain_pop entry_pop (args_pop _) (pop_meets l (fun u => k (backV u)) its u out h0 (by omega)) ⟨⟨n, e⟩, fun v hv => isPr_of I hl (e2 v hv) (hx _ ?_), hu, fun h' tk n' g gk => ?_⟩
    · rw [e1]
      exact List.mem_map.mpr ⟨_, hv, rfl⟩
    · have h3 : ∀ v ∈ out, ∃ a, v = Value.ref a := fun v hv => e2 v (hsub.2 v hv)
      refine ⟨y, upd H l (.lst rest), I.write (x := l) (e := l) (by rw [hl]; exact trivial) (.inl rfl) gk ⟨_, g⟩ ⟨?_, _, n', ?_, g⟩, ?_, q⟩
      · rw [er, List.length_map]; show out.length ≤ sizeLine; omega
      · rw [er]; exact vals_back h3
      · rw [ey]
        obtain ⟨a, rfl⟩ := e2 u hsub.1
        rfl
end
end HQ

set_option maxRecDepth 100000
set_option maxHeartbeats 1000000
namespace Fr
open PySem PySem.Spec PyProof.Rows _root_.L2
/-! ### dicts with keys that are ints or texts; heappush, heappop; a name's own value given away -/
def toK : D → Option Key
  | .int i => some (.inl i)
  | .str x => some (.inr x)
  | _ => none
def kvGet : List Key → List D → Key → Option D
  | k :: ks, d :: ds, x => if k = x then some d else kvGet ks ds x
  | _, _, _ => none
def kvRep : List Key → List D → Key → D → List D
  | k :: ks, d :: ds, x, e => (if k = x then e else d) :: kvRep ks ds x e
  | _, _, _, _ => []
def kvPut (ks : List Key) (ds : List D) (x : Key) (e : D) : List Key × List D := if (ks.any fun k => decide (k = x)) = true then (ks, kvRep ks ds x e) else (ks ++ [x], ds ++ [e])
section
variable {K : PySem.W.Frag} {F0 G F F' H H' : Hp} {ρ ρ' : List Addr} {rts rts' : List (D × V)} {d : D} {v : V}
theorem rep_key {k : Key} {d : D} {v : V} (h : toK d = some k) (r : Rep K ρ F d v) : v = kV k := by
  cases d <;> simp [toK] at h
  case int i => subst h; unfold Rep at r; exact r
  case str i => subst h; unfold Rep at r; exact r
theorem kvGet_ok : ∀ {ks : List Key} {ds : List D} {kvs : List (Key × V)} (x : Key), kvs.map (·.1) = ks → RepL K ρ F ds (kvs.map (·.2)) → (match kvGet ks ds x with | some d => ∃ v, valV kvs x = some v ∧ Rep K ρ F d v | none => valV kvs x = none)
  | [], ds, kvs, x, e, r => by
    cases kvs with
    | nil => unfold kvGet; exact valV_nil
    | cons p q => cases e
  | k :: ks, ds, kvs, x, e, r => by
    cases kvs with
    | nil => cases e
    | cons p q =>
      obtain ⟨pk, pv⟩ := p
      injection e with e1 e2
      cases ds with
      | nil => have r' : RepL K ρ F [] (pv :: q.map (·.2)) := r; unfold RepL at r'; cases r'
      | cons d ds =>
        have r' : RepL K ρ F (d :: ds) (pv :: q.map (·.2)) := r
        unfold RepL at r'
        obtain ⟨v, t, e3, r1, r2⟩ := r'
        injection e3 with e4 e5
        subst e4 e5
        dsimp only at e1
        subst e1
        unfold kvGet
        by_cases h : pk = x
        · rw [if_pos h]
          exact ⟨pv, valV_pos h, r1⟩
        · rw [if_neg h]
          have ih := kvGet_ok (x := x) e2 r2
          have e : valV ((pk, pv) :: q) x = valV q x := valV_neg h
          rw [e]
          exact ih
theorem kvGet_val {ks : List Key} {ds : List D} {kvs : List (Key × V)} {x : Key} {d : D} (h : kvGet ks ds x = some d) (e : kvs.map (·.1) = ks) (r : RepL K ρ F ds (kvs.map (·.2))) : ∃ v, valV kvs x = some v ∧ Rep K ρ F d v := by
  have := kvGet_ok (x := x) e r
  rw [h] at this
  exact this
theorem kvGet_non {ks : List Key} {ds : List D} {kvs : List (Key × V)} {x : Key} (h : kvGet ks ds x = none) (e : kvs.map (·.1) = ks) (r : RepL K ρ F ds (kvs.map (·.2))) : valV kvs x = none := by
  have := kvGet_ok (x := x) e r
  rw [h] at this
  exact this
theorem kvRep_ok {e : D} {v : V} (re : Rep K ρ F e v) : ∀ {ds : List D} {kvs : List (Key × V)} (x : Key), RepL K ρ F ds (kvs.map (·.2)) → RepL K ρ F (kvRep (kvs.map (·.1)) ds x e) ((kvs.map fun kv => if kv.1 = x then (kv.1, v) else kv).map (·.2))
  | ds, [], x, r => by show RepL K ρ F [] []; unfold RepL; rfl
  | [], p :: q, x, r => by
    have r' : RepL K ρ F [] (p.2 :: q.map (·.2)) := r
    unfold RepL at r'
    cases r'
  | d :: ds, p :: q, x, r => by
    have r' : RepL K ρ F (d :: ds) (p.2 :: q.map (·.2)) := r
    unfold RepL at r'
    obtain ⟨v', t, e3, r1, r2⟩ := r'
    injection e3 with e4 e5
    subst e4 e5
    have ih := kvRep_ok re (kvs := q) x r2
    show RepL K ρ F ((if p.1 = x then e else d) :: kvRep (q.map (·.1)) ds x e) ((if p.1 = x then (p.1, v) else p).2 :: _)
    unfold RepL
    refine ⟨_, _, rfl, ?_, ih⟩
    by_cases h : p.1 = x
    · rw [if_pos h, if_pos h]; exact re
    · rw [if_neg h, if_neg h]; exact r1
theorem any_mem {kvs : List (Key × V)} {x : Key} : (kvs.any fun kv => decide (kv.1 = x)) = (kvs.map (·.1)).any fun k => decide (k = x) := by
  rw [List.any_map]
  rfl
theorem kvPut_ok {e : D} {v : V} (re : Rep K ρ F e v) {ks ks2 : List Key} {ds ds2 : List D} {kvs : List (Key × V)} {x : Key} (hk : kvs.map (·.1) = ks) (r : RepL K ρ F ds (kvs.map (·.2))) (h : kvPut ks ds x e = (ks2, ds2)) :
    (putK kvs x v).map (·.1) = ks2 ∧ RepL K ρ F ds2 ((putK kvs x v).map (·.2)) := by
  subst hk
  unfold kvPut at h
  unfold putK
  rw [any_mem]
  by_cases m : ((kvs.map (·.1)).any fun k => decide (k = x)) = true
  · rw [if_pos m] at h
    cases h
    rw [if_pos m]
    refine ⟨?_, kvRep_ok re x r⟩
    rw [List.map_map]
    refine List.map_congr_left fun p _ => ?_
    show (if p.1 = x then (p.1, v) else p).1 = p.1
    split <;> rfl
  · rw [if_neg m] at h
    cases h
    rw [if_neg m, List.map_append, List.map_append]
    refine ⟨rfl, r.app ?_⟩
    show RepL K ρ F [e] [v]
    unfold RepL
    exact ⟨v, [], rfl, re, by unfold RepL; rfl⟩
/-- all items frozen -/
theorem Core.itemsL {ds : List D} {a : Addr} (c : Core K F0 G F ρ ((.own ds, .ref a) :: rts) H) (hf : ds.all frzn = true) : ∃ us, H a = some (.lst us) ∧ RepL K ρ F ds us := by
  obtain ⟨fp, ow, nd, dj⟩ := c.own
  obtain ⟨f1, f2, rfl, q, t⟩ := ow.inv
  unfold Own at q
  obtain ⟨a', us, f, e1, h', ef, r⟩ := q
  cases e1
  exact ⟨us, h', OwnL.rep r hf⟩
theorem Core.itemsD {ks : List Key} {ds : List D} {a : Addr} (c : Core K F0 G F ρ ((.odic ks ds, .ref a) :: rts) H) (hf : ds.all frzn = true) : ∃ kvs, H a = some (.dK kvs) ∧ kvs.map (·.1) = ks ∧ RepL K ρ F ds (kvs.map (·.2)) := by
  obtain ⟨fp, ow, nd, dj⟩ := c.own
  obtain ⟨f1, f2, rfl, q, t⟩ := ow.inv
  unfold Own at q
  obtain ⟨a', us, f, e1, h', kk, ef, r⟩ := q
  cases e1
  exact ⟨us, h', kk, OwnL.rep r hf⟩
/-- what is own at a, made another thing of frozen parts -/
theorem Core.setO {d0 d1 : D} {a : Addr} {o : HO} (c : Core K F0 G F ρ ((d0, .ref a) :: rts) H) (h0 : ∀ fp, Own K ρ F H d0 (.ref a) fp → a ∈ fp) (h1 : Own K ρ F (upd H a o) d1 (.ref a) [a]) : Core K F0 G F ρ ((d1, .ref a) :: rts) (upd H a o) := by
  obtain ⟨fp, ow, nd, dj⟩ := c.own
  obtain ⟨f1, f2, rfl, q, t⟩ := ow.inv
  have ha := h0 _ q
  have hF : F a = none ∧ G a = none := dj a (List.mem_append_left _ ha)
  have na : a ∉ f2 := fun z => (List.nodup_append.mp nd).2.2 a ha a z rfl
  have t2 := t.mono (H' := upd H a o) Ex.rfl' (List.prefix_refl _) (fun b hb => upd_ne (fun z => na (by rw [← z]; exact hb)))
  refine ⟨fun b o e => ?_, fun b o e => ?_, c.f0, c.fg, [a] ++ f2, .cons h1 t2, ?_, fun b hb => ?_⟩
  · rw [upd_ne (ne_of_none e hF.2)]; exact c.g b o e
  · rw [upd_ne (ne_of_none e hF.1)]; exact c.f b o e
  · exact List.nodup_cons.mpr ⟨na, (List.nodup_append.mp nd).2.1⟩
  · rcases List.mem_cons.mp (show b ∈ a :: f2 from hb) with z | hb
    · rw [z]; exact hF
    · exact dj b (List.mem_append_right _ hb)
theorem own_hasL {ds : List D} {a : Addr} {fp : List Addr} (h : Own K ρ F H (.own ds) (.ref a) fp) : a ∈ fp := by
  unfold Own at h
  obtain ⟨a', us, f, e1, _, ef, _⟩ := h
  cases e1
  rw [ef]
  exact List.mem_cons_self ..
theorem own_hasD {ks : List Key} {ds : List D} {a : Addr} {fp : List Addr} (h : Own K ρ F H (.odic ks ds) (.ref a) fp) : a ∈ fp := by
  unfold Own at h
  obtain ⟨a', us, f, e1, _, _, ef, _⟩ := h
  cases e1
  rw [ef]
  exact List.mem_cons_self ..
theorem Core.setL {ds es : List D} {a : Addr} {zs : List V} (c : Core K F0 G F ρ ((.own ds, .ref a) :: rts) H) (r : RepL K ρ F es zs) : Core K F0 G F ρ ((.own es, .ref a) :: rts) (upd H a (.lst zs)) :=
  c.setO (fun _ h => own_hasL h) (by unfold Own; exact ⟨a, zs, [], rfl, upd_same, rfl, r.own⟩)
theorem Core.setD {ks ks' : List Key} {ds es : List D} {a : Addr} {kvs : List (Key × V)} (c : Core K F0 G F ρ ((.odic ks ds, .ref a) :: rts) H) (hk : kvs.map (·.1) = ks') (r : RepL K ρ F es (kvs.map (·.2))) : Core K F0 G F ρ ((.odic ks' es, .ref a) :: rts) (upd H a (.dK kvs)) :=
  c.setO (fun _ h => own_hasD h) (by unfold Own; exact ⟨a, kvs, [], rfl, upd_same, hk, rfl, r.own⟩)
/-- a dict at the head, own or frozen -/
theorem Core.anyD {dd : D} {ks : List Key} {ds : List D} {v : V} (c : Core K F0 G F ρ ((dd, v) :: rts) H) (e : dd = .odic ks ds ∧ ds.all frzn = true ∨ dd = .dic ks ds) : ∃ a kvs, v = .ref a ∧ H a = some (.dK kvs) ∧ kvs.map (·.1) = ks ∧ RepL K ρ F ds (kvs.map (·.2)) := by
  rcases e with ⟨rfl, hf⟩ | rfl
  · obtain ⟨a, kvs, rfl, _⟩ := c.headD
    obtain ⟨kvs, h1, h2, h3⟩ := c.itemsD hf
    exact ⟨a, kvs, rfl, h1, h2, h3⟩
  · obtain ⟨fp, ow, nd, dj⟩ := c.own
    obtain ⟨f1, f2, rfl, q, t⟩ := ow.inv
    have r := q.rep rfl
    unfold Rep at r
    obtain ⟨a, kvs, rfl, h, hk, rr⟩ := r
    exact ⟨a, kvs, rfl, c.f _ _ h, hk, rr⟩
end
/-- the dict at a name: own with frozen items, or frozen -/
def gDic (s : S) (i : Nat) : Option (List Key × List D) := (plc s i).bind fun r => (rget s r).bind fun d => match d with
  | .odic ks ds => if ds.all frzn = true then some (ks, ds) else none
  | .dic ks ds => some (ks, ds)
  | _ => none
theorem gDic_inv {s : S} {i : Nat} {ks : List Key} {ds : List D} (h : gDic s i = some (ks, ds)) : ∃ r d, plc s i = some r ∧ rget s r = some d ∧ (d = .odic ks ds ∧ ds.all frzn = true ∨ d = .dic ks ds) := by
  unfold gDic at h
  cases h1 : plc s i with
  | none => rw [h1] at h; cases h
  | some r =>
    rw [h1] at h
    cases h2 : rget s r with
    | none => simp [h2] at h
    | some d =>
      simp only [Option.bind_some, h2] at h
      split at h
      · split at h
        · rename_i hf
          cases h
          exact ⟨r, _, rfl, h2, .inl ⟨rfl, hf⟩⟩
        · cases h
      · cases h
        exact ⟨r, _, rfl, h2, .inr rfl⟩
      · cases h
/-- e in d, d a dict at a name -/
def cInD (f : Bool → Bool) (i : Nat) (ce : C) : C := fun s => match ce s with
  | some (x, s1) => (match gDic s1 i with
    | some (ks, ds) => (toK x).map fun k => (.bl (f (kvGet ks ds k).isSome), s1)
    | none => none)
  | none => none
def cGetD (i : Nat) (ce : C) : C := fun s => match gDic s i with
  | some _ => (match ce s with
    | some (x, s1) => (match gDic s1 i with
      | some (ks, ds) => (toK x).bind fun k => (kvGet ks ds k).map fun d => (d, s1)
      | none => none)
    | none => none)
  | none => none
/-- o.get(e) -/
def cGet1 (co ce : C) : C := fun s => match co s with
  | some (.dic ks ds, s1) => (match ce s1 with
    | some (x, s2) => (toK x).map fun k => ((kvGet ks ds k).getD .non, s2)
    | none => none)
  | _ => none
/-- d.get(e, f), d a dict at a name -/
def cGet2 (i : Nat) (ce cf : C) : C := fun s => match gDic s i with
  | some _ => (match ce s with
    | some (x, s1) => (match cf s1 with
      | some (y, s2) => (match gDic s2 i with
        | some (ks, ds) => (toK x).map fun k => ((kvGet ks ds k).getD y, s2)
        | none => none)
      | none => none)
    | none => none)
  | none => none
/-- d[e] = v, d an own dict at a name -/
def cPutD (i : Nat) (ci cv : C) : Cs := fun s => match cv s with
  | some (y, s1) => (match plc s1 i with
    | none => none
    | some _ => match ci s1 with
      | some (x, s2) => (match plc s2 i with
        | none => none
        | some r => match rget s2 r with
          | some (.odic ks ds) => if ds.all frzn = true ∧ ks.length < line then (toK x).map fun k => (.next, rset s2 r (.odic (kvPut ks ds k y).1 (kvPut ks ds k y).2)) else none
          | _ => none)
      | none => none)
  | none => none
/-- heappush(x, e), heappop(x): x an own list of pairs of ints at a name -/
def cHPush (i : Nat) (ce : C) : C := fun s => match plc s i with
  | none => none
  | some _ => match ce s with
    | some (d, s1) => (match plc s1 i with
      | none => none
      | some r => match rget s1 r with
        | some (.own ds) => (prsOf ds).bind fun ps => (prsOf [d]).bind fun q => match q with
          | [p] => if ds.length < line then some (.non, rset s1 r (.own ((HQ.hpush HQ.ltI ps p).map dPr))) else none
          | _ => none
        | _ => none)
    | none => none
def cHPop (i : Nat) : C := fun s => match plc s i with
  | none => none
  | some r => match rget s r with
    | some (.own ds) => (prsOf ds).bind fun ps => (HQ.hpop HQ.ltI ps).map fun q => (dPr q.1, rset s r (.own (q.2.map dPr)))
    | _ => none
/-- a name's own value is given away -/
def cMv (i : Nat) : C := fun s => match s.env[i]? with
  | some (.own ds) => some (.own ds, { s with env := s.env.set i .unb })
  | some (.odic ks ds) => some (.odic ks ds, { s with env := s.env.set i .unb })
  | _ => none
section
variable {X : Cx} {e b o f : Expr} {es : List Expr} {pos p apos cpos : Pos} {ce cf co ci cv : C}
theorem dDic {K : PySem.W.Frag} {F0 G F : Hp} {ρ : List Addr} {s : S} {σ : L2.St} {vs : List V} {H : Hp} {i : Nat} {ks : List Key} {ds : List D} (m : Sim K F0 G F ρ [] s σ vs H) (h : gDic s i = some (ks, ds)) :
    ∃ a kvs, σ[i]? = some (some (.ref a)) ∧ H a = some (.dK kvs) ∧ kvs.map (·.1) = ks ∧ RepL K ρ F ds (kvs.map (·.2)) := by
  obtain ⟨r, d, h1, h2, h3⟩ := gDic_inv h
  obtain ⟨v, rest, hv, c, _⟩ := m.focus h1 h2
  obtain ⟨a, kvs, rfl, ha, hk, hr⟩ := c.anyD h3
  exact ⟨a, kvs, hv, ha, hk, hr⟩
theorem tInD_ok {fb : Bool → Bool} {i : Nat} {σ : L2.St} {H : Hp} {Q : VK} (h : tO X.K (cInD fb i ce) σ H Q) :
    tV X.K ce σ H fun y H1 => tVar i σ H1 fun x H2 => ∃ a o, x = .ref a ∧ DGet H2 a y o ∧ Q (.bl (fb o.isSome)) H2 := by
  obtain ⟨F0, G, F, ρ, vs, s, d, s', m, hc, k⟩ := h
  unfold cInD at hc
  split at hc
  case h_2 => cases hc
  rename_i x s1 h1
  split at hc
  case h_2 => cases hc
  rename_i ks ds h2
  cases h3 : toK x with
  | none => rw [h3] at hc; cases hc
  | some kk =>
    rw [h3] at hc
    cases hc
    refine ⟨F0, G, F, ρ, vs, s, x, s', m, h1, fun F1 ρ1 vs1 y H1 e1 p1 m1 r1 => ?_⟩
    obtain ⟨a, kvs, hv, ha, hk, hr⟩ := dDic m1 h2
    have ey := rep_key h3 r1
    subst ey
    refine ⟨_, hv, a, valV kvs kk, rfl, .k ha, ?_⟩
    have e : (kvGet ks ds kk).isSome = (valV kvs kk).isSome := by
      have := kvGet_ok (x := kk) hk hr
      cases h4 : kvGet ks ds kk with
      | none => rw [h4] at this; rw [this]; rfl
      | some d => rw [h4] at this; obtain ⟨v, e, _⟩ := this; rw [e]; rfl
    rw [← e]
    exact k F1 ρ1 vs1 _ H1 e1 p1 (m1.push (rep_b _))
theorem po_inD {i : Nat} {x : Str} (hu : X.A.units + 1 < cLine) (he : PV X e ce) (hx : PE X (.Name x p) (tVar i)) (hm : behindInMarks .In (.Name x p) = false := by rfl) : PO' X (.Compare e [.In] [.Name x p] pos) (cInD id i ce) :=
  pe_w (pe_cmp (pc_din hu he hx) hm) fun σ H Q h => tInD_ok h
theorem po_niD {i : Nat} {x : Str} (hu : X.A.units + 1 < cLine) (he : PV X e ce) (hx : PE X (.Name x p) (tVar i)) (hm : behindInMarks .NotIn (.Name x p) = false := by rfl) : PO' X (.Compare e [.NotIn] [.Name x p] pos) (cInD not i ce) :=
  pe_w (pe_cmp (pc_dnotin hu he hx) hm) fun σ H Q h => tInD_ok h
theorem tB_of {c : C} {t : TE} (h : ∀ σ H Q, tO X.K c σ H Q → t σ H Q) : ∀ σ H Q, tT X.K (cT c) σ H Q → tB t σ H Q := fun σ H Q ⟨F0, G, F, ρ, vs, s, d, s', m, hc, k⟩ => h _ _ _
  ⟨F0, G, F, ρ, vs, s, .bl d, s', m, cT_inv hc, fun F' ρ' vs' v H' e p m' => by
    obtain ⟨F'', e2, m2, r⟩ := m'.freeze
    have : Rep X.K ρ' F'' (.bl d) v := r
    exact ⟨d, this.ofB, k F'' ρ' vs' H' (e.tr e2) p m2⟩⟩
theorem pb_inD {i : Nat} {x : Str} (hu : X.A.units + 1 < cLine) (he : PV X e ce) (hx : PE X (.Name x p) (tVar i)) (hm : behindInMarks .In (.Name x p) = false := by rfl) : PB X (.Compare e [.In] [.Name x p] pos) (cT (cInD id i ce)) :=
  pt_w (pt_cmp (pc_din hu he hx) hm) (tB_of fun σ H Q h => tInD_ok h)
theorem pb_niD {i : Nat} {x : Str} (hu : X.A.units + 1 < cLine) (he : PV X e ce) (hx : PE X (.Name x p) (tVar i)) (hm : behindInMarks .NotIn (.Name x p) = false := by rfl) : PB X (.Compare e [.NotIn] [.Name x p] pos) (cT (cInD not i ce)) :=
  pt_w (pt_cmp (pc_dnotin hu he hx) hm) (tB_of fun σ H Q h => tInD_ok h)
theorem pv_getD {i : Nat} {x : Str} (hu : X.A.units + 1 < cLine) (hx : PE X (.Name x p) (tVar i)) (he : PV X e ce) (hs : NoSl e := by exact fun _ _ => rfl) : PV X (.Subscript (.Name x p) e pos) (cGetD i ce) :=
  pe_w (pe_dget hu hx he hs) fun σ H Q ⟨F0, G, F, ρ, vs, s, d, s', m, hc, k⟩ => by
    unfold cGetD at hc
    split at hc
    case h_2 => cases hc
    rename_i q0 h0
    obtain ⟨ks0, ds0⟩ := q0
    obtain ⟨a0, kvs0, hv0, _, _, _⟩ := dDic m h0
    refine ⟨_, hv0, ?_⟩
    split at hc
    case h_2 => cases hc
    rename_i x s1 h1
    split at hc
    case h_2 => cases hc
    rename_i ks ds h2
    cases h3 : toK x with
    | none => rw [h3] at hc; cases hc
    | some kk =>
      rw [h3] at hc
      cases h4 : kvGet ks ds kk with
      | none => simp [h4] at hc
      | some dd =>
        simp only [Option.bind_some, h4, Option.map_some] at hc
        cases hc
        refine ⟨F0, G, F, ρ, vs, s, x, s', m, h1, fun F1 ρ1 vs1 y H1 e1 p1 m1 r1 => ?_⟩
        obtain ⟨a, kvs, hv, ha, hk, hr⟩ := dDic m1 h2
        rw [hv0] at hv
        cases hv
        have ey := rep_key h3 r1
        subst ey
        obtain ⟨v, e4, r4⟩ := kvGet_val h4 hk hr
        refine ⟨a0, v, rfl, ?_, k F1 ρ1 vs1 _ H1 e1 p1 m1 r4⟩
        rw [← e4]
        exact .k ha
theorem pv_get1 (hu : X.A.units + 1 < cLine) (ho : PV X o co) (he : PV X e ce) (m : M1 X o "get" apos e cpos := by exact ⟨rfl, rfl, rfl, rfl⟩) : PV X (.Call (.Attribute o "get" apos) [e] [] cpos) (cGet1 co ce) :=
  pe_w (pe_dget1 hu ho he m) fun σ H Q ⟨F0, G, F, ρ, vs, s, d, s', m, hc, k⟩ => by
    unfold cGet1 at hc
    split at hc
    case h_2 => cases hc
    rename_i ks ds s1 h1
    split at hc
    case h_2 => cases hc
    rename_i x s2 h2
    cases h3 : toK x with
    | none => rw [h3] at hc; cases hc
    | some kk =>
      rw [h3] at hc
      cases hc
      refine ⟨F0, G, F, ρ, vs, s, _, s1, m, h1, fun F1 ρ1 vs1 y H1 e1 p1 m1 r1 => ?_⟩
      have r1' := r1
      unfold Rep at r1'
      obtain ⟨a, kvs, rfl, ha, hk, hr⟩ := r1'
      refine ⟨a, rfl, .inl ⟨kvs, .inl (m1.core.f _ _ ha)⟩, F0, G, F1, ρ1, vs1, s1, x, s', m1, h2, fun F2 ρ2 vs2 z H2 e2 p2 m2 r2 => ?_⟩
      have ey := rep_key h3 r2
      subst ey
      refine ⟨valV kvs kk, .k (m2.core.f _ _ (e2 _ _ ha)), ?_⟩
      refine k F2 ρ2 vs2 _ H2 (e1.tr e2) (p1.trans p2) m2 ?_
      cases h4 : kvGet ks ds kk with
      | none => rw [kvGet_non h4 hk hr]; show Rep _ _ _ .non .non; unfold Rep; rfl
      | some dd =>
        obtain ⟨v, e4, r4⟩ := kvGet_val h4 hk hr
        rw [e4]
        exact r4.mono e2 p2
theorem pv_get2 {i : Nat} {x : Str} (hu : X.A.units + 1 < cLine) (hx : PE X (.Name x p) (tVar i)) (he : PV X e ce) (hf : PV X f cf) (m : M2 X (.Name x p) "get" apos e f cpos := by exact ⟨rfl, rfl, rfl, rfl⟩) : PV X (.Call (.Attribute (.Name x p) "get" apos) [e, f] [] cpos) (cGet2 i ce cf) :=
  pe_w (pe_dget2 hu hx he hf m) fun σ H Q ⟨F0, G, F, ρ, vs, s, d, s', m, hc, k⟩ => by
    unfold cGet2 at hc
    split at hc
    case h_2 => cases hc
    rename_i q0 h0
    obtain ⟨ks0, ds0⟩ := q0
    obtain ⟨a0, kvs0, hv0, ha0, _, _⟩ := dDic m h0
    refine ⟨_, hv0, a0, rfl, .inl ⟨_, .inl ha0⟩, ?_⟩
    split at hc
    case h_2 => cases hc
    rename_i x s1 h1
    split at hc
    case h_2 => cases hc
    rename_i y s2 h2
    split at hc
    case h_2 => cases hc
    rename_i ks ds h3
    cases h4 : toK x with
    | none => rw [h4] at hc; cases hc
    | some kk =>
      rw [h4] at hc
      cases hc
      refine ⟨F0, G, F, ρ, vs, s, x, s1, m, h1, fun F1 ρ1 vs1 yv H1 e1 p1 m1 r1 => ?_⟩
      refine ⟨F0, G, F1, ρ1, vs1, s1, y, s', m1, h2, fun F2 ρ2 vs2 z H2 e2 p2 m2 r2 => ?_⟩
      obtain ⟨a, kvs, hv, ha, hk, hr⟩ := dDic m2 h3
      rw [hv0] at hv
      cases hv
      have ey := rep_key h4 r1
      subst ey
      refine ⟨valV kvs kk, .k ha, k F2 ρ2 vs2 _ H2 (e1.tr e2) (p1.trans p2) m2 ?_⟩
      cases h5 : kvGet ks ds kk with
      | none => rw [kvGet_non h5 hk hr]; exact r2
      | some dd =>
        obtain ⟨v, e4, r4⟩ := kvGet_val h5 hk hr
        rw [e4]
        exact r4
theorem pt_putD {i : Nat} {x : Str} {ix value : Expr} {tpos : Pos} (hu : X.A.units + 1 < cLine) (hx : PE X (.Name x p) (tVar i)) (hi : PV X ix ci) (hv : PV X value cv)
    (hs : swapsWith value (some (.Subscript (.Name x p) ix tpos)) pos.line X.env = pure false := by rfl) : PSt X (.Assign [.Subscript (.Name x p) ix tpos] value pos) (cPutD i ci cv) :=
  ps_w (ps_dput hu hx hi hv hs) fun D σ H ⟨F0, G, F, ρ, vs, s, fl, s', m, hc, post⟩ => by
    unfold cPutD at hc
    split at hc
    case h_2 => cases hc
    rename_i y s1 h1
    refine ⟨F0, G, F, ρ, vs, s, y, s1, m, h1, fun F1 ρ1 vs1 v H1 e1 p1 m1 r1 => ?_⟩
    cases h2 : plc s1 i with
    | none => rw [h2] at hc; cases hc
    | some r0 =>
      rw [h2] at hc
      dsimp only at hc
      obtain ⟨v0, hv0⟩ := m1.named h2
      refine ⟨v0, hv0, ?_⟩
      split at hc
      case h_2 => cases hc
      rename_i x s2 h3
      refine ⟨F0, G, F1, ρ1, vs1, s1, x, s2, m1, h3, fun F2 ρ2 vs2 w H2 e2 p2 m2 r2 => ?_⟩
      cases h4 : plc s2 i with
      | none => rw [h4] at hc; cases hc
      | some r =>
        rw [h4] at hc
        dsimp only at hc
        split at hc
        case h_2 => cases hc
        rename_i ks ds h5
        split at hc
        case isFalse => cases hc
        rename_i hf
        cases h6 : toK x with
        | none => rw [h6] at hc; cases hc
        | some kk =>
          rw [h6] at hc
          cases hc
          obtain ⟨v1, rest, hv1, c, back⟩ := m2.focus h4 h5
          rw [hv0] at hv1
          cases hv1
          obtain ⟨a, kvs0, rfl, _⟩ := c.headD
          obtain ⟨kvs, ha, hk, hr⟩ := c.itemsD hf.1
          have ey := rep_key h6 r2
          subst ey
          obtain ⟨q1, q2⟩ := kvPut_ok (r1.mono e2 p2) (x := kk) hk hr (ks2 := (kvPut ks ds kk y).1) (ds2 := (kvPut ks ds kk y).2) rfl
          refine ⟨a, _, rfl, .k ha (line_lt ?_), ?_⟩
          · have : kvs.length = ks.length := by rw [← hk, List.length_map]
            rw [this]
            exact hf.2
          · exact post F2 ρ2 vs2 σ _ (e1.tr e2) (p1.trans p2) (back F2 [] _ _ (fun z => by cases z) (c.setD q1 q2))
theorem allPr (ps : List (Int × Int)) : (ps.map dPr).all frzn = true := by
  rw [List.all_map]
  exact List.all_eq_true.mpr fun _ _ => rfl
theorem po_hpush {i : Nat} {x y : Str} {q : Pos} (hu : X.A.units + 1 < cLine) (hg : Gl X y) (hm : X.mg y = some (.builtin "_heapq.heappush")) (hx : PE X (.Name x p) (tVar i)) (he : PV X e ce) (hdb : (y == ("__debug__" : Str)) = false := by decide)
    (hs : starEach [.Name x p, e] X.env = (false, eval (.Name x p) X.env) :: starEach [e] X.env := by rfl) (hs2 : starEach [e] X.env = (false, eval e X.env) :: starEach [] X.env := by rfl) (hpl : (backTo pos (starEach [e] X.env)).any (·.1) = false := by rfl) :
    PO' X (.Call (.Name y q) [.Name x p, e] [] pos) (cHPush i ce) :=
  pe_w (pe_callBfun (HQ.cr_push hu) hg hm (pa_cons hx (pa_cons he pa_nil hs2) hs) hdb hs hpl) fun σ H Q ⟨F0, G, F, ρ, vs, s, d, s', m, hc, k⟩ => by
    unfold cHPush at hc
    cases h2 : plc s i with
    | none => rw [h2] at hc; cases hc
    | some r0 =>
      rw [h2] at hc
      dsimp only at hc
      obtain ⟨v0, hv0⟩ := m.named h2
      refine ⟨v0, hv0, ?_⟩
      split at hc
      case h_2 => cases hc
      rename_i d1 s1 h3
      refine ⟨F0, G, F, ρ, vs, s, d1, s1, m, h3, fun F1 ρ1 vs1 w H1 e1 p1 m1 r1 => ?_⟩
      cases h4 : plc s1 i with
      | none => rw [h4] at hc; cases hc
      | some r =>
        rw [h4] at hc
        dsimp only at hc
        split at hc
        case h_2 => cases hc
        rename_i ds h5
        cases h6 : prsOf ds with
        | none => rw [h6] at hc; cases hc
        | some ps =>
          rw [h6] at hc
          cases h7 : prsOf [d1] with
          | none => simp [h7] at hc
          | some qs =>
            simp only [Option.bind_some, h7] at hc
            split at hc
            case h_2 => cases hc
            rename_i pp
            split at hc
            case isFalse => cases hc
            rename_i hz
            cases hc
            have ed := prsOf_eq h6
            subst ed
            have ed1 := prsOf_eq h7
            have ed2 : d1 = dPr pp := by injection ed1
            subst ed2
            obtain ⟨v1, rest, hv1, c, back⟩ := m1.focus h4 h5
            rw [hv0] at hv1
            cases hv1
            obtain ⟨a, us0, rfl, _, hl⟩ := c.headL
            obtain ⟨us, ha, hr⟩ := c.itemsL (allPr ps)
            have hr2 : RepL X.K ρ1 F1 ((ps ++ [pp]).map dPr) (us ++ [w]) := by
              rw [List.map_append]
              refine hr.app ?_
              show RepL _ _ _ [dPr pp] [w]
              unfold RepL
              exact ⟨w, [], rfl, r1, by unfold RepL; rfl⟩
            obtain ⟨hkk, hx⟩ := repL_prs c.f hr2
            rw [List.map_append] at hkk
            have hlen : us.length = ps.length := by rw [← hr.len, List.length_map]
            obtain ⟨hk1, hk2⟩ := List.append_inj hkk (by rw [List.length_map, hlen])
            have hk3 : keyV H1 w = pp := by simpa using hk2
            have hm2 := HQ.hpush_map (lt := HQ.ltV (keyV H1)) (f := keyV H1) (l := HQ.ltI) (fun _ _ => rfl) us w
            rw [hk1, hk3] at hm2
            have mem : ∀ z ∈ HQ.hpush (HQ.ltV (keyV H1)) us w, z ∈ us ++ [w] := fun z hz => by
              rcases List.mem_cons.mp ((HQ.hpush_perm us w).mem_iff.mp hz) with h | h
              · rw [h]; simp
              · exact List.mem_append_left _ h
            refine ⟨a, us, w, keyV H1, rfl, ha, line_lt ?_, fun z hz => ?_, ?_⟩
            · rw [hlen]
              have : (ps.map dPr).length = ps.length := List.length_map ..
              omega
            · obtain ⟨t, e1, e2⟩ := hx z hz
              exact ⟨t, e1, c.f _ _ e2⟩
            · have c2 := c.setL (prs_repL (K := X.K) (ρ := ρ1) (keyV H1) fun z hz => hx z (mem z hz))
              rw [← hm2] at c2
              exact k F1 ρ1 vs1 .non _ e1 p1 ((back F1 [] _ _ (fun z => by cases z) c2).push (by unfold Rep; rfl))
theorem po_hpop {i : Nat} {x y : Str} {q : Pos} (hu : X.A.units + 1 < cLine) (hg : Gl X y) (hm : X.mg y = some (.builtin "_heapq.heappop")) (hx : PE X (.Name x p) (tVar i)) (hdb : (y == ("__debug__" : Str)) = false := by decide)
    (hs : starEach [.Name x p] X.env = (false, eval (.Name x p) X.env) :: starEach [] X.env := by rfl) (hpl : (backTo pos (starEach [] X.env)).any (·.1) = false := by rfl) :
    PO' X (.Call (.Name y q) [.Name x p] [] pos) (cHPop i) :=
  pe_w (pe_callBfun (HQ.cr_pop hu) hg hm (pa_cons hx pa_nil hs) hdb hs hpl) fun σ H Q ⟨F0, G, F, ρ, vs, s, d, s', m, hc, k⟩ => by
    unfold cHPop at hc
    cases h2 : plc s i with
    | none => rw [h2] at hc; cases hc
    | some r =>
      rw [h2] at hc
      dsimp only at hc
      split at hc
      case h_2 => cases hc
      rename_i ds h5
      cases h6 : prsOf ds with
      | none => rw [h6] at hc; cases hc
      | some ps =>
        rw [h6] at hc
        cases h7 : HQ.hpop HQ.ltI ps with
        | none => simp [h7] at hc
        | some pr =>
          obtain ⟨pp, rest0⟩ := pr
          simp only [Option.bind_some, h7, Option.map_some] at hc
          cases hc
          have ed := prsOf_eq h6
          subst ed
          obtain ⟨v1, rest, hv1, c, back⟩ := m.focus h2 h5
          refine ⟨v1, hv1, ?_⟩
          obtain ⟨a, us0, rfl, _, hl⟩ := c.headL
          obtain ⟨us, ha, hr⟩ := c.itemsL (allPr ps)
          obtain ⟨hk, hx⟩ := repL_prs c.f hr
          have hm2 := HQ.hpop_map (lt := HQ.ltV (keyV H)) (f := keyV H) (l := HQ.ltI) (fun _ _ => rfl) us
          rw [hk, h7] at hm2
          cases h8 : HQ.hpop (HQ.ltV (keyV H)) us with
          | none => rw [h8] at hm2; cases hm2
          | some pr =>
            obtain ⟨w, ws⟩ := pr
            rw [h8] at hm2
            simp only [Option.map_some] at hm2
            injection hm2 with hm2
            injection hm2 with q1 q2
            subst q1 q2
            have mem : w ∈ us ∧ ∀ z ∈ ws, z ∈ us := by
              unfold HQ.hpop at h8
              split at h8
              · rename_i a b ha hb
                split at h8
                · injection h8 with h8
                  injection h8 with q1 q2
                  subst q1 q2
                  exact ⟨List.mem_of_getElem? ha, fun v hv => by simp at hv⟩
                · injection h8 with h8
                  injection h8 with q1 q2
                  subst q1 q2
                  refine ⟨List.mem_of_getElem? ha, fun v hv => ?_⟩
                  rcases List.mem_or_eq_of_mem_set ((HQ.down_perm _ _ _).mem_iff.mp hv) with h | h
                  · exact List.dropLast_subset _ h
                  · rw [h]; exact List.mem_of_getLast? hb
              · cases h8
            refine ⟨a, us, keyV H, w, ws, rfl, ha, fun z hz => ?_, h8, ?_⟩
            · obtain ⟨t, e1, e2⟩ := hx z hz
              exact ⟨t, e1, c.f _ _ e2⟩
            · have c2 := c.setL (prs_repL (K := X.K) (ρ := ρ) (keyV H) fun z hz => hx z (mem.2 z hz))
              have m2 := back F [] _ _ (fun z => by cases z) c2
              refine k F ρ vs w _ Ex.rfl' (List.prefix_refl _) (m2.push ?_)
              have := prs_repL (K := X.K) (ρ := ρ) (us := [w]) (keyV H) fun z hz => hx z (by rw [List.mem_singleton.mp hz]; exact mem.1)
              obtain ⟨v', e1, r1⟩ := repl1 this
              cases e1
              exact r1
theorem hu1 {k : Nat} (hr : Room k X.A) : X.A.units + 1 < cLine := by have := hu65 hr; omega
end
end Fr

set_option maxRecDepth 100000
set_option maxHeartbeats 4000000
namespace K07
open PySem PySem.Spec PyProof.Rows _root_.L2 Fr
def topS (i : Nat) : Stmt := PySem.Challenge.pw_aheadcells_k07_whole_how_far_ahead.main.body.getD i (.Pass ⟨0, 0, 0, 0⟩)
structure Tx (K : PySem.W.Frag) (mg : Str → Option Value) (C : Addr) : Prop where
  n_ValueError : mg "ValueError" = none
  n_abs : mg "abs" = none
  n_all : mg "all" = none
  n_bool : mg "bool" = none
  n_enumerate : mg "enumerate" = none
  n_int : mg "int" = none
  n_isinstance : mg "isinstance" = none
  n_len : mg "len" = none
  n_list : mg "list" = none
  n_min : mg "min" = none
  n_range : mg "range" = none
  n_set : mg "set" = none
  n_tuple : mg "tuple" = none
  c_MOST_LINKS : ∃ t, mg "MOST_LINKS" = some (.int 40 t)
  c_MOST_ROUNDS : ∃ t, mg "MOST_ROUNDS" = some (.int 6 t)
  c_MOST_STEPS : ∃ t, mg "MOST_STEPS" = some (.int 12 t)
  h_heappop : mg "heappop" = some (.builtin "_heapq.heappop")
  h_heappush : mg "heappush" = some (.builtin "_heapq.heappush")
  cls : Cls K C
  a_befores : NoAttr K C "befores"
  a_needs : NoAttr K C "needs"
  a_steps : NoAttr K C "steps"
abbrev NS : List Nat := [1]
abbrev HS : List Nat := [0, 1]
def subE (n h : Nat) : Bool := (n == 1 && h == 0) || (n == 1 && h == 1)
abbrev s_x1 : Stmt := inClass (topS 17) 0
theorem sc_x1 : FnScope ["self"] ["self"] (defScope s_x1) := ⟨rfl, rfl, rfl, by decide +kernel, rfl, by decide +kernel, by decide +kernel⟩
structure Tz (P : Program) (w : World) (K : PySem.W.Frag) (mg : Str → Option Value) (base : Heap) (ea : Nat → Addr) : Prop where
  g_CellError : mg "CellError" = some (.ref (ea 0))
  g_NoStep : mg "NoStep" = some (.ref (ea 1))
  e_NoStep : Ex0 P w K mg base ea "NoStep" 1
  ei : ∀ k ∈ NS, ExcC K (ea k) ∧ PySem.W.kitOne K (.ref (ea k)) (.ref (ea 0)) = some true ∧ PySem.W.kitOne K (.ref (ea k)) (.type "ValueError") = some true
  x : ∀ n ∈ NS, ∀ h ∈ HS, PySem.W.exmOne K (.ref (ea n)) (.ref (ea h)) = some (subE n h)
section
variable {ea : Nat → Addr}
variable {P : Program} {w : World} {K : PySem.W.Frag} {mg : Str → Option Value} {base : Heap} {C : Addr}
/-! _law_hand -/
abbrev s__law_hand : Stmt := topS 29
theorem sc__law_hand : FnScope ["_law_script", "_law_cell", "_law_cells"] ["_law_script"] (defScope s__law_hand) := ⟨rfl, rfl, rfl, by decide +kernel, rfl, by decide +kernel, by decide +kernel⟩
noncomputable def t__law_hand_1 (C : Addr) (w : World) : Cs := (cAsg 2 (cLc (itS (cF (cSl (cVar 0) cNoP (cPart (cK (.int 63)))))) [1] (gN 1) bYes (cCB gAbs (cCons (cF (cCB gInt (cCons (cVar 1) cNil))) cNil))))
noncomputable def t__law_hand_2 (C : Addr) (w : World) : Cs := (cRet (cLst (cCons (cVar 2) (cCons (cK (.int 0)) (cCons (cK (.int 0)) (cCons (cF (cBin gAdd (cK (.int 1)) (cF (cLenP 2)))) (cCons (cK (.int 0)) cNil)))))))
noncomputable def c__law_hand (C : Addr) (w : World) : Cs := (cSeq (t__law_hand_1 C w)
    (t__law_hand_2 C w))
noncomputable def m__law_hand (C : Addr) (w : World) : MF := mOf 3 (c__law_hand C w)
theorem ok__law_hand {f : Addr} {fd : FuncData} (Fn : Fun K "_law_hand" "_law_hand" s__law_hand f fd) (T : Tx K mg C) (Z : Tz P w K mg base ea)  : FnOk P w K mg base CX0 1 f fd ["_law_script"] (spD K 1 (m__law_hand C w)) := by
  have sc := sc__law_hand
  exact fn_d Fn sc (by decide) fun cdv A outer s H E hr => (pl_cons (by first | exact (ps_as (i := 2) sc.nd rfl (by first | exact .inl rfl | exact .inr rfl) (po_lc rfl sc.nd (pi_s (pv_po (po_sl (pv_var 0) pp_no (pp_so pv_int)))) (blkOk_by (own := [("_law_cell", 1)]) (by rfl)) (fun _ _ _ _ _ => (pg_n (i := 1) sc.nd rfl (by first | exact .inl rfl | exact .inr rfl))) (fun _ _ _ _ _ => pt_yes) (fun _ _ _ _ _ => (kAbs (by rfl) T.n_abs (pv_po (kInt (by rfl) T.n_int (pv_var 1))))) (by decide))) | exact (ps_asLc (i := 2) rfl sc.nd rfl rfl rfl (pi_s (pv_po (po_sl (pv_var 0) pp_no (pp_so pv_int)))) (blkOk_by (own := [("_law_cell", 1)]) (by rfl)) (fun _ _ _ _ _ => (pg_n (i := 1) sc.nd rfl (by first | exact .inl rfl | exact .inr rfl))) (fun _ _ _ _ _ => pt_yes) (fun _ _ _ _ _ => (kAbs (by rfl) T.n_abs (pv_po (kInt (by rfl) T.n_int (pv_var 1))))) (by decide)))
    (pl_one (pt_ret (po_lst (pa_c (pv_var 2) (pa_c pv_int (pa_c pv_int (pa_c (pv_po (po_add pv_int (pv_po (po_lenP (pv 2) (by rfl) T.n_len)))) (pa_c pv_int pa_n)))))))))

/-! _law_draw -/
abbrev s__law_draw : Stmt := topS 30
theorem sc__law_draw : FnScope ["_law_hand_here", "_law_many", "_law_cell", "_law_digit", "_law_number"] ["_law_hand_here", "_law_many"] (defScope s__law_draw) := ⟨rfl, rfl, rfl, by decide +kernel, rfl, by decide +kernel, by decide +kernel⟩
noncomputable def t__law_draw_1 (C : Addr) (w : World) : Cs := (cIfS (bAnd (cT (cBin gEq (cF (cIx 0 (cK (.int 2)))) (cK (.int 0)))) (cT (cBin gLt (cF (cIx 0 (cK (.int 1)))) (cF (cCB gLen (cCons (cF (cIx 0 (cK (.int 0)))) cNil)))))) (cSeq (cAsg 2 (cBin gIx (cF (cIx 0 (cK (.int 0)))) (cF (cIx 0 (cK (.int 1))))))
    (cSeq (cSetIx 0 (cK (.int 1)) (cF (cBin gAdd (cF (cIx 0 (cK (.int 1)))) (cK (.int 1)))))
    (cSeq (cSetIx 0 (cK (.int 3)) (cF (cBin gMod (cF (cCB gInt (cCons (cF (cBin gAdd (cF (cBin gAdd (cF (cBin gMul (cF (cIx 0 (cK (.int 3)))) (cK (.int 69621)))) (cVar 2))) (cK (.int 11)))) cNil))) (cK (.int 2147483629)))))
    (cIfS (cT (cBin gGe (cVar 2) (cF (cBin gPow (cK (.int 10)) (cK (.int 18)))))) (cSetIx 0 (cK (.int 2)) (cVar 2)) cSkip)))) cSkip)
noncomputable def t__law_draw_2 (C : Addr) (w : World) : Cs := (cIfS (cT (cBin gGt (cF (cIx 0 (cK (.int 2)))) (cK (.int 0)))) (cSeq (cAsg 3 (cBin gMod (cF (cCB gInt (cCons (cF (cIx 0 (cK (.int 2)))) cNil))) (cVar 1)))
    (cSeq (cSetIx 0 (cK (.int 2)) (cF (cBin gDiv (cF (cIx 0 (cK (.int 2)))) (cVar 1))))
    (cRet (cVar 3)))) cSkip)
noncomputable def t__law_draw_3 (C : Addr) (w : World) : Cs := (cSetIx 0 (cK (.int 4)) (cF (cBin gAdd (cF (cIx 0 (cK (.int 4)))) (cK (.int 1)))))
noncomputable def t__law_draw_4 (C : Addr) (w : World) : Cs := (cAsg 4 (cBin gMod (cF (cCB gInt (cCons (cF (cBin gMul (cF (cCB gInt (cCons (cF (cBin gAdd (cF (cIx 0 (cK (.int 3)))) (cF (cBin gMul (cK (.int 7919)) (cF (cIx 0 (cK (.int 4)))))))) cNil))) (cK (.int 48271)))) cNil))) (cK (.int 2147483647))))
noncomputable def t__law_draw_5 (C : Addr) (w : World) : Cs := (cAsg 4 (cBin gMod (cF (cCB gInt (cCons (cF (cBin gMul (cVar 4) (cF (cBin gAdd (cF (cBin gDiv (cVar 4) (cK (.int 1009)))) (cK (.int 69621)))))) cNil))) (cK (.int 2147483647))))
noncomputable def t__law_draw_6 (C : Addr) (w : World) : Cs := (cAsg 4 (cBin gMod (cF (cCB gInt (cCons (cF (cBin gMul (cVar 4) (cF (cBin gAdd (cF (cBin gDiv (cVar 4) (cK (.int 2003)))) (cK (.int 40692)))))) cNil))) (cK (.int 2147483399))))
noncomputable def t__law_draw_7 (C : Addr) (w : World) : Cs := (cRet (cBin gMod (cF (cCB gInt (cCons (cF (cBin gDiv (cVar 4) (cK (.int 16)))) cNil))) (cVar 1)))
noncomputable def c__law_draw (C : Addr) (w : World) : Cs := (cSeq (t__law_draw_1 C w)
    (cSeq (t__law_draw_2 C w)
    (cSeq (t__law_draw_3 C w)
    (cSeq (t__law_draw_4 C w)
    (cSeq (t__law_draw_5 C w)
    (cSeq (t__law_draw_6 C w)
    (t__law_draw_7 C w)))))))
noncomputable def m__law_draw (C : Addr) (w : World) : MF := mOf 5 (c__law_draw C w)
theorem ok__law_draw {f : Addr} {fd : FuncData} (Fn : Fun K "_law_draw" "_law_draw" s__law_draw f fd) (T : Tx K mg C) (Z : Tz P w K mg base ea)  : FnOk P w K mg base CX0 1 f fd ["_law_hand_here", "_law_many"] (spD K 2 (m__law_draw C w)) := by
  have sc := sc__law_draw
  exact fn_d Fn sc (by decide) fun cdv A outer s H E hr => (pl_cons (pt_ifS (pb_w (pw_an (pb_eq hr (pv_po (po_ixP (pv 0) pv_int)) pv_int) (pw_a1 (pb_lt (pv_po (po_ixP (pv 0) pv_int)) (pv_po (kLen (by rfl) T.n_len (pv_po (po_ixP (pv 0) pv_int)))))))) (pl_cons (ps_as (i := 2) sc.nd rfl (by first | exact .inl rfl | exact .inr rfl) (po_ix (pv_po (po_ixP (pv 0) pv_int)) (pv_po (po_ixP (pv 0) pv_int))))
    (pl_cons (pt_setIx (pv 0) pv_int (pv_po (po_add (pv_po (po_ixP (pv 0) pv_int)) pv_int)))
    (pl_cons (pt_setIx (pv 0) pv_int (pv_po (po_mod (pv_po (kInt (by rfl) T.n_int (pv_po (po_add (pv_po (po_add (pv_po (po_mul (pv_po (po_ixP (pv 0) pv_int)) pv_int)) (pv_var 2))) pv_int)))) pv_int)))
    (pl_one (pt_ifS (pb_ge (pv_var 2) (pv_po (po_pow pv_int pv_int))) (pl_one (pt_setIx (pv 0) pv_int (pv_var 2))) pl_nil))))) pl_nil)
    (pl_cons (pt_ifS (pb_gt (pv_po (po_ixP (pv 0) pv_int)) pv_int) (pl_cons (ps_as (i := 3) sc.nd rfl (by first | exact .inl rfl | exact .inr rfl) (po_mod (pv_po (kInt (by rfl) T.n_int (pv_po (po_ixP (pv 0) pv_int)))) (pv_var 1)))
    (pl_cons (pt_setIx (pv 0) pv_int (pv_po (po_div (pv_po (po_ixP (pv 0) pv_int)) (pv_var 1))))
    (pl_one (pt_ret (po_pv (pv_var 3)))))) pl_nil)
    (pl_cons (pt_setIx (pv 0) pv_int (pv_po (po_add (pv_po (po_ixP (pv 0) pv_int)) pv_int)))
    (pl_cons (ps_as (i := 4) sc.nd rfl (by first | exact .inl rfl | exact .inr rfl) (po_mod (pv_po (kInt (by rfl) T.n_int (pv_po (po_mul (pv_po (kInt (by rfl) T.n_int (pv_po (po_add (pv_po (po_ixP (pv 0) pv_int)) (pv_po (po_mul pv_int (pv_po (po_ixP (pv 0) pv_int)))))))) pv_int)))) pv_int))
    (pl_cons (ps_as (i := 4) sc.nd rfl (by first | exact .inl rfl | exact .inr rfl) (po_mod (pv_po (kInt (by rfl) T.n_int (pv_po (po_mul (pv_var 4) (pv_po (po_add (pv_po (po_div (pv_var 4) pv_int)) pv_int)))))) pv_int))
    (pl_cons (ps_as (i := 4) sc.nd rfl (by first | exact .inl rfl | exact .inr rfl) (po_mod (pv_po (kInt (by rfl) T.n_int (pv_po (po_mul (pv_var 4) (pv_po (po_add (pv_po (po_div (pv_var 4) pv_int)) pv_int)))))) pv_int))
    (pl_one (pt_ret (po_mod (pv_po (kInt (by rfl) T.n_int (pv_po (po_div (pv_var 4) pv_int)))) (pv_var 1))))))))))

/-! _law_shuffled -/
abbrev s__law_shuffled : Stmt := topS 31
theorem sc__law_shuffled : FnScope ["_law_hand_here", "_law_many", "_law_rest", "_law_turn"] ["_law_hand_here", "_law_many"] (defScope s__law_shuffled) := ⟨rfl, rfl, rfl, by decide +kernel, rfl, by decide +kernel, by decide +kernel⟩
noncomputable def t__law_shuffled_1 (C : Addr) (w : World) : Cs := (cRet (cLc (itR1 (cCons (cVar 1) cNil)) [3] (gN 3) bYes (cMt 2 gPop (cCons (cF (cCall (m__law_draw C w) (cCons (cVar 0) (cCons (cF (cLenP 2)) cNil)))) cNil))))
noncomputable def c__law_shuffled (C : Addr) (w : World) : Cs := (cSeq (cAsg 2 (cLRg (cVar 1)))
    (t__law_shuffled_1 C w))
noncomputable def m__law_shuffled (C : Addr) (w : World) : MF := mOf 4 (c__law_shuffled C w)
theorem ok__law_shuffled {f : Addr} {fd : FuncData} (Fn : Fun K "_law_shuffled" "_law_shuffled" s__law_shuffled f fd) (T : Tx K mg C) (Z : Tz P w K mg base ea) (g__law_draw : Ok P w K mg base 1 "_law_draw" ["_law_hand_here", "_law_many"] (m__law_draw C w)) : FnOk P w K mg base CX0 2 f fd ["_law_hand_here", "_law_many"] (spD K 2 (m__law_shuffled C w)) := by
  have sc := sc__law_shuffled
  exact fn_d Fn sc (by decide) fun cdv A outer s H E hr => (pl_cons (ps_as (i := 2) sc.nd rfl (by first | exact .inl rfl | exact .inr rfl) (po_lrg rfl (by rfl) T.n_list (by rfl) T.n_range (pv_var 1)))
    (pl_one (pt_ret (po_lc rfl sc.nd (pi_r1 (by rfl) T.n_range (pa_c (pv_var 1) pa_n)) (blkOk_by (own := [("_law_turn", 3)]) (by rfl)) (fun _ _ _ _ _ => (pg_n (i := 3) sc.nd rfl (by first | exact .inl rfl | exact .inr rfl))) (fun _ _ _ _ _ => pt_yes) (fun _ _ _ _ _ => (po_mt PySem.F.slot_list_pop PySem.F.type_list_pop mt_popAt l_pop (pv 2) (pa_c (pv_po (kCall g__law_draw hr (by decide) (by rfl) (pa_c (pv_var 0) (pa_c (pv_po (po_lenP (pv 2) (by rfl) T.n_len)) pa_n)) (cCons_len (cCons_len (fun _ _ _ h => cNil_len h))))) pa_n))) (by decide)))))

/-! _law_links -/
abbrev s__law_links : Stmt := topS 32
theorem sc__law_links : FnScope ["_law_hand_here", "_law_places", "_law_many", "_law_rounds", "_law_taken", "_law_found", "_law_turn", "_law_one", "_law_other", "_law_over"] ["_law_hand_here", "_law_places", "_law_many", "_law_rounds", "_law_taken"] (defScope s__law_links) := ⟨rfl, rfl, rfl, by decide +kernel, rfl, by decide +kernel, by decide +kernel⟩
noncomputable def b__law_links_1 (C : Addr) (w : World) : Cs := (cSeq (cAsg 7 (cCall (m__law_draw C w) (cCons (cVar 0) (cCons (cF (cLenP 1)) cNil))))
    (cSeq (cAsg 8 (cCall (m__law_draw C w) (cCons (cVar 0) (cCons (cF (cLenP 1)) cNil))))
    (cSeq (cAsg 9 (cCall (m__law_draw C w) (cCons (cVar 0) (cCons (cF (cBin gAdd (cVar 3) (cK (.int 1)))) cNil))))
    (cSeq (cIfS (bAnd (cT (cBin gEq (cVar 9) (cK (.int 0)))) (cT (cBin gGe (cF (cIx 1 (cVar 7))) (cF (cIx 1 (cVar 8)))))) (cAsg 9 (cK (.int 1))) cSkip)
    (cIfS (cT (cBin (gIn not) (cF (cTup (cCons (cVar 7) (cCons (cVar 8) (cCons (cVar 9) cNil))))) (cF (cCatP 5 (cVar 4))))) (cDrop (cApp 5 (cF (cTup (cCons (cVar 7) (cCons (cVar 8) (cCons (cVar 9) cNil))))))) cSkip)))))
noncomputable def t__law_links_2 (C : Addr) (w : World) : Cs := (cFor (itR1 (cCons (cVar 2) cNil)) (gN 6)
    (b__law_links_1 C w))
noncomputable def c__law_links (C : Addr) (w : World) : Cs := (cSeq (cAsg 5 (cLst cNil))
    (cSeq (t__law_links_2 C w)
    (cRet (cVar 5))))
noncomputable def m__law_links (C : Addr) (w : World) : MF := mOf 10 (c__law_links C w)
theorem ok__law_links {f : Addr} {fd : FuncData} (Fn : Fun K "_law_links" "_law_links" s__law_links f fd) (T : Tx K mg C) (Z : Tz P w K mg base ea) (g__law_draw : Ok P w K mg base 1 "_law_draw" ["_law_hand_here", "_law_many"] (m__law_draw C w)) : FnOk P w K mg base CX0 2 f fd ["_law_hand_here", "_law_places", "_law_many", "_law_rounds", "_law_taken"] (spD K 5 (m__law_links C w)) := by
  have sc := sc__law_links
  exact fn_d Fn sc (by decide) fun cdv A outer s H E hr => (pl_cons (ps_as (i := 5) sc.nd rfl (by first | exact .inl rfl | exact .inr rfl) (po_lst pa_n))
    (pl_cons (ps_forD PassesOwn.never rfl (pi_r1 (by rfl) T.n_range (pa_c (pv_var 2) pa_n)) (pg_n (i := 6) sc.nd rfl (by first | exact .inl rfl | exact .inr rfl))
    (pl_cons (ps_as (i := 7) sc.nd rfl (by first | exact .inl rfl | exact .inr rfl) (kCall g__law_draw hr (by decide) (by rfl) (pa_c (pv_var 0) (pa_c (pv_po (po_lenP (pv 1) (by rfl) T.n_len)) pa_n)) (cCons_len (cCons_len (fun _ _ _ h => cNil_len h)))))
    (pl_cons (ps_as (i := 8) sc.nd rfl (by first | exact .inl rfl | exact .inr rfl) (kCall g__law_draw hr (by decide) (by rfl) (pa_c (pv_var 0) (pa_c (pv_po (po_lenP (pv 1) (by rfl) T.n_len)) pa_n)) (cCons_len (cCons_len (fun _ _ _ h => cNil_len h)))))
    (pl_cons (ps_as (i := 9) sc.nd rfl (by first | exact .inl rfl | exact .inr rfl) (kCall g__law_draw hr (by decide) (by rfl) (pa_c (pv_var 0) (pa_c (pv_po (po_add (pv_var 3) pv_int)) pa_n)) (cCons_len (cCons_len (fun _ _ _ h => cNil_len h)))))
    (pl_cons (pt_ifS (pb_w (pw_an (pb_eq hr (pv_var 9) pv_int) (pw_a1 (pb_ge (pv_po (po_ixP (pv 1) (pv_var 7))) (pv_po (po_ixP (pv 1) (pv_var 8))))))) (pl_one (ps_as (i := 9) sc.nd rfl (by first | exact .inl rfl | exact .inr rfl) (po_pv pv_int))) pl_nil)
    (pl_one (pt_ifS (pb_ni (hu65 hr) (pv_po (po_tup (pa_c (pv_var 7) (pa_c (pv_var 8) (pa_c (pv_var 9) pa_n))))) (pv_po (po_catP (pv 5) (pv_var 4)))) (pl_one (pt_drop (po_app (pv 5) (pv_po (po_tup (pa_c (pv_var 7) (pa_c (pv_var 8) (pa_c (pv_var 9) pa_n)))))))) pl_nil)))))))
    (pl_one (pt_ret (po_pv (pv_var 5))))))

/-! _law_parts -/
abbrev s__law_parts : Stmt := topS 33
theorem sc__law_parts : FnScope ["_law_hand_here", "_law_most", "_law_links_here", "_law_rounds", "_law_steps", "_law_places", "_law_needs", "_law_befores"] ["_law_hand_here", "_law_most", "_law_links_here", "_law_rounds"] (defScope s__law_parts) := ⟨rfl, rfl, rfl, by decide +kernel, rfl, by decide +kernel, by decide +kernel⟩
noncomputable def t__law_parts_1 (C : Addr) (w : World) : Cs := (cAsg 4 (cBin gAdd (cK (.int 1)) (cF (cCall (m__law_draw C w) (cCons (cVar 0) (cCons (cVar 1) cNil))))))
noncomputable def t__law_parts_2 (C : Addr) (w : World) : Cs := (cAsg 5 (cCall (m__law_shuffled C w) (cCons (cVar 0) (cCons (cVar 4) cNil))))
noncomputable def t__law_parts_3 (C : Addr) (w : World) : Cs := (cAsg 6 (cCall (m__law_links C w) (cCons (cVar 0) (cCons (cVar 5) (cCons (cF (cCall (m__law_draw C w) (cCons (cVar 0) (cCons (cF (cBin gAdd (cVar 2) (cK (.int 1)))) cNil)))) (cCons (cVar 3) (cCons (cF (cLst cNil)) cNil)))))))
noncomputable def t__law_parts_4 (C : Addr) (w : World) : Cs := (cAsg 7 (cCall (m__law_links C w) (cCons (cVar 0) (cCons (cVar 5) (cCons (cF (cCall (m__law_draw C w) (cCons (cVar 0) (cCons (cF (cBin gAdd (cVar 2) (cK (.int 1)))) cNil)))) (cCons (cVar 3) (cCons (cF (cLst cNil)) cNil)))))))
noncomputable def t__law_parts_5 (C : Addr) (w : World) : Cs := (cRet (cTup (cCons (cVar 4) (cCons (cF (cCB gTuple (cCons (cVar 6) cNil))) (cCons (cF (cCB gTuple (cCons (cVar 7) cNil))) cNil)))))
noncomputable def c__law_parts (C : Addr) (w : World) : Cs := (cSeq (t__law_parts_1 C w)
    (cSeq (t__law_parts_2 C w)
    (cSeq (t__law_parts_3 C w)
    (cSeq (t__law_parts_4 C w)
    (t__law_parts_5 C w)))))
noncomputable def m__law_parts (C : Addr) (w : World) : MF := mOf 8 (c__law_parts C w)
theorem ok__law_parts {f : Addr} {fd : FuncData} (Fn : Fun K "_law_parts" "_law_parts" s__law_parts f fd) (T : Tx K mg C) (Z : Tz P w K mg base ea) (g__law_draw : Ok P w K mg base 1 "_law_draw" ["_law_hand_here", "_law_many"] (m__law_draw C w)) (g__law_shuffled : Ok P w K mg base 2 "_law_shuffled" ["_law_hand_here", "_law_many"] (m__law_shuffled C w)) (g__law_links : Ok P w K mg base 2 "_law_links" ["_law_hand_here", "_law_places", "_law_many", "_law_rounds", "_law_taken"] (m__law_links C w)) : FnOk P w K mg base CX0 3 f fd ["_law_hand_here", "_law_most", "_law_links_here", "_law_rounds"] (spD K 4 (m__law_parts C w)) := by
  have sc := sc__law_parts
  exact fn_d Fn sc (by decide) fun cdv A outer s H E hr => (pl_cons (ps_as (i := 4) sc.nd rfl (by first | exact .inl rfl | exact .inr rfl) (po_add pv_int (pv_po (kCall g__law_draw hr (by decide) (by rfl) (pa_c (pv_var 0) (pa_c (pv_var 1) pa_n)) (cCons_len (cCons_len (fun _ _ _ h => cNil_len h)))))))
    (pl_cons (ps_as (i := 5) sc.nd rfl (by first | exact .inl rfl | exact .inr rfl) (kCall g__law_shuffled hr (by decide) (by rfl) (pa_c (pv_var 0) (pa_c (pv_var 4) pa_n)) (cCons_len (cCons_len (fun _ _ _ h => cNil_len h)))))
    (pl_cons (ps_as (i := 6) sc.nd rfl (by first | exact .inl rfl | exact .inr rfl) (kCall g__law_links hr (by decide) (by rfl) (pa_c (pv_var 0) (pa_c (pv_var 5) (pa_c (pv_po (kCall g__law_draw hr (by decide) (by rfl) (pa_c (pv_var 0) (pa_c (pv_po (po_add (pv_var 2) pv_int)) pa_n)) (cCons_len (cCons_len (fun _ _ _ h => cNil_len h))))) (pa_c (pv_var 3) (pa_c (pv_po (po_lst pa_n)) pa_n))))) (cCons_len (cCons_len (cCons_len (cCons_len (cCons_len (fun _ _ _ h => cNil_len h))))))))
    (pl_cons (ps_as (i := 7) sc.nd rfl (by first | exact .inl rfl | exact .inr rfl) (kCall g__law_links hr (by decide) (by rfl) (pa_c (pv_var 0) (pa_c (pv_var 5) (pa_c (pv_po (kCall g__law_draw hr (by decide) (by rfl) (pa_c (pv_var 0) (pa_c (pv_po (po_add (pv_var 2) pv_int)) pa_n)) (cCons_len (cCons_len (fun _ _ _ h => cNil_len h))))) (pa_c (pv_var 3) (pa_c (pv_po (po_lst pa_n)) pa_n))))) (cCons_len (cCons_len (cCons_len (cCons_len (cCons_len (fun _ _ _ h => cNil_len h))))))))
    (pl_one (pt_ret (po_tup (pa_c (pv_var 4) (pa_c (pv_po (kTuple (by rfl) T.n_tuple (pv_var 6))) (pa_c (pv_po (kTuple (by rfl) T.n_tuple (pv_var 7))) pa_n))))))))))

/-! is_integer -/
abbrev s_is_integer : Stmt := topS 2
theorem sc_is_integer : FnScope ["thing"] ["thing"] (defScope s_is_integer) := ⟨rfl, rfl, rfl, by decide +kernel, rfl, by decide +kernel, by decide +kernel⟩
noncomputable def t_is_integer_1 (C : Addr) (w : World) : Cs := (cRet (cAndV (cF (cCB gIsi (cCons (cVar 0) (cCons (cK (.ty "int")) cNil)))) (cNotV (cF (cCB gIsi (cCons (cVar 0) (cCons (cK (.ty "bool")) cNil)))))))
noncomputable def c_is_integer (C : Addr) (w : World) : Cs := (t_is_integer_1 C w)
noncomputable def m_is_integer (C : Addr) (w : World) : MF := mOf 1 (c_is_integer C w)
theorem ok_is_integer {f : Addr} {fd : FuncData} (Fn : Fun K "is_integer" "is_integer" s_is_integer f fd) (T : Tx K mg C) (Z : Tz P w K mg base ea)  : FnOk P w K mg base CX0 1 f fd ["thing"] (spD K 1 (m_is_integer C w)) := by
  have sc := sc_is_integer
  exact fn_d Fn sc (by decide) fun cdv A outer s H E hr => (pl_one (pt_ret (po_pv (pv_and (pv_po (kIsi (by rfl) T.n_isinstance (pv_var 0) (kTy (by rfl) T.n_int (by decide +kernel)))) (pv_one (pv_not (pv_po (kIsi (by rfl) T.n_isinstance (pv_var 0) (kTy (by rfl) T.n_bool (by decide +kernel))))))))))

/-! is_between -/
abbrev s_is_between : Stmt := topS 3
theorem sc_is_between : FnScope ["low", "high", "thing"] ["low", "high", "thing"] (defScope s_is_between) := ⟨rfl, rfl, rfl, by decide +kernel, rfl, by decide +kernel, by decide +kernel⟩
noncomputable def t_is_between_1 (C : Addr) (w : World) : Cs := (cRet (cAndV (cF (cCall (m_is_integer C w) (cCons (cVar 2) cNil))) (cF (cChn gLe gLe (cVar 0) (cVar 2) (cVar 1)))))
noncomputable def c_is_between (C : Addr) (w : World) : Cs := (t_is_between_1 C w)
noncomputable def m_is_between (C : Addr) (w : World) : MF := mOf 3 (c_is_between C w)
theorem ok_is_between {f : Addr} {fd : FuncData} (Fn : Fun K "is_between" "is_between" s_is_between f fd) (T : Tx K mg C) (Z : Tz P w K mg base ea) (g_is_integer : Ok P w K mg base 1 "is_integer" ["thing"] (m_is_integer C w)) : FnOk P w K mg base CX0 2 f fd ["low", "high", "thing"] (spD K 3 (m_is_between C w)) := by
  have sc := sc_is_between
  exact fn_d Fn sc (by decide) fun cdv A outer s H E hr => (pl_one (pt_ret (po_pv (pv_and (pv_po (kCall g_is_integer hr (by decide) (by rfl) (pa_c (pv_var 2) pa_n) (cCons_len (fun _ _ _ h => cNil_len h)))) (pv_one (pv_po (po_chn op_le op_le l_le l_le (pv_var 0) (pv_var 2) (pv_var 1))))))))

/-! is_rounds -/
abbrev s_is_rounds : Stmt := topS 23
theorem sc_is_rounds : FnScope ["thing"] ["thing"] (defScope s_is_rounds) := ⟨rfl, rfl, rfl, by decide +kernel, rfl, by decide +kernel, by decide +kernel⟩
noncomputable def t_is_rounds_1 (C : Addr) (w : World) : Cs := (cRet (cCall (m_is_between C w) (cCons (cK (.int 0)) (cCons (cK (.int 6)) (cCons (cVar 0) cNil)))))
noncomputable def c_is_rounds (C : Addr) (w : World) : Cs := (t_is_rounds_1 C w)
noncomputable def m_is_rounds (C : Addr) (w : World) : MF := mOf 1 (c_is_rounds C w)
theorem ok_is_rounds {f : Addr} {fd : FuncData} (Fn : Fun K "is_rounds" "is_rounds" s_is_rounds f fd) (T : Tx K mg C) (Z : Tz P w K mg base ea) (g_is_between : Ok P w K mg base 2 "is_between" ["low", "high", "thing"] (m_is_between C w)) : FnOk P w K mg base CX0 3 f fd ["thing"] (spD K 1 (m_is_rounds C w)) := by
  have sc := sc_is_rounds
  exact fn_d Fn sc (by decide) fun cdv A outer s H E hr => (pl_one (pt_ret (kCall g_is_between hr (by decide) (by rfl) (pa_c pv_int (pa_c (kGint (by rfl) T.c_MOST_ROUNDS) (pa_c (pv_var 0) pa_n))) (cCons_len (cCons_len (cCons_len (fun _ _ _ h => cNil_len h)))))))

/-! is_link -/
abbrev s_is_link : Stmt := topS 24
theorem sc_is_link : FnScope ["steps", "thing"] ["steps", "thing"] (defScope s_is_link) := ⟨rfl, rfl, rfl, by decide +kernel, rfl, by decide +kernel, by decide +kernel⟩
noncomputable def t_is_link_1 (C : Addr) (w : World) : Cs := (cRet (cAndV (cF (cCB gIsi (cCons (cVar 1) (cCons (cK (.ty "tuple")) cNil)))) (cAndV (cF (cBin gEq (cF (cLenP 1)) (cK (.int 3)))) (cAndV (cF (cCall (m_is_between C w) (cCons (cK (.int 0)) (cCons (cF (cBin gSub (cVar 0) (cK (.int 1)))) (cCons (cF (cIx 1 (cK (.int 0)))) cNil))))) (cAndV (cF (cCall (m_is_between C w) (cCons (cK (.int 0)) (cCons (cF (cBin gSub (cVar 0) (cK (.int 1)))) (cCons (cF (cIx 1 (cK (.int 1)))) cNil))))) (cF (cCall (m_is_rounds C w) (cCons (cF (cIx 1 (cK (.int 2)))) cNil))))))))
noncomputable def c_is_link (C : Addr) (w : World) : Cs := (t_is_link_1 C w)
noncomputable def m_is_link (C : Addr) (w : World) : MF := mOf 2 (c_is_link C w)
theorem ok_is_link {f : Addr} {fd : FuncData} (Fn : Fun K "is_link" "is_link" s_is_link f fd) (T : Tx K mg C) (Z : Tz P w K mg base ea) (g_is_between : Ok P w K mg base 2 "is_between" ["low", "high", "thing"] (m_is_between C w)) (g_is_rounds : Ok P w K mg base 3 "is_rounds" ["thing"] (m_is_rounds C w)) : FnOk P w K mg base CX0 4 f fd ["steps", "thing"] (spD K 2 (m_is_link C w)) := by
  have sc := sc_is_link
  exact fn_d Fn sc (by decide) fun cdv A outer s H E hr => (pl_one (pt_ret (po_pv (pv_and (pv_po (kIsi (by rfl) T.n_isinstance (pv_var 1) (kTy (by rfl) T.n_tuple (by decide +kernel)))) (pv_and (pv_po (po_eq hr (pv_po (po_lenP (pv 1) (by rfl) T.n_len)) pv_int)) (pv_and (pv_po (kCall g_is_between hr (by decide) (by rfl) (pa_c pv_int (pa_c (pv_po (po_sub (pv_var 0) pv_int)) (pa_c (pv_po (po_ixP (pv 1) pv_int)) pa_n))) (cCons_len (cCons_len (cCons_len (fun _ _ _ h => cNil_len h)))))) (pv_and (pv_po (kCall g_is_between hr (by decide) (by rfl) (pa_c pv_int (pa_c (pv_po (po_sub (pv_var 0) pv_int)) (pa_c (pv_po (po_ixP (pv 1) pv_int)) pa_n))) (cCons_len (cCons_len (cCons_len (fun _ _ _ h => cNil_len h)))))) (pv_one (pv_po (kCall g_is_rounds hr (by decide) (by rfl) (pa_c (pv_po (po_ixP (pv 1) pv_int)) pa_n) (cCons_len (fun _ _ _ h => cNil_len h))))))))))))

/-! is_link_row -/
abbrev s_is_link_row : Stmt := topS 25
theorem sc_is_link_row : FnScope ["steps", "thing", "link"] ["steps", "thing"] (defScope s_is_link_row) := ⟨rfl, rfl, rfl, by decide +kernel, rfl, by decide +kernel, by decide +kernel⟩
noncomputable def t_is_link_row_1 (C : Addr) (w : World) : Cs := (cIfS (bOr (bNot (cT (cF (cCB gIsi (cCons (cVar 1) (cCons (cK (.ty "tuple")) cNil)))))) (cT (cBin gGt (cF (cLenP 1)) (cK (.int 40))))) (cRet (cK (.bl false))) cSkip)
noncomputable def t_is_link_row_2 (C : Addr) (w : World) : Cs := (cRet (cAndV (cF (cCB gAll (cCons (cF (cLc (itS (cVar 1)) [2] (gN 2) bYes (cCall (m_is_link C w) (cCons (cVar 0) (cCons (cVar 2) cNil))))) cNil))) (cF (cBin gEq (cF (cLenST (cVar 1))) (cF (cLenP 1))))))
noncomputable def c_is_link_row (C : Addr) (w : World) : Cs := (cSeq (t_is_link_row_1 C w)
    (t_is_link_row_2 C w))
noncomputable def m_is_link_row (C : Addr) (w : World) : MF := mOf 3 (c_is_link_row C w)
theorem ok_is_link_row {f : Addr} {fd : FuncData} (Fn : Fun K "is_link_row" "is_link_row" s_is_link_row f fd) (T : Tx K mg C) (Z : Tz P w K mg base ea) (g_is_link : Ok P w K mg base 4 "is_link" ["steps", "thing"] (m_is_link C w)) : FnOk P w K mg base CX0 5 f fd ["steps", "thing"] (spD K 2 (m_is_link_row C w)) := by
  have sc := sc_is_link_row
  exact fn_d Fn sc (by decide) fun cdv A outer s H E hr => (pl_cons (pt_ifS (pb_w (pw_on (pb_not (pb_val (pv_po (kIsi (by rfl) T.n_isinstance (pv_var 1) (kTy (by rfl) T.n_tuple (by decide +kernel)))))) (pw_o1 (pb_gt (pv_po (po_lenP (pv 1) (by rfl) T.n_len)) (kGint (by rfl) T.c_MOST_LINKS))))) (pl_one (pt_ret (po_pv pv_bl))) pl_nil)
    (pl_one (pt_ret (po_pv (pv_and (pv_po (kAll rfl (by rfl) T.n_all (pv_po (po_lc rfl sc.nd (pi_s (pv_var 1)) (blkOk_by (own := [("link", 2)]) (by rfl)) (fun _ _ _ _ _ => (pg_n (i := 2) sc.nd rfl (by first | exact .inl rfl | exact .inr rfl))) (fun _ _ _ _ _ => pt_yes) (fun _ _ _ _ _ => (kCall g_is_link hr (by decide) (by rfl) (pa_c (pv_var 0) (pa_c (pv_var 2) pa_n)) (cCons_len (cCons_len (fun _ _ _ h => cNil_len h))))) (by decide))))) (pv_one (pv_po (po_eq hr (pv_po (po_lenST rfl (hu65 hr) (by rfl) T.n_len (by rfl) T.n_set (pv_var 1))) (pv_po (po_lenP (pv 1) (by rfl) T.n_len))))))))))

/-! lined_up -/
abbrev s_lined_up : Stmt := topS 7
theorem sc_lined_up : FnScope ["steps", "links", "lacking", "_", "behind", "one", "other", "rounds", "step", "line", "place"] ["steps", "links"] (defScope s_lined_up) := ⟨rfl, rfl, rfl, by decide +kernel, rfl, by decide +kernel, by decide +kernel⟩
noncomputable def t_lined_up_1 (C : Addr) (w : World) : Cs := (cAsg 2 (cBin gMul (cF (cLst (cCons (cK (.int 0)) cNil))) (cVar 0)))
noncomputable def t_lined_up_2 (C : Addr) (w : World) : Cs := (cAsg 4 (cLc (itR1 (cCons (cVar 0) cNil)) [3] (gN 3) bYes (cLst cNil)))
noncomputable def b_lined_up_3 (C : Addr) (w : World) : Cs := (cIfS (cT (cBin gEq (cVar 7) (cK (.int 0)))) (cSeq (cDrop (cApN 4 (cVar 5) (cVar 6)))
    (cAugIx 2 (fun a b => a + b) (cVar 6) (cK (.int 1)))) cSkip)
noncomputable def t_lined_up_4 (C : Addr) (w : World) : Cs := (cFor (itS (cVar 1)) (gT (gC (gN 5) (gC (gN 6) (gC (gN 7) gZ))))
    (b_lined_up_3 C w))
noncomputable def t_lined_up_5 (C : Addr) (w : World) : Cs := (cAsg 9 (cLc (itR1 (cCons (cVar 0) cNil)) [8] (gN 8) (cT (cBin gEq (cF (cIx 2 (cVar 8))) (cK (.int 0)))) (cVar 8)))
noncomputable def b_lined_up_6 (C : Addr) (w : World) : Cs := (cSeq (cAugIx 2 (fun a b => a - b) (cVar 6) (cK (.int 1)))
    (cIfS (cT (cBin gEq (cF (cIx 2 (cVar 6))) (cK (.int 0)))) (cDrop (cApp 9 (cVar 6))) cSkip))
noncomputable def b_lined_up_7 (C : Addr) (w : World) : Cs := (cSeq (cAsg 8 (cIx 9 (cVar 10)))
    (cSeq (cFor (itS (cF (cBin gIx (cVar 4) (cVar 8)))) (gN 6)
    (b_lined_up_6 C w))
    (cAug 10 (fun a b => a + b) (cK (.int 1)))))
noncomputable def t_lined_up_8 (C : Addr) (w : World) : Cs := (cWhile (cT (cBin gLt (cVar 10) (cF (cLenP 9))))
    (b_lined_up_7 C w))
noncomputable def c_lined_up (C : Addr) (w : World) : Cs := (cSeq (t_lined_up_1 C w)
    (cSeq (t_lined_up_2 C w)
    (cSeq (t_lined_up_4 C w)
    (cSeq (t_lined_up_5 C w)
    (cSeq (cAsg 10 (cK (.int 0)))
    (cSeq (t_lined_up_8 C w)
    (cRet (cVar 9))))))))
noncomputable def m_lined_up (C : Addr) (w : World) : MF := mOf 11 (c_lined_up C w)
theorem ok_lined_up {f : Addr} {fd : FuncData} (Fn : Fun K "lined_up" "lined_up" s_lined_up f fd) (T : Tx K mg C) (Z : Tz P w K mg base ea)  : FnOk P w K mg base CX0 1 f fd ["steps", "links"] (spD K 2 (m_lined_up C w)) := by
  have sc := sc_lined_up
  exact fn_d Fn sc (by decide) fun cdv A outer s H E hr => (pl_cons (ps_as (i := 2) sc.nd rfl (by first | exact .inl rfl | exact .inr rfl) (po_mul (pv_po (po_lst (pa_c pv_int pa_n))) (pv_var 0)))
    (pl_cons (by first | exact (ps_as (i := 4) sc.nd rfl (by first | exact .inl rfl | exact .inr rfl) (po_lc rfl sc.nd (pi_r1 (by rfl) T.n_range (pa_c (pv_var 0) pa_n)) (blkOk_by (own := [("_", 3)]) (by rfl)) (fun _ _ _ _ _ => (pg_n (i := 3) sc.nd rfl (by first | exact .inl rfl | exact .inr rfl))) (fun _ _ _ _ _ => pt_yes) (fun _ _ _ _ _ => (po_lst pa_n)) (by decide))) | exact (ps_asLc (i := 4) rfl sc.nd rfl rfl rfl (pi_r1 (by rfl) T.n_range (pa_c (pv_var 0) pa_n)) (blkOk_by (own := [("_", 3)]) (by rfl)) (fun _ _ _ _ _ => (pg_n (i := 3) sc.nd rfl (by first | exact .inl rfl | exact .inr rfl))) (fun _ _ _ _ _ => pt_yes) (fun _ _ _ _ _ => (po_lst pa_n)) (by decide)))
    (pl_cons (ps_forD PassesOwn.never rfl (pi_s (pv_var 1)) (pg_t rfl (pgs_c (pg_n (i := 5) sc.nd rfl (by first | exact .inl rfl | exact .inr rfl)) (pgs_c (pg_n (i := 6) sc.nd rfl (by first | exact .inl rfl | exact .inr rfl)) (pgs_c (pg_n (i := 7) sc.nd rfl (by first | exact .inl rfl | exact .inr rfl)) pgs_z))) (gC_len (gC_len (gC_len (fun _ _ _ h => gZ_len h)))))
    (pl_one (pt_ifS (pb_eq hr (pv_var 7) pv_int) (pl_cons (pt_drop (po_apN (pv 4) (pv_var 5) (pv_var 6)))
    (pl_one (pt_augIx (pv 2) (pv_var 6) pv_int ip_add))) pl_nil)))
    (pl_cons (by first | exact (ps_as (i := 9) sc.nd rfl (by first | exact .inl rfl | exact .inr rfl) (po_lc rfl sc.nd (pi_r1 (by rfl) T.n_range (pa_c (pv_var 0) pa_n)) (blkOk_by (own := [("step", 8)]) (by rfl)) (fun _ _ _ _ _ => (pg_n (i := 8) sc.nd rfl (by first | exact .inl rfl | exact .inr rfl))) (fun _ _ _ _ _ => (pt_if (pb_eq hr (pv_po (po_ixP (pv 2) (pv_var 8))) pv_int))) (fun _ _ _ _ _ => (po_pv (pv_var 8))) (by decide))) | exact (ps_asLc (i := 9) rfl sc.nd rfl rfl rfl (pi_r1 (by rfl) T.n_range (pa_c (pv_var 0) pa_n)) (blkOk_by (own := [("step", 8)]) (by rfl)) (fun _ _ _ _ _ => (pg_n (i := 8) sc.nd rfl (by first | exact .inl rfl | exact .inr rfl))) (fun _ _ _ _ _ => (pt_if (pb_eq hr (pv_po (po_ixP (pv 2) (pv_var 8))) pv_int))) (fun _ _ _ _ _ => (po_pv (pv_var 8))) (by decide)))
    (pl_cons (ps_as (i := 10) sc.nd rfl (by first | exact .inl rfl | exact .inr rfl) (po_pv pv_int))
    (pl_cons (pt_while PassesOwn.never (pb_lt (pv_var 10) (pv_po (po_lenP (pv 9) (by rfl) T.n_len)))
    (pl_cons (ps_as (i := 8) sc.nd rfl (by first | exact .inl rfl | exact .inr rfl) (po_ixP (pv 9) (pv_var 10)))
    (pl_cons (ps_forD PassesOwn.never rfl (pi_s (pv_po (po_ix (pv_var 4) (pv_var 8)))) (pg_n (i := 6) sc.nd rfl (by first | exact .inl rfl | exact .inr rfl))
    (pl_cons (pt_augIx (pv 2) (pv_var 6) pv_int ip_sub)
    (pl_one (pt_ifS (pb_eq hr (pv_po (po_ixP (pv 2) (pv_var 6))) pv_int) (pl_one (pt_drop (po_app (pv 9) (pv_var 6)))) pl_nil))))
    (pl_one (pt_aug (i := 10) sc.nd rfl (by first | exact .inl rfl | exact .inr rfl) pv_int ip_add)))))
    (pl_one (pt_ret (po_pv (pv_var 9))))))))))

/-! told_links -/
abbrev s_told_links : Stmt := topS 6
theorem sc_told_links : FnScope ["needs", "befores", "number", "link", "told"] ["needs", "befores"] (defScope s_told_links) := ⟨rfl, rfl, rfl, by decide +kernel, rfl, by decide +kernel, by decide +kernel⟩
noncomputable def t_told_links_1 (C : Addr) (w : World) : Cs := (cAsg 4 (cLc (itEn (cCons (cVar 0) cNil)) [2, 3] (gT (gC (gN 2) (gC (gN 3) gZ))) bYes (cTup (cCons (cF (cTup (cCons (cK (.str ("need" : Str))) (cCons (cVar 2) cNil)))) (cCons (cVar 3) cNil)))))
noncomputable def t_told_links_2 (C : Addr) (w : World) : Cs := (cRet (cBin gAdd (cVar 4) (cF (cLc (itEn (cCons (cVar 1) cNil)) [2, 3] (gT (gC (gN 2) (gC (gN 3) gZ))) bYes (cTup (cCons (cF (cTup (cCons (cK (.str ("before" : Str))) (cCons (cVar 2) cNil)))) (cCons (cVar 3) cNil)))))))
noncomputable def c_told_links (C : Addr) (w : World) : Cs := (cSeq (t_told_links_1 C w)
    (t_told_links_2 C w))
noncomputable def m_told_links (C : Addr) (w : World) : MF := mOf 5 (c_told_links C w)
theorem ok_told_links {f : Addr} {fd : FuncData} (Fn : Fun K "told_links" "told_links" s_told_links f fd) (T : Tx K mg C) (Z : Tz P w K mg base ea)  : FnOk P w K mg base CX0 1 f fd ["needs", "befores"] (spD K 2 (m_told_links C w)) := by
  have sc := sc_told_links
  exact fn_d Fn sc (by decide) fun cdv A outer s H E hr => (pl_cons (by first | exact (ps_as (i := 4) sc.nd rfl (by first | exact .inl rfl | exact .inr rfl) (po_lc rfl sc.nd (pi_en (by rfl) T.n_enumerate (pa_c (pv_var 0) pa_n)) (blkOk_by (own := [("number", 2), ("link", 3)]) (by rfl)) (fun _ _ _ _ _ => (pg_t rfl (pgs_c (pg_n (i := 2) sc.nd rfl (by first | exact .inl rfl | exact .inr rfl)) (pgs_c (pg_n (i := 3) sc.nd rfl (by first | exact .inl rfl | exact .inr rfl)) pgs_z)) (gC_len (gC_len (fun _ _ _ h => gZ_len h))))) (fun _ _ _ _ _ => pt_yes) (fun _ _ _ _ _ => (po_tup (pa_c (pv_po (po_tup (pa_c pv_str (pa_c (pv_var 2) pa_n)))) (pa_c (pv_var 3) pa_n)))) (by decide))) | exact (ps_asLc (i := 4) rfl sc.nd rfl rfl rfl (pi_en (by rfl) T.n_enumerate (pa_c (pv_var 0) pa_n)) (blkOk_by (own := [("number", 2), ("link", 3)]) (by rfl)) (fun _ _ _ _ _ => (pg_t rfl (pgs_c (pg_n (i := 2) sc.nd rfl (by first | exact .inl rfl | exact .inr rfl)) (pgs_c (pg_n (i := 3) sc.nd rfl (by first | exact .inl rfl | exact .inr rfl)) pgs_z)) (gC_len (gC_len (fun _ _ _ h => gZ_len h))))) (fun _ _ _ _ _ => pt_yes) (fun _ _ _ _ _ => (po_tup (pa_c (pv_po (po_tup (pa_c pv_str (pa_c (pv_var 2) pa_n)))) (pa_c (pv_var 3) pa_n)))) (by decide)))
    (pl_one (pt_ret (po_add (pv_var 4) (pv_po (po_lc rfl sc.nd (pi_en (by rfl) T.n_enumerate (pa_c (pv_var 1) pa_n)) (blkOk_by (own := [("number", 2), ("link", 3)]) (by rfl)) (fun _ _ _ _ _ => (pg_t rfl (pgs_c (pg_n (i := 2) sc.nd rfl (by first | exact .inl rfl | exact .inr rfl)) (pgs_c (pg_n (i := 3) sc.nd rfl (by first | exact .inl rfl | exact .inr rfl)) pgs_z)) (gC_len (gC_len (fun _ _ _ h => gZ_len h))))) (fun _ _ _ _ _ => pt_yes) (fun _ _ _ _ _ => (po_tup (pa_c (pv_po (po_tup (pa_c pv_str (pa_c (pv_var 2) pa_n)))) (pa_c (pv_var 3) pa_n)))) (by decide)))))))

/-! zero_ring -/
abbrev s_zero_ring : Stmt := topS 9
theorem sc_zero_ring : FnScope ["steps", "needs", "befores", "sound", "came", "told", "one", "other", "rounds"] ["steps", "needs", "befores"] (defScope s_zero_ring) := ⟨rfl, rfl, rfl, by decide +kernel, rfl, by decide +kernel, by decide +kernel⟩
noncomputable def t_zero_ring_1 (C : Addr) (w : World) : Cs := (cAsg 3 (cCB gSetL (cCons (cF (cCall (m_lined_up C w) (cCons (cVar 0) (cCons (cF (cBin gAdd (cVar 1) (cVar 2))) cNil)))) cNil)))
noncomputable def b_zero_ring_2 (C : Addr) (w : World) : Cs := (cIfS (bAnd (cT (cBin gEq (cVar 8) (cK (.int 0)))) (cT (cBin (gIn not) (cVar 6) (cVar 3)))) cNever cSkip)
noncomputable def t_zero_ring_3 (C : Addr) (w : World) : Cs := (cFor (itS (cF (cCall (m_told_links C w) (cCons (cVar 1) (cCons (cVar 2) cNil))))) (gT (gC (gN 5) (gC (gT (gC (gN 6) (gC (gN 7) (gC (gN 8) gZ)))) gZ)))
    (b_zero_ring_2 C w))
noncomputable def t_zero_ring_4 (C : Addr) (w : World) : Cs := (cIfS (cT (cBin gEq (cF (cLenP 4)) (cK (.int 0)))) (cRet (cK .non)) cSkip)
noncomputable def c_zero_ring (C : Addr) (w : World) : Cs := (cSeq (t_zero_ring_1 C w)
    (cSeq (cAsg 4 (cK (.odic [] [])))
    (cSeq (t_zero_ring_3 C w)
    (cSeq (t_zero_ring_4 C w)
    cNever))))
noncomputable def m_zero_ring (C : Addr) (w : World) : MF := mOf 9 (c_zero_ring C w)
theorem ok_zero_ring {f : Addr} {fd : FuncData} (Fn : Fun K "zero_ring" "zero_ring" s_zero_ring f fd) (T : Tx K mg C) (Z : Tz P w K mg base ea) (g_lined_up : Ok P w K mg base 1 "lined_up" ["steps", "links"] (m_lined_up C w)) (g_told_links : Ok P w K mg base 1 "told_links" ["needs", "befores"] (m_told_links C w)) : FnOk P w K mg base CX0 2 f fd ["steps", "needs", "befores"] (spD K 3 (m_zero_ring C w)) := by
  have sc := sc_zero_ring
  exact fn_d Fn sc (by decide) fun cdv A outer s H E hr => (pl_cons (ps_as (i := 3) sc.nd rfl (by first | exact .inl rfl | exact .inr rfl) (kSetL rfl (by rfl) T.n_set (pv_po (kCall g_lined_up hr (by decide) (by rfl) (pa_c (pv_var 0) (pa_c (pv_po (po_add (pv_var 1) (pv_var 2))) pa_n)) (cCons_len (cCons_len (fun _ _ _ h => cNil_len h)))))))
    (pl_cons (ps_as (i := 4) sc.nd rfl (by first | exact .inl rfl | exact .inr rfl) po_dnew)
    (pl_cons (ps_forD PassesOwn.never rfl (pi_s (pv_po (kCall g_told_links hr (by decide) (by rfl) (pa_c (pv_var 1) (pa_c (pv_var 2) pa_n)) (cCons_len (cCons_len (fun _ _ _ h => cNil_len h)))))) (pg_t rfl (pgs_c (pg_n (i := 5) sc.nd rfl (by first | exact .inl rfl | exact .inr rfl)) (pgs_c (pg_t rfl (pgs_c (pg_n (i := 6) sc.nd rfl (by first | exact .inl rfl | exact .inr rfl)) (pgs_c (pg_n (i := 7) sc.nd rfl (by first | exact .inl rfl | exact .inr rfl)) (pgs_c (pg_n (i := 8) sc.nd rfl (by first | exact .inl rfl | exact .inr rfl)) pgs_z))) (gC_len (gC_len (gC_len (fun _ _ _ h => gZ_len h))))) pgs_z)) (gC_len (gC_len (fun _ _ _ h => gZ_len h))))
    (pl_one (pt_ifS (pb_w (pw_an (pb_eq hr (pv_var 8) pv_int) (pw_a1 (pb_ni (hu65 hr) (pv_var 6) (pv_var 3))))) pl_never pl_nil)))
    (pl_cons (pt_ifS (pb_eq hr (pv_po (po_lenP (pv 4) (by rfl) T.n_len)) pv_int) (pl_one (pt_ret (po_pv pv_non))) pl_nil)
    pl_never))))

/-! Program.__init__ -/
abbrev s_Program___init__ : Stmt := inClass (topS 22) 0
theorem sc_Program___init__ : FnScope ["self", "steps", "needs", "befores", "ring"] ["self", "steps", "needs", "befores"] (defScope s_Program___init__) := ⟨rfl, rfl, rfl, by decide +kernel, rfl, by decide +kernel, by decide +kernel⟩
noncomputable def t_Program___init___1 (C : Addr) (w : World) : Cs := (cIfS (bNot (cT (cF (cCall (m_is_between C w) (cCons (cK (.int 1)) (cCons (cK (.int 12)) (cCons (cVar 1) cNil))))))) cNever cSkip)
noncomputable def t_Program___init___2 (C : Addr) (w : World) : Cs := (cIfS (bNot (cT (cF (cCall (m_is_link_row C w) (cCons (cVar 1) (cCons (cVar 2) cNil)))))) cNever cSkip)
noncomputable def t_Program___init___3 (C : Addr) (w : World) : Cs := (cIfS (bNot (cT (cF (cCall (m_is_link_row C w) (cCons (cVar 1) (cCons (cVar 3) cNil)))))) cNever cSkip)
noncomputable def t_Program___init___4 (C : Addr) (w : World) : Cs := (cAsg 4 (cCall (m_zero_ring C w) (cCons (cVar 1) (cCons (cVar 2) (cCons (cVar 3) cNil)))))
noncomputable def t_Program___init___5 (C : Addr) (w : World) : Cs := (cIfS (cT (cBin (gIsN not) (cVar 4) (cK .non))) cNever cSkip)
noncomputable def c_Program___init__ (C : Addr) (w : World) : Cs := (cSeq (t_Program___init___1 C w)
    (cSeq (t_Program___init___2 C w)
    (cSeq (t_Program___init___3 C w)
    (cSeq (t_Program___init___4 C w)
    (cSeq (t_Program___init___5 C w)
    (cSeq (cFld C 0 "steps" (cVar 1))
    (cSeq (cFld C 0 "needs" (cVar 2))
    (cFld C 0 "befores" (cVar 3)))))))))
noncomputable def m_Program___init__ (C : Addr) (w : World) : MF := mOf 5 (c_Program___init__ C w)
theorem ok_Program___init__ {f : Addr} {fd : FuncData} (Fn : Fun K "__init__" "Program.__init__" s_Program___init__ f fd) (T : Tx K mg C) (Z : Tz P w K mg base ea) (g_is_between : Ok P w K mg base 2 "is_between" ["low", "high", "thing"] (m_is_between C w)) (g_is_link_row : Ok P w K mg base 5 "is_link_row" ["steps", "thing"] (m_is_link_row C w)) (g_zero_ring : Ok P w K mg base 2 "zero_ring" ["steps", "needs", "befores"] (m_zero_ring C w)) : FnOk P w K mg base CX0 6 f fd ["self", "steps", "needs", "befores"] (spD K 4 (m_Program___init__ C w)) := by
  have sc := sc_Program___init__
  exact fn_d Fn sc (by decide) fun cdv A outer s H E hr => (pl_cons (pt_ifS (pb_not (pb_val (pv_po (kCall g_is_between hr (by decide) (by rfl) (pa_c pv_int (pa_c (kGint (by rfl) T.c_MOST_STEPS) (pa_c (pv_var 1) pa_n))) (cCons_len (cCons_len (cCons_len (fun _ _ _ h => cNil_len h)))))))) (pl_one pt_never) pl_nil)
    (pl_cons (pt_ifS (pb_not (pb_val (pv_po (kCall g_is_link_row hr (by decide) (by rfl) (pa_c (pv_var 1) (pa_c (pv_var 2) pa_n)) (cCons_len (cCons_len (fun _ _ _ h => cNil_len h))))))) (pl_one pt_never) pl_nil)
    (pl_cons (pt_ifS (pb_not (pb_val (pv_po (kCall g_is_link_row hr (by decide) (by rfl) (pa_c (pv_var 1) (pa_c (pv_var 3) pa_n)) (cCons_len (cCons_len (fun _ _ _ h => cNil_len h))))))) (pl_one pt_never) pl_nil)
    (pl_cons (ps_as (i := 4) sc.nd rfl (by first | exact .inl rfl | exact .inr rfl) (kCall g_zero_ring hr (by decide) (by rfl) (pa_c (pv_var 1) (pa_c (pv_var 2) (pa_c (pv_var 3) pa_n))) (cCons_len (cCons_len (cCons_len (fun _ _ _ h => cNil_len h))))))
    (pl_cons (pt_ifS (pb_ntN (pv_var 4) pv_non) (pl_one pt_never) pl_nil)
    (pl_cons (pt_fld T.cls T.a_steps (pv 0) (pv_var 1))
    (pl_cons (pt_fld T.cls T.a_needs (pv 0) (pv_var 2))
    (pl_one (pt_fld T.cls T.a_befores (pv 0) (pv_var 3))))))))))

/-! _law_made -/
abbrev s__law_made : Stmt := topS 34
theorem sc__law_made : FnScope ["_law_parts_here"] ["_law_parts_here"] (defScope s__law_made) := ⟨rfl, rfl, rfl, by decide +kernel, rfl, by decide +kernel, by decide +kernel⟩
noncomputable def t__law_made_1 (C : Addr) (w : World) : Cs := (cRet (cMake C (m_Program___init__ C w) (cCons (cF (cIx 0 (cK (.int 0)))) (cCons (cF (cIx 0 (cK (.int 1)))) (cCons (cF (cIx 0 (cK (.int 2)))) cNil)))))
noncomputable def c__law_made (C : Addr) (w : World) : Cs := (t__law_made_1 C w)
noncomputable def m__law_made (C : Addr) (w : World) : MF := mOf 1 (c__law_made C w)
theorem ok__law_made {f : Addr} {fd : FuncData} (Fn : Fun K "_law_made" "_law_made" s__law_made f fd) (T : Tx K mg C) (Z : Tz P w K mg base ea) (g_Program___init__ : OkM P w K mg base 6 "Program" C ["self", "steps", "needs", "befores"] (m_Program___init__ C w)) : FnOk P w K mg base CX0 8 f fd ["_law_parts_here"] (spD K 1 (m__law_made C w)) := by
  have sc := sc__law_made
  exact fn_d Fn sc (by decide) fun cdv A outer s H E hr => (pl_one (pt_ret (kMake g_Program___init__ hr (by decide) (by rfl) (pa_c (pv_po (po_ixP (pv 0) pv_int)) (pa_c (pv_po (po_ixP (pv 0) pv_int)) (pa_c (pv_po (po_ixP (pv 0) pv_int)) pa_n))) (cCons_len (cCons_len (cCons_len (fun _ _ _ h => cNil_len h)))) rfl)))

/-! _law_may -/
abbrev s__law_may : Stmt := topS 35
theorem sc__law_may : FnScope ["_law_parts_here", "_law_counts_here", "_law_step", "_law_later", "_law_one", "_law_other", "_law_rounds"] ["_law_parts_here", "_law_counts_here", "_law_step"] (defScope s__law_may) := ⟨rfl, rfl, rfl, by decide +kernel, rfl, by decide +kernel, by decide +kernel⟩
noncomputable def t__law_may_1 (C : Addr) (w : World) : Cs := (cAsg 3 (cBin gAdd (cF (cIx 1 (cVar 2))) (cK (.int 1))))
noncomputable def b__law_may_2 (C : Addr) (w : World) : Cs := (cIfS (bAnd (cT (cBin gEq (cVar 5) (cVar 2))) (cT (cBin gLt (cF (cIx 1 (cVar 4))) (cF (cBin gSub (cVar 3) (cVar 6)))))) (cRet (cK (.bl false))) cSkip)
noncomputable def t__law_may_3 (C : Addr) (w : World) : Cs := (cFor (itS (cF (cBin gAdd (cF (cIx 0 (cK (.int 1)))) (cF (cIx 0 (cK (.int 2))))))) (gT (gC (gN 4) (gC (gN 5) (gC (gN 6) gZ))))
    (b__law_may_2 C w))
noncomputable def c__law_may (C : Addr) (w : World) : Cs := (cSeq (t__law_may_1 C w)
    (cSeq (t__law_may_3 C w)
    (cRet (cK (.bl true)))))
noncomputable def m__law_may (C : Addr) (w : World) : MF := mOf 7 (c__law_may C w)
theorem ok__law_may {f : Addr} {fd : FuncData} (Fn : Fun K "_law_may" "_law_may" s__law_may f fd) (T : Tx K mg C) (Z : Tz P w K mg base ea)  : FnOk P w K mg base CX0 1 f fd ["_law_parts_here", "_law_counts_here", "_law_step"] (spD K 3 (m__law_may C w)) := by
  have sc := sc__law_may
  exact fn_d Fn sc (by decide) fun cdv A outer s H E hr => (pl_cons (ps_as (i := 3) sc.nd rfl (by first | exact .inl rfl | exact .inr rfl) (po_add (pv_po (po_ixP (pv 1) (pv_var 2))) pv_int))
    (pl_cons (ps_forD PassesOwn.never rfl (pi_s (pv_po (po_add (pv_po (po_ixP (pv 0) pv_int)) (pv_po (po_ixP (pv 0) pv_int))))) (pg_t rfl (pgs_c (pg_n (i := 4) sc.nd rfl (by first | exact .inl rfl | exact .inr rfl)) (pgs_c (pg_n (i := 5) sc.nd rfl (by first | exact .inl rfl | exact .inr rfl)) (pgs_c (pg_n (i := 6) sc.nd rfl (by first | exact .inl rfl | exact .inr rfl)) pgs_z))) (gC_len (gC_len (gC_len (fun _ _ _ h => gZ_len h)))))
    (pl_one (pt_ifS (pb_w (pw_an (pb_eq hr (pv_var 5) (pv_var 2)) (pw_a1 (pb_lt (pv_po (po_ixP (pv 1) (pv_var 4))) (pv_po (po_sub (pv_var 3) (pv_var 6))))))) (pl_one (pt_ret (po_pv pv_bl))) pl_nil)))
    (pl_one (pt_ret (po_pv pv_bl)))))

/-! _law_order -/
abbrev s__law_order : Stmt := topS 36
theorem sc__law_order : FnScope ["_law_hand_here", "_law_parts_here", "_law_many", "_law_step", "_law_counts_here", "_law_order_here", "_law_turn", "_law_steps"] ["_law_hand_here", "_law_parts_here", "_law_many"] (defScope s__law_order) := ⟨rfl, rfl, rfl, by decide +kernel, rfl, by decide +kernel, by decide +kernel⟩
noncomputable def t__law_order_1 (C : Addr) (w : World) : Cs := (cCell 4 (cLc (itR1 (cCons (cF (cIx 1 (cK (.int 0)))) cNil)) [3] (gN 3) bYes (cK (.int 0))))
noncomputable def b__law_order_2 (C : Addr) (w : World) : Cs := (cSeq (cAsg 7 (cLc (itR1 (cCons (cF (cIx 1 (cK (.int 0)))) cNil)) [3] (gN 3) (cT (cF (cCall (m__law_may C w) (cCons (cVar 1) (cCons (cVar 4) (cCons (cVar 3) cNil)))))) (cVar 3)))
    (cSeq (cAsg 3 (cIx 7 (cF (cCall (m__law_draw C w) (cCons (cVar 0) (cCons (cF (cLenP 7)) cNil))))))
    (cSeq (cAsg 5 (cBin gAdd (cVar 5) (cF (cTup (cCons (cVar 3) cNil)))))
    (cSetIx 4 (cVar 3) (cF (cBin gAdd (cF (cIx 4 (cVar 3))) (cK (.int 1))))))))
noncomputable def t__law_order_3 (C : Addr) (w : World) : Cs := (cFor (itR1 (cCons (cVar 2) cNil)) (gN 6)
    (b__law_order_2 C w))
noncomputable def c__law_order (C : Addr) (w : World) : Cs := (cSeq (t__law_order_1 C w)
    (cSeq (cAsg 5 (cTup cNil))
    (cSeq (t__law_order_3 C w)
    (cRet (cVar 5)))))
noncomputable def m__law_order (C : Addr) (w : World) : MF := mOf 8 (c__law_order C w)
theorem ok__law_order {f : Addr} {fd : FuncData} (Fn : Fun K "_law_order" "_law_order" s__law_order f fd) (T : Tx K mg C) (Z : Tz P w K mg base ea) (g__law_may : Ok P w K mg base 1 "_law_may" ["_law_parts_here", "_law_counts_here", "_law_step"] (m__law_may C w)) (g__law_draw : Ok P w K mg base 1 "_law_draw" ["_law_hand_here", "_law_many"] (m__law_draw C w)) : FnOk P w K mg base CX0 2 f fd ["_law_hand_here", "_law_parts_here", "_law_many"] (spD K 3 (m__law_order C w)) := by
  have sc := sc__law_order
  exact fn_d Fn sc (by decide) fun cdv A outer s H E hr => (pl_cons (by first | exact (ps_cell (i := 4) sc.nd rfl (by first | exact .inl rfl | exact .inr rfl) (po_lc rfl sc.nd (pi_r1 (by rfl) T.n_range (pa_c (pv_po (po_ixP (pv 1) pv_int)) pa_n)) (blkOk_by (own := [("_law_step", 3)]) (by rfl)) (fun _ _ _ _ _ => (pg_n (i := 3) sc.nd rfl (by first | exact .inl rfl | exact .inr rfl))) (fun _ _ _ _ _ => pt_yes) (fun _ _ _ _ _ => (po_pv pv_int)) (by decide))) | exact (ps_cellLc (i := 4) rfl sc.nd rfl rfl rfl (pi_r1 (by rfl) T.n_range (pa_c (pv_po (po_ixP (pv 1) pv_int)) pa_n)) (blkOk_by (own := [("_law_step", 3)]) (by rfl)) (fun _ _ _ _ _ => (pg_n (i := 3) sc.nd rfl (by first | exact .inl rfl | exact .inr rfl))) (fun _ _ _ _ _ => pt_yes) (fun _ _ _ _ _ => (po_pv pv_int)) (by decide)))
    (pl_cons (ps_as (i := 5) sc.nd rfl (by first | exact .inl rfl | exact .inr rfl) (po_tup pa_n))
    (pl_cons (ps_forD PassesOwn.never rfl (pi_r1 (by rfl) T.n_range (pa_c (pv_var 2) pa_n)) (pg_n (i := 6) sc.nd rfl (by first | exact .inl rfl | exact .inr rfl))
    (pl_cons (by first | exact (ps_as (i := 7) sc.nd rfl (by first | exact .inl rfl | exact .inr rfl) (po_lc rfl sc.nd (pi_r1 (by rfl) T.n_range (pa_c (pv_po (po_ixP (pv 1) pv_int)) pa_n)) (blkOk_by (own := [("_law_step", 3)]) (by rfl)) (fun _ _ _ _ _ => (pg_n (i := 3) sc.nd rfl (by first | exact .inl rfl | exact .inr rfl))) (fun _ _ _ _ _ => (pt_if (pb_val (pv_po (kCall g__law_may hr (by decide) (by rfl) (pa_c (pv_var 1) (pa_c (pv_var 4) (pa_c (pv_var 3) pa_n))) (cCons_len (cCons_len (cCons_len (fun _ _ _ h => cNil_len h))))))))) (fun _ _ _ _ _ => (po_pv (pv_var 3))) (by decide))) | exact (ps_asLc (i := 7) rfl sc.nd rfl rfl rfl (pi_r1 (by rfl) T.n_range (pa_c (pv_po (po_ixP (pv 1) pv_int)) pa_n)) (blkOk_by (own := [("_law_step", 3)]) (by rfl)) (fun _ _ _ _ _ => (pg_n (i := 3) sc.nd rfl (by first | exact .inl rfl | exact .inr rfl))) (fun _ _ _ _ _ => (pt_if (pb_val (pv_po (kCall g__law_may hr (by decide) (by rfl) (pa_c (pv_var 1) (pa_c (pv_var 4) (pa_c (pv_var 3) pa_n))) (cCons_len (cCons_len (cCons_len (fun _ _ _ h => cNil_len h))))))))) (fun _ _ _ _ _ => (po_pv (pv_var 3))) (by decide)))
    (pl_cons (ps_as (i := 3) sc.nd rfl (by first | exact .inl rfl | exact .inr rfl) (po_ixP (pv 7) (pv_po (kCall g__law_draw hr (by decide) (by rfl) (pa_c (pv_var 0) (pa_c (pv_po (po_lenP (pv 7) (by rfl) T.n_len)) pa_n)) (cCons_len (cCons_len (fun _ _ _ h => cNil_len h)))))))
    (pl_cons (ps_as (i := 5) sc.nd rfl (by first | exact .inl rfl | exact .inr rfl) (po_add (pv_var 5) (pv_po (po_tup (pa_c (pv_var 3) pa_n)))))
    (pl_one (pt_setIx (pv 4) (pv_var 3) (pv_po (po_add (pv_po (po_ixP (pv 4) (pv_var 3))) pv_int))))))))
    (pl_one (pt_ret (po_pv (pv_var 5)))))))

/-! _law_far -/
abbrev s__law_far : Stmt := topS 38
theorem sc__law_far : FnScope ["_law_parts_here", "_law_step", "_law_other", "_law_far_here", "_law_turn", "_law_one", "_law_rounds"] ["_law_parts_here", "_law_step"] (defScope s__law_far) := ⟨rfl, rfl, rfl, by decide +kernel, rfl, by decide +kernel, by decide +kernel⟩
noncomputable def t__law_far_1 (C : Addr) (w : World) : Cs := (cAsg 3 (cLc (itR1 (cCons (cF (cIx 0 (cK (.int 0)))) cNil)) [2] (gN 2) bYes (cK .non)))
noncomputable def b__law_far_2 (C : Addr) (w : World) : Cs := (cIfS (bAnd (cT (cBin (gIsN not) (cF (cIx 3 (cVar 5))) (cK .non))) (bOr (cT (cBin (gIsN id) (cF (cIx 3 (cVar 2))) (cK .non))) (cT (cBin gGt (cF (cIx 3 (cVar 2))) (cF (cBin gAdd (cF (cIx 3 (cVar 5))) (cVar 6))))))) (cSetIx 3 (cVar 2) (cF (cBin gAdd (cF (cIx 3 (cVar 5))) (cVar 6)))) cSkip)
noncomputable def b__law_far_3 (C : Addr) (w : World) : Cs := (cFor (itS (cF (cBin gAdd (cF (cIx 0 (cK (.int 1)))) (cF (cIx 0 (cK (.int 2))))))) (gT (gC (gN 5) (gC (gN 2) (gC (gN 6) gZ))))
    (b__law_far_2 C w))
noncomputable def t__law_far_4 (C : Addr) (w : World) : Cs := (cFor (itR1 (cCons (cF (cIx 0 (cK (.int 0)))) cNil)) (gN 4)
    (b__law_far_3 C w))
noncomputable def c__law_far (C : Addr) (w : World) : Cs := (cSeq (t__law_far_1 C w)
    (cSeq (cSetIx 3 (cVar 1) (cK (.int 0)))
    (cSeq (t__law_far_4 C w)
    (cRet (cVar 3)))))
noncomputable def m__law_far (C : Addr) (w : World) : MF := mOf 7 (c__law_far C w)
theorem ok__law_far {f : Addr} {fd : FuncData} (Fn : Fun K "_law_far" "_law_far" s__law_far f fd) (T : Tx K mg C) (Z : Tz P w K mg base ea)  : FnOk P w K mg base CX0 1 f fd ["_law_parts_here", "_law_step"] (spD K 2 (m__law_far C w)) := by
  have sc := sc__law_far
  exact fn_d Fn sc (by decide) fun cdv A outer s H E hr => (pl_cons (by first | exact (ps_as (i := 3) sc.nd rfl (by first | exact .inl rfl | exact .inr rfl) (po_lc rfl sc.nd (pi_r1 (by rfl) T.n_range (pa_c (pv_po (po_ixP (pv 0) pv_int)) pa_n)) (blkOk_by (own := [("_law_other", 2)]) (by rfl)) (fun _ _ _ _ _ => (pg_n (i := 2) sc.nd rfl (by first | exact .inl rfl | exact .inr rfl))) (fun _ _ _ _ _ => pt_yes) (fun _ _ _ _ _ => (po_pv pv_non)) (by decide))) | exact (ps_asLc (i := 3) rfl sc.nd rfl rfl rfl (pi_r1 (by rfl) T.n_range (pa_c (pv_po (po_ixP (pv 0) pv_int)) pa_n)) (blkOk_by (own := [("_law_other", 2)]) (by rfl)) (fun _ _ _ _ _ => (pg_n (i := 2) sc.nd rfl (by first | exact .inl rfl | exact .inr rfl))) (fun _ _ _ _ _ => pt_yes) (fun _ _ _ _ _ => (po_pv pv_non)) (by decide)))
    (pl_cons (pt_setIx (pv 3) (pv_var 1) pv_int)
    (pl_cons (ps_forD PassesOwn.never rfl (pi_r1 (by rfl) T.n_range (pa_c (pv_po (po_ixP (pv 0) pv_int)) pa_n)) (pg_n (i := 4) sc.nd rfl (by first | exact .inl rfl | exact .inr rfl))
    (pl_one (ps_forD PassesOwn.never rfl (pi_s (pv_po (po_add (pv_po (po_ixP (pv 0) pv_int)) (pv_po (po_ixP (pv 0) pv_int))))) (pg_t rfl (pgs_c (pg_n (i := 5) sc.nd rfl (by first | exact .inl rfl | exact .inr rfl)) (pgs_c (pg_n (i := 2) sc.nd rfl (by first | exact .inl rfl | exact .inr rfl)) (pgs_c (pg_n (i := 6) sc.nd rfl (by first | exact .inl rfl | exact .inr rfl)) pgs_z))) (gC_len (gC_len (gC_len (fun _ _ _ h => gZ_len h)))))
    (pl_one (pt_ifS (pb_w (pw_an (pb_ntN (pv_po (po_ixP (pv 3) (pv_var 5))) pv_non) (pw_a1 (pb_w (pw_on (pb_isN (pv_po (po_ixP (pv 3) (pv_var 2))) pv_non) (pw_o1 (pb_gt (pv_po (po_ixP (pv 3) (pv_var 2))) (pv_po (po_add (pv_po (po_ixP (pv 3) (pv_var 5))) (pv_var 6)))))))))) (pl_one (pt_setIx (pv 3) (pv_var 2) (pv_po (po_add (pv_po (po_ixP (pv 3) (pv_var 5))) (pv_var 6))))) pl_nil)))))
    (pl_one (pt_ret (po_pv (pv_var 3)))))))

/-! is_step -/
abbrev s_is_step : Stmt := topS 4
theorem sc_is_step : FnScope ["program", "thing"] ["program", "thing"] (defScope s_is_step) := ⟨rfl, rfl, rfl, by decide +kernel, rfl, by decide +kernel, by decide +kernel⟩
noncomputable def t_is_step_1 (C : Addr) (w : World) : Cs := (cRet (cCall (m_is_between C w) (cCons (cK (.int 0)) (cCons (cF (cBin gSub (cAttr C "steps" (cVar 0)) (cK (.int 1)))) (cCons (cVar 1) cNil)))))
noncomputable def c_is_step (C : Addr) (w : World) : Cs := (t_is_step_1 C w)
noncomputable def m_is_step (C : Addr) (w : World) : MF := mOf 2 (c_is_step C w)
theorem ok_is_step {f : Addr} {fd : FuncData} (Fn : Fun K "is_step" "is_step" s_is_step f fd) (T : Tx K mg C) (Z : Tz P w K mg base ea) (g_is_between : Ok P w K mg base 2 "is_between" ["low", "high", "thing"] (m_is_between C w)) : FnOk P w K mg base CX0 3 f fd ["program", "thing"] (spD K 2 (m_is_step C w)) := by
  have sc := sc_is_step
  exact fn_d Fn sc (by decide) fun cdv A outer s H E hr => (pl_one (pt_ret (kCall g_is_between hr (by decide) (by rfl) (pa_c pv_int (pa_c (pv_po (po_sub (pv_attr T.cls T.a_steps (pv_var 0)) pv_int)) (pa_c (pv_var 1) pa_n))) (cCons_len (cCons_len (cCons_len (fun _ _ _ h => cNil_len h)))))))

/-! spread -/
abbrev s_spread : Stmt := topS 11
theorem sc_spread : FnScope ["rows", "start", "least", "queue", "rounds", "step", "other", "more"] ["rows", "start"] (defScope s_spread) := ⟨rfl, rfl, rfl, by decide +kernel, rfl, by decide +kernel, by decide +kernel⟩
noncomputable def t_spread_1 (C : Addr) (w : World) : Cs := (cAsg 3 (cLst (cCons (cF (cTup (cCons (cK (.int 0)) (cCons (cVar 1) cNil)))) cNil)))
noncomputable def b_spread_2 (C : Addr) (w : World) : Cs := (cIfS (cT (cInD not 2 (cVar 6))) (cDrop (cHPush 3 (cF (cTup (cCons (cF (cBin gAdd (cVar 4) (cVar 7))) (cCons (cVar 6) cNil)))))) cSkip)
noncomputable def b_spread_3 (C : Addr) (w : World) : Cs := (cSeq (cAsgG (gT (gC (gN 4) (gC (gN 5) gZ))) (cF (cHPop 3)))
    (cIfS (cT (cInD not 2 (cVar 5))) (cSeq (cPutD 2 (cVar 5) (cVar 4))
    (cFor (itS (cF (cIx 0 (cVar 5)))) (gT (gC (gN 6) (gC (gN 7) gZ)))
    (b_spread_2 C w))) cSkip))
noncomputable def t_spread_4 (C : Addr) (w : World) : Cs := (cWhile (cT (cBin gGt (cF (cLenP 3)) (cK (.int 0))))
    (b_spread_3 C w))
noncomputable def c_spread (C : Addr) (w : World) : Cs := (cSeq (cAsg 2 (cK (.odic [] [])))
    (cSeq (t_spread_1 C w)
    (cSeq (t_spread_4 C w)
    (cRet (cVar 2)))))
noncomputable def m_spread (C : Addr) (w : World) : MF := mOf 8 (c_spread C w)
theorem ok_spread {f : Addr} {fd : FuncData} (Fn : Fun K "spread" "spread" s_spread f fd) (T : Tx K mg C) (Z : Tz P w K mg base ea)  : FnOk P w K mg base CX0 1 f fd ["rows", "start"] (spD K 2 (m_spread C w)) := by
  have sc := sc_spread
  exact fn_d Fn sc (by decide) fun cdv A outer s H E hr => (pl_cons (ps_as (i := 2) sc.nd rfl (by first | exact .inl rfl | exact .inr rfl) po_dnew)
    (pl_cons (ps_as (i := 3) sc.nd rfl (by first | exact .inl rfl | exact .inr rfl) (po_lst (pa_c (pv_po (po_tup (pa_c pv_int (pa_c (pv_var 1) pa_n)))) pa_n)))
    (pl_cons (pt_while PassesOwn.never (pb_gt (pv_po (po_lenP (pv 3) (by rfl) T.n_len)) pv_int)
    (pl_cons (ps_asgG (pv_po (po_hpop (hu1 hr) (by rfl) T.h_heappop (pv 3))) (pg_t rfl (pgs_c (pg_n (i := 4) sc.nd rfl (by first | exact .inl rfl | exact .inr rfl)) (pgs_c (pg_n (i := 5) sc.nd rfl (by first | exact .inl rfl | exact .inr rfl)) pgs_z)) (gC_len (gC_len (fun _ _ _ h => gZ_len h)))))
    (pl_one (pt_ifS (pb_niD (hu1 hr) (pv_var 5) (pv 2)) (pl_cons (pt_putD (hu1 hr) (pv 2) (pv_var 5) (pv_var 4))
    (pl_one (ps_forD PassesOwn.never rfl (pi_s (pv_po (po_ixP (pv 0) (pv_var 5)))) (pg_t rfl (pgs_c (pg_n (i := 6) sc.nd rfl (by first | exact .inl rfl | exact .inr rfl)) (pgs_c (pg_n (i := 7) sc.nd rfl (by first | exact .inl rfl | exact .inr rfl)) pgs_z)) (gC_len (gC_len (fun _ _ _ h => gZ_len h))))
    (pl_one (pt_ifS (pb_niD (hu1 hr) (pv_var 6) (pv 2)) (pl_one (pt_drop (po_hpush (hu1 hr) (by rfl) T.h_heappush (pv 3) (pv_po (po_tup (pa_c (pv_po (po_add (pv_var 4) (pv_var 7))) (pa_c (pv_var 6) pa_n))))))) pl_nil))))) pl_nil))))
    (pl_one (pt_ret (po_pv (pv_var 2)))))))

/-! leading_from -/
abbrev s_leading_from : Stmt := topS 10
theorem sc_leading_from : FnScope ["steps", "links", "_", "rows", "one", "other", "rounds"] ["steps", "links"] (defScope s_leading_from) := ⟨rfl, rfl, rfl, by decide +kernel, rfl, by decide +kernel, by decide +kernel⟩
noncomputable def t_leading_from_1 (C : Addr) (w : World) : Cs := (cAsg 3 (cLc (itR1 (cCons (cVar 0) cNil)) [2] (gN 2) bYes (cLst cNil)))
noncomputable def b_leading_from_2 (C : Addr) (w : World) : Cs := (cDrop (cApN 3 (cVar 4) (cF (cTup (cCons (cVar 5) (cCons (cVar 6) cNil))))))
noncomputable def t_leading_from_3 (C : Addr) (w : World) : Cs := (cFor (itS (cVar 1)) (gT (gC (gN 4) (gC (gN 5) (gC (gN 6) gZ))))
    (b_leading_from_2 C w))
noncomputable def c_leading_from (C : Addr) (w : World) : Cs := (cSeq (t_leading_from_1 C w)
    (cSeq (t_leading_from_3 C w)
    (cRet (cVar 3))))
noncomputable def m_leading_from (C : Addr) (w : World) : MF := mOf 7 (c_leading_from C w)
theorem ok_leading_from {f : Addr} {fd : FuncData} (Fn : Fun K "leading_from" "leading_from" s_leading_from f fd) (T : Tx K mg C) (Z : Tz P w K mg base ea)  : FnOk P w K mg base CX0 1 f fd ["steps", "links"] (spD K 2 (m_leading_from C w)) := by
  have sc := sc_leading_from
  exact fn_d Fn sc (by decide) fun cdv A outer s H E hr => (pl_cons (by first | exact (ps_as (i := 3) sc.nd rfl (by first | exact .inl rfl | exact .inr rfl) (po_lc rfl sc.nd (pi_r1 (by rfl) T.n_range (pa_c (pv_var 0) pa_n)) (blkOk_by (own := [("_", 2)]) (by rfl)) (fun _ _ _ _ _ => (pg_n (i := 2) sc.nd rfl (by first | exact .inl rfl | exact .inr rfl))) (fun _ _ _ _ _ => pt_yes) (fun _ _ _ _ _ => (po_lst pa_n)) (by decide))) | exact (ps_asLc (i := 3) rfl sc.nd rfl rfl rfl (pi_r1 (by rfl) T.n_range (pa_c (pv_var 0) pa_n)) (blkOk_by (own := [("_", 2)]) (by rfl)) (fun _ _ _ _ _ => (pg_n (i := 2) sc.nd rfl (by first | exact .inl rfl | exact .inr rfl))) (fun _ _ _ _ _ => pt_yes) (fun _ _ _ _ _ => (po_lst pa_n)) (by decide)))
    (pl_cons (ps_forD PassesOwn.never rfl (pi_s (pv_var 1)) (pg_t rfl (pgs_c (pg_n (i := 4) sc.nd rfl (by first | exact .inl rfl | exact .inr rfl)) (pgs_c (pg_n (i := 5) sc.nd rfl (by first | exact .inl rfl | exact .inr rfl)) (pgs_c (pg_n (i := 6) sc.nd rfl (by first | exact .inl rfl | exact .inr rfl)) pgs_z))) (gC_len (gC_len (gC_len (fun _ _ _ h => gZ_len h)))))
    (pl_one (pt_drop (po_apN (pv 3) (pv_var 4) (pv_po (po_tup (pa_c (pv_var 5) (pa_c (pv_var 6) pa_n))))))))
    (pl_one (pt_ret (po_pv (pv_var 3))))))

/-! links_of -/
abbrev s_links_of : Stmt := topS 5
theorem sc_links_of : FnScope ["program"] ["program"] (defScope s_links_of) := ⟨rfl, rfl, rfl, by decide +kernel, rfl, by decide +kernel, by decide +kernel⟩
noncomputable def t_links_of_1 (C : Addr) (w : World) : Cs := (cRet (cBin gAdd (cAttr C "needs" (cVar 0)) (cAttr C "befores" (cVar 0))))
noncomputable def c_links_of (C : Addr) (w : World) : Cs := (t_links_of_1 C w)
noncomputable def m_links_of (C : Addr) (w : World) : MF := mOf 1 (c_links_of C w)
theorem ok_links_of {f : Addr} {fd : FuncData} (Fn : Fun K "links_of" "links_of" s_links_of f fd) (T : Tx K mg C) (Z : Tz P w K mg base ea)  : FnOk P w K mg base CX0 1 f fd ["program"] (spD K 1 (m_links_of C w)) := by
  have sc := sc_links_of
  exact fn_d Fn sc (by decide) fun cdv A outer s H E hr => (pl_one (pt_ret (po_add (pv_attr T.cls T.a_needs (pv_var 0)) (pv_attr T.cls T.a_befores (pv_var 0)))))

/-! least_from -/
abbrev s_least_from : Stmt := topS 12
theorem sc_least_from : FnScope ["program", "one"] ["program", "one"] (defScope s_least_from) := ⟨rfl, rfl, rfl, by decide +kernel, rfl, by decide +kernel, by decide +kernel⟩
noncomputable def t_least_from_1 (C : Addr) (w : World) : Cs := (cRet (cCall (m_spread C w) (cCons (cF (cCall (m_leading_from C w) (cCons (cAttr C "steps" (cVar 0)) (cCons (cF (cCall (m_links_of C w) (cCons (cVar 0) cNil))) cNil)))) (cCons (cVar 1) cNil))))
noncomputable def c_least_from (C : Addr) (w : World) : Cs := (t_least_from_1 C w)
noncomputable def m_least_from (C : Addr) (w : World) : MF := mOf 2 (c_least_from C w)
theorem ok_least_from {f : Addr} {fd : FuncData} (Fn : Fun K "least_from" "least_from" s_least_from f fd) (T : Tx K mg C) (Z : Tz P w K mg base ea) (g_spread : Ok P w K mg base 1 "spread" ["rows", "start"] (m_spread C w)) (g_leading_from : Ok P w K mg base 1 "leading_from" ["steps", "links"] (m_leading_from C w)) (g_links_of : Ok P w K mg base 1 "links_of" ["program"] (m_links_of C w)) : FnOk P w K mg base CX0 2 f fd ["program", "one"] (spD K 2 (m_least_from C w)) := by
  have sc := sc_least_from
  exact fn_d Fn sc (by decide) fun cdv A outer s H E hr => (pl_one (pt_ret (kCall g_spread hr (by decide) (by rfl) (pa_c (pv_po (kCall g_leading_from hr (by decide) (by rfl) (pa_c (pv_attr T.cls T.a_steps (pv_var 0)) (pa_c (pv_po (kCall g_links_of hr (by decide) (by rfl) (pa_c (pv_var 0) pa_n) (cCons_len (fun _ _ _ h => cNil_len h)))) pa_n)) (cCons_len (cCons_len (fun _ _ _ h => cNil_len h))))) (pa_c (pv_var 1) pa_n)) (cCons_len (cCons_len (fun _ _ _ h => cNil_len h))))))

/-! ahead -/
abbrev s_ahead : Stmt := topS 27
theorem sc_ahead : FnScope ["program", "one", "other"] ["program", "one", "other"] (defScope s_ahead) := ⟨rfl, rfl, rfl, by decide +kernel, rfl, by decide +kernel, by decide +kernel⟩
noncomputable def t_ahead_1 (C : Addr) (w : World) : Cs := (cIfS (bOr (bNot (cT (cF (cCall (m_is_step C w) (cCons (cVar 0) (cCons (cVar 1) cNil)))))) (bNot (cT (cF (cCall (m_is_step C w) (cCons (cVar 0) (cCons (cVar 2) cNil))))))) cNever cSkip)
noncomputable def t_ahead_2 (C : Addr) (w : World) : Cs := (cRet (cGet1 (cF (cCall (m_least_from C w) (cCons (cVar 0) (cCons (cVar 2) cNil)))) (cVar 1)))
noncomputable def x_ahead_3 (C : Addr) (w : World) : CsX := (cIfX (bOr (bNot (cT (cF (cCall (m_is_step C w) (cCons (cVar 0) (cCons (cVar 1) cNil)))))) (bNot (cT (cF (cCall (m_is_step C w) (cCons (cVar 0) (cCons (cVar 2) cNil))))))) (cRaise0 1) (cUp cSkip))
noncomputable def t_ahead_4 (C : Addr) (w : World) : Cs := (cRet (cGet1 (cF (cCall (m_least_from C w) (cCons (cVar 0) (cCons (cVar 2) cNil)))) (cVar 1)))
noncomputable def c_ahead (C : Addr) (w : World) : Cs := (cSeq (t_ahead_1 C w)
    (t_ahead_2 C w))
noncomputable def m_ahead (C : Addr) (w : World) : MF := mOf 3 (c_ahead C w)
noncomputable def cx_ahead (C : Addr) (w : World) : CsX := (cSeqX (x_ahead_3 C w)
    (cUp (t_ahead_4 C w)))
noncomputable def mx_ahead (C : Addr) (w : World) : MFX := mOfX 3 (cx_ahead C w)
theorem le_ahead (C : Addr) (w : World) : LeM (m_ahead C w) (mx_ahead C w) := le_m (show LeS (c_ahead C w) (cx_ahead C w) from (le_seq (le_if le_never le_up) le_up))
theorem ok_ahead {f : Addr} {fd : FuncData} (Fn : Fun K "ahead" "ahead" s_ahead f fd) (T : Tx K mg C) (Z : Tz P w K mg base ea) (g_is_step : Ok P w K mg base 3 "is_step" ["program", "thing"] (m_is_step C w)) (g_least_from : Ok P w K mg base 2 "least_from" ["program", "one"] (m_least_from C w)) : FnOk P w K mg base (L2.CX P w) 4 f fd ["program", "one", "other"] (spX K ea 3 (mx_ahead C w)) := by
  have sc := sc_ahead
  exact fn_x (k := 3) Fn sc (by decide) fun cdv A outer s H E hr => (plx_cons (px_ifS (pb_w (pw_on (pb_not (pb_val (pv_po (kCall g_is_step hr (by decide) (by rfl) (pa_c (pv_var 0) (pa_c (pv_var 1) pa_n)) (cCons_len (cCons_len (fun _ _ _ h => cNil_len h))))))) (pw_o1 (pb_not (pb_val (pv_po (kCall g_is_step hr (by decide) (by rfl) (pa_c (pv_var 0) (pa_c (pv_var 2) pa_n)) (cCons_len (cCons_len (fun _ _ _ h => cNil_len h)))))))))) (plx_one (px_raise0 rfl (L2.takes_of rfl rfl rfl rfl) Z.e_NoStep hr (by decide) (by rfl))) (plx_up pl_nil))
    (plx_up (pl_one (pt_ret (po_pv (pv_get1 (hu1 hr) (pv_po (kCall g_least_from hr (by decide) (by rfl) (pa_c (pv_var 0) (pa_c (pv_var 2) pa_n)) (cCons_len (cCons_len (fun _ _ _ h => cNil_len h))))) (pv_var 1)))))))

/-! _law_enemy -/
abbrev s__law_enemy : Stmt := topS 40
theorem sc__law_enemy : FnScope ["_law_parts_here", "_law_one", "_law_other", "_law_many", "_law_step", "_law_counts_here", "_law_turn", "_law_steps", "_law_least"] ["_law_parts_here", "_law_one", "_law_other", "_law_many"] (defScope s__law_enemy) := ⟨rfl, rfl, rfl, by decide +kernel, rfl, by decide +kernel, by decide +kernel⟩
noncomputable def t__law_enemy_1 (C : Addr) (w : World) : Cs := (cCell 5 (cLc (itR1 (cCons (cF (cIx 0 (cK (.int 0)))) cNil)) [4] (gN 4) bYes (cK (.int 0))))
noncomputable def b__law_enemy_2 (C : Addr) (w : World) : Cs := (cSeq (cAsg 7 (cLc (itR1 (cCons (cF (cIx 0 (cK (.int 0)))) cNil)) [4] (gN 4) (bAnd (cT (cBin gNe (cVar 4) (cVar 2))) (cT (cF (cCall (m__law_may C w) (cCons (cVar 0) (cCons (cVar 5) (cCons (cVar 4) cNil))))))) (cVar 4)))
    (cSeq (cAsg 7 (cLc (itS (cVar 7)) [4] (gN 4) (cT (cBin gLt (cF (cIx 5 (cVar 4))) (cVar 3))) (cVar 4)))
    (cSeq (cIfS (cT (cBin gEq (cF (cLenP 7)) (cK (.int 0)))) cBrk cSkip)
    (cSeq (cAsg 8 (cCB gMin (cCons (cF (cLc (itS (cVar 7)) [4] (gN 4) bYes (cIx 5 (cVar 4)))) cNil)))
    (cSeq (cAsg 7 (cLc (itS (cVar 7)) [4] (gN 4) (cT (cBin gEq (cF (cIx 5 (cVar 4))) (cVar 8))) (cVar 4)))
    (cSetIx 5 (cF (cIx 7 (cK (.int 0)))) (cF (cBin gAdd (cF (cIx 5 (cF (cIx 7 (cK (.int 0)))))) (cK (.int 1))))))))))
noncomputable def t__law_enemy_3 (C : Addr) (w : World) : Cs := (cFor (itR1 (cCons (cVar 3) cNil)) (gN 6)
    (b__law_enemy_2 C w))
noncomputable def c__law_enemy (C : Addr) (w : World) : Cs := (cSeq (t__law_enemy_1 C w)
    (cSeq (t__law_enemy_3 C w)
    (cRet (cIx 5 (cVar 1)))))
noncomputable def m__law_enemy (C : Addr) (w : World) : MF := mOf 9 (c__law_enemy C w)
theorem ok__law_enemy {f : Addr} {fd : FuncData} (Fn : Fun K "_law_enemy" "_law_enemy" s__law_enemy f fd) (T : Tx K mg C) (Z : Tz P w K mg base ea) (g__law_may : Ok P w K mg base 1 "_law_may" ["_law_parts_here", "_law_counts_here", "_law_step"] (m__law_may C w)) : FnOk P w K mg base CX0 2 f fd ["_law_parts_here", "_law_one", "_law_other", "_law_many"] (spD K 4 (m__law_enemy C w)) := by
  have sc := sc__law_enemy
  exact fn_d Fn sc (by decide) fun cdv A outer s H E hr => (pl_cons (by first | exact (ps_cell (i := 5) sc.nd rfl (by first | exact .inl rfl | exact .inr rfl) (po_lc rfl sc.nd (pi_r1 (by rfl) T.n_range (pa_c (pv_po (po_ixP (pv 0) pv_int)) pa_n)) (blkOk_by (own := [("_law_step", 4)]) (by rfl)) (fun _ _ _ _ _ => (pg_n (i := 4) sc.nd rfl (by first | exact .inl rfl | exact .inr rfl))) (fun _ _ _ _ _ => pt_yes) (fun _ _ _ _ _ => (po_pv pv_int)) (by decide))) | exact (ps_cellLc (i := 5) rfl sc.nd rfl rfl rfl (pi_r1 (by rfl) T.n_range (pa_c (pv_po (po_ixP (pv 0) pv_int)) pa_n)) (blkOk_by (own := [("_law_step", 4)]) (by rfl)) (fun _ _ _ _ _ => (pg_n (i := 4) sc.nd rfl (by first | exact .inl rfl | exact .inr rfl))) (fun _ _ _ _ _ => pt_yes) (fun _ _ _ _ _ => (po_pv pv_int)) (by decide)))
    (pl_cons (ps_forD PassesOwn.never rfl (pi_r1 (by rfl) T.n_range (pa_c (pv_var 3) pa_n)) (pg_n (i := 6) sc.nd rfl (by first | exact .inl rfl | exact .inr rfl))
    (pl_cons (by first | exact (ps_as (i := 7) sc.nd rfl (by first | exact .inl rfl | exact .inr rfl) (po_lc rfl sc.nd (pi_r1 (by rfl) T.n_range (pa_c (pv_po (po_ixP (pv 0) pv_int)) pa_n)) (blkOk_by (own := [("_law_step", 4)]) (by rfl)) (fun _ _ _ _ _ => (pg_n (i := 4) sc.nd rfl (by first | exact .inl rfl | exact .inr rfl))) (fun _ _ _ _ _ => (pt_if (pb_w (pw_an (pb_ne hr (pv_var 4) (pv_var 2)) (pw_a1 (pb_val (pv_po (kCall g__law_may hr (by decide) (by rfl) (pa_c (pv_var 0) (pa_c (pv_var 5) (pa_c (pv_var 4) pa_n))) (cCons_len (cCons_len (cCons_len (fun _ _ _ h => cNil_len h)))))))))))) (fun _ _ _ _ _ => (po_pv (pv_var 4))) (by decide))) | exact (ps_asLc (i := 7) rfl sc.nd rfl rfl rfl (pi_r1 (by rfl) T.n_range (pa_c (pv_po (po_ixP (pv 0) pv_int)) pa_n)) (blkOk_by (own := [("_law_step", 4)]) (by rfl)) (fun _ _ _ _ _ => (pg_n (i := 4) sc.nd rfl (by first | exact .inl rfl | exact .inr rfl))) (fun _ _ _ _ _ => (pt_if (pb_w (pw_an (pb_ne hr (pv_var 4) (pv_var 2)) (pw_a1 (pb_val (pv_po (kCall g__law_may hr (by decide) (by rfl) (pa_c (pv_var 0) (pa_c (pv_var 5) (pa_c (pv_var 4) pa_n))) (cCons_len (cCons_len (cCons_len (fun _ _ _ h => cNil_len h)))))))))))) (fun _ _ _ _ _ => (po_pv (pv_var 4))) (by decide)))
    (pl_cons (by first | exact (ps_as (i := 7) sc.nd rfl (by first | exact .inl rfl | exact .inr rfl) (po_lc rfl sc.nd (pi_s (pv_var 7)) (blkOk_by (own := [("_law_step", 4)]) (by rfl)) (fun _ _ _ _ _ => (pg_n (i := 4) sc.nd rfl (by first | exact .inl rfl | exact .inr rfl))) (fun _ _ _ _ _ => (pt_if (pb_lt (pv_po (po_ixP (pv 5) (pv_var 4))) (pv_var 3)))) (fun _ _ _ _ _ => (po_pv (pv_var 4))) (by decide))) | exact (ps_asLc (i := 7) rfl sc.nd rfl rfl rfl (pi_s (pv_var 7)) (blkOk_by (own := [("_law_step", 4)]) (by rfl)) (fun _ _ _ _ _ => (pg_n (i := 4) sc.nd rfl (by first | exact .inl rfl | exact .inr rfl))) (fun _ _ _ _ _ => (pt_if (pb_lt (pv_po (po_ixP (pv 5) (pv_var 4))) (pv_var 3)))) (fun _ _ _ _ _ => (po_pv (pv_var 4))) (by decide)))
    (pl_cons (pt_ifS (pb_eq hr (pv_po (po_lenP (pv 7) (by rfl) T.n_len)) pv_int) (pl_one pt_brk) pl_nil)
    (pl_cons (ps_as (i := 8) sc.nd rfl (by first | exact .inl rfl | exact .inr rfl) (kMin rfl (by rfl) T.n_min (pv_po (po_lc rfl sc.nd (pi_s (pv_var 7)) (blkOk_by (own := [("_law_step", 4)]) (by rfl)) (fun _ _ _ _ _ => (pg_n (i := 4) sc.nd rfl (by first | exact .inl rfl | exact .inr rfl))) (fun _ _ _ _ _ => pt_yes) (fun _ _ _ _ _ => (po_ixP (pv 5) (pv_var 4))) (by decide)))))
    (pl_cons (by first | exact (ps_as (i := 7) sc.nd rfl (by first | exact .inl rfl | exact .inr rfl) (po_lc rfl sc.nd (pi_s (pv_var 7)) (blkOk_by (own := [("_law_step", 4)]) (by rfl)) (fun _ _ _ _ _ => (pg_n (i := 4) sc.nd rfl (by first | exact .inl rfl | exact .inr rfl))) (fun _ _ _ _ _ => (pt_if (pb_eq hr (pv_po (po_ixP (pv 5) (pv_var 4))) (pv_var 8)))) (fun _ _ _ _ _ => (po_pv (pv_var 4))) (by decide))) | exact (ps_asLc (i := 7) rfl sc.nd rfl rfl rfl (pi_s (pv_var 7)) (blkOk_by (own := [("_law_step", 4)]) (by rfl)) (fun _ _ _ _ _ => (pg_n (i := 4) sc.nd rfl (by first | exact .inl rfl | exact .inr rfl))) (fun _ _ _ _ _ => (pt_if (pb_eq hr (pv_po (po_ixP (pv 5) (pv_var 4))) (pv_var 8)))) (fun _ _ _ _ _ => (po_pv (pv_var 4))) (by decide)))
    (pl_one (pt_setIx (pv 5) (pv_po (po_ixP (pv 7) pv_int)) (pv_po (po_add (pv_po (po_ixP (pv 5) (pv_po (po_ixP (pv 7) pv_int)))) pv_int))))))))))
    (pl_one (pt_ret (po_ixP (pv 5) (pv_var 1))))))

/-! _law_odd -/
abbrev s__law_odd : Stmt := topS 39
theorem sc__law_odd : FnScope ["_law_hand_here", "_law_deep", "_law_turn", "_law_odd_here"] ["_law_hand_here"] (defScope s__law_odd) := ⟨rfl, rfl, rfl, by decide +kernel, rfl, by decide +kernel, by decide +kernel⟩
noncomputable def t__law_odd_1 (C : Addr) (w : World) : Cs := (cFor (itR1 (cCons (cK (.int 18)) cNil)) (gN 2)
    (cAsg 1 (cLst (cCons (cVar 1) cNil))))
noncomputable def t__law_odd_2 (C : Addr) (w : World) : Cs := (cAsg 3 (cLst (cCons (cK .non) (cCons (cK (.bl true)) (cCons (cK (.bl false)) (cCons (cK (.str ("1" : Str))) (cCons (cK (.str ("A b" : Str))) (cCons (cF (cLst (cCons (cK (.str ("a" : Str))) cNil))) (cCons (cF (cK (.odic [.inr ("a" : Str)] [.str ("b" : Str)]))) (cCons (cF (cLst cNil)) (cCons (cF (cK (.odic [] []))) (cCons (cF (cTup (cCons (cF (cTup cNil)) cNil))) (cCons (cF (cTup (cCons (cK (.str ("a" : Str))) cNil))) (cCons (cVar 1) (cCons (cF (cTup (cCons (cK .non) cNil))) (cCons (cNeg (cK (.int 1))) (cCons (cF (cLst (cCons (cK (.int 0)) cNil))) (cCons (cF (cTup (cCons (cK (.bl true)) cNil))) cNil))))))))))))))))))
noncomputable def t__law_odd_3 (C : Addr) (w : World) : Cs := (cRet (cIx 3 (cF (cCall (m__law_draw C w) (cCons (cVar 0) (cCons (cF (cLenP 3)) cNil))))))
noncomputable def c__law_odd (C : Addr) (w : World) : Cs := (cSeq (cAsg 1 (cLst (cCons (cK .non) cNil)))
    (cSeq (t__law_odd_1 C w)
    (cSeq (t__law_odd_2 C w)
    (t__law_odd_3 C w))))
noncomputable def m__law_odd (C : Addr) (w : World) : MF := mOf 4 (c__law_odd C w)
theorem ok__law_odd {f : Addr} {fd : FuncData} (Fn : Fun K "_law_odd" "_law_odd" s__law_odd f fd) (T : Tx K mg C) (Z : Tz P w K mg base ea) (g__law_draw : Ok P w K mg base 1 "_law_draw" ["_law_hand_here", "_law_many"] (m__law_draw C w)) : FnOk P w K mg base CX0 2 f fd ["_law_hand_here"] (spD K 1 (m__law_odd C w)) := by
  have sc := sc__law_odd
  exact fn_d Fn sc (by decide) fun cdv A outer s H E hr => (pl_cons (ps_as (i := 1) sc.nd rfl (by first | exact .inl rfl | exact .inr rfl) (po_lst (pa_c pv_non pa_n)))
    (pl_cons (ps_forD PassesOwn.never rfl (pi_r1 (by rfl) T.n_range (pa_c pv_int pa_n)) (pg_n (i := 2) sc.nd rfl (by first | exact .inl rfl | exact .inr rfl))
    (pl_one (ps_as (i := 1) sc.nd rfl (by first | exact .inl rfl | exact .inr rfl) (po_lst (pa_c (pv_var 1) pa_n)))))
    (pl_cons (ps_as (i := 3) sc.nd rfl (by first | exact .inl rfl | exact .inr rfl) (po_lst (pa_c pv_non (pa_c pv_bl (pa_c pv_bl (pa_c pv_str (pa_c pv_str (pa_c (pv_po (po_lst (pa_c pv_str pa_n))) (pa_c (pv_po po_disp1) (pa_c (pv_po (po_lst pa_n)) (pa_c (pv_po po_dnew) (pa_c (pv_po (po_tup (pa_c (pv_po (po_tup pa_n)) pa_n))) (pa_c (pv_po (po_tup (pa_c pv_str pa_n))) (pa_c (pv_var 1) (pa_c (pv_po (po_tup (pa_c pv_non pa_n))) (pa_c (pv_neg pv_int) (pa_c (pv_po (po_lst (pa_c pv_int pa_n))) (pa_c (pv_po (po_tup (pa_c pv_bl pa_n))) pa_n))))))))))))))))))
    (pl_one (pt_ret (po_ixP (pv 3) (pv_po (kCall g__law_draw hr (by decide) (by rfl) (pa_c (pv_var 0) (pa_c (pv_po (po_lenP (pv 3) (by rfl) T.n_len)) pa_n)) (cCons_len (cCons_len (fun _ _ _ h => cNil_len h)))))))))))

/-! _law_refused -/
abbrev s__law_refused : Stmt := topS 41
theorem sc__law_refused : FnScope ["_law_program", "_law_one", "_law_other", "_law_told", "e"] ["_law_program", "_law_one", "_law_other"] (defScope s__law_refused) := ⟨rfl, rfl, rfl, by decide +kernel, rfl, by decide +kernel, by decide +kernel⟩
noncomputable def x__law_refused_1 (C : Addr) (w : World) : CsX := (cDropX (cCallX (mx_ahead C w) (cCons (cVar 0) (cCons (cVar 1) (cCons (cVar 2) cNil)))))
noncomputable def t__law_refused_2 (C : Addr) (w : World) : Cs := (cTryA NS subE (x__law_refused_1 C w) ((1, some 4, (cAsg 3 (cK (.bl true)))) :: ((0, none, (cAsg 3 (cK (.bl false)))) :: [])))
noncomputable def c__law_refused (C : Addr) (w : World) : Cs := (cSeq (cAsg 3 (cK (.bl false)))
    (cSeq (t__law_refused_2 C w)
    (cRet (cVar 3))))
noncomputable def m__law_refused (C : Addr) (w : World) : MF := mOf 5 (c__law_refused C w)
theorem ok__law_refused {f : Addr} {fd : FuncData} (Fn : Fun K "_law_refused" "_law_refused" s__law_refused f fd) (T : Tx K mg C) (Z : Tz P w K mg base ea) (g_ahead : OkX P w K mg base ea 4 "ahead" ["program", "one", "other"] (mx_ahead C w)) : FnOk P w K mg base CX0 5 f fd ["_law_program", "_law_one", "_law_other"] (spD K 3 (m__law_refused C w)) := by
  have sc := sc__law_refused
  exact fn_d Fn sc (by decide) fun cdv A outer s H E hr => (pl_cons (ps_as (i := 3) sc.nd rfl (by first | exact .inl rfl | exact .inr rfl) (po_pv pv_bl))
    (pl_cons (px_tryA (⟨1, some 4, (cAsg 3 (cK (.bl true))), tIs NS ea 4 3⟩ :: (⟨0, none, (cAsg 3 (cK (.bl false))), fun _ _ _ => tS K (cAsg 3 (cK (.bl false)))⟩ :: [])) rfl rfl rfl sc.nd (fun n hn h hh => Z.x n hn h (by simp only [List.map_cons, List.map_nil] at hh; exact hd_sub (by decide) hh)) (ok_cons (ok_is (by decide)) (ok_cons ok_plain (fun q hq => by cases hq))) (fun W pn xe tk po => (plx_one (px_drop (kCallX g_ahead hr (by decide) (by rfl) tk (pa_c (pv_var 0) (pa_c (pv_var 1) (pa_c (pv_var 2) pa_n))) (cCons_len (cCons_len (cCons_len (fun _ _ _ h => cNil_len h)))))))) (Cls2.as rfl rfl ⟨by rfl, by decide, .inl Z.g_NoStep⟩ (suite_is sc.nd rfl (by first | exact .inl rfl | exact .inr (.inl rfl) | exact .inr (.inr rfl)) rfl (by first | exact .inl rfl | exact .inr rfl) (by first | exact .inl rfl | exact .inr rfl) (by rfl) T.n_isinstance (by rfl) Z.g_CellError (by rfl) T.n_ValueError (by decide +kernel) Z.ei (by decide) (by decide) (by decide) (by decide) (by decide) (by rfl) (by rfl) (by rfl) (by rfl) (by rfl) (by rfl) (by rfl)) (Cls2.one ⟨by rfl, by decide, .inl Z.g_CellError⟩ (fun a oe cls dd pn _ _ => (pl_one (ps_as (i := 3) sc.nd rfl (by first | exact .inl rfl | exact .inr rfl) (po_pv pv_bl)))) Cls2.nil)))
    (pl_one (pt_ret (po_pv (pv_var 3))))))

/-! law -/
abbrev s_law : Stmt := topS 42
theorem sc_law : FnScope ["_law_script", "_law_hand_here", "_law_parts_here", "_law_program", "_law_order_here", "_law_other", "_law_far_here", "_law_one", "_law_told", "_law_turn", "_law_step", "_law_counts_here", "_law_most", "_law_thing"] ["_law_script"] (defScope s_law) := ⟨rfl, rfl, rfl, by decide +kernel, rfl, by decide +kernel, by decide +kernel⟩
noncomputable def t_law_1 (C : Addr) (w : World) : Cs := (cCell 1 (cCall (m__law_hand C w) (cCons (cVar 0) cNil)))
noncomputable def t_law_2 (C : Addr) (w : World) : Cs := (cAsg 2 (cCall (m__law_parts C w) (cCons (cVar 1) (cCons (cK (.int 7)) (cCons (cK (.int 7)) (cCons (cK (.int 4)) cNil))))))
noncomputable def t_law_3 (C : Addr) (w : World) : Cs := (cAsg 3 (cCall (m__law_made C w) (cCons (cVar 2) cNil)))
noncomputable def t_law_4 (C : Addr) (w : World) : Cs := (cAsg 4 (cCall (m__law_order C w) (cCons (cVar 1) (cCons (cVar 2) (cCons (cK (.int 40)) cNil)))))
noncomputable def b_law_5 (C : Addr) (w : World) : Cs := (cSeq (cAsg 8 (cCall (m_ahead C w) (cCons (cVar 3) (cCons (cVar 7) (cCons (cVar 5) cNil)))))
    (cIfS (bOr (cT (cBin gNe (cVar 8) (cF (cIx 6 (cVar 7))))) (cT (cF (cCB gIsi (cCons (cVar 8) (cCons (cK (.ty "bool")) cNil)))))) (cRet (cK (.bl false))) cSkip))
noncomputable def b_law_6 (C : Addr) (w : World) : Cs := (cSeq (cAsg 6 (cCall (m__law_far C w) (cCons (cVar 2) (cCons (cVar 5) cNil))))
    (cFor (itR1 (cCons (cF (cIx 2 (cK (.int 0)))) cNil)) (gN 7)
    (b_law_5 C w)))
noncomputable def t_law_7 (C : Addr) (w : World) : Cs := (cFor (itR1 (cCons (cF (cIx 2 (cK (.int 0)))) cNil)) (gN 5)
    (b_law_6 C w))
noncomputable def b_law_8 (C : Addr) (w : World) : Cs := (cSeq (cAsg 7 (cCall (m__law_draw C w) (cCons (cVar 1) (cCons (cF (cIx 2 (cK (.int 0)))) cNil))))
    (cSeq (cAsg 5 (cCall (m__law_draw C w) (cCons (cVar 1) (cCons (cF (cIx 2 (cK (.int 0)))) cNil))))
    (cSeq (cAsg 8 (cCall (m_ahead C w) (cCons (cVar 3) (cCons (cVar 7) (cCons (cVar 5) cNil)))))
    (cSeq (cIfS (bAnd (cT (cBin gNe (cVar 7) (cVar 5))) (bAnd (cT (cBin (gIsN id) (cVar 8) (cK .non))) (cT (cBin gLt (cF (cCall (m__law_enemy C w) (cCons (cVar 2) (cCons (cVar 7) (cCons (cVar 5) (cCons (cK (.int 60)) cNil)))))) (cK (.int 3)))))) (cRet (cK (.bl false))) cSkip)
    (cIfS (bAnd (cT (cBin gNe (cVar 7) (cVar 5))) (bAnd (cT (cBin (gIsN not) (cVar 8) (cK .non))) (cT (cBin gNe (cF (cCall (m__law_enemy C w) (cCons (cVar 2) (cCons (cVar 7) (cCons (cVar 5) (cCons (cK (.int 200)) cNil)))))) (cVar 8))))) (cRet (cK (.bl false))) cSkip)))))
noncomputable def t_law_9 (C : Addr) (w : World) : Cs := (cFor (itR1 (cCons (cK (.int 3)) cNil)) (gN 9)
    (b_law_8 C w))
noncomputable def t_law_10 (C : Addr) (w : World) : Cs := (cAsg 11 (cLc (itR1 (cCons (cF (cIx 2 (cK (.int 0)))) cNil)) [10] (gN 10) bYes (cK (.int 0))))
noncomputable def b_law_11 (C : Addr) (w : World) : Cs := (cSeq (cAsg 12 (cCall (m_ahead C w) (cCons (cVar 3) (cCons (cVar 10) (cCons (cVar 7) cNil)))))
    (cIfS (bAnd (cT (cBin (gIsN not) (cVar 12) (cK .non))) (cT (cBin gGt (cF (cBin gSub (cF (cIx 11 (cVar 10))) (cF (cIx 11 (cVar 7))))) (cVar 12)))) (cRet (cK (.bl false))) cSkip))
noncomputable def b_law_12 (C : Addr) (w : World) : Cs := (cSeq (cSetIx 11 (cVar 10) (cF (cBin gAdd (cF (cIx 11 (cVar 10))) (cK (.int 1)))))
    (cFor (itR1 (cCons (cF (cIx 2 (cK (.int 0)))) cNil)) (gN 7)
    (b_law_11 C w)))
noncomputable def t_law_13 (C : Addr) (w : World) : Cs := (cFor (itS (cVar 4)) (gN 10)
    (b_law_12 C w))
noncomputable def b_law_14 (C : Addr) (w : World) : Cs := (cIfS (bOr (bNot (cT (cF (cCall (m__law_refused C w) (cCons (cVar 3) (cCons (cVar 13) (cCons (cK (.int 0)) cNil))))))) (bNot (cT (cF (cCall (m__law_refused C w) (cCons (cVar 3) (cCons (cK (.int 0)) (cCons (cVar 13) cNil)))))))) (cRet (cK (.bl false))) cSkip)
noncomputable def t_law_15 (C : Addr) (w : World) : Cs := (cFor (itS (cF (cLst (cCons (cF (cIx 2 (cK (.int 0)))) (cCons (cNeg (cK (.int 1))) (cCons (cK .non) (cCons (cK (.bl true)) (cCons (cK (.str ("0" : Str))) (cCons (cF (cTup (cCons (cK (.int 0)) cNil))) (cCons (cF (cCall (m__law_odd C w) (cCons (cVar 1) cNil))) cNil)))))))))) (gN 13)
    (b_law_14 C w))
noncomputable def c_law (C : Addr) (w : World) : Cs := (cSeq (t_law_1 C w)
    (cSeq (t_law_2 C w)
    (cSeq (t_law_3 C w)
    (cSeq (t_law_4 C w)
    (cSeq (t_law_7 C w)
    (cSeq (t_law_9 C w)
    (cSeq (t_law_10 C w)
    (cSeq (t_law_13 C w)
    (cSeq (t_law_15 C w)
    (cRet (cK (.bl true))))))))))))
noncomputable def m_law (C : Addr) (w : World) : MF := mOf 14 (c_law C w)
theorem ok_law {f : Addr} {fd : FuncData} (Fn : Fun K "law" "law" s_law f fd) (T : Tx K mg C) (Z : Tz P w K mg base ea) (g__law_hand : Ok P w K mg base 1 "_law_hand" ["_law_script"] (m__law_hand C w)) (g__law_parts : Ok P w K mg base 3 "_law_parts" ["_law_hand_here", "_law_most", "_law_links_here", "_law_rounds"] (m__law_parts C w)) (g__law_made : Ok P w K mg base 8 "_law_made" ["_law_parts_here"] (m__law_made C w)) (g__law_order : Ok P w K mg base 2 "_law_order" ["_law_hand_here", "_law_parts_here", "_law_many"] (m__law_order C w)) (g__law_far : Ok P w K mg base 1 "_law_far" ["_law_parts_here", "_law_step"] (m__law_far C w)) (g_ahead : OkX P w K mg base ea 4 "ahead" ["program", "one", "other"] (mx_ahead C w)) (g__law_draw : Ok P w K mg base 1 "_law_draw" ["_law_hand_here", "_law_many"] (m__law_draw C w)) (g__law_enemy : Ok P w K mg base 2 "_law_enemy" ["_law_parts_here", "_law_one", "_law_other", "_law_many"] (m__law_enemy C w)) (g__law_odd : Ok P w K mg base 2 "_law_odd" ["_law_hand_here"] (m__law_odd C w)) (g__law_refused : Ok P w K mg base 5 "_law_refused" ["_law_program", "_law_one", "_law_other"] (m__law_refused C w)) : FnOk P w K mg base CX0 9 f fd ["_law_script"] (spD K 1 (m_law C w)) := by
  have sc := sc_law
  exact fn_d Fn sc (by decide) fun cdv A outer s H E hr => (pl_cons (ps_cell (i := 1) sc.nd rfl (by first | exact .inl rfl | exact .inr rfl) (kCall g__law_hand hr (by decide) (by rfl) (pa_c (pv_var 0) pa_n) (cCons_len (fun _ _ _ h => cNil_len h))))
    (pl_cons (ps_as (i := 2) sc.nd rfl (by first | exact .inl rfl | exact .inr rfl) (kCall g__law_parts hr (by decide) (by rfl) (pa_c (pv_var 1) (pa_c pv_int (pa_c pv_int (pa_c pv_int pa_n)))) (cCons_len (cCons_len (cCons_len (cCons_len (fun _ _ _ h => cNil_len h)))))))
    (pl_cons (ps_as (i := 3) sc.nd rfl (by first | exact .inl rfl | exact .inr rfl) (kCall g__law_made hr (by decide) (by rfl) (pa_c (pv_var 2) pa_n) (cCons_len (fun _ _ _ h => cNil_len h))))
    (pl_cons (ps_as (i := 4) sc.nd rfl (by first | exact .inl rfl | exact .inr rfl) (kCall g__law_order hr (by decide) (by rfl) (pa_c (pv_var 1) (pa_c (pv_var 2) (pa_c pv_int pa_n))) (cCons_len (cCons_len (cCons_len (fun _ _ _ h => cNil_len h))))))
    (pl_cons (ps_forD PassesOwn.never rfl (pi_r1 (by rfl) T.n_range (pa_c (pv_po (po_ixP (pv 2) pv_int)) pa_n)) (pg_n (i := 5) sc.nd rfl (by first | exact .inl rfl | exact .inr rfl))
    (pl_cons (ps_as (i := 6) sc.nd rfl (by first | exact .inl rfl | exact .inr rfl) (kCall g__law_far hr (by decide) (by rfl) (pa_c (pv_var 2) (pa_c (pv_var 5) pa_n)) (cCons_len (cCons_len (fun _ _ _ h => cNil_len h)))))
    (pl_one (ps_forD PassesOwn.never rfl (pi_r1 (by rfl) T.n_range (pa_c (pv_po (po_ixP (pv 2) pv_int)) pa_n)) (pg_n (i := 7) sc.nd rfl (by first | exact .inl rfl | exact .inr rfl))
    (pl_cons (ps_as (i := 8) sc.nd rfl (by first | exact .inl rfl | exact .inr rfl) (kCall (g_ahead.calmL (le_ahead C w)) hr (by decide) (by rfl) (pa_c (pv_var 3) (pa_c (pv_var 7) (pa_c (pv_var 5) pa_n))) (cCons_len (cCons_len (cCons_len (fun _ _ _ h => cNil_len h))))))
    (pl_one (pt_ifS (pb_w (pw_on (pb_ne hr (pv_var 8) (pv_po (po_ixP (pv 6) (pv_var 7)))) (pw_o1 (pb_val (pv_po (kIsi (by rfl) T.n_isinstance (pv_var 8) (kTy (by rfl) T.n_bool (by decide +kernel)))))))) (pl_one (pt_ret (po_pv pv_bl))) pl_nil)))))))
    (pl_cons (ps_forD PassesOwn.never rfl (pi_r1 (by rfl) T.n_range (pa_c pv_int pa_n)) (pg_n (i := 9) sc.nd rfl (by first | exact .inl rfl | exact .inr rfl))
    (pl_cons (ps_as (i := 7) sc.nd rfl (by first | exact .inl rfl | exact .inr rfl) (kCall g__law_draw hr (by decide) (by rfl) (pa_c (pv_var 1) (pa_c (pv_po (po_ixP (pv 2) pv_int)) pa_n)) (cCons_len (cCons_len (fun _ _ _ h => cNil_len h)))))
    (pl_cons (ps_as (i := 5) sc.nd rfl (by first | exact .inl rfl | exact .inr rfl) (kCall g__law_draw hr (by decide) (by rfl) (pa_c (pv_var 1) (pa_c (pv_po (po_ixP (pv 2) pv_int)) pa_n)) (cCons_len (cCons_len (fun _ _ _ h => cNil_len h)))))
    (pl_cons (ps_as (i := 8) sc.nd rfl (by first | exact .inl rfl | exact .inr rfl) (kCall (g_ahead.calmL (le_ahead C w)) hr (by decide) (by rfl) (pa_c (pv_var 3) (pa_c (pv_var 7) (pa_c (pv_var 5) pa_n))) (cCons_len (cCons_len (cCons_len (fun _ _ _ h => cNil_len h))))))
    (pl_cons (pt_ifS (pb_w (pw_an (pb_ne hr (pv_var 7) (pv_var 5)) (pw_an (pb_isN (pv_var 8) pv_non) (pw_a1 (pb_lt (pv_po (kCall g__law_enemy hr (by decide) (by rfl) (pa_c (pv_var 2) (pa_c (pv_var 7) (pa_c (pv_var 5) (pa_c pv_int pa_n)))) (cCons_len (cCons_len (cCons_len (cCons_len (fun _ _ _ h => cNil_len h))))))) pv_int))))) (pl_one (pt_ret (po_pv pv_bl))) pl_nil)
    (pl_one (pt_ifS (pb_w (pw_an (pb_ne hr (pv_var 7) (pv_var 5)) (pw_an (pb_ntN (pv_var 8) pv_non) (pw_a1 (pb_ne hr (pv_po (kCall g__law_enemy hr (by decide) (by rfl) (pa_c (pv_var 2) (pa_c (pv_var 7) (pa_c (pv_var 5) (pa_c pv_int pa_n)))) (cCons_len (cCons_len (cCons_len (cCons_len (fun _ _ _ h => cNil_len h))))))) (pv_var 8)))))) (pl_one (pt_ret (po_pv pv_bl))) pl_nil)))))))
    (pl_cons (by first | exact (ps_as (i := 11) sc.nd rfl (by first | exact .inl rfl | exact .inr rfl) (po_lc rfl sc.nd (pi_r1 (by rfl) T.n_range (pa_c (pv_po (po_ixP (pv 2) pv_int)) pa_n)) (blkOk_by (own := [("_law_step", 10)]) (by rfl)) (fun _ _ _ _ _ => (pg_n (i := 10) sc.nd rfl (by first | exact .inl rfl | exact .inr rfl))) (fun _ _ _ _ _ => pt_yes) (fun _ _ _ _ _ => (po_pv pv_int)) (by decide))) | exact (ps_asLc (i := 11) rfl sc.nd rfl rfl rfl (pi_r1 (by rfl) T.n_range (pa_c (pv_po (po_ixP (pv 2) pv_int)) pa_n)) (blkOk_by (own := [("_law_step", 10)]) (by rfl)) (fun _ _ _ _ _ => (pg_n (i := 10) sc.nd rfl (by first | exact .inl rfl | exact .inr rfl))) (fun _ _ _ _ _ => pt_yes) (fun _ _ _ _ _ => (po_pv pv_int)) (by decide)))
    (pl_cons (ps_forD PassesOwn.never rfl (pi_s (pv_var 4)) (pg_n (i := 10) sc.nd rfl (by first | exact .inl rfl | exact .inr rfl))
    (pl_cons (pt_setIx (pv 11) (pv_var 10) (pv_po (po_add (pv_po (po_ixP (pv 11) (pv_var 10))) pv_int)))
    (pl_one (ps_forD PassesOwn.never rfl (pi_r1 (by rfl) T.n_range (pa_c (pv_po (po_ixP (pv 2) pv_int)) pa_n)) (pg_n (i := 7) sc.nd rfl (by first | exact .inl rfl | exact .inr rfl))
    (pl_cons (ps_as (i := 12) sc.nd rfl (by first | exact .inl rfl | exact .inr rfl) (kCall (g_ahead.calmL (le_ahead C w)) hr (by decide) (by rfl) (pa_c (pv_var 3) (pa_c (pv_var 10) (pa_c (pv_var 7) pa_n))) (cCons_len (cCons_len (cCons_len (fun _ _ _ h => cNil_len h))))))
    (pl_one (pt_ifS (pb_w (pw_an (pb_ntN (pv_var 12) pv_non) (pw_a1 (pb_gt (pv_po (po_sub (pv_po (po_ixP (pv 11) (pv_var 10))) (pv_po (po_ixP (pv 11) (pv_var 7))))) (pv_var 12))))) (pl_one (pt_ret (po_pv pv_bl))) pl_nil)))))))
    (pl_cons (ps_forD PassesOwn.never rfl (pi_s (pv_po (po_lst (pa_c (pv_po (po_ixP (pv 2) pv_int)) (pa_c (pv_neg pv_int) (pa_c pv_non (pa_c pv_bl (pa_c pv_str (pa_c (pv_po (po_tup (pa_c pv_int pa_n))) (pa_c (pv_po (kCall g__law_odd hr (by decide) (by rfl) (pa_c (pv_var 1) pa_n) (cCons_len (fun _ _ _ h => cNil_len h)))) pa_n)))))))))) (pg_n (i := 13) sc.nd rfl (by first | exact .inl rfl | exact .inr rfl))
    (pl_one (pt_ifS (pb_w (pw_on (pb_not (pb_val (pv_po (kCall g__law_refused hr (by decide) (by rfl) (pa_c (pv_var 3) (pa_c (pv_var 13) (pa_c pv_int pa_n))) (cCons_len (cCons_len (cCons_len (fun _ _ _ h => cNil_len h)))))))) (pw_o1 (pb_not (pb_val (pv_po (kCall g__law_refused hr (by decide) (by rfl) (pa_c (pv_var 3) (pa_c pv_int (pa_c (pv_var 13) pa_n))) (cCons_len (cCons_len (cCons_len (fun _ _ _ h => cNil_len h))))))))))) (pl_one (pt_ret (po_pv pv_bl))) pl_nil)))
    (pl_one (pt_ret (po_pv pv_bl))))))))))))

theorem K__law_hand {f : Addr} {fd : FuncData} (Fn : Fun K "_law_hand" "_law_hand" s__law_hand f fd) (hm : mg "_law_hand" = some (.ref f)) (T : Tx K mg C) (Z : Tz P w K mg base ea)  : Ok P w K mg base 1 "_law_hand" ["_law_script"] (m__law_hand C w) := ⟨f, fd, ok__law_hand Fn T Z , hm, Fn.kp, Fn.binds (ps := ["_law_script"]) fun _ _ _ _ _ _ us hl => match us, hl with | [_], _ => rfl⟩
theorem K__law_draw {f : Addr} {fd : FuncData} (Fn : Fun K "_law_draw" "_law_draw" s__law_draw f fd) (hm : mg "_law_draw" = some (.ref f)) (T : Tx K mg C) (Z : Tz P w K mg base ea)  : Ok P w K mg base 1 "_law_draw" ["_law_hand_here", "_law_many"] (m__law_draw C w) := ⟨f, fd, ok__law_draw Fn T Z , hm, Fn.kp, Fn.binds (ps := ["_law_hand_here", "_law_many"]) fun _ _ _ _ _ _ us hl => match us, hl with | [_, _], _ => rfl⟩
theorem K__law_shuffled {f : Addr} {fd : FuncData} (Fn : Fun K "_law_shuffled" "_law_shuffled" s__law_shuffled f fd) (hm : mg "_law_shuffled" = some (.ref f)) (T : Tx K mg C) (Z : Tz P w K mg base ea) (g__law_draw : Ok P w K mg base 1 "_law_draw" ["_law_hand_here", "_law_many"] (m__law_draw C w)) : Ok P w K mg base 2 "_law_shuffled" ["_law_hand_here", "_law_many"] (m__law_shuffled C w) := ⟨f, fd, ok__law_shuffled Fn T Z g__law_draw, hm, Fn.kp, Fn.binds (ps := ["_law_hand_here", "_law_many"]) fun _ _ _ _ _ _ us hl => match us, hl with | [_, _], _ => rfl⟩
theorem K__law_links {f : Addr} {fd : FuncData} (Fn : Fun K "_law_links" "_law_links" s__law_links f fd) (hm : mg "_law_links" = some (.ref f)) (T : Tx K mg C) (Z : Tz P w K mg base ea) (g__law_draw : Ok P w K mg base 1 "_law_draw" ["_law_hand_here", "_law_many"] (m__law_draw C w)) : Ok P w K mg base 2 "_law_links" ["_law_hand_here", "_law_places", "_law_many", "_law_rounds", "_law_taken"] (m__law_links C w) := ⟨f, fd, ok__law_links Fn T Z g__law_draw, hm, Fn.kp, Fn.binds (ps := ["_law_hand_here", "_law_places", "_law_many", "_law_rounds", "_law_taken"]) fun _ _ _ _ _ _ us hl => match us, hl with | [_, _, _, _, _], _ => rfl⟩
theorem K__law_parts {f : Addr} {fd : FuncData} (Fn : Fun K "_law_parts" "_law_parts" s__law_parts f fd) (hm : mg "_law_parts" = some (.ref f)) (T : Tx K mg C) (Z : Tz P w K mg base ea) (g__law_draw : Ok P w K mg base 1 "_law_draw" ["_law_hand_here", "_law_many"] (m__law_draw C w)) (g__law_shuffled : Ok P w K mg base 2 "_law_shuffled" ["_law_hand_here", "_law_many"] (m__law_shuffled C w)) (g__law_links : Ok P w K mg base 2 "_law_links" ["_law_hand_here", "_law_places", "_law_many", "_law_rounds", "_law_taken"] (m__law_links C w)) : Ok P w K mg base 3 "_law_parts" ["_law_hand_here", "_law_most", "_law_links_here", "_law_rounds"] (m__law_parts C w) := ⟨f, fd, ok__law_parts Fn T Z g__law_draw g__law_shuffled g__law_links, hm, Fn.kp, Fn.binds (ps := ["_law_hand_here", "_law_most", "_law_links_here", "_law_rounds"]) fun _ _ _ _ _ _ us hl => match us, hl with | [_, _, _, _], _ => rfl⟩
theorem K_is_integer {f : Addr} {fd : FuncData} (Fn : Fun K "is_integer" "is_integer" s_is_integer f fd) (hm : mg "is_integer" = some (.ref f)) (T : Tx K mg C) (Z : Tz P w K mg base ea)  : Ok P w K mg base 1 "is_integer" ["thing"] (m_is_integer C w) := ⟨f, fd, ok_is_integer Fn T Z , hm, Fn.kp, Fn.binds (ps := ["thing"]) fun _ _ _ _ _ _ us hl => match us, hl with | [_], _ => rfl⟩
theorem K_is_between {f : Addr} {fd : FuncData} (Fn : Fun K "is_between" "is_between" s_is_between f fd) (hm : mg "is_between" = some (.ref f)) (T : Tx K mg C) (Z : Tz P w K mg base ea) (g_is_integer : Ok P w K mg base 1 "is_integer" ["thing"] (m_is_integer C w)) : Ok P w K mg base 2 "is_between" ["low", "high", "thing"] (m_is_between C w) := ⟨f, fd, ok_is_between Fn T Z g_is_integer, hm, Fn.kp, Fn.binds (ps := ["low", "high", "thing"]) fun _ _ _ _ _ _ us hl => match us, hl with | [_, _, _], _ => rfl⟩
theorem K_is_rounds {f : Addr} {fd : FuncData} (Fn : Fun K "is_rounds" "is_rounds" s_is_rounds f fd) (hm : mg "is_rounds" = some (.ref f)) (T : Tx K mg C) (Z : Tz P w K mg base ea) (g_is_between : Ok P w K mg base 2 "is_between" ["low", "high", "thing"] (m_is_between C w)) : Ok P w K mg base 3 "is_rounds" ["thing"] (m_is_rounds C w) := ⟨f, fd, ok_is_rounds Fn T Z g_is_between, hm, Fn.kp, Fn.binds (ps := ["thing"]) fun _ _ _ _ _ _ us hl => match us, hl with | [_], _ => rfl⟩
theorem K_is_link {f : Addr} {fd : FuncData} (Fn : Fun K "is_link" "is_link" s_is_link f fd) (hm : mg "is_link" = some (.ref f)) (T : Tx K mg C) (Z : Tz P w K mg base ea) (g_is_between : Ok P w K mg base 2 "is_between" ["low", "high", "thing"] (m_is_between C w)) (g_is_rounds : Ok P w K mg base 3 "is_rounds" ["thing"] (m_is_rounds C w)) : Ok P w K mg base 4 "is_link" ["steps", "thing"] (m_is_link C w) := ⟨f, fd, ok_is_link Fn T Z g_is_between g_is_rounds, hm, Fn.kp, Fn.binds (ps := ["steps", "thing"]) fun _ _ _ _ _ _ us hl => match us, hl with | [_, _], _ => rfl⟩
theorem K_is_link_row {f : Addr} {fd : FuncData} (Fn : Fun K "is_link_row" "is_link_row" s_is_link_row f fd) (hm : mg "is_link_row" = some (.ref f)) (T : Tx K mg C) (Z : Tz P w K mg base ea) (g_is_link : Ok P w K mg base 4 "is_link" ["steps", "thing"] (m_is_link C w)) : Ok P w K mg base 5 "is_link_row" ["steps", "thing"] (m_is_link_row C w) := ⟨f, fd, ok_is_link_row Fn T Z g_is_link, hm, Fn.kp, Fn.binds (ps := ["steps", "thing"]) fun _ _ _ _ _ _ us hl => match us, hl with | [_, _], _ => rfl⟩
theorem K_lined_up {f : Addr} {fd : FuncData} (Fn : Fun K "lined_up" "lined_up" s_lined_up f fd) (hm : mg "lined_up" = some (.ref f)) (T : Tx K mg C) (Z : Tz P w K mg base ea)  : Ok P w K mg base 1 "lined_up" ["steps", "links"] (m_lined_up C w) := ⟨f, fd, ok_lined_up Fn T Z , hm, Fn.kp, Fn.binds (ps := ["steps", "links"]) fun _ _ _ _ _ _ us hl => match us, hl with | [_, _], _ => rfl⟩
theorem K_told_links {f : Addr} {fd : FuncData} (Fn : Fun K "told_links" "told_links" s_told_links f fd) (hm : mg "told_links" = some (.ref f)) (T : Tx K mg C) (Z : Tz P w K mg base ea)  : Ok P w K mg base 1 "told_links" ["needs", "befores"] (m_told_links C w) := ⟨f, fd, ok_told_links Fn T Z , hm, Fn.kp, Fn.binds (ps := ["needs", "befores"]) fun _ _ _ _ _ _ us hl => match us, hl with | [_, _], _ => rfl⟩
theorem K_zero_ring {f : Addr} {fd : FuncData} (Fn : Fun K "zero_ring" "zero_ring" s_zero_ring f fd) (hm : mg "zero_ring" = some (.ref f)) (T : Tx K mg C) (Z : Tz P w K mg base ea) (g_lined_up : Ok P w K mg base 1 "lined_up" ["steps", "links"] (m_lined_up C w)) (g_told_links : Ok P w K mg base 1 "told_links" ["needs", "befores"] (m_told_links C w)) : Ok P w K mg base 2 "zero_ring" ["steps", "needs", "befores"] (m_zero_ring C w) := ⟨f, fd, ok_zero_ring Fn T Z g_lined_up g_told_links, hm, Fn.kp, Fn.binds (ps := ["steps", "needs", "befores"]) fun _ _ _ _ _ _ us hl => match us, hl with | [_, _, _], _ => rfl⟩
theorem K_Program___init__ {f : Addr} {fd : FuncData} (Fn : Fun K "__init__" "Program.__init__" s_Program___init__ f fd) (M : Mk K C f) (hm : mg "Program" = some (.ref C)) (T : Tx K mg C) (Z : Tz P w K mg base ea) (g_is_between : Ok P w K mg base 2 "is_between" ["low", "high", "thing"] (m_is_between C w)) (g_is_link_row : Ok P w K mg base 5 "is_link_row" ["steps", "thing"] (m_is_link_row C w)) (g_zero_ring : Ok P w K mg base 2 "zero_ring" ["steps", "needs", "befores"] (m_zero_ring C w)) : OkM P w K mg base 6 "Program" C ["self", "steps", "needs", "befores"] (m_Program___init__ C w) := ⟨f, fd, M, ok_Program___init__ Fn T Z g_is_between g_is_link_row g_zero_ring, hm, Fn.binds (ps := ["self", "steps", "needs", "befores"]) fun _ _ _ _ _ _ us hl => match us, hl with | [_, _, _, _], _ => rfl⟩
theorem K__law_made {f : Addr} {fd : FuncData} (Fn : Fun K "_law_made" "_law_made" s__law_made f fd) (hm : mg "_law_made" = some (.ref f)) (T : Tx K mg C) (Z : Tz P w K mg base ea) (g_Program___init__ : OkM P w K mg base 6 "Program" C ["self", "steps", "needs", "befores"] (m_Program___init__ C w)) : Ok P w K mg base 8 "_law_made" ["_law_parts_here"] (m__law_made C w) := ⟨f, fd, ok__law_made Fn T Z g_Program___init__, hm, Fn.kp, Fn.binds (ps := ["_law_parts_here"]) fun _ _ _ _ _ _ us hl => match us, hl with | [_], _ => rfl⟩
theorem K__law_may {f : Addr} {fd : FuncData} (Fn : Fun K "_law_may" "_law_may" s__law_may f fd) (hm : mg "_law_may" = some (.ref f)) (T : Tx K mg C) (Z : Tz P w K mg base ea)  : Ok P w K mg base 1 "_law_may" ["_law_parts_here", "_law_counts_here", "_law_step"] (m__law_may C w) := ⟨f, fd, ok__law_may Fn T Z , hm, Fn.kp, Fn.binds (ps := ["_law_parts_here", "_law_counts_here", "_law_step"]) fun _ _ _ _ _ _ us hl => match us, hl with | [_, _, _], _ => rfl⟩
theorem K__law_order {f : Addr} {fd : FuncData} (Fn : Fun K "_law_order" "_law_order" s__law_order f fd) (hm : mg "_law_order" = some (.ref f)) (T : Tx K mg C) (Z : Tz P w K mg base ea) (g__law_may : Ok P w K mg base 1 "_law_may" ["_law_parts_here", "_law_counts_here", "_law_step"] (m__law_may C w)) (g__law_draw : Ok P w K mg base 1 "_law_draw" ["_law_hand_here", "_law_many"] (m__law_draw C w)) : Ok P w K mg base 2 "_law_order" ["_law_hand_here", "_law_parts_here", "_law_many"] (m__law_order C w) := ⟨f, fd, ok__law_order Fn T Z g__law_may g__law_draw, hm, Fn.kp, Fn.binds (ps := ["_law_hand_here", "_law_parts_here", "_law_many"]) fun _ _ _ _ _ _ us hl => match us, hl with | [_, _, _], _ => rfl⟩
theorem K__law_far {f : Addr} {fd : FuncData} (Fn : Fun K "_law_far" "_law_far" s__law_far f fd) (hm : mg "_law_far" = some (.ref f)) (T : Tx K mg C) (Z : Tz P w K mg base ea)  : Ok P w K mg base 1 "_law_far" ["_law_parts_here", "_law_step"] (m__law_far C w) := ⟨f, fd, ok__law_far Fn T Z , hm, Fn.kp, Fn.binds (ps := ["_law_parts_here", "_law_step"]) fun _ _ _ _ _ _ us hl => match us, hl with | [_, _], _ => rfl⟩
theorem K_is_step {f : Addr} {fd : FuncData} (Fn : Fun K "is_step" "is_step" s_is_step f fd) (hm : mg "is_step" = some (.ref f)) (T : Tx K mg C) (Z : Tz P w K mg base ea) (g_is_between : Ok P w K mg base 2 "is_between" ["low", "high", "thing"] (m_is_between C w)) : Ok P w K mg base 3 "is_step" ["program", "thing"] (m_is_step C w) := ⟨f, fd, ok_is_step Fn T Z g_is_between, hm, Fn.kp, Fn.binds (ps := ["program", "thing"]) fun _ _ _ _ _ _ us hl => match us, hl with | [_, _], _ => rfl⟩
theorem K_spread {f : Addr} {fd : FuncData} (Fn : Fun K "spread" "spread" s_spread f fd) (hm : mg "spread" = some (.ref f)) (T : Tx K mg C) (Z : Tz P w K mg base ea)  : Ok P w K mg base 1 "spread" ["rows", "start"] (m_spread C w) := ⟨f, fd, ok_spread Fn T Z , hm, Fn.kp, Fn.binds (ps := ["rows", "start"]) fun _ _ _ _ _ _ us hl => match us, hl with | [_, _], _ => rfl⟩
theorem K_leading_from {f : Addr} {fd : FuncData} (Fn : Fun K "leading_from" "leading_from" s_leading_from f fd) (hm : mg "leading_from" = some (.ref f)) (T : Tx K mg C) (Z : Tz P w K mg base ea)  : Ok P w K mg base 1 "leading_from" ["steps", "links"] (m_leading_from C w) := ⟨f, fd, ok_leading_from Fn T Z , hm, Fn.kp, Fn.binds (ps := ["steps", "links"]) fun _ _ _ _ _ _ us hl => match us, hl with | [_, _], _ => rfl⟩
theorem K_links_of {f : Addr} {fd : FuncData} (Fn : Fun K "links_of" "links_of" s_links_of f fd) (hm : mg "links_of" = some (.ref f)) (T : Tx K mg C) (Z : Tz P w K mg base ea)  : Ok P w K mg base 1 "links_of" ["program"] (m_links_of C w) := ⟨f, fd, ok_links_of Fn T Z , hm, Fn.kp, Fn.binds (ps := ["program"]) fun _ _ _ _ _ _ us hl => match us, hl with | [_], _ => rfl⟩
theorem K_least_from {f : Addr} {fd : FuncData} (Fn : Fun K "least_from" "least_from" s_least_from f fd) (hm : mg "least_from" = some (.ref f)) (T : Tx K mg C) (Z : Tz P w K mg base ea) (g_spread : Ok P w K mg base 1 "spread" ["rows", "start"] (m_spread C w)) (g_leading_from : Ok P w K mg base 1 "leading_from" ["steps", "links"] (m_leading_from C w)) (g_links_of : Ok P w K mg base 1 "links_of" ["program"] (m_links_of C w)) : Ok P w K mg base 2 "least_from" ["program", "one"] (m_least_from C w) := ⟨f, fd, ok_least_from Fn T Z g_spread g_leading_from g_links_of, hm, Fn.kp, Fn.binds (ps := ["program", "one"]) fun _ _ _ _ _ _ us hl => match us, hl with | [_, _], _ => rfl⟩
theorem K_ahead {f : Addr} {fd : FuncData} (Fn : Fun K "ahead" "ahead" s_ahead f fd) (hm : mg "ahead" = some (.ref f)) (T : Tx K mg C) (Z : Tz P w K mg base ea) (g_is_step : Ok P w K mg base 3 "is_step" ["program", "thing"] (m_is_step C w)) (g_least_from : Ok P w K mg base 2 "least_from" ["program", "one"] (m_least_from C w)) : OkX P w K mg base ea 4 "ahead" ["program", "one", "other"] (mx_ahead C w) := ⟨f, fd, ok_ahead Fn T Z g_is_step g_least_from, hm, Fn.kp, Fn.binds (ps := ["program", "one", "other"]) fun _ _ _ _ _ _ us hl => match us, hl with | [_, _, _], _ => rfl⟩
theorem K__law_enemy {f : Addr} {fd : FuncData} (Fn : Fun K "_law_enemy" "_law_enemy" s__law_enemy f fd) (hm : mg "_law_enemy" = some (.ref f)) (T : Tx K mg C) (Z : Tz P w K mg base ea) (g__law_may : Ok P w K mg base 1 "_law_may" ["_law_parts_here", "_law_counts_here", "_law_step"] (m__law_may C w)) : Ok P w K mg base 2 "_law_enemy" ["_law_parts_here", "_law_one", "_law_other", "_law_many"] (m__law_enemy C w) := ⟨f, fd, ok__law_enemy Fn T Z g__law_may, hm, Fn.kp, Fn.binds (ps := ["_law_parts_here", "_law_one", "_law_other", "_law_many"]) fun _ _ _ _ _ _ us hl => match us, hl with | [_, _, _, _], _ => rfl⟩
theorem K__law_odd {f : Addr} {fd : FuncData} (Fn : Fun K "_law_odd" "_law_odd" s__law_odd f fd) (hm : mg "_law_odd" = some (.ref f)) (T : Tx K mg C) (Z : Tz P w K mg base ea) (g__law_draw : Ok P w K mg base 1 "_law_draw" ["_law_hand_here", "_law_many"] (m__law_draw C w)) : Ok P w K mg base 2 "_law_odd" ["_law_hand_here"] (m__law_odd C w) := ⟨f, fd, ok__law_odd Fn T Z g__law_draw, hm, Fn.kp, Fn.binds (ps := ["_law_hand_here"]) fun _ _ _ _ _ _ us hl => match us, hl with | [_], _ => rfl⟩
theorem K__law_refused {f : Addr} {fd : FuncData} (Fn : Fun K "_law_refused" "_law_refused" s__law_refused f fd) (hm : mg "_law_refused" = some (.ref f)) (T : Tx K mg C) (Z : Tz P w K mg base ea) (g_ahead : OkX P w K mg base ea 4 "ahead" ["program", "one", "other"] (mx_ahead C w)) : Ok P w K mg base 5 "_law_refused" ["_law_program", "_law_one", "_law_other"] (m__law_refused C w) := ⟨f, fd, ok__law_refused Fn T Z g_ahead, hm, Fn.kp, Fn.binds (ps := ["_law_program", "_law_one", "_law_other"]) fun _ _ _ _ _ _ us hl => match us, hl with | [_, _, _], _ => rfl⟩
def spLaw (K : PySem.W.Frag) : Sp := fun vs H Q _ => ∃ (a : Addr) (ns : List Int), vs = [.ref a] ∧ SqL K H a (ns.map V.int) ∧ ns.length ≤ 63 ∧ ∀ H', Q (.bl true) H'
end
theorem all_mk {l : PySem.W.OpenLaw} {w : World} {K : PySem.W.Frag} {h : Heap} {mg : Str → Option Value} {fa C f0 f1 f2 f3 f4 f5 f6 f7 f8 f9 f10 f11 f12 f13 f14 f15 f16 f17 f18 f19 f20 f21 f22 f23 f24 f25 f26 f27 x0 x1 xf1 : Addr} {t_MOST_LINKS t_MOST_ROUNDS t_MOST_STEPS : Tok} (X : K.In h) (G : h.Ns mainGlobals mg) (hfa : mg "law" = some (.ref fa))
    (hsp : ∀ (C : Addr) (w : World) vs H Q E, spLaw K vs H Q E → spD K 1 (m_law C w) vs H Q E)
    {od0 an0 : Option Addr} {sl0 : Array (Option Value)} {oc0 kV0 dc0 pm0 cd0 ct0 : Value} {od1 an1 : Option Addr} {sl1 : Array (Option Value)} {oc1 kV1 dc1 pm1 cd1 ct1 : Value} {od2 an2 : Option Addr} {sl2 : Array (Option Value)} {oc2 kV2 dc2 pm2 cd2 ct2 : Value} {od3 an3 : Option Addr} {sl3 : Array (Option Value)} {oc3 kV3 dc3 pm3 cd3 ct3 : Value} {od4 an4 : Option Addr} {sl4 : Array (Option Value)} {oc4 kV4 dc4 pm4 cd4 ct4 : Value} {od5 an5 : Option Addr} {sl5 : Array (Option Value)} {oc5 kV5 dc5 pm5 cd5 ct5 : Value} {od6 an6 : Option Addr} {sl6 : Array (Option Value)} {oc6 kV6 dc6 pm6 cd6 ct6 : Value} {od7 an7 : Option Addr} {sl7 : Array (Option Value)} {oc7 kV7 dc7 pm7 cd7 ct7 : Value} {od8 an8 : Option Addr} {sl8 : Array (Option Value)} {oc8 kV8 dc8 pm8 cd8 ct8 : Value} {od9 an9 : Option Addr} {sl9 : Array (Option Value)} {oc9 kV9 dc9 pm9 cd9 ct9 : Value} {od10 an10 : Option Addr} {sl10 : Array (Option Value)} {oc10 kV10 dc10 pm10 cd10 ct10 : Value} {od11 an11 : Option Addr} {sl11 : Array (Option Value)} {oc11 kV11 dc11 pm11 cd11 ct11 : Value} {od12 an12 : Option Addr} {sl12 : Array (Option Value)} {oc12 kV12 dc12 pm12 cd12 ct12 : Value} {od13 an13 : Option Addr} {sl13 : Array (Option Value)} {oc13 kV13 dc13 pm13 cd13 ct13 : Value} {od14 an14 : Option Addr} {sl14 : Array (Option Value)} {oc14 kV14 dc14 pm14 cd14 ct14 : Value} {od15 an15 : Option Addr} {sl15 : Array (Option Value)} {oc15 kV15 dc15 pm15 cd15 ct15 : Value} {od16 an16 : Option Addr} {sl16 : Array (Option Value)} {oc16 kV16 dc16 pm16 cd16 ct16 : Value} {od17 an17 : Option Addr} {sl17 : Array (Option Value)} {oc17 kV17 dc17 pm17 cd17 ct17 : Value} {od18 an18 : Option Addr} {sl18 : Array (Option Value)} {oc18 kV18 dc18 pm18 cd18 ct18 : Value} {od19 an19 : Option Addr} {sl19 : Array (Option Value)} {oc19 kV19 dc19 pm19 cd19 ct19 : Value} {od20 an20 : Option Addr} {sl20 : Array (Option Value)} {oc20 kV20 dc20 pm20 cd20 ct20 : Value} {od21 an21 : Option Addr} {sl21 : Array (Option Value)} {oc21 kV21 dc21 pm21 cd21 ct21 : Value} {od22 an22 : Option Addr} {sl22 : Array (Option Value)} {oc22 kV22 dc22 pm22 cd22 ct22 : Value} {od23 an23 : Option Addr} {sl23 : Array (Option Value)} {oc23 kV23 dc23 pm23 cd23 ct23 : Value} {od24 an24 : Option Addr} {sl24 : Array (Option Value)} {oc24 kV24 dc24 pm24 cd24 ct24 : Value} {od25 an25 : Option Addr} {sl25 : Array (Option Value)} {oc25 kV25 dc25 pm25 cd25 ct25 : Value} {od26 an26 : Option Addr} {sl26 : Array (Option Value)} {oc26 kV26 dc26 pm26 cd26 ct26 : Value} {od27 an27 : Option Addr} {sl27 : Array (Option Value)} {oc27 kV27 dc27 pm27 cd27 ct27 : Value} {nm1 xq1 : Str} {xN1 : Addr} {bs1 : List Value} {sn1 : List Str} {sub1 : List Value} {ab1 : Bool} {col1 : Option Bool} {dd1 : Option Addr} {mx1 my1 mz1 mu1 mv1 : Option Value} {xod1 xan1 : Option Addr} {xsl1 : Array (Option Value)} {xoc1 xkV1 xdc1 xpm1 xcd1 xct1 : Value}
    (aC : PySem.W.nsIn K mainGlobals "Program" = some (some (.ref C)))
    (a0 : PySem.W.nsIn K mainGlobals "_law_hand" = some (some (.ref f0)))
    (l0 : K.lookup f0 = some ⟨oc0, od0, .func (PySem.W.fnOf "_law_hand" "_law_hand" (defArgs s__law_hand) (defBody s__law_hand) (defScope s__law_hand) .none kV0 dc0 pm0 an0 cd0 ct0), sl0⟩)
    (c0 : PySem.W.codeIn K cd0 "_law_hand" = true)
    (k0 : PySem.W.keepIn K (.ref f0) = true)
    (a1 : PySem.W.nsIn K mainGlobals "_law_draw" = some (some (.ref f1)))
    (l1 : K.lookup f1 = some ⟨oc1, od1, .func (PySem.W.fnOf "_law_draw" "_law_draw" (defArgs s__law_draw) (defBody s__law_draw) (defScope s__law_draw) .none kV1 dc1 pm1 an1 cd1 ct1), sl1⟩)
    (c1 : PySem.W.codeIn K cd1 "_law_draw" = true)
    (k1 : PySem.W.keepIn K (.ref f1) = true)
    (a2 : PySem.W.nsIn K mainGlobals "_law_shuffled" = some (some (.ref f2)))
    (l2 : K.lookup f2 = some ⟨oc2, od2, .func (PySem.W.fnOf "_law_shuffled" "_law_shuffled" (defArgs s__law_shuffled) (defBody s__law_shuffled) (defScope s__law_shuffled) .none kV2 dc2 pm2 an2 cd2 ct2), sl2⟩)
    (c2 : PySem.W.codeIn K cd2 "_law_shuffled" = true)
    (k2 : PySem.W.keepIn K (.ref f2) = true)
    (a3 : PySem.W.nsIn K mainGlobals "_law_links" = some (some (.ref f3)))
    (l3 : K.lookup f3 = some ⟨oc3, od3, .func (PySem.W.fnOf "_law_links" "_law_links" (defArgs s__law_links) (defBody s__law_links) (defScope s__law_links) .none kV3 dc3 pm3 an3 cd3 ct3), sl3⟩)
    (c3 : PySem.W.codeIn K cd3 "_law_links" = true)
    (k3 : PySem.W.keepIn K (.ref f3) = true)
    (a4 : PySem.W.nsIn K mainGlobals "_law_parts" = some (some (.ref f4)))
    (l4 : K.lookup f4 = some ⟨oc4, od4, .func (PySem.W.fnOf "_law_parts" "_law_parts" (defArgs s__law_parts) (defBody s__law_parts) (defScope s__law_parts) .none kV4 dc4 pm4 an4 cd4 ct4), sl4⟩)
    (c4 : PySem.W.codeIn K cd4 "_law_parts" = true)
    (k4 : PySem.W.keepIn K (.ref f4) = true)
    (a5 : PySem.W.nsIn K mainGlobals "is_integer" = some (some (.ref f5)))
    (l5 : K.lookup f5 = some ⟨oc5, od5, .func (PySem.W.fnOf "is_integer" "is_integer" (defArgs s_is_integer) (defBody s_is_integer) (defScope s_is_integer) .none kV5 dc5 pm5 an5 cd5 ct5), sl5⟩)
    (c5 : PySem.W.codeIn K cd5 "is_integer" = true)
    (k5 : PySem.W.keepIn K (.ref f5) = true)
    (a6 : PySem.W.nsIn K mainGlobals "is_between" = some (some (.ref f6)))
    (l6 : K.lookup f6 = some ⟨oc6, od6, .func (PySem.W.fnOf "is_between" "is_between" (defArgs s_is_between) (defBody s_is_between) (defScope s_is_between) .none kV6 dc6 pm6 an6 cd6 ct6), sl6⟩)
    (c6 : PySem.W.codeIn K cd6 "is_between" = true)
    (k6 : PySem.W.keepIn K (.ref f6) = true)
    (a7 : PySem.W.nsIn K mainGlobals "is_rounds" = some (some (.ref f7)))
    (l7 : K.lookup f7 = some ⟨oc7, od7, .func (PySem.W.fnOf "is_rounds" "is_rounds" (defArgs s_is_rounds) (defBody s_is_rounds) (defScope s_is_rounds) .none kV7 dc7 pm7 an7 cd7 ct7), sl7⟩)
    (c7 : PySem.W.codeIn K cd7 "is_rounds" = true)
    (k7 : PySem.W.keepIn K (.ref f7) = true)
    (a8 : PySem.W.nsIn K mainGlobals "is_link" = some (some (.ref f8)))
    (l8 : K.lookup f8 = some ⟨oc8, od8, .func (PySem.W.fnOf "is_link" "is_link" (defArgs s_is_link) (defBody s_is_link) (defScope s_is_link) .none kV8 dc8 pm8 an8 cd8 ct8), sl8⟩)
    (c8 : PySem.W.codeIn K cd8 "is_link" = true)
    (k8 : PySem.W.keepIn K (.ref f8) = true)
    (a9 : PySem.W.nsIn K mainGlobals "is_link_row" = some (some (.ref f9)))
    (l9 : K.lookup f9 = some ⟨oc9, od9, .func (PySem.W.fnOf "is_link_row" "is_link_row" (defArgs s_is_link_row) (defBody s_is_link_row) (defScope s_is_link_row) .none kV9 dc9 pm9 an9 cd9 ct9), sl9⟩)
    (c9 : PySem.W.codeIn K cd9 "is_link_row" = true)
    (k9 : PySem.W.keepIn K (.ref f9) = true)
    (a10 : PySem.W.nsIn K mainGlobals "lined_up" = some (some (.ref f10)))
    (l10 : K.lookup f10 = some ⟨oc10, od10, .func (PySem.W.fnOf "lined_up" "lined_up" (defArgs s_lined_up) (defBody s_lined_up) (defScope s_lined_up) .none kV10 dc10 pm10 an10 cd10 ct10), sl10⟩)
    (c10 : PySem.W.codeIn K cd10 "lined_up" = true)
    (k10 : PySem.W.keepIn K (.ref f10) = true)
    (a11 : PySem.W.nsIn K mainGlobals "told_links" = some (some (.ref f11)))
    (l11 : K.lookup f11 = some ⟨oc11, od11, .func (PySem.W.fnOf "told_links" "told_links" (defArgs s_told_links) (defBody s_told_links) (defScope s_told_links) .none kV11 dc11 pm11 an11 cd11 ct11), sl11⟩)
    (c11 : PySem.W.codeIn K cd11 "told_links" = true)
    (k11 : PySem.W.keepIn K (.ref f11) = true)
    (a12 : PySem.W.nsIn K mainGlobals "zero_ring" = some (some (.ref f12)))
    (l12 : K.lookup f12 = some ⟨oc12, od12, .func (PySem.W.fnOf "zero_ring" "zero_ring" (defArgs s_zero_ring) (defBody s_zero_ring) (defScope s_zero_ring) .none kV12 dc12 pm12 an12 cd12 ct12), sl12⟩)
    (c12 : PySem.W.codeIn K cd12 "zero_ring" = true)
    (k12 : PySem.W.keepIn K (.ref f12) = true)
    (a13 : PySem.W.findIn K (.ref C) "__init__" = some (some (.ref f13)))
    (i13 : PySem.W.isFn K (.ref f13) = true)
    (l13 : K.lookup f13 = some ⟨oc13, od13, .func (PySem.W.fnOf "__init__" "Program.__init__" (defArgs s_Program___init__) (defBody s_Program___init__) (defScope s_Program___init__) .none kV13 dc13 pm13 an13 cd13 ct13), sl13⟩)
    (c13 : PySem.W.codeIn K cd13 "Program.__init__" = true)
    (k13 : PySem.W.keepIn K (.ref f13) = true)
    (a14 : PySem.W.nsIn K mainGlobals "_law_made" = some (some (.ref f14)))
    (l14 : K.lookup f14 = some ⟨oc14, od14, .func (PySem.W.fnOf "_law_made" "_law_made" (defArgs s__law_made) (defBody s__law_made) (defScope s__law_made) .none kV14 dc14 pm14 an14 cd14 ct14), sl14⟩)
    (c14 : PySem.W.codeIn K cd14 "_law_made" = true)
    (k14 : PySem.W.keepIn K (.ref f14) = true)
    (a15 : PySem.W.nsIn K mainGlobals "_law_may" = some (some (.ref f15)))
    (l15 : K.lookup f15 = some ⟨oc15, od15, .func (PySem.W.fnOf "_law_may" "_law_may" (defArgs s__law_may) (defBody s__law_may) (defScope s__law_may) .none kV15 dc15 pm15 an15 cd15 ct15), sl15⟩)
    (c15 : PySem.W.codeIn K cd15 "_law_may" = true)
    (k15 : PySem.W.keepIn K (.ref f15) = true)
    (a16 : PySem.W.nsIn K mainGlobals "_law_order" = some (some (.ref f16)))
    (l16 : K.lookup f16 = some ⟨oc16, od16, .func (PySem.W.fnOf "_law_order" "_law_order" (defArgs s__law_order) (defBody s__law_order) (defScope s__law_order) .none kV16 dc16 pm16 an16 cd16 ct16), sl16⟩)
    (c16 : PySem.W.codeIn K cd16 "_law_order" = true)
    (k16 : PySem.W.keepIn K (.ref f16) = true)
    (a17 : PySem.W.nsIn K mainGlobals "_law_far" = some (some (.ref f17)))
    (l17 : K.lookup f17 = some ⟨oc17, od17, .func (PySem.W.fnOf "_law_far" "_law_far" (defArgs s__law_far) (defBody s__law_far) (defScope s__law_far) .none kV17 dc17 pm17 an17 cd17 ct17), sl17⟩)
    (c17 : PySem.W.codeIn K cd17 "_law_far" = true)
    (k17 : PySem.W.keepIn K (.ref f17) = true)
    (a18 : PySem.W.nsIn K mainGlobals "is_step" = some (some (.ref f18)))
    (l18 : K.lookup f18 = some ⟨oc18, od18, .func (PySem.W.fnOf "is_step" "is_step" (defArgs s_is_step) (defBody s_is_step) (defScope s_is_step) .none kV18 dc18 pm18 an18 cd18 ct18), sl18⟩)
    (c18 : PySem.W.codeIn K cd18 "is_step" = true)
    (k18 : PySem.W.keepIn K (.ref f18) = true)
    (a19 : PySem.W.nsIn K mainGlobals "spread" = some (some (.ref f19)))
    (l19 : K.lookup f19 = some ⟨oc19, od19, .func (PySem.W.fnOf "spread" "spread" (defArgs s_spread) (defBody s_spread) (defScope s_spread) .none kV19 dc19 pm19 an19 cd19 ct19), sl19⟩)
    (c19 : PySem.W.codeIn K cd19 "spread" = true)
    (k19 : PySem.W.keepIn K (.ref f19) = true)
    (a20 : PySem.W.nsIn K mainGlobals "leading_from" = some (some (.ref f20)))
    (l20 : K.lookup f20 = some ⟨oc20, od20, .func (PySem.W.fnOf "leading_from" "leading_from" (defArgs s_leading_from) (defBody s_leading_from) (defScope s_leading_from) .none kV20 dc20 pm20 an20 cd20 ct20), sl20⟩)
    (c20 : PySem.W.codeIn K cd20 "leading_from" = true)
    (k20 : PySem.W.keepIn K (.ref f20) = true)
    (a21 : PySem.W.nsIn K mainGlobals "links_of" = some (some (.ref f21)))
    (l21 : K.lookup f21 = some ⟨oc21, od21, .func (PySem.W.fnOf "links_of" "links_of" (defArgs s_links_of) (defBody s_links_of) (defScope s_links_of) .none kV21 dc21 pm21 an21 cd21 ct21), sl21⟩)
    (c21 : PySem.W.codeIn K cd21 "links_of" = true)
    (k21 : PySem.W.keepIn K (.ref f21) = true)
    (a22 : PySem.W.nsIn K mainGlobals "least_from" = some (some (.ref f22)))
    (l22 : K.lookup f22 = some ⟨oc22, od22, .func (PySem.W.fnOf "least_from" "least_from" (defArgs s_least_from) (defBody s_least_from) (defScope s_least_from) .none kV22 dc22 pm22 an22 cd22 ct22), sl22⟩)
    (c22 : PySem.W.codeIn K cd22 "least_from" = true)
    (k22 : PySem.W.keepIn K (.ref f22) = true)
    (a23 : PySem.W.nsIn K mainGlobals "ahead" = some (some (.ref f23)))
    (l23 : K.lookup f23 = some ⟨oc23, od23, .func (PySem.W.fnOf "ahead" "ahead" (defArgs s_ahead) (defBody s_ahead) (defScope s_ahead) .none kV23 dc23 pm23 an23 cd23 ct23), sl23⟩)
    (c23 : PySem.W.codeIn K cd23 "ahead" = true)
    (k23 : PySem.W.keepIn K (.ref f23) = true)
    (a24 : PySem.W.nsIn K mainGlobals "_law_enemy" = some (some (.ref f24)))
    (l24 : K.lookup f24 = some ⟨oc24, od24, .func (PySem.W.fnOf "_law_enemy" "_law_enemy" (defArgs s__law_enemy) (defBody s__law_enemy) (defScope s__law_enemy) .none kV24 dc24 pm24 an24 cd24 ct24), sl24⟩)
    (c24 : PySem.W.codeIn K cd24 "_law_enemy" = true)
    (k24 : PySem.W.keepIn K (.ref f24) = true)
    (a25 : PySem.W.nsIn K mainGlobals "_law_odd" = some (some (.ref f25)))
    (l25 : K.lookup f25 = some ⟨oc25, od25, .func (PySem.W.fnOf "_law_odd" "_law_odd" (defArgs s__law_odd) (defBody s__law_odd) (defScope s__law_odd) .none kV25 dc25 pm25 an25 cd25 ct25), sl25⟩)
    (c25 : PySem.W.codeIn K cd25 "_law_odd" = true)
    (k25 : PySem.W.keepIn K (.ref f25) = true)
    (a26 : PySem.W.nsIn K mainGlobals "_law_refused" = some (some (.ref f26)))
    (l26 : K.lookup f26 = some ⟨oc26, od26, .func (PySem.W.fnOf "_law_refused" "_law_refused" (defArgs s__law_refused) (defBody s__law_refused) (defScope s__law_refused) .none kV26 dc26 pm26 an26 cd26 ct26), sl26⟩)
    (c26 : PySem.W.codeIn K cd26 "_law_refused" = true)
    (k26 : PySem.W.keepIn K (.ref f26) = true)
    (a27 : PySem.W.nsIn K mainGlobals "law" = some (some (.ref f27)))
    (l27 : K.lookup f27 = some ⟨oc27, od27, .func (PySem.W.fnOf "law" "law" (defArgs s_law) (defBody s_law) (defScope s_law) .none kV27 dc27 pm27 an27 cd27 ct27), sl27⟩)
    (c27 : PySem.W.codeIn K cd27 "law" = true)
    (k27 : PySem.W.keepIn K (.ref f27) = true)
    (pg : PySem.W.plainGet K C Str.empty = true)
    (hd : PySem.W.hasDictIn K C = true)
    (po : PySem.W.plainOver K C = true)
    (sa : PySem.W.findIn K (.ref C) "__setattr__" = some (some (.builtin "object.__setattr__")))
    (mk : PySem.W.makesIn K C = true)
    (kc : PySem.W.keepIn K (.ref C) = true)
    (na_befores : PySem.W.findIn K (.ref C) "befores" = some none)
    (na_needs : PySem.W.findIn K (.ref C) "needs" = some none)
    (na_steps : PySem.W.findIn K (.ref C) "steps" = some none)
    (z_ValueError : PySem.W.nsIn K mainGlobals "ValueError" = some none)
    (z_abs : PySem.W.nsIn K mainGlobals "abs" = some none)
    (z_all : PySem.W.nsIn K mainGlobals "all" = some none)
    (z_bool : PySem.W.nsIn K mainGlobals "bool" = some none)
    (z_enumerate : PySem.W.nsIn K mainGlobals "enumerate" = some none)
    (z_int : PySem.W.nsIn K mainGlobals "int" = some none)
    (z_isinstance : PySem.W.nsIn K mainGlobals "isinstance" = some none)
    (z_len : PySem.W.nsIn K mainGlobals "len" = some none)
    (z_list : PySem.W.nsIn K mainGlobals "list" = some none)
    (z_min : PySem.W.nsIn K mainGlobals "min" = some none)
    (z_range : PySem.W.nsIn K mainGlobals "range" = some none)
    (z_set : PySem.W.nsIn K mainGlobals "set" = some none)
    (z_tuple : PySem.W.nsIn K mainGlobals "tuple" = some none)
    (y_MOST_LINKS : PySem.W.nsIn K mainGlobals "MOST_LINKS" = some (some (.int 40 t_MOST_LINKS)))
    (y_MOST_ROUNDS : PySem.W.nsIn K mainGlobals "MOST_ROUNDS" = some (some (.int 6 t_MOST_ROUNDS)))
    (y_MOST_STEPS : PySem.W.nsIn K mainGlobals "MOST_STEPS" = some (some (.int 12 t_MOST_STEPS)))
    (v_heappop : PySem.W.nsIn K mainGlobals "heappop" = some (some (.builtin "_heapq.heappop")))
    (v_heappush : PySem.W.nsIn K mainGlobals "heappush" = some (some (.builtin "_heapq.heappush")))
    (xg0 : PySem.W.nsIn K mainGlobals "CellError" = some (some (.ref x0)))
    (xb0 : PySem.W.subIn K (.ref x0) (.type "BaseException") = some true)
    (xi0 : PySem.W.isClsIn K x0 = true)
    (xt0 : PySem.W.typeIn K (.ref x0) = some (.type "type"))
    (xg1 : PySem.W.nsIn K mainGlobals "NoStep" = some (some (.ref x1)))
    (xb1 : PySem.W.subIn K (.ref x1) (.type "BaseException") = some true)
    (xi1 : PySem.W.isClsIn K x1 = true)
    (xt1 : PySem.W.typeIn K (.ref x1) = some (.type "type"))
    (xL1 : K.lookup x1 = some (excClassObj nm1 xq1 x1 xN1 bs1 [.ref x0, .type "ValueError", .type "Exception", .type "BaseException", .type "object"] true sn1 sub1 ab1 col1 dd1 mx1 my1 mz1 mu1 mv1 "ValueError.__new__"))
    (xs1 : PySem.W.findIn K (.ref x1) "__setattr__" = some (some (.builtin "object.__setattr__")))
    (xk1 : PySem.W.keepIn K (.ref x1) = true)
    (xa1 : PySem.W.findIn K (.ref x1) "__init__" = some (some (.ref xf1)))
    (xy1 : PySem.W.typeIn K (.ref xf1) = some (.type "function"))
    (xl1 : K.lookup xf1 = some ⟨xoc1, xod1, .func (PySem.W.fnOf "__init__" "NoStep.__init__" (defArgs s_x1) (defBody s_x1) (defScope s_x1) .none xkV1 xdc1 xpm1 xan1 xcd1 xct1), xsl1⟩)
    (xc1 : PySem.W.codeIn K xcd1 "NoStep.__init__" = true)
    (xm1 : PySem.W.keepIn K (.ref xf1) = true)
    (xs_1_0 : PySem.W.subIn K (.ref x1) (.ref x0) = some true)
    (xs_1_1 : PySem.W.subIn K (.ref x1) (.ref x1) = some true)
    (xhn : PySem.W.specialIn K (.builtin "object.__class__") "__get__" = some (some (.builtin "getset_descriptor.__get__")))
    (xht : PySem.W.takesIn K (.builtin "object.__class__") = some true)
    (xh1_1 : PySem.W.findIn K (.ref x1) "__getattribute__" = some (some (.builtin "BaseException.__getattribute__")))
    (xh2_1 : PySem.W.findIn K (.ref x1) "__getattr__" = some none)
    (xh3_1 : PySem.W.hasDictIn K x1 = true)
    (xh4_1 : PySem.W.findIn K (.ref x1) "__class__" = some (some (.builtin "object.__class__")))
    (xh5_1 : PySem.W.mroIn K x1 (.type "object") = some true)
    (xh6_1 : PySem.W.subIn K (.ref x1) (.type "ValueError") = some true) :
    ∃ fd : FuncData, (∀ (s : Shared) (v : Value), BindsTo s fd ⟨[v], []⟩ [("_law_script", v)]) ∧ ∀ base : Heap, K.In base → base.Ns mainGlobals mg → FnOk l.prog w K mg base CX0 9 fa fd ["_law_script"] (spLaw K) := by
  have e := hfa.symm.trans (PySem.W.mg_of X G a27)
  cases e
  have T : Tx K mg C := ⟨PySem.W.mg_none_of X G z_ValueError, PySem.W.mg_none_of X G z_abs, PySem.W.mg_none_of X G z_all, PySem.W.mg_none_of X G z_bool, PySem.W.mg_none_of X G z_enumerate, PySem.W.mg_none_of X G z_int, PySem.W.mg_none_of X G z_isinstance, PySem.W.mg_none_of X G z_len, PySem.W.mg_none_of X G z_list, PySem.W.mg_none_of X G z_min, PySem.W.mg_none_of X G z_range, PySem.W.mg_none_of X G z_set, PySem.W.mg_none_of X G z_tuple, ⟨_, PySem.W.mg_of X G y_MOST_LINKS⟩, ⟨_, PySem.W.mg_of X G y_MOST_ROUNDS⟩, ⟨_, PySem.W.mg_of X G y_MOST_STEPS⟩, PySem.W.mg_of X G v_heappop, PySem.W.mg_of X G v_heappush, ⟨pg, hd, po, sa⟩, na_befores, na_needs, na_steps⟩
  refine ⟨PySem.W.fnOf "law" "law" (defArgs s_law) (defBody s_law) (defScope s_law) .none kV27 dc27 pm27 an27 cd27 ct27, fun s v => .of_eq rfl, fun base _ _ => ?_⟩
  let ea : Nat → Addr := fun i => ([x0, x1] : List Addr).getD i x0
  have XF1 := fun_mk (st := s_x1) xl1 xc1 xm1
  have Z : Tz l.prog w K mg base ea := ⟨PySem.W.mg_of X G xg0,
    PySem.W.mg_of X G xg1,
    ⟨PySem.W.mg_of X G xg1, ⟨⟨_, _, _, _, _, _, _, _, _, _, _, _, _, _, _, xL1, rfl⟩, xs1, xb1, xt1, xk1⟩, _, _, xa1, xy1, init0 XF1 sc_x1 rfl, XF1.binds (ps := ["self"]) fun _ _ _ _ _ _ us hl => match us, hl with | [_], _ => rfl⟩,
    fun n hn => by
      simp only [NS, List.mem_cons, List.not_mem_nil, or_false] at hn
      rcases hn with rfl
      all_goals first | exact ⟨⟨xh1_1, xh2_1, xb1, xh3_1, xh4_1, xhn, xht, xh5_1⟩, kit_own xi0 xt0 xs_1_0, kit_bt (by decide +kernel) xh6_1⟩,
    fun n hn h hh => by
      simp only [NS, List.mem_cons, List.not_mem_nil, or_false] at hn
      simp only [HS, List.mem_cons, List.not_mem_nil, or_false] at hh
      rcases hn with rfl <;> rcases hh with rfl | rfl
      all_goals first | exact exm_gen xb0 xi0 xt0 xs_1_0 | exact exm_gen xb1 xi1 xt1 xs_1_1⟩
  have F0 := fun_mk (st := s__law_hand) l0 c0 k0
  have g__law_hand := K__law_hand (P := l.prog) (w := w) (base := base) F0 (PySem.W.mg_of X G a0) T Z 
  have F1 := fun_mk (st := s__law_draw) l1 c1 k1
  have g__law_draw := K__law_draw (P := l.prog) (w := w) (base := base) F1 (PySem.W.mg_of X G a1) T Z 
  have F2 := fun_mk (st := s__law_shuffled) l2 c2 k2
  have g__law_shuffled := K__law_shuffled (P := l.prog) (w := w) (base := base) F2 (PySem.W.mg_of X G a2) T Z g__law_draw
  have F3 := fun_mk (st := s__law_links) l3 c3 k3
  have g__law_links := K__law_links (P := l.prog) (w := w) (base := base) F3 (PySem.W.mg_of X G a3) T Z g__law_draw
  have F4 := fun_mk (st := s__law_parts) l4 c4 k4
  have g__law_parts := K__law_parts (P := l.prog) (w := w) (base := base) F4 (PySem.W.mg_of X G a4) T Z g__law_draw g__law_shuffled g__law_links
  have F5 := fun_mk (st := s_is_integer) l5 c5 k5
  have g_is_integer := K_is_integer (P := l.prog) (w := w) (base := base) F5 (PySem.W.mg_of X G a5) T Z 
  have F6 := fun_mk (st := s_is_between) l6 c6 k6
  have g_is_between := K_is_between (P := l.prog) (w := w) (base := base) F6 (PySem.W.mg_of X G a6) T Z g_is_integer
  have F7 := fun_mk (st := s_is_rounds) l7 c7 k7
  have g_is_rounds := K_is_rounds (P := l.prog) (w := w) (base := base) F7 (PySem.W.mg_of X G a7) T Z g_is_between
  have F8 := fun_mk (st := s_is_link) l8 c8 k8
  have g_is_link := K_is_link (P := l.prog) (w := w) (base := base) F8 (PySem.W.mg_of X G a8) T Z g_is_between g_is_rounds
  have F9 := fun_mk (st := s_is_link_row) l9 c9 k9
  have g_is_link_row := K_is_link_row (P := l.prog) (w := w) (base := base) F9 (PySem.W.mg_of X G a9) T Z g_is_link
  have F10 := fun_mk (st := s_lined_up) l10 c10 k10
  have g_lined_up := K_lined_up (P := l.prog) (w := w) (base := base) F10 (PySem.W.mg_of X G a10) T Z 
  have F11 := fun_mk (st := s_told_links) l11 c11 k11
  have g_told_links := K_told_links (P := l.prog) (w := w) (base := base) F11 (PySem.W.mg_of X G a11) T Z 
  have F12 := fun_mk (st := s_zero_ring) l12 c12 k12
  have g_zero_ring := K_zero_ring (P := l.prog) (w := w) (base := base) F12 (PySem.W.mg_of X G a12) T Z g_lined_up g_told_links
  have F13 := fun_mk (st := s_Program___init__) l13 c13 k13
  have g_Program___init__ := K_Program___init__ (P := l.prog) (w := w) (base := base) F13 ⟨mk, a13, i13, kc⟩ (PySem.W.mg_of X G aC) T Z g_is_between g_is_link_row g_zero_ring
  have F14 := fun_mk (st := s__law_made) l14 c14 k14
  have g__law_made := K__law_made (P := l.prog) (w := w) (base := base) F14 (PySem.W.mg_of X G a14) T Z g_Program___init__
  have F15 := fun_mk (st := s__law_may) l15 c15 k15
  have g__law_may := K__law_may (P := l.prog) (w := w) (base := base) F15 (PySem.W.mg_of X G a15) T Z 
  have F16 := fun_mk (st := s__law_order) l16 c16 k16
  have g__law_order := K__law_order (P := l.prog) (w := w) (base := base) F16 (PySem.W.mg_of X G a16) T Z g__law_may g__law_draw
  have F17 := fun_mk (st := s__law_far) l17 c17 k17
  have g__law_far := K__law_far (P := l.prog) (w := w) (base := base) F17 (PySem.W.mg_of X G a17) T Z 
  have F18 := fun_mk (st := s_is_step) l18 c18 k18
  have g_is_step := K_is_step (P := l.prog) (w := w) (base := base) F18 (PySem.W.mg_of X G a18) T Z g_is_between
  have F19 := fun_mk (st := s_spread) l19 c19 k19
  have g_spread := K_spread (P := l.prog) (w := w) (base := base) F19 (PySem.W.mg_of X G a19) T Z 
  have F20 := fun_mk (st := s_leading_from) l20 c20 k20
  have g_leading_from := K_leading_from (P := l.prog) (w := w) (base := base) F20 (PySem.W.mg_of X G a20) T Z 
  have F21 := fun_mk (st := s_links_of) l21 c21 k21
  have g_links_of := K_links_of (P := l.prog) (w := w) (base := base) F21 (PySem.W.mg_of X G a21) T Z 
  have F22 := fun_mk (st := s_least_from) l22 c22 k22
  have g_least_from := K_least_from (P := l.prog) (w := w) (base := base) F22 (PySem.W.mg_of X G a22) T Z g_spread g_leading_from g_links_of
  have F23 := fun_mk (st := s_ahead) l23 c23 k23
  have g_ahead := K_ahead (P := l.prog) (w := w) (base := base) F23 (PySem.W.mg_of X G a23) T Z g_is_step g_least_from
  have F24 := fun_mk (st := s__law_enemy) l24 c24 k24
  have g__law_enemy := K__law_enemy (P := l.prog) (w := w) (base := base) F24 (PySem.W.mg_of X G a24) T Z g__law_may
  have F25 := fun_mk (st := s__law_odd) l25 c25 k25
  have g__law_odd := K__law_odd (P := l.prog) (w := w) (base := base) F25 (PySem.W.mg_of X G a25) T Z g__law_draw
  have F26 := fun_mk (st := s__law_refused) l26 c26 k26
  have g__law_refused := K__law_refused (P := l.prog) (w := w) (base := base) F26 (PySem.W.mg_of X G a26) T Z g_ahead
  have F27 := fun_mk (st := s_law) l27 c27 k27
  exact (ok_law (P := l.prog) (w := w) (base := base) F27 T Z g__law_hand g__law_parts g__law_made g__law_order g__law_far g_ahead g__law_draw g__law_enemy g__law_odd g__law_refused).imp fun vs H Q E h => hsp _ _ _ _ _ _ h
end K07

set_option maxRecDepth 100000
set_option maxHeartbeats 1000000
namespace K07
open PySem PySem.Spec PyProof.Rows _root_.L2 Fr
/-! ### the hand and its draws -/
def hnd (L : List D) (i a z c : Int) : D := .own [.lst L, .int i, .int a, .int z, .int c]
def HOk (d : D) : Prop := ∃ L i a z c, d = hnd L i a z c ∧ 0 ≤ i ∧ ∀ x ∈ L, ∃ n, x = D.int n
theorem gEq_int (i j : Int) : gEq (.int i) (.int j) = some (.bl (decide (i = j))) := by
  unfold gEq gEqv shp toP
  simp [SeqAt.shaped, PyData.eqv, PyData.canLay0, PyData.depth]
  exact Bool.eq_iff_iff.mpr (by simp)
theorem i50 : ixN 5 0 = some 0 := rfl
theorem i51 : ixN 5 1 = some 1 := rfl
theorem i52 : ixN 5 2 = some 2 := rfl
theorem i53 : ixN 5 3 = some 3 := rfl
theorem i54 : ixN 5 4 = some 4 := rfl
theorem draw1 (C : Addr) (w : World) {M : List D} {k : Nat} {many : Int} {L : List D} {i a z c : Int} (hg : ∀ x, (M.set k x)[k]? = some x) (hi : 0 ≤ i) (hL : ∀ x ∈ L, ∃ n, x = D.int n) :
    ∃ x i' a' z', t__law_draw_1 C w ⟨[.cell k, .int many, .unb, .unb, .unb], M.set k (hnd L i a z c)⟩ = some (.next, ⟨[.cell k, .int many, x, .unb, .unb], M.set k (hnd L i' a' z' c)⟩) ∧ 0 ≤ i' := by
  unfold t__law_draw_1
  by_cases h1 : a = 0
  · subst h1
    by_cases h2 : i < L.length
    · obtain ⟨x, hx⟩ : ∃ x, L[i.toNat]? = some (D.int x) := by
        obtain ⟨x, hx⟩ := hL L[i.toNat] (List.getElem_mem (by omega))
        exact ⟨x, by rw [List.getElem?_eq_getElem (by omega), hx]⟩
      have hix : ixN L.length i = some i.toNat := by unfold ixN; rw [if_pos hi, if_pos h2]
      have h2' : decide (i < L.length) = true := decide_eq_true h2
      by_cases h4 : 1000000000000000000 ≤ x
      · refine ⟨.int x, i + 1, x, (z * 69621 + x + 11) % 2147483629, ?_, by omega⟩
        clear h2
        simp [mOf, cRet, cRetN, cSeq, cIfS, cAsg, cSkip, cDrop, cAndV, cOrV, cF, cCB, cCons, cNil, cVar, cK, cNotV, cCall, cChn, cT, cBin, cTup, cIx, cAttr, cLenP, cIf, bAnd, bOr, bNot, cCell, cSetIx, plc, rget, Fr.rset, frz, frzL, frzn, Fr.gLe, Fr.gLt, Fr.gGe, Fr.gGt, Fr.gIsN, Fr.gI, Fr.gSub, Fr.gAddI, gAdd, gMul, gMulI, gDiv, gMod, gPow, gCatL, gCatT, gRepL, gIsi, tyD, gLen, gTuple, gInt, gIx, atI, atF, hg, hnd, gEq_int, h2', hix, hx, h4, Fr.small64, i50, i51, i52, i53, i54]
      · refine ⟨.int x, i + 1, 0, (z * 69621 + x + 11) % 2147483629, ?_, by omega⟩
        clear h2
        simp [mOf, cRet, cRetN, cSeq, cIfS, cAsg, cSkip, cDrop, cAndV, cOrV, cF, cCB, cCons, cNil, cVar, cK, cNotV, cCall, cChn, cT, cBin, cTup, cIx, cAttr, cLenP, cIf, bAnd, bOr, bNot, cCell, cSetIx, plc, rget, Fr.rset, frz, frzL, frzn, Fr.gLe, Fr.gLt, Fr.gGe, Fr.gGt, Fr.gIsN, Fr.gI, Fr.gSub, Fr.gAddI, gAdd, gMul, gMulI, gDiv, gMod, gPow, gCatL, gCatT, gRepL, gIsi, tyD, gLen, gTuple, gInt, gIx, atI, atF, hg, hnd, gEq_int, h2', hix, hx, h4, Fr.small64, i50, i51, i52, i53, i54]
    · refine ⟨.unb, i, 0, z, ?_, hi⟩
      have h2' : decide (i < L.length) = false := decide_eq_false h2
      simp [mOf, cRet, cRetN, cSeq, cIfS, cAsg, cSkip, cDrop, cAndV, cOrV, cF, cCB, cCons, cNil, cVar, cK, cNotV, cCall, cChn, cT, cBin, cTup, cIx, cAttr, cLenP, cIf, bAnd, bOr, bNot, cCell, cSetIx, plc, rget, Fr.rset, frz, frzL, frzn, Fr.gLe, Fr.gLt, Fr.gGe, Fr.gGt, Fr.gIsN, Fr.gI, Fr.gSub, Fr.gAddI, gAdd, gMul, gMulI, gDiv, gMod, gPow, gCatL, gCatT, gRepL, gIsi, tyD, gLen, gTuple, gInt, gIx, atI, atF, hg, hnd, gEq_int, h2', i50, i51, i52, i53, i54]
  · refine ⟨.unb, i, a, z, ?_, hi⟩
    simp [mOf, cRet, cRetN, cSeq, cIfS, cAsg, cSkip, cDrop, cAndV, cOrV, cF, cCB, cCons, cNil, cVar, cK, cNotV, cCall, cChn, cT, cBin, cTup, cIx, cAttr, cLenP, cIf, bAnd, bOr, bNot, cCell, cSetIx, plc, rget, Fr.rset, frz, frzL, frzn, Fr.gLe, Fr.gLt, Fr.gGe, Fr.gGt, Fr.gIsN, Fr.gI, Fr.gSub, Fr.gAddI, gAdd, gMul, gMulI, gDiv, gMod, gPow, gCatL, gCatT, gRepL, gIsi, tyD, gLen, gTuple, gInt, gIx, atI, atF, hg, hnd, gEq_int, h1, i50, i51, i52, i53, i54]
theorem draw2 (C : Addr) (w : World) {M : List D} {k : Nat} {many : Int} {x : D} {L : List D} {i a z c : Int} (hg : ∀ x, (M.set k x)[k]? = some x) (hm : 0 < many) (hm2 : many < 1073741824) :
    (∃ d a', t__law_draw_2 C w ⟨[.cell k, .int many, x, .unb, .unb], M.set k (hnd L i a z c)⟩ = some (.ret (.int d), ⟨[.cell k, .int many, x, .int d, .unb], M.set k (hnd L i a' z c)⟩) ∧ 0 ≤ d ∧ d < many) ∨
    t__law_draw_2 C w ⟨[.cell k, .int many, x, .unb, .unb], M.set k (hnd L i a z c)⟩ = some (.next, ⟨[.cell k, .int many, x, .unb, .unb], M.set k (hnd L i a z c)⟩) := by
  unfold t__law_draw_2
  by_cases h1 : 0 < a
  · refine .inl ⟨a % many, a / many, ?_, Int.emod_nonneg _ (by omega), Int.emod_lt_of_pos _ hm⟩
    simp [mOf, cRet, cRetN, cSeq, cIfS, cAsg, cSkip, cDrop, cAndV, cOrV, cF, cCB, cCons, cNil, cVar, cK, cNotV, cCall, cChn, cT, cBin, cTup, cIx, cAttr, cLenP, cIf, bAnd, bOr, bNot, cCell, cSetIx, plc, rget, Fr.rset, frz, frzL, frzn, Fr.gLe, Fr.gLt, Fr.gGe, Fr.gGt, Fr.gIsN, Fr.gI, Fr.gSub, Fr.gAddI, gAdd, gMul, gMulI, gDiv, gMod, gPow, gCatL, gCatT, gRepL, gIsi, tyD, gLen, gTuple, gInt, gIx, atI, atF, hg, hnd, h1, hm, hm2, i50, i51, i52, i53, i54]
  · refine .inr ?_
    simp [mOf, cRet, cRetN, cSeq, cIfS, cAsg, cSkip, cDrop, cAndV, cOrV, cF, cCB, cCons, cNil, cVar, cK, cNotV, cCall, cChn, cT, cBin, cTup, cIx, cAttr, cLenP, cIf, bAnd, bOr, bNot, cCell, cSetIx, plc, rget, Fr.rset, frz, frzL, frzn, Fr.gLe, Fr.gLt, Fr.gGe, Fr.gGt, Fr.gIsN, Fr.gI, Fr.gSub, Fr.gAddI, gAdd, gMul, gMulI, gDiv, gMod, gPow, gCatL, gCatT, gRepL, gIsi, tyD, gLen, gTuple, gInt, gIx, atI, atF, hg, hnd, h1, i50, i51, i52, i53, i54]
theorem draw37 (C : Addr) (w : World) {M : List D} {k : Nat} {many : Int} {x : D} {L : List D} {i a z c : Int} (hg : ∀ x, (M.set k x)[k]? = some x) (hm : 0 < many) :
    ∃ d s', cSeq (t__law_draw_3 C w) (cSeq (t__law_draw_4 C w) (cSeq (t__law_draw_5 C w) (cSeq (t__law_draw_6 C w) (t__law_draw_7 C w)))) ⟨[.cell k, .int many, x, .unb, .unb], M.set k (hnd L i a z c)⟩ = some (.ret (.int d), s') ∧ s'.mem = M.set k (hnd L i a z (c + 1)) ∧ 0 ≤ d ∧ d < many := by
  have h3 : t__law_draw_3 C w ⟨[.cell k, .int many, x, .unb, .unb], M.set k (hnd L i a z c)⟩ = some (.next, ⟨[.cell k, .int many, x, .unb, .unb], M.set k (hnd L i a z (c + 1))⟩) := by
    unfold t__law_draw_3
    simp [mOf, cRet, cRetN, cSeq, cIfS, cAsg, cSkip, cDrop, cAndV, cOrV, cF, cCB, cCons, cNil, cVar, cK, cNotV, cCall, cChn, cT, cBin, cTup, cIx, cAttr, cLenP, cIf, bAnd, bOr, bNot, cCell, cSetIx, plc, rget, Fr.rset, frz, frzL, frzn, Fr.gLe, Fr.gLt, Fr.gGe, Fr.gGt, Fr.gIsN, Fr.gI, Fr.gSub, Fr.gAddI, gAdd, gMul, gMulI, gDiv, gMod, gPow, gCatL, gCatT, gRepL, gIsi, tyD, gLen, gTuple, gInt, gIx, atI, atF, hg, hnd, i50, i51, i52, i53, i54]
  rw [cSeq_next h3]
  have h4 : t__law_draw_4 C w ⟨[.cell k, .int many, x, .unb, .unb], M.set k (hnd L i a z (c + 1))⟩ = some (.next, ⟨[.cell k, .int many, x, .unb, .int ((z + 7919 * (c + 1)) * 48271 % 2147483647)], M.set k (hnd L i a z (c + 1))⟩) := by
    unfold t__law_draw_4
    simp [mOf, cRet, cRetN, cSeq, cIfS, cAsg, cSkip, cDrop, cAndV, cOrV, cF, cCB, cCons, cNil, cVar, cK, cNotV, cCall, cChn, cT, cBin, cTup, cIx, cAttr, cLenP, cIf, bAnd, bOr, bNot, cCell, cSetIx, plc, rget, Fr.rset, frz, frzL, frzn, Fr.gLe, Fr.gLt, Fr.gGe, Fr.gGt, Fr.gIsN, Fr.gI, Fr.gSub, Fr.gAddI, gAdd, gMul, gMulI, gDiv, gMod, gPow, gCatL, gCatT, gRepL, gIsi, tyD, gLen, gTuple, gInt, gIx, atI, atF, hg, hnd, Fr.small64, i50, i51, i52, i53, i54]
  rw [cSeq_next h4]
  generalize hn : (z + 7919 * (c + 1)) * 48271 % 2147483647 = n
  have n0 : 0 ≤ n := by rw [← hn]; exact Int.emod_nonneg _ (by omega)
  have n1 : n < 2147483647 := by rw [← hn]; exact Int.emod_lt_of_pos _ (by omega)
  have s1 : Fr.small64 n = true := by unfold Fr.small64; simp; omega
  have h5 : t__law_draw_5 C w ⟨[.cell k, .int many, x, .unb, .int n], M.set k (hnd L i a z (c + 1))⟩ = some (.next, ⟨[.cell k, .int many, x, .unb, .int (n * (n / 1009 + 69621) % 2147483647)], M.set k (hnd L i a z (c + 1))⟩) := by
    unfold t__law_draw_5
    simp [mOf, cRet, cRetN, cSeq, cIfS, cAsg, cSkip, cDrop, cAndV, cOrV, cF, cCB, cCons, cNil, cVar, cK, cNotV, cCall, cChn, cT, cBin, cTup, cIx, cAttr, cLenP, cIf, bAnd, bOr, bNot, cCell, cSetIx, plc, rget, Fr.rset, frz, frzL, frzn, Fr.gLe, Fr.gLt, Fr.gGe, Fr.gGt, Fr.gIsN, Fr.gI, Fr.gSub, Fr.gAddI, gAdd, gMul, gMulI, gDiv, gMod, gPow, gCatL, gCatT, gRepL, gIsi, tyD, gLen, gTuple, gInt, gIx, atI, atF, s1]
  rw [cSeq_next h5]
  clear hn
  generalize hp : n * (n / 1009 + 69621) % 2147483647 = q
  have q0 : 0 ≤ q := by rw [← hp]; exact Int.emod_nonneg _ (by omega)
  have q1 : q < 2147483647 := by rw [← hp]; exact Int.emod_lt_of_pos _ (by omega)
  have s2 : Fr.small64 q = true := by unfold Fr.small64; simp; omega
  have h6 : t__law_draw_6 C w ⟨[.cell k, .int many, x, .unb, .int q], M.set k (hnd L i a z (c + 1))⟩ = some (.next, ⟨[.cell k, .int many, x, .unb, .int (q * (q / 2003 + 40692) % 2147483399)], M.set k (hnd L i a z (c + 1))⟩) := by
    unfold t__law_draw_6
    simp [mOf, cRet, cRetN, cSeq, cIfS, cAsg, cSkip, cDrop, cAndV, cOrV, cF, cCB, cCons, cNil, cVar, cK, cNotV, cCall, cChn, cT, cBin, cTup, cIx, cAttr, cLenP, cIf, bAnd, bOr, bNot, cCell, cSetIx, plc, rget, Fr.rset, frz, frzL, frzn, Fr.gLe, Fr.gLt, Fr.gGe, Fr.gGt, Fr.gIsN, Fr.gI, Fr.gSub, Fr.gAddI, gAdd, gMul, gMulI, gDiv, gMod, gPow, gCatL, gCatT, gRepL, gIsi, tyD, gLen, gTuple, gInt, gIx, atI, atF, s2]
  rw [cSeq_next h6]
  generalize q * (q / 2003 + 40692) % 2147483399 = y
  refine ⟨y / 16 % many, ⟨[.cell k, .int many, x, .unb, .int y], M.set k (hnd L i a z (c + 1))⟩, ?_, rfl, Int.emod_nonneg _ (by omega), Int.emod_lt_of_pos _ hm⟩
  unfold t__law_draw_7
  simp [mOf, cRet, cRetN, cSeq, cIfS, cAsg, cSkip, cDrop, cAndV, cOrV, cF, cCB, cCons, cNil, cVar, cK, cNotV, cCall, cChn, cT, cBin, cTup, cIx, cAttr, cLenP, cIf, bAnd, bOr, bNot, cCell, cSetIx, plc, rget, Fr.rset, frz, frzL, frzn, Fr.gLe, Fr.gLt, Fr.gGe, Fr.gGt, Fr.gIsN, Fr.gI, Fr.gSub, Fr.gAddI, gAdd, gMul, gMulI, gDiv, gMod, gPow, gCatL, gCatT, gRepL, gIsi, tyD, gLen, gTuple, gInt, gIx, atI, atF, hm]
theorem draw (C : Addr) (w : World) {M : List D} {k : Nat} {many : Int} {h : D} (hk : k < M.length) (hM : M[k]? = some h) (ok : HOk h) (hm : 0 < many) (hm2 : many < 1073741824) :
    ∃ d h', m__law_draw C w [.cell k, .int many] M = some (.int d, M.set k h') ∧ HOk h' ∧ 0 ≤ d ∧ d < many := by
  obtain ⟨L, i, a, z, c, rfl, hi, hL⟩ := ok
  have hset : M = M.set k (hnd L i a z c) := by
    refine List.ext_getElem? fun n => ?_
    by_cases hn : k = n
    · subst hn; rw [List.getElem?_set_self hk, hM]
    · rw [List.getElem?_set_ne hn]
  have hg : ∀ x, (M.set k x)[k]? = some x := fun x => List.getElem?_set_self hk
  obtain ⟨x, i', a', z', e1, hi'⟩ := draw1 C w (M := M) (k := k) (many := many) (a := a) (z := z) (c := c) hg hi hL
  rw [hset]
  unfold m__law_draw mOf
  show ∃ d h', (match c__law_draw C w ⟨[.cell k, .int many, .unb, .unb, .unb], M.set k (hnd L i a z c)⟩ with
    | some (.ret d, s') => some (d, s'.mem)
    | some (.next, s') => some (.non, s'.mem)
    | _ => none) = some (.int d, (M.set k (hnd L i a z c)).set k h') ∧ HOk h' ∧ 0 ≤ d ∧ d < many
  unfold c__law_draw
  rw [cSeq_next e1]
  rcases draw2 C w (M := M) (k := k) (many := many) (x := x) (L := L) (i := i') (a := a') (z := z') (c := c) hg hm hm2 with ⟨d, a2, e2, d0, d1⟩ | e2
  · rw [cSeq_ret e2]
    exact ⟨d, hnd L i' a2 z' c, by simp, ⟨_, _, _, _, _, rfl, hi', hL⟩, d0, d1⟩
  · rw [cSeq_next e2]
    obtain ⟨d, s', e3, e4, d0, d1⟩ := draw37 C w (M := M) (k := k) (many := many) (x := x) (L := L) (i := i') (a := a') (z := z') (c := c) hg hm
    rw [e3]
    exact ⟨d, hnd L i' a' z' (c + 1), by simp [e4], ⟨_, _, _, _, _, rfl, hi', hL⟩, d0, d1⟩
end K07

set_option maxRecDepth 100000
set_option maxHeartbeats 1000000
namespace K07
open PySem PySem.Spec PyProof.Rows _root_.L2 Fr
theorem draw0 (C : Addr) (w : World) {R : List D} {many : Int} {h : D} (ok : HOk h) (hm : 0 < many) (hm2 : many < 1073741824) :
    ∃ d h', m__law_draw C w [.cell 0, .int many] (h :: R) = some (.int d, h' :: R) ∧ HOk h' ∧ 0 ≤ d ∧ d < many := by
  obtain ⟨d, h', e, a, b, c⟩ := draw C w (M := h :: R) (k := 0) (by simp) rfl ok hm hm2
  exact ⟨d, h', e, a, b, c⟩
theorem rgD_len (lo : Int) (n : Nat) : (rgD lo n).length = n := by unfold rgD; simp
theorem ixN_of {n : Nat} {i : Int} (h0 : 0 ≤ i) (h1 : i < n) : ixN n i = some i.toNat := by unfold ixN; rw [if_pos h0, if_pos h1]
noncomputable abbrev teSh (C : Addr) (w : World) : Fr.C := cMt 2 gPop (cCons (cF (cCall (m__law_draw C w) (cCons (cVar 0) (cCons (cF (cLenP 2)) cNil)))) cNil)
def InvSh (R : List D) (n i : Nat) (s : S) (acc : List D) : Prop := ∃ (rest : List Int) (h2 : D), s = ⟨[.cell 0, .int n, .own (rest.map D.int), .unb], h2 :: R⟩ ∧ HOk h2 ∧ rest.length = n - i ∧ acc.length = i ∧ ∃ ps : List Int, acc = ps.map D.int
theorem sh_step (C : Addr) (w : World) {R : List D} {n : Nat} (hn : n < 1000) {i : Nat} {d : D} {s : S} {acc : List D} (hi : i < n) (hI : InvSh R n i s acc) :
    ∃ s1 x s2, gN 3 d s = some s1 ∧ teSh C w s1 = some (x, s2) ∧ InvSh R n (i + 1) { s2 with env := unbs s2.env [3] } (acc ++ [x]) := by
  obtain ⟨rest, h2, rfl, ho, hr, ha, ps, rfl⟩ := hI
  obtain ⟨x, h3, e3, o3, x0, x1⟩ := draw0 C w (R := R) (many := (rest.length : Int)) ho (by omega) (by omega)
  have hx : ixN rest.length x = some x.toNat := ixN_of x0 x1
  have hg : rest[x.toNat]? = some rest[x.toNat] := List.getElem?_eq_getElem (by omega)
  generalize rest[x.toNat] = y at hg
  refine ⟨⟨[.cell 0, .int n, .own (rest.map D.int), d], h2 :: R⟩, .int y, ⟨[.cell 0, .int n, .own ((rest.eraseIdx x.toNat).map D.int), d], h3 :: R⟩, rfl, ?_, ?_⟩
  · have hz : rest.length < line := by unfold line; omega
    clear x1
    unfold teSh
    simp [mOf, cRet, cRetN, cSeq, cIfS, cAsg, cSkip, cDrop, cAndV, cOrV, cF, cCB, cCons, cNil, cVar, cK, cNotV, cCall, cChn, cT, cBin, cTup, cIx, cAttr, cLenP, cIf, bAnd, bOr, bNot, cCell, cSetIx, plc, rget, Fr.rset, frz, frzL, frzn, Fr.gLe, Fr.gLt, Fr.gGe, Fr.gGt, Fr.gIsN, Fr.gI, Fr.gSub, Fr.gAddI, gAdd, gMul, gMulI, gDiv, gMod, gPow, gCatL, gCatT, gRepL, gIsi, tyD, gLen, gTuple, gInt, gIx, atI, atF, cMt, e3, gPop, hx, hg, hz, map_erase]
  · refine ⟨rest.eraseIdx x.toNat, h3, rfl, o3, ?_, by simp [ha], ps ++ [y], by simp⟩
    rw [List.length_eraseIdx, if_pos (by omega)]
    omega
theorem sh_loop (C : Addr) (w : World) {R : List D} {n : Nat} {h : D} (ok : HOk h) (hn : n < 1000) :
    ∃ acc' s', lcLoop [3] (gN 3) bYes (teSh C w) (rgD 0 n) ⟨[.cell 0, .int n, .own (rgD 0 n), .unb], h :: R⟩ [] = some (acc', s') ∧ InvSh R n n s' acc' := by
  have hl : ([] : List D).length + (rgD 0 n).length < line := by
    rw [rgD_len]
    unfold line
    simp only [List.length_nil]
    omega
  have h0 : InvSh R n 0 ⟨[.cell 0, .int n, .own (rgD 0 n), .unb], h :: R⟩ [] := ⟨(List.range n).map fun (i : Nat) => (0 : Int) + (i : Int), h, by unfold rgD; simp [List.map_map, Function.comp_def], ok, by simp, rfl, [], rfl⟩
  obtain ⟨a, s, e, hI⟩ := lcLoop_inv (js := [3]) (tg := gN 3) (te := teSh C w) (InvSh R n) (rgD 0 n) 0 _ [] hl h0 fun i d s acc hd hI => by
    have hi : i < n := by have := (List.getElem?_eq_some_iff.mp hd).1; rw [rgD_len] at this; exact this
    rw [Nat.zero_add] at hI ⊢
    exact sh_step C w hn hi hI
  rw [rgD_len, Nat.zero_add] at hI
  exact ⟨a, s, e, hI⟩
theorem sh_e1 {n : Nat} {M : List D} (hn : n < 1000) : cAsg 2 (cLRg (cVar 1)) ⟨[.cell 0, .int n, .unb, .unb], M⟩ = some (.next, ⟨[.cell 0, .int n, .own (rgD 0 n), .unb], M⟩) := by
  have h : cLRg (cVar 1) ⟨[.cell 0, .int n, .unb, .unb], M⟩ = some (.own (rgD 0 n), ⟨[.cell 0, .int n, .unb, .unb], M⟩) := by
    unfold cLRg
    have e : cVar 1 ⟨[.cell 0, .int n, .unb, .unb], M⟩ = some (.int n, ⟨[.cell 0, .int n, .unb, .unb], M⟩) := rfl
    rw [e]
    dsimp only
    rw [if_pos (by simp only [Bool.and_eq_true, decide_eq_true_eq]; omega), Int.toNat_natCast]
  exact cAsg_of h
theorem sh_e3 (C : Addr) (w : World) {n : Nat} {M : List D} {acc : List D} {s2 : S} (hn : n < 1000) (e2 : lcLoop [3] (gN 3) bYes (teSh C w) (rgD 0 n) ⟨[.cell 0, .int n, .own (rgD 0 n), .unb], M⟩ [] = some (acc, s2)) :
    cLc (itR1 (cCons (cVar 1) cNil)) [3] (gN 3) bYes (teSh C w) ⟨[.cell 0, .int n, .own (rgD 0 n), .unb], M⟩ = some (.own acc, { s2 with env := rst s2.env [.cell 0, .int n, .own (rgD 0 n), .unb] [3] }) := by
  have h : itR1 (cCons (cVar 1) cNil) ⟨[.cell 0, .int n, .own (rgD 0 n), .unb], M⟩ = some (rgD 0 n, ⟨[.cell 0, .int n, .own (rgD 0 n), .unb], M⟩) := by
    have := itR1_of (c := cVar 1) (s := ⟨[.cell 0, .int n, .own (rgD 0 n), .unb], M⟩) (n := (n : Int)) rfl (small62_of (by omega) (by omega))
    rw [Int.toNat_natCast] at this
    exact this
  exact cLc_of h rfl e2
theorem shuffled (C : Addr) (w : World) {R : List D} {n : Nat} {h : D} (ok : HOk h) (hn : n < 1000) :
    ∃ (ps : List Int) (h' : D), m__law_shuffled C w [.cell 0, .int n] (h :: R) = some (.own (ps.map D.int), h' :: R) ∧ HOk h' ∧ ps.length = n := by
  obtain ⟨acc', s', e2, rest, h2, hs, ho, hr, hl, ps, ha⟩ := sh_loop C w (R := R) ok hn
  refine ⟨ps, h2, mOf_ret (env := [.cell 0, .int n, .unb, .unb]) (s' := ⟨[.cell 0, .int n, .own (rest.map D.int), .unb], h2 :: R⟩) rfl ?_, ho, by rw [ha, List.length_map] at hl; exact hl⟩
  unfold c__law_shuffled
  rw [cSeq_next (sh_e1 hn)]
  unfold t__law_shuffled_1
  refine cRet_of ?_
  rw [sh_e3 C w hn e2, ha, hs]
  rfl
end K07

set_option maxRecDepth 100000
set_option maxHeartbeats 1000000
namespace K07
open PySem PySem.Spec PyProof.Rows _root_.L2 Fr
abbrev Tri := Int × Int × Int
abbrev dTri (t : Tri) : D := Em.tri.d t
theorem dTri_eq (a b r : Int) : dTri (a, b, r) = .tup [.int a, .int b, .int r] := rfl
theorem frz_tris (ts : List Tri) : frzL (ts.map dTri) = ts.map dTri := by
  rw [frzL_eq, List.map_map]
  rfl
theorem all_tris (ts : List Tri) : (ts.map dTri).all frzn = true := by
  rw [List.all_map, List.all_eq_true]
  intro t _
  rfl
def pl (ps : List Int) (i : Int) : Int := ps.getD i.toNat 0
theorem pl_get {ps : List Int} {i : Int} (h0 : 0 ≤ i) (h1 : i < ps.length) : ps[i.toNat]? = some (pl ps i) := by
  unfold pl
  rw [List.getD_eq_getElem?_getD, List.getElem?_eq_getElem (by omega)]
  rfl
/-- what a link is -/
structure TriOk (ps : List Int) (R : Int) (t : Tri) : Prop where
  a0 : 0 ≤ t.1
  a1 : t.1 < ps.length
  b0 : 0 ≤ t.2.1
  b1 : t.2.1 < ps.length
  r0 : 0 ≤ t.2.2
  r1 : t.2.2 ≤ R
  z : t.2.2 = 0 → pl ps t.1 < pl ps t.2.1
structure FoundOk (ps : List Int) (R : Int) (n : Nat) (ts : List Tri) : Prop where
  ok : ∀ t ∈ ts, TriOk ps R t
  nd : ts.Nodup
  len : ts.length ≤ n
section
variable (C : Addr) (w : World) {R : List D} {ps : List Int} {many rounds : Int} {found : List Tri} {x6 x7 x8 x9 : D} {h : D}
theorem li_draw {i : Nat} {cs : S → Option (List D × S)} {k : Int} {env : List D} (ok : HOk h) (hk : 0 < k) (hk2 : k < 1073741824) (hc : ∀ M, cs ⟨env, M⟩ = some ([.cell 0, .int k], ⟨env, M⟩)) :
    ∃ d h', cAsg i (cCall (m__law_draw C w) cs) ⟨env, h :: R⟩ = some (.next, ⟨env.set i (.int d), h' :: R⟩) ∧ HOk h' ∧ 0 ≤ d ∧ d < k := by
  obtain ⟨d, h', e, o, d0, d1⟩ := draw0 C w (R := R) ok hk hk2
  exact ⟨d, h', cAsg_of (cCall_of (hc _) e), o, d0, d1⟩
theorem li_step {i : Nat} {d6 : D} (ok : HOk h) (hn : 0 < ps.length) (hn2 : ps.length < 1000) (hr : 1 ≤ rounds) (hr2 : rounds < 1000) (hi : i < 1000) (fo : FoundOk ps rounds i found) :
    ∃ s2 found' h' y7 y8 y9, b__law_links_1 C w ⟨[.cell 0, .lst (ps.map D.int), .int many, .int rounds, .lst [], .own (found.map dTri), d6, x7, x8, x9], h :: R⟩ = some (.next, s2) ∧
      s2 = ⟨[.cell 0, .lst (ps.map D.int), .int many, .int rounds, .lst [], .own (found'.map dTri), d6, y7, y8, y9], h' :: R⟩ ∧ HOk h' ∧ FoundOk ps rounds (i + 1) found' := by
  unfold b__law_links_1
  obtain ⟨a, h1, e1, o1, a0, a1⟩ := li_draw C w (R := R) (i := 7) (cs := cCons (cVar 0) (cCons (cF (cLenP 1)) cNil)) (k := ps.length) (env := [.cell 0, .lst (ps.map D.int), .int many, .int rounds, .lst [], .own (found.map dTri), d6, x7, x8, x9]) ok (by omega) (by omega) (fun M => by simp [mOf, cRet, cRetN, cSeq, cIfS, cAsg, cSkip, cDrop, cAndV, cOrV, cF, cCB, cCons, cNil, cVar, cK, cNotV, cCall, cChn, cT, cBin, cTup, cIx, cAttr, cLenP, cIf, bAnd, bOr, bNot, cCell, cSetIx, plc, rget, Fr.rset, frz, frzL, frzn, Fr.gLe, Fr.gLt, Fr.gGe, Fr.gGt, Fr.gIsN, Fr.gI, Fr.gSub, Fr.gAddI, gAdd, gMul, gMulI, gDiv, gMod, gPow, gCatL, gCatT, gRepL, gIsi, tyD, gLen, gTuple, gInt, gIx, atI, atF])
  rw [cSeq_next e1]
  obtain ⟨b, h2, e2, o2, b0, b1⟩ := li_draw C w (R := R) (i := 8) (cs := cCons (cVar 0) (cCons (cF (cLenP 1)) cNil)) (k := ps.length) (env := [.cell 0, .lst (ps.map D.int), .int many, .int rounds, .lst [], .own (found.map dTri), d6, .int a, x8, x9]) o1 (by omega) (by omega) (fun M => by simp [mOf, cRet, cRetN, cSeq, cIfS, cAsg, cSkip, cDrop, cAndV, cOrV, cF, cCB, cCons, cNil, cVar, cK, cNotV, cCall, cChn, cT, cBin, cTup, cIx, cAttr, cLenP, cIf, bAnd, bOr, bNot, cCell, cSetIx, plc, rget, Fr.rset, frz, frzL, frzn, Fr.gLe, Fr.gLt, Fr.gGe, Fr.gGt, Fr.gIsN, Fr.gI, Fr.gSub, Fr.gAddI, gAdd, gMul, gMulI, gDiv, gMod, gPow, gCatL, gCatT, gRepL, gIsi, tyD, gLen, gTuple, gInt, gIx, atI, atF])
  rw [show ([.cell 0, .lst (ps.map D.int), .int many, .int rounds, .lst [], .own (found.map dTri), d6, x7, x8, x9] : List D).set 7 (.int a) = [.cell 0, .lst (ps.map D.int), .int many, .int rounds, .lst [], .own (found.map dTri), d6, .int a, x8, x9] from rfl, cSeq_next e2]
  obtain ⟨r, h3, e3, o3, r0, r1⟩ := li_draw C w (R := R) (i := 9) (cs := cCons (cVar 0) (cCons (cF (cBin gAdd (cVar 3) (cK (.int 1)))) cNil)) (k := rounds + 1) (env := [.cell 0, .lst (ps.map D.int), .int many, .int rounds, .lst [], .own (found.map dTri), d6, .int a, .int b, x9]) o2 (by omega) (by omega) (fun M => by simp [mOf, cRet, cRetN, cSeq, cIfS, cAsg, cSkip, cDrop, cAndV, cOrV, cF, cCB, cCons, cNil, cVar, cK, cNotV, cCall, cChn, cT, cBin, cTup, cIx, cAttr, cLenP, cIf, bAnd, bOr, bNot, cCell, cSetIx, plc, rget, Fr.rset, frz, frzL, frzn, Fr.gLe, Fr.gLt, Fr.gGe, Fr.gGt, Fr.gIsN, Fr.gI, Fr.gSub, Fr.gAddI, gAdd, gMul, gMulI, gDiv, gMod, gPow, gCatL, gCatT, gRepL, gIsi, tyD, gLen, gTuple, gInt, gIx, atI, atF])
  rw [show ([.cell 0, .lst (ps.map D.int), .int many, .int rounds, .lst [], .own (found.map dTri), d6, .int a, x8, x9] : List D).set 8 (.int b) = [.cell 0, .lst (ps.map D.int), .int many, .int rounds, .lst [], .own (found.map dTri), d6, .int a, .int b, x9] from rfl, cSeq_next e3]
  rw [show ([.cell 0, .lst (ps.map D.int), .int many, .int rounds, .lst [], .own (found.map dTri), d6, .int a, .int b, x9] : List D).set 9 (.int r) = [.cell 0, .lst (ps.map D.int), .int many, .int rounds, .lst [], .own (found.map dTri), d6, .int a, .int b, .int r] from rfl]
  have xa : ixN ps.length a = some a.toNat := ixN_of a0 a1
  have xb : ixN ps.length b = some b.toNat := ixN_of b0 b1
  have ga := pl_get a0 a1
  have gb := pl_get b0 b1
  -- the rounds
  obtain ⟨q, e4, q0, q1, qz⟩ : ∃ q, cIfS (bAnd (cT (cBin gEq (cVar 9) (cK (.int 0)))) (cT (cBin Fr.gGe (cF (cIx 1 (cVar 7))) (cF (cIx 1 (cVar 8)))))) (cAsg 9 (cK (.int 1))) cSkip
      ⟨[.cell 0, .lst (ps.map D.int), .int many, .int rounds, .lst [], .own (found.map dTri), d6, .int a, .int b, .int r], h3 :: R⟩ = some (.next, ⟨[.cell 0, .lst (ps.map D.int), .int many, .int rounds, .lst [], .own (found.map dTri), d6, .int a, .int b, .int q], h3 :: R⟩) ∧ 0 ≤ q ∧ q ≤ rounds ∧ (q = 0 → pl ps a < pl ps b) := by
    by_cases z : r = 0
    · by_cases y : pl ps b ≤ pl ps a
      · refine ⟨1, ?_, by omega, by omega, by omega⟩
        clear a1 b1
        simp [mOf, cRet, cRetN, cSeq, cIfS, cAsg, cSkip, cDrop, cAndV, cOrV, cF, cCB, cCons, cNil, cVar, cK, cNotV, cCall, cChn, cT, cBin, cTup, cIx, cAttr, cLenP, cIf, bAnd, bOr, bNot, cCell, cSetIx, plc, rget, Fr.rset, frz, frzL, frzn, Fr.gLe, Fr.gLt, Fr.gGe, Fr.gGt, Fr.gIsN, Fr.gI, Fr.gSub, Fr.gAddI, gAdd, gMul, gMulI, gDiv, gMod, gPow, gCatL, gCatT, gRepL, gIsi, tyD, gLen, gTuple, gInt, gIx, atI, atF, gEq_i, z, xa, xb, ga, gb, y]
      · refine ⟨r, ?_, by omega, by omega, by omega⟩
        clear a1 b1
        simp [mOf, cRet, cRetN, cSeq, cIfS, cAsg, cSkip, cDrop, cAndV, cOrV, cF, cCB, cCons, cNil, cVar, cK, cNotV, cCall, cChn, cT, cBin, cTup, cIx, cAttr, cLenP, cIf, bAnd, bOr, bNot, cCell, cSetIx, plc, rget, Fr.rset, frz, frzL, frzn, Fr.gLe, Fr.gLt, Fr.gGe, Fr.gGt, Fr.gIsN, Fr.gI, Fr.gSub, Fr.gAddI, gAdd, gMul, gMulI, gDiv, gMod, gPow, gCatL, gCatT, gRepL, gIsi, tyD, gLen, gTuple, gInt, gIx, atI, atF, gEq_i, z, xa, xb, ga, gb, y]
    · refine ⟨r, ?_, by omega, by omega, by omega⟩
      simp [mOf, cRet, cRetN, cSeq, cIfS, cAsg, cSkip, cDrop, cAndV, cOrV, cF, cCB, cCons, cNil, cVar, cK, cNotV, cCall, cChn, cT, cBin, cTup, cIx, cAttr, cLenP, cIf, bAnd, bOr, bNot, cCell, cSetIx, plc, rget, Fr.rset, frz, frzL, frzn, Fr.gLe, Fr.gLt, Fr.gGe, Fr.gGt, Fr.gIsN, Fr.gI, Fr.gSub, Fr.gAddI, gAdd, gMul, gMulI, gDiv, gMod, gPow, gCatL, gCatT, gRepL, gIsi, tyD, gLen, gTuple, gInt, gIx, atI, atF, gEq_i, z]
  rw [cSeq_next e4]
  have hcat : cCatP 5 (cVar 4) ⟨[.cell 0, .lst (ps.map D.int), .int many, .int rounds, .lst [], .own (found.map dTri), d6, .int a, .int b, .int q], h3 :: R⟩ = some (.own (found.map dTri), ⟨[.cell 0, .lst (ps.map D.int), .int many, .int rounds, .lst [], .own (found.map dTri), d6, .int a, .int b, .int q], h3 :: R⟩) := by
    have hz : (found.map dTri).length + 0 ≤ line := by rw [List.length_map]; have := fo.len; unfold line; omega
    unfold cCatP
    show (if (found.map dTri).all frzn = true ∧ (found.map dTri).length + 0 ≤ line then some (D.own (found.map dTri ++ []), _) else none) = _
    rw [if_pos ⟨all_tris found, hz⟩, List.append_nil]
  have htup : cTup (cCons (cVar 7) (cCons (cVar 8) (cCons (cVar 9) cNil))) ⟨[.cell 0, .lst (ps.map D.int), .int many, .int rounds, .lst [], .own (found.map dTri), d6, .int a, .int b, .int q], h3 :: R⟩ = some (dTri (a, b, q), ⟨[.cell 0, .lst (ps.map D.int), .int many, .int rounds, .lst [], .own (found.map dTri), d6, .int a, .int b, .int q], h3 :: R⟩) := by
    rw [dTri_eq]
    simp [mOf, cRet, cRetN, cSeq, cIfS, cAsg, cSkip, cDrop, cAndV, cOrV, cF, cCB, cCons, cNil, cVar, cK, cNotV, cCall, cChn, cT, cBin, cTup, cIx, cAttr, cLenP, cIf, bAnd, bOr, bNot, cCell, cSetIx, plc, rget, Fr.rset, frz, frzL, frzn, Fr.gLe, Fr.gLt, Fr.gGe, Fr.gGt, Fr.gIsN, Fr.gI, Fr.gSub, Fr.gAddI, gAdd, gMul, gMulI, gDiv, gMod, gPow, gCatL, gCatT, gRepL, gIsi, tyD, gLen, gTuple, gInt, gIx, atI, atF, line]
  have hin := Em.tri.gIn_d (by decide) not (a, b, q) found
  have hcond : cT (cBin (gIn not) (cF (cTup (cCons (cVar 7) (cCons (cVar 8) (cCons (cVar 9) cNil))))) (cF (cCatP 5 (cVar 4)))) ⟨[.cell 0, .lst (ps.map D.int), .int many, .int rounds, .lst [], .own (found.map dTri), d6, .int a, .int b, .int q], h3 :: R⟩ = some (!decide ((a, b, q) ∈ found), ⟨[.cell 0, .lst (ps.map D.int), .int many, .int rounds, .lst [], .own (found.map dTri), d6, .int a, .int b, .int q], h3 :: R⟩) := by
    unfold cT cBin cF
    rw [htup]
    show (match ((Option.map (fun p => (frz p.1, p.2)) (cCatP 5 (cVar 4) _)).bind fun p => (gIn not (dTri (a, b, q)) p.1).map fun d => (d, p.2)) with
      | some (.bl b, s') => some (b, s')
      | _ => none) = _
    rw [hcat]
    show (match ((gIn not (dTri (a, b, q)) (.lst (frzL (found.map dTri)))).map fun d => (d, (_ : S))) with
      | some (.bl b, s') => some (b, s')
      | _ => none) = _
    rw [frz_tris, hin]
    by_cases hm : (a, b, q) ∈ found <;> simp [hm]
  unfold cIfS
  rw [hcond]
  by_cases hm : (a, b, q) ∈ found
  · refine ⟨_, found, h3, .int a, .int b, .int q, ?_, rfl, o3, fo.ok, fo.nd, by have := fo.len; omega⟩
    simp only [hm, decide_true, Bool.not_true]
    rfl
  · refine ⟨_, found ++ [(a, b, q)], h3, .int a, .int b, .int q, ?_, rfl, o3, fun t ht => ?_, ?_, ?_⟩
    · simp only [hm, decide_false, Bool.not_false]
      have hz : (found.map dTri).length < line := by rw [List.length_map]; have := fo.len; unfold line; omega
      refine (cDrop_of (cApp_of rfl rfl (cF_of htup) rfl rfl hz)).trans ?_
      rw [List.map_append]
      rfl
    · rcases List.mem_append.mp ht with h | h
      · exact fo.ok t h
      · rw [List.mem_singleton.mp h]
        exact ⟨a0, a1, b0, b1, q0, q1, qz⟩
    · exact List.nodup_append.mpr ⟨fo.nd, by simp, fun x hx y hy => by rw [List.mem_singleton.mp hy]; exact fun e => hm (e ▸ hx)⟩
    · rw [List.length_append, List.length_singleton]
      have := fo.len
      omega
end
end K07

set_option maxRecDepth 100000
set_option maxHeartbeats 1000000
namespace K07
open PySem PySem.Spec PyProof.Rows _root_.L2 Fr
section
variable (C : Addr) (w : World) {R : List D} {ps : List Int} {h : D}
def InvLi (R : List D) (ps : List Int) (many rounds : Int) (i : Nat) (s : S) : Prop := ∃ (found : List Tri) (h' x6 x7 x8 x9 : D), s = ⟨[.cell 0, .lst (ps.map D.int), .int many, .int rounds, .lst [], .own (found.map dTri), x6, x7, x8, x9], h' :: R⟩ ∧ HOk h' ∧ FoundOk ps rounds i found
theorem links {many : Nat} {rounds : Int} (ok : HOk h) (hn : 0 < ps.length) (hn2 : ps.length < 1000) (hr : 1 ≤ rounds) (hr2 : rounds < 1000) (hm : many < 1000) :
    ∃ (found : List Tri) (h' : D), m__law_links C w [.cell 0, .lst (ps.map D.int), .int many, .int rounds, .lst []] (h :: R) = some (.lst (found.map dTri), h' :: R) ∧ HOk h' ∧ FoundOk ps rounds many found := by
  have e1 : cAsg 5 (cLst cNil) ⟨[.cell 0, .lst (ps.map D.int), .int many, .int rounds, .lst [], .unb, .unb, .unb, .unb, .unb], h :: R⟩ = some (.next, ⟨[.cell 0, .lst (ps.map D.int), .int many, .int rounds, .lst [], .own [], .unb, .unb, .unb, .unb], h :: R⟩) := cAsg_of (cLst_nil _)
  have h0 : InvLi R ps many rounds 0 ⟨[.cell 0, .lst (ps.map D.int), .int many, .int rounds, .lst [], .own [], .unb, .unb, .unb, .unb], h :: R⟩ := ⟨[], h, _, _, _, _, rfl, ok, fun t ht => by simp at ht, List.nodup_nil, Nat.le_refl _⟩
  obtain ⟨s', e2, found, h', x6, x7, x8, x9, rfl, o2, fo⟩ := forLoop_inv (tg := gN 6) (body := b__law_links_1 C w) (InvLi R ps many rounds) (rgD 0 many) 0 _ h0 fun i d s hd hI => by
    obtain ⟨found, h', x6, x7, x8, x9, rfl, o2, fo⟩ := hI
    have hi : i < many := by have := (List.getElem?_eq_some_iff.mp hd).1; rw [rgD_len] at this; exact this
    rw [Nat.zero_add] at fo ⊢
    obtain ⟨s2, f2, h2, y7, y8, y9, e, es, o3, fo2⟩ := li_step C w (R := R) (many := (many : Int)) (x7 := x7) (x8 := x8) (x9 := x9) (d6 := d) o2 hn hn2 hr hr2 (by omega) fo
    exact ⟨⟨[.cell 0, .lst (ps.map D.int), .int many, .int rounds, .lst [], .own (found.map dTri), d, x7, x8, x9], h' :: R⟩, s2, .next, rfl, e, .inl rfl, f2, h2, d, y7, y8, y9, es, o3, fo2⟩
  rw [rgD_len, Nat.zero_add] at fo
  have e3 : cRet (cVar 5) ⟨[.cell 0, .lst (ps.map D.int), .int many, .int rounds, .lst [], .own (found.map dTri), x6, x7, x8, x9], h' :: R⟩ = some (.ret (.lst (found.map dTri)), ⟨[.cell 0, .lst (ps.map D.int), .int many, .int rounds, .lst [], .lst (found.map dTri), x6, x7, x8, x9], h' :: R⟩) := by
    simp [mOf, cRet, cRetN, cSeq, cIfS, cAsg, cSkip, cDrop, cAndV, cOrV, cF, cCB, cCons, cNil, cVar, cK, cNotV, cCall, cChn, cT, cBin, cTup, cIx, cAttr, cLenP, cIf, bAnd, bOr, bNot, cCell, cSetIx, plc, rget, Fr.rset, frz, frzL, frzn, Fr.gLe, Fr.gLt, Fr.gGe, Fr.gGt, Fr.gIsN, Fr.gI, Fr.gSub, Fr.gAddI, gAdd, gMul, gMulI, gDiv, gMod, gPow, gCatL, gCatT, gRepL, gIsi, tyD, gLen, gTuple, gInt, gIx, atI, atF, frz_tris]
  refine ⟨found, h', mOf_ret (env := [.cell 0, .lst (ps.map D.int), .int many, .int rounds, .lst [], .unb, .unb, .unb, .unb, .unb]) (s' := ⟨[.cell 0, .lst (ps.map D.int), .int many, .int rounds, .lst [], .lst (found.map dTri), x6, x7, x8, x9], h' :: R⟩) rfl ?_, o2, fo⟩
  unfold c__law_links
  rw [cSeq_next e1]
  have e4 : t__law_links_2 C w ⟨[.cell 0, .lst (ps.map D.int), .int many, .int rounds, .lst [], .own [], .unb, .unb, .unb, .unb], h :: R⟩ = some (.next, ⟨[.cell 0, .lst (ps.map D.int), .int many, .int rounds, .lst [], .own (found.map dTri), x6, x7, x8, x9], h' :: R⟩) := by
    unfold t__law_links_2
    have hi := itR1_of (c := cVar 2) (s := ⟨[.cell 0, .lst (ps.map D.int), .int many, .int rounds, .lst [], .own [], .unb, .unb, .unb, .unb], h :: R⟩) (n := (many : Int)) rfl (small62_of (by omega) (by omega))
    rw [Int.toNat_natCast] at hi
    rw [cFor_of hi]
    exact e2
  rw [cSeq_next e4]
  exact e3
theorem frz_ints (ns : List Int) : frzL (ns.map D.int) = ns.map D.int := by
  rw [frzL_eq, List.map_map]
  rfl
/-- the parts that are drawn -/
structure PartsOk (rounds : Int) (n : Nat) (ps : List Int) (ne be : List Tri) (k : Nat) : Prop where
  n1 : 1 ≤ n
  len : ps.length = n
  ne : FoundOk ps rounds k ne
  be : FoundOk ps rounds k be
def dParts (n : Nat) (ne be : List Tri) : D := .tup [.int n, .tup (ne.map dTri), .tup (be.map dTri)]
theorem draw_n {many : Nat} (ok : HOk h) (hm : 0 < many) (hm2 : many < 1000) : ∃ (d : Nat) (h' : D), m__law_draw C w [.cell 0, .int many] (h :: R) = some (.int d, h' :: R) ∧ HOk h' ∧ d < many := by
  obtain ⟨d, h', e, o, d0, d1⟩ := draw0 C w (R := R) (many := many) ok (by omega) (by omega)
  refine ⟨d.toNat, h', ?_, o, by omega⟩
  rw [Int.toNat_of_nonneg d0]
  exact e
theorem parts {most lk rounds : Nat} (ok : HOk h) (h1 : 1 ≤ most) (h2 : most < 500) (h3 : lk < 500) (h4 : 1 ≤ rounds) (h5 : rounds < 500) :
    ∃ (n : Nat) (ps : List Int) (ne be : List Tri) (h' : D), m__law_parts C w [.cell 0, .int most, .int lk, .int rounds] (h :: R) = some (dParts n ne be, h' :: R) ∧ HOk h' ∧ PartsOk rounds n ps ne be lk ∧ n ≤ most := by
  obtain ⟨d, g1, e1, o1, d1⟩ := draw_n C w (R := R) (many := most) ok (by omega) (by omega)
  obtain ⟨N, hN⟩ : ∃ N : Nat, N = d + 1 := ⟨_, rfl⟩
  have hd : (1 : Int) + (d : Int) = (N : Int) := by omega
  obtain ⟨ps, g2, e2, o2, l2⟩ := shuffled C w (R := R) (n := N) o1 (by omega)
  obtain ⟨a, g3, e3, o3, a1⟩ := draw_n C w (R := R) (many := lk + 1) o2 (by omega) (by omega)
  obtain ⟨ne, g4, e4, o4, f4⟩ := links C w (R := R) (ps := ps) (many := a) (rounds := rounds) o3 (by omega) (by omega) (by omega) (by omega) (by omega)
  obtain ⟨b, g5, e5, o5, b1⟩ := draw_n C w (R := R) (many := lk + 1) o4 (by omega) (by omega)
  obtain ⟨be, g6, e6, o6, f6⟩ := links C w (R := R) (ps := ps) (many := b) (rounds := rounds) o5 (by omega) (by omega) (by omega) (by omega) (by omega)
  have hk : ((lk + 1 : Nat) : Int) = (lk : Int) + 1 := by omega
  rw [hk] at e3 e5
  have s1 : t__law_parts_1 C w ⟨[.cell 0, .int most, .int lk, .int rounds, .unb, .unb, .unb, .unb], h :: R⟩ = some (.next, ⟨[.cell 0, .int most, .int lk, .int rounds, .int (N : Int), .unb, .unb, .unb], g1 :: R⟩) := by
    unfold t__law_parts_1
    simp [mOf, cRet, cRetN, cSeq, cIfS, cAsg, cSkip, cDrop, cAndV, cOrV, cF, cCB, cCons, cNil, cVar, cK, cNotV, cCall, cChn, cT, cBin, cTup, cIx, cAttr, cLenP, cIf, bAnd, bOr, bNot, cCell, cSetIx, plc, rget, Fr.rset, frz, frzL, frzn, Fr.gLe, Fr.gLt, Fr.gGe, Fr.gGt, Fr.gIsN, Fr.gI, Fr.gSub, Fr.gAddI, gAdd, gMul, gMulI, gDiv, gMod, gPow, gCatL, gCatT, gRepL, gIsi, tyD, gLen, gTuple, gInt, gIx, atI, atF, e1, hd]
  have s2 : t__law_parts_2 C w ⟨[.cell 0, .int most, .int lk, .int rounds, .int (N : Int), .unb, .unb, .unb], g1 :: R⟩ = some (.next, ⟨[.cell 0, .int most, .int lk, .int rounds, .int (N : Int), .own (ps.map D.int), .unb, .unb], g2 :: R⟩) := by
    unfold t__law_parts_2
    have hh : ∀ (N : Int) (M : List D), cCons (cVar 0) (cCons (cVar 4) cNil) ⟨[.cell 0, .int most, .int lk, .int rounds, .int N, .unb, .unb, .unb], M⟩ = some ([.cell 0, .int N], ⟨[.cell 0, .int most, .int lk, .int rounds, .int N, .unb, .unb, .unb], M⟩) := fun _ _ => rfl
    exact cAsg_of (cCall_of (hh _ _) e2)
  have s3 : t__law_parts_3 C w ⟨[.cell 0, .int most, .int lk, .int rounds, .int (N : Int), .own (ps.map D.int), .unb, .unb], g2 :: R⟩ = some (.next, ⟨[.cell 0, .int most, .int lk, .int rounds, .int (N : Int), .lst (ps.map D.int), .lst (ne.map dTri), .unb], g4 :: R⟩) := by
    have hv : cVar 5 ⟨[.cell 0, .int most, .int lk, .int rounds, .int (N : Int), .own (ps.map D.int), .unb, .unb], g2 :: R⟩ = some (.lst (ps.map D.int), ⟨[.cell 0, .int most, .int lk, .int rounds, .int (N : Int), .lst (ps.map D.int), .unb, .unb], g2 :: R⟩) := by
      simp [mOf, cRet, cRetN, cSeq, cIfS, cAsg, cSkip, cDrop, cAndV, cOrV, cF, cCB, cCons, cNil, cVar, cK, cNotV, cCall, cChn, cT, cBin, cTup, cIx, cAttr, cLenP, cIf, bAnd, bOr, bNot, cCell, cSetIx, plc, rget, Fr.rset, frz, frzL, frzn, Fr.gLe, Fr.gLt, Fr.gGe, Fr.gGt, Fr.gIsN, Fr.gI, Fr.gSub, Fr.gAddI, gAdd, gMul, gMulI, gDiv, gMod, gPow, gCatL, gCatT, gRepL, gIsi, tyD, gLen, gTuple, gInt, gIx, atI, atF, frz_ints]
    have ha : cCons (cVar 0) (cCons (cF (cBin gAdd (cVar 2) (cK (.int 1)))) cNil) ⟨[.cell 0, .int most, .int lk, .int rounds, .int (N : Int), .lst (ps.map D.int), .unb, .unb], g2 :: R⟩ = some ([.cell 0, .int ((lk : Int) + 1)], ⟨[.cell 0, .int most, .int lk, .int rounds, .int (N : Int), .lst (ps.map D.int), .unb, .unb], g2 :: R⟩) := by
      simp [mOf, cRet, cRetN, cSeq, cIfS, cAsg, cSkip, cDrop, cAndV, cOrV, cF, cCB, cCons, cNil, cVar, cK, cNotV, cCall, cChn, cT, cBin, cTup, cIx, cAttr, cLenP, cIf, bAnd, bOr, bNot, cCell, cSetIx, plc, rget, Fr.rset, frz, frzL, frzn, Fr.gLe, Fr.gLt, Fr.gGe, Fr.gGt, Fr.gIsN, Fr.gI, Fr.gSub, Fr.gAddI, gAdd, gMul, gMulI, gDiv, gMod, gPow, gCatL, gCatT, gRepL, gIsi, tyD, gLen, gTuple, gInt, gIx, atI, atF]
    unfold t__law_parts_3
    exact cAsg_of (cCall_of (cCons_of (c := cVar 0) (d := .cell 0) rfl (cCons_of hv (cCons_of (cF_of (cCall_of ha e3)) (cCons_of (c := cVar 3) (d := .int rounds) rfl (cCons_of (cF_of (cLst_nil _)) cNil_of))))) e4)
  have s4 : t__law_parts_4 C w ⟨[.cell 0, .int most, .int lk, .int rounds, .int (N : Int), .lst (ps.map D.int), .lst (ne.map dTri), .unb], g4 :: R⟩ = some (.next, ⟨[.cell 0, .int most, .int lk, .int rounds, .int (N : Int), .lst (ps.map D.int), .lst (ne.map dTri), .lst (be.map dTri)], g6 :: R⟩) := by
    have ha : cCons (cVar 0) (cCons (cF (cBin gAdd (cVar 2) (cK (.int 1)))) cNil) ⟨[.cell 0, .int most, .int lk, .int rounds, .int (N : Int), .lst (ps.map D.int), .lst (ne.map dTri), .unb], g4 :: R⟩ = some ([.cell 0, .int ((lk : Int) + 1)], ⟨[.cell 0, .int most, .int lk, .int rounds, .int (N : Int), .lst (ps.map D.int), .lst (ne.map dTri), .unb], g4 :: R⟩) := by
      simp [mOf, cRet, cRetN, cSeq, cIfS, cAsg, cSkip, cDrop, cAndV, cOrV, cF, cCB, cCons, cNil, cVar, cK, cNotV, cCall, cChn, cT, cBin, cTup, cIx, cAttr, cLenP, cIf, bAnd, bOr, bNot, cCell, cSetIx, plc, rget, Fr.rset, frz, frzL, frzn, Fr.gLe, Fr.gLt, Fr.gGe, Fr.gGt, Fr.gIsN, Fr.gI, Fr.gSub, Fr.gAddI, gAdd, gMul, gMulI, gDiv, gMod, gPow, gCatL, gCatT, gRepL, gIsi, tyD, gLen, gTuple, gInt, gIx, atI, atF]
    unfold t__law_parts_4
    exact cAsg_of (cCall_of (cCons_of (c := cVar 0) (d := .cell 0) rfl (cCons_of (c := cVar 5) (d := .lst (ps.map D.int)) rfl (cCons_of (cF_of (cCall_of ha e5)) (cCons_of (c := cVar 3) (d := .int rounds) rfl (cCons_of (cF_of (cLst_nil _)) cNil_of))))) e6)
  have s5 : t__law_parts_5 C w ⟨[.cell 0, .int most, .int lk, .int rounds, .int (N : Int), .lst (ps.map D.int), .lst (ne.map dTri), .lst (be.map dTri)], g6 :: R⟩ = some (.ret (dParts N ne be), ⟨[.cell 0, .int most, .int lk, .int rounds, .int (N : Int), .lst (ps.map D.int), .lst (ne.map dTri), .lst (be.map dTri)], g6 :: R⟩) := by
    unfold t__law_parts_5 dParts
    simp [mOf, cRet, cRetN, cSeq, cIfS, cAsg, cSkip, cDrop, cAndV, cOrV, cF, cCB, cCons, cNil, cVar, cK, cNotV, cCall, cChn, cT, cBin, cTup, cIx, cAttr, cLenP, cIf, bAnd, bOr, bNot, cCell, cSetIx, plc, rget, Fr.rset, frz, frzL, frzn, Fr.gLe, Fr.gLt, Fr.gGe, Fr.gGt, Fr.gIsN, Fr.gI, Fr.gSub, Fr.gAddI, gAdd, gMul, gMulI, gDiv, gMod, gPow, gCatL, gCatT, gRepL, gIsi, tyD, gLen, gTuple, gInt, gIx, atI, atF, line]
  refine ⟨N, ps, ne, be, g6, mOf_ret (env := [.cell 0, .int most, .int lk, .int rounds, .unb, .unb, .unb, .unb]) (s' := ⟨[.cell 0, .int most, .int lk, .int rounds, .int (N : Int), .lst (ps.map D.int), .lst (ne.map dTri), .lst (be.map dTri)], g6 :: R⟩) rfl ?_, o6, ⟨by omega, l2, ⟨f4.ok, f4.nd, by have := f4.len; omega⟩, ⟨f6.ok, f6.nd, by have := f6.len; omega⟩⟩, by omega⟩
  unfold c__law_parts
  rw [cSeq_next s1, cSeq_next s2, cSeq_next s3, cSeq_next s4]
  exact s5
end
end K07

set_option maxRecDepth 100000
set_option maxHeartbeats 1000000
namespace K07
open PySem PySem.Spec PyProof.Rows _root_.L2 Fr
/-! ### a line of steps, by taking what waits for nothing (numbers only) -/
def lk (L : List Int) (b : Int) : Int := L.getD b.toNat 0
theorem lk_get {L : List Int} {b : Int} (h0 : 0 ≤ b) (h1 : b < L.length) : L[b.toNat]? = some (lk L b) := by
  unfold lk
  rw [List.getD_eq_getElem?_getD, List.getElem?_eq_getElem (by omega)]
  rfl
theorem lk_set {L : List Int} {o b x : Int} (h0 : 0 ≤ o) (h1 : o < L.length) (h2 : 0 ≤ b) : lk (L.set o.toNat x) b = if b = o then x else lk L b := by
  unfold lk
  rw [List.getD_eq_getElem?_getD, List.getD_eq_getElem?_getD]
  by_cases e : b = o
  · subst e
    rw [if_pos rfl, List.getElem?_set_self (by omega)]
    rfl
  · rw [if_neg e, List.getElem?_set_ne (by omega)]
def cnt (Z : List (Int × Int)) (P : Int → Bool) (b : Int) : Nat := (Z.filter fun z => decide (z.2 = b) && P z.1).length
def tgts (Z : List (Int × Int)) (s : Int) : List Int := (Z.filter fun z => decide (z.1 = s)).map (·.2)
theorem cnt_split {P Q : Int → Bool} {s : Int} (h : ∀ a, P a = (Q a || decide (a = s))) (hs : Q s = false) (b : Int) : ∀ Z : List (Int × Int), cnt Z P b = cnt Z Q b + (tgts Z s).count b
  | [] => rfl
  | z :: Z => by
    have ih := cnt_split h hs b Z
    unfold cnt tgts at ih ⊢
    by_cases h1 : z.2 = b
    · by_cases h2 : z.1 = s
      · have hp : P s = true := by rw [h]; simp
        simp only [List.filter_cons, h1, h2, hp, hs, decide_true, Bool.and_true, Bool.and_false, if_true, List.length_cons, List.map_cons, List.count_cons_self, Bool.false_eq_true, if_false]
        omega
      · have hp : P z.1 = Q z.1 := by rw [h]; simp [h2]
        cases hq : Q z.1 with
        | true => simp only [List.filter_cons, h1, hp, hq, h2, decide_true, decide_false, Bool.and_true, if_true, List.length_cons, Bool.false_eq_true, if_false]; omega
        | false => simp only [List.filter_cons, h1, hp, hq, h2, decide_true, decide_false, Bool.and_false, if_true, Bool.false_eq_true, if_false]; omega
    · by_cases h2 : z.1 = s
      · simp only [List.filter_cons, h1, h2, decide_true, decide_false, Bool.false_and, if_true, Bool.false_eq_true, if_false, List.map_cons, List.count_cons, beq_iff_eq]
        omega
      · simp only [List.filter_cons, h1, h2, decide_false, Bool.false_and, Bool.false_eq_true, if_false]
        omega
/-- what holds inside: os are the targets still to be taken -/
structure KIn (n : Nat) (Z : List (Int × Int)) (P : Int → Bool) (ln0 : List Int) (L ln os : List Int) : Prop where
  len : L.length = n
  nd : ln.Nodup
  rg : ∀ b ∈ ln, 0 ≤ b ∧ b < n
  hos : ∀ b ∈ os, 0 ≤ b ∧ b < n
  hlk : ∀ b : Int, 0 ≤ b → b < n → lk L b = ((cnt Z P b + os.count b : Nat) : Int)
  mem : ∀ b : Int, 0 ≤ b → b < n → (b ∈ ln ↔ lk L b = 0)
  pre : ∃ ex, ln = ln0 ++ ex
theorem KIn.step {n : Nat} {Z : List (Int × Int)} {P : Int → Bool} {ln0 L ln os : List Int} {o : Int} (h : KIn n Z P ln0 L ln (o :: os)) :
    KIn n Z P ln0 (L.set o.toNat (lk L o - 1)) (if lk L o - 1 = 0 then ln ++ [o] else ln) os := by
  obtain ⟨o0, o1⟩ := h.hos o (List.mem_cons_self ..)
  have ho := h.hlk o o0 o1
  rw [List.count_cons_self] at ho
  have hne : lk L o ≠ 0 := by omega
  have hno : o ∉ ln := fun z => hne ((h.mem o o0 o1).mp z)
  have hl : o < (L.length : Int) := by rw [h.len]; exact o1
  refine ⟨by rw [List.length_set]; exact h.len, ?_, ?_, fun b hb => h.hos b (List.mem_cons_of_mem _ hb), fun b b0 b1 => ?_, fun b b0 b1 => ?_, ?_⟩
  · split
    · exact List.nodup_append.mpr ⟨h.nd, by simp, fun x hx y hy => by rw [List.mem_singleton.mp hy]; exact fun e => hno (e ▸ hx)⟩
    · exact h.nd
  · intro b hb
    split at hb
    · rcases List.mem_append.mp hb with z | z
      · exact h.rg b z
      · rw [List.mem_singleton.mp z]; exact ⟨o0, o1⟩
    · exact h.rg b hb
  · rw [lk_set o0 hl b0]
    by_cases e : b = o
    · subst e
      rw [if_pos rfl]
      omega
    · rw [if_neg e, h.hlk b b0 b1, List.count_cons_of_ne (fun z => e z.symm)]
  · rw [lk_set o0 hl b0]
    by_cases e : b = o
    · subst e
      rw [if_pos rfl]
      split
      · rename_i hz; exact ⟨fun _ => hz, fun _ => by simp⟩
      · rename_i hz; exact ⟨fun z => absurd z hno, fun z => absurd z hz⟩
    · rw [if_neg e]
      split
      · rw [List.mem_append, List.mem_singleton]
        exact ⟨fun z => (h.mem b b0 b1).mp (z.resolve_right e), fun z => .inl ((h.mem b b0 b1).mpr z)⟩
      · exact h.mem b b0 b1
  · obtain ⟨ex, e⟩ := h.pre
    split
    · exact ⟨ex ++ [o], by rw [e, List.append_assoc]⟩
    · exact ⟨ex, e⟩
abbrev notIn (l : List Int) : Int → Bool := fun a => !decide (a ∈ l)
structure KOut (n : Nat) (Z : List (Int × Int)) (place : Nat) (L ln : List Int) : Prop where
  len : L.length = n
  nd : ln.Nodup
  rg : ∀ b ∈ ln, 0 ≤ b ∧ b < n
  hlk : ∀ b : Int, 0 ≤ b → b < n → lk L b = (cnt Z (notIn (ln.take place)) b : Nat)
  mem : ∀ b : Int, 0 ≤ b → b < n → (b ∈ ln ↔ lk L b = 0)
  pl : place ≤ ln.length
theorem KOut.start {n : Nat} {Z : List (Int × Int)} (hZ : ∀ z ∈ Z, 0 ≤ z.2 ∧ z.2 < n) {place : Nat} {L ln : List Int} {s : Int} (h : KOut n Z place L ln) (hs : ln[place]? = some s) : KIn n Z (notIn (ln.take (place + 1))) ln L ln (tgts Z s) := by
  refine ⟨h.len, h.nd, h.rg, fun b hb => ?_, fun b b0 b1 => ?_, h.mem, [], by simp⟩
  · unfold tgts at hb
    obtain ⟨z, hz, rfl⟩ := List.mem_map.mp hb
    exact hZ z (List.mem_filter.mp hz).1
  · rw [h.hlk b b0 b1]
    have ht : ln.take (place + 1) = ln.take place ++ [s] := by rw [List.take_add_one, hs]; rfl
    have hn : s ∉ ln.take place := fun z => by
      have h1 : (ln.take place ++ [s]).Nodup := by rw [← ht]; exact h.nd.sublist (List.take_sublist _ _)
      exact (List.nodup_append.mp h1).2.2 s z s (by simp) rfl
    rw [cnt_split (P := notIn (ln.take place)) (Q := notIn (ln.take (place + 1))) (s := s) (fun a => ?_) (by rw [ht]; simp [notIn]) b Z]
    rw [ht]
    by_cases e : a = s
    · subst e; simp [notIn, hn]
    · simp [notIn, e]
theorem KIn.done {n : Nat} {Z : List (Int × Int)} {place : Nat} {L ln ln0 : List Int} (hp : place < ln0.length) (h : KIn n Z (notIn (ln0.take (place + 1))) ln0 L ln []) : KOut n Z (place + 1) L ln := by
  obtain ⟨ex, e⟩ := h.pre
  refine ⟨h.len, h.nd, h.rg, fun b b0 b1 => ?_, h.mem, by rw [e, List.length_append]; omega⟩
  rw [h.hlk b b0 b1, List.count_nil, Nat.add_zero, e, List.take_append_of_le_length (by omega)]
/-- at the end every step that leads to one over no round is in the line -/
theorem KOut.all {n : Nat} {Z : List (Int × Int)} {L ln : List Int} (rank : Int → Int) (h : KOut n Z ln.length L ln) (hZ : ∀ z ∈ Z, 0 ≤ z.1 ∧ z.1 < n ∧ rank z.1 < rank z.2) (m : Int) (hm : ∀ a : Int, 0 ≤ a → a < n → m ≤ rank a) :
    ∀ (k : Nat) (a : Int), 0 ≤ a → a < n → (rank a - m).toNat < k → a ∈ ln
  | 0, a, a0, a1, hk => by omega
  | k + 1, a, a0, a1, hk => by
    rw [h.mem a a0 a1, h.hlk a a0 a1, List.take_length]
    have hz : cnt Z (notIn ln) a = 0 := by
      unfold cnt
      rw [List.length_eq_zero_iff, List.filter_eq_nil_iff]
      intro z hz hh
      simp only [Bool.and_eq_true, decide_eq_true_eq, notIn, Bool.not_eq_true', decide_eq_false_iff_not] at hh
      obtain ⟨h1, h2, h3⟩ := hZ z hz
      rw [hh.1] at h3
      have := hm z.1 h1 h2
      have := hm a a0 a1
      exact hh.2 (KOut.all rank h hZ m hm k z.1 h1 h2 (by omega))
    rw [hz]
    rfl
end K07

set_option maxRecDepth 100000
set_option maxHeartbeats 1000000
namespace K07
open PySem PySem.Spec PyProof.Rows _root_.L2 Fr
def zl (ts : List Tri) : List (Int × Int) := (ts.filter fun t => decide (t.2.2 = 0)).map fun t => (t.1, t.2.1)
def behF (n : Nat) (Z : List (Int × Int)) : List (List Int) := (List.range n).map fun (i : Nat) => tgts Z i
def behO (n : Nat) (Z : List (Int × Int)) : List D := (List.range n).map fun (i : Nat) => D.own ((tgts Z i).map D.int)
def lakO (n : Nat) (Z : List (Int × Int)) : List D := (List.range n).map fun (i : Nat) => D.int ((cnt Z (fun _ => true) i : Nat) : Int)
theorem behO_len (n : Nat) (Z) : (behO n Z).length = n := by simp [behO]
theorem lakO_len (n : Nat) (Z) : (lakO n Z).length = n := by simp [lakO]
theorem tgts_snoc (Z : List (Int × Int)) (a b s : Int) : tgts (Z ++ [(a, b)]) s = tgts Z s ++ (if a = s then [b] else []) := by
  unfold tgts
  rw [List.filter_append, List.map_append]
  by_cases h : a = s <;> simp [h]
theorem cnt_snoc (Z : List (Int × Int)) (a b s : Int) : cnt (Z ++ [(a, b)]) (fun _ => true) s = cnt Z (fun _ => true) s + (if b = s then 1 else 0) := by
  unfold cnt
  rw [List.filter_append, List.length_append]
  by_cases h : b = s <;> simp [h]
section
variable (C : Addr) (w : World) {n : Nat} {M : List D} {L : D} {x3 x5 x6 x7 x8 x9 x10 : D}
/-- one link laid in -/
theorem lu_step {Z : List (Int × Int)} {t : Tri} (ha : 0 ≤ t.1) (ha1 : t.1 < n) (hb : 0 ≤ t.2.1) (hb1 : t.2.1 < n) (hz : Z.length < 1000) :
    b_lined_up_3 C w ⟨[.int n, L, .own (lakO n Z), x3, .own (behO n Z), .int t.1, .int t.2.1, .int t.2.2, x8, x9, x10], M⟩ =
      some (.next, ⟨[.int n, L, .own (lakO n (Z ++ zl [t])), x3, .own (behO n (Z ++ zl [t])), .int t.1, .int t.2.1, .int t.2.2, x8, x9, x10], M⟩) := by
  unfold b_lined_up_3
  have hc : cT (cBin gEq (cVar 7) (cK (.int 0))) ⟨[.int n, L, .own (lakO n Z), x3, .own (behO n Z), .int t.1, .int t.2.1, .int t.2.2, x8, x9, x10], M⟩ = some (decide (t.2.2 = 0), ⟨[.int n, L, .own (lakO n Z), x3, .own (behO n Z), .int t.1, .int t.2.1, .int t.2.2, x8, x9, x10], M⟩) := by
    simp [mOf, cRet, cRetN, cSeq, cIfS, cAsg, cSkip, cDrop, cAndV, cOrV, cF, cCB, cCons, cNil, cVar, cK, cNotV, cCall, cChn, cT, cBin, cTup, cIx, cAttr, cLenP, cIf, bAnd, bOr, bNot, cCell, cSetIx, plc, rget, Fr.rset, frz, frzL, frzn, Fr.gLe, Fr.gLt, Fr.gGe, Fr.gGt, Fr.gIsN, Fr.gI, Fr.gSub, Fr.gAddI, gAdd, gMul, gMulI, gDiv, gMod, gPow, gCatL, gCatT, gRepL, gIsi, tyD, gLen, gTuple, gInt, gIx, atI, atF, gEq_i]
  by_cases h : t.2.2 = 0
  · rw [decide_eq_true h] at hc
    rw [cIfS_t hc]
    have e : zl [t] = [(t.1, t.2.1)] := by simp [zl, h]
    have ia : ixN (behO n Z).length t.1 = some t.1.toNat := by rw [behO_len]; exact ixN_of ha ha1
    have ib : ixN (lakO n Z).length t.2.1 = some t.2.1.toNat := by rw [lakO_len]; exact ixN_of hb hb1
    have ga : (behO n Z)[t.1.toNat]? = some (.own ((tgts Z t.1).map D.int)) := by
      unfold behO
      rw [List.getElem?_map, List.getElem?_range (by omega)]
      simp [Int.toNat_of_nonneg ha]
    have gb : (lakO n Z)[t.2.1.toNat]? = some (.int ((cnt Z (fun _ => true) t.2.1 : Nat) : Int)) := by
      unfold lakO
      rw [List.getElem?_map, List.getElem?_range (by omega)]
      simp [Int.toNat_of_nonneg hb]
    have hl : ((tgts Z t.1).map D.int).length < line := by
      rw [List.length_map]
      unfold tgts line
      rw [List.length_map]
      have := List.length_filter_le (fun z : Int × Int => decide (z.1 = t.1)) Z
      omega
    have s1 := cDrop_of (cApN_of (s := ⟨[.int n, L, .own (lakO n Z), x3, .own (behO n Z), .int t.1, .int t.2.1, .int t.2.2, x8, x9, x10], M⟩) (i := 4) (ci := cVar 5) (ce := cVar 6) (k := t.1) (d := .int t.2.1) (s1 := ⟨[.int n, L, .own (lakO n Z), x3, .own (behO n Z), .int t.1, .int t.2.1, .int t.2.2, x8, x9, x10], M⟩) (s2 := ⟨[.int n, L, .own (lakO n Z), x3, .unb, .int t.1, .int t.2.1, .int t.2.2, x8, x9, x10], M⟩) rfl rfl rfl ia ga rfl hl)
    rw [cSeq_next s1]
    have eb : (behO n Z).set t.1.toNat (.own ((tgts Z t.1).map D.int ++ [.int t.2.1])) = behO n (Z ++ zl [t]) := by
      unfold behO
      rw [range_set, e]
      refine List.map_congr_left fun i hi => ?_
      rw [tgts_snoc]
      by_cases hk : i = t.1.toNat
      · rw [if_pos hk, if_pos (by omega), show (i : Int) = t.1 by omega, List.map_append]
        rfl
      · rw [if_neg hk, if_neg (by omega), List.append_nil]
    have el : (lakO n Z).set t.2.1.toNat (.int ((cnt Z (fun _ => true) t.2.1 : Nat) + 1)) = lakO n (Z ++ zl [t]) := by
      unfold lakO
      rw [range_set, e]
      refine List.map_congr_left fun i hi => ?_
      rw [cnt_snoc]
      by_cases hk : i = t.2.1.toNat
      · rw [if_pos hk, if_pos (by omega), show (i : Int) = t.2.1 by omega]
        rfl
      · rw [if_neg hk, if_neg (by omega), Nat.add_zero]
    rw [eb]
    have s2 := cAugIx_of (s := ⟨[.int n, L, .own (lakO n Z), x3, .own (behO n (Z ++ zl [t])), .int t.1, .int t.2.1, .int t.2.2, x8, x9, x10], M⟩) (i := 2) (f := fun a b => a + b) (ci := cVar 6) (cv := cK (.int 1)) (y := 1) rfl rfl ib gb rfl
    rw [el] at s2
    exact s2
  · rw [decide_eq_false h] at hc
    rw [cIfS_f hc]
    have e : zl [t] = [] := by simp [zl, h]
    rw [e, List.append_nil]
    rfl
end
end K07

set_option maxRecDepth 100000
set_option maxHeartbeats 1000000
namespace K07
open PySem PySem.Spec PyProof.Rows _root_.L2 Fr
def behL (n : Nat) (Z : List (Int × Int)) : List D := (List.range n).map fun (i : Nat) => D.lst ((tgts Z i).map D.int)
theorem behL_len (n : Nat) (Z) : (behL n Z).length = n := by simp [behL]
theorem frz_behO (n : Nat) (Z) : frzL (behO n Z) = behL n Z := by
  rw [frzL_eq]
  unfold behO behL
  rw [List.map_map]
  refine List.map_congr_left fun i hi => ?_
  show D.lst (frzL _) = _
  rw [frz_ints]
theorem frz_behL (n : Nat) (Z) : frzL (behL n Z) = behL n Z := by
  rw [frzL_eq]
  unfold behL
  rw [List.map_map]
  rfl
section
variable (C : Addr) (w : World) {n : Nat} {M : List D} {L0 : D} {x3 x5 x6 x7 x8 x9 x10 : D}
theorem ints_get {L : List Int} {b : Int} (h0 : 0 ≤ b) (h1 : b < L.length) : (L.map D.int)[b.toNat]? = some (.int (lk L b)) := by
  rw [List.getElem?_map, lk_get h0 h1]
  rfl
theorem ints_set (L : List Int) (k : Nat) (x : Int) : (L.map D.int).set k (.int x) = (L.set k x).map D.int := by
  rw [List.map_set]
/-- one target taken -/
theorem lu_in {Z : List (Int × Int)} {P : Int → Bool} {ln0 L ln os : List Int} {o : Int} {B : D} {place : Int} (h : KIn n Z P ln0 L ln (o :: os)) (hn : n < 1000) (hln : ln.length ≤ n) :
    b_lined_up_6 C w ⟨[.int n, L0, .own (L.map D.int), x3, B, x5, .int o, x7, x8, .own (ln.map D.int), .int place], M⟩ =
      some (.next, ⟨[.int n, L0, .own ((L.set o.toNat (lk L o - 1)).map D.int), x3, B, x5, .int o, x7, x8, .own ((if lk L o - 1 = 0 then ln ++ [o] else ln).map D.int), .int place], M⟩) := by
  unfold b_lined_up_6
  obtain ⟨o0, o1⟩ := h.hos o (List.mem_cons_self ..)
  have hl : o < (L.length : Int) := by rw [h.len]; exact o1
  have io : ixN (L.map D.int).length o = some o.toNat := by rw [List.length_map, h.len]; exact ixN_of o0 o1
  have s1 : cAugIx 2 (fun a b => a - b) (cVar 6) (cK (.int 1)) ⟨[.int n, L0, .own (L.map D.int), x3, B, x5, .int o, x7, x8, .own (ln.map D.int), .int place], M⟩ = some (.next, ⟨[.int n, L0, .own ((L.set o.toNat (lk L o - 1)).map D.int), x3, B, x5, .int o, x7, x8, .own (ln.map D.int), .int place], M⟩) := by
    rw [← ints_set]
    exact cAugIx_of (s := ⟨[.int n, L0, .own (L.map D.int), x3, B, x5, .int o, x7, x8, .own (ln.map D.int), .int place], M⟩) (i := 2) (f := fun a b => a - b) (ci := cVar 6) (cv := cK (.int 1)) (y := 1) rfl rfl io (ints_get o0 hl) rfl
  rw [cSeq_next s1]
  have hg : ((L.set o.toNat (lk L o - 1)).map D.int)[o.toNat]? = some (.int (lk L o - 1)) := by
    rw [List.getElem?_map, List.getElem?_set_self (by omega)]
    rfl
  have i2 : ixN ((L.set o.toNat (lk L o - 1)).map D.int).length o = some o.toNat := by rw [List.length_map, List.length_set, h.len]; exact ixN_of o0 o1
  have hix := cIx_own (s := ⟨[.int n, L0, .own ((L.set o.toNat (lk L o - 1)).map D.int), x3, B, x5, .int o, x7, x8, .own (ln.map D.int), .int place], M⟩) (i := 2) (ci := cVar 6) rfl rfl i2 hg rfl
  have hc : cT (cBin gEq (cF (cIx 2 (cVar 6))) (cK (.int 0))) ⟨[.int n, L0, .own ((L.set o.toNat (lk L o - 1)).map D.int), x3, B, x5, .int o, x7, x8, .own (ln.map D.int), .int place], M⟩ = some (decide (lk L o - 1 = 0), ⟨[.int n, L0, .own ((L.set o.toNat (lk L o - 1)).map D.int), x3, B, x5, .int o, x7, x8, .own (ln.map D.int), .int place], M⟩) := by
    unfold cT cBin
    rw [cF_of hix]
    show (match ((gEq (.int (lk L o - 1)) (.int 0)).map fun d => (d, (⟨[.int n, L0, .own ((L.set o.toNat (lk L o - 1)).map D.int), x3, B, x5, .int o, x7, x8, .own (ln.map D.int), .int place], M⟩ : S))) with
      | some (.bl b, s') => some (b, s')
      | _ => none) = _
    rw [gEq_i]
    rfl
  by_cases hz : lk L o - 1 = 0
  · rw [decide_eq_true hz] at hc
    rw [cIfS_t hc, if_pos hz]
    have hll : (ln.map D.int).length < line := by rw [List.length_map]; unfold line; omega
    have s2 := cDrop_of (cApp_of (s := ⟨[.int n, L0, .own ((L.set o.toNat (lk L o - 1)).map D.int), x3, B, x5, .int o, x7, x8, .own (ln.map D.int), .int place], M⟩) (i := 9) (ce := cVar 6) (d := .int o) (r0 := .e 9) (r := .e 9) (es := ln.map D.int) (ds := ln.map D.int) rfl rfl rfl rfl rfl hll)
    rw [s2, List.map_append]
    rfl
  · rw [decide_eq_false hz] at hc
    rw [cIfS_f hc, if_neg hz]
    rfl
theorem nodup_le : ∀ (n : Nat) (l : List Nat), l.Nodup → (∀ x ∈ l, x < n) → l.length ≤ n
  | 0, l, _, h => by
    cases l with
    | nil => exact Nat.le_refl _
    | cons x l => exact absurd (h x (List.mem_cons_self ..)) (Nat.not_lt_zero _)
  | n + 1, l, nd, h => by
    have h1 := nodup_le n (l.erase n) (nd.erase n) (fun x hx => by
      have h2 := h x (List.mem_of_mem_erase hx)
      have h3 : x ≠ n := fun e => by
        rw [e] at hx
        exact (List.Nodup.not_mem_erase nd) hx
      omega)
    rw [List.length_erase] at h1
    split at h1 <;> omega
theorem KIn.short {Z : List (Int × Int)} {P : Int → Bool} {ln0 L ln os : List Int} (h : KIn n Z P ln0 L ln os) : ln.length ≤ n := by
  have h1 : (ln.map Int.toNat).Nodup := by
    refine List.pairwise_map.mpr (h.nd.imp_of_mem fun {a b} ha hb hab e => hab ?_)
    have := h.rg a ha
    have := h.rg b hb
    omega
  have h2 : ∀ x ∈ ln.map Int.toNat, x < n := fun x hx => by
    obtain ⟨a, ha, rfl⟩ := List.mem_map.mp hx
    have := h.rg a ha
    omega
  have := nodup_le n _ h1 h2
  rw [List.length_map] at this
  exact this
end
end K07

set_option maxRecDepth 100000
set_option maxHeartbeats 1000000
namespace K07
open PySem PySem.Spec PyProof.Rows _root_.L2 Fr
section
variable (C : Addr) (w : World) {n : Nat} {M : List D} {L0 : D} {x3 x5 x6 x7 x8 x9 x10 : D}
/-- the targets of one step taken -/
theorem lu_for {Z : List (Int × Int)} {P : Int → Bool} {ln0 : List Int} {B s8 : D} {place : Int} (hn : n < 1000) :
    ∀ (os L ln : List Int) (x6 : D), KIn n Z P ln0 L ln os → ∃ L' ln' x6', forLoop (gN 6) (b_lined_up_6 C w) (os.map D.int) ⟨[.int n, L0, .own (L.map D.int), x3, B, x5, x6, x7, s8, .own (ln.map D.int), .int place], M⟩ =
      some (.next, ⟨[.int n, L0, .own (L'.map D.int), x3, B, x5, x6', x7, s8, .own (ln'.map D.int), .int place], M⟩) ∧ KIn n Z P ln0 L' ln' []
  | [], L, ln, x6, h => ⟨L, ln, x6, rfl, h⟩
  | o :: os, L, ln, x6, h => by
    obtain ⟨L', ln', x6', e, h'⟩ := lu_for hn os _ _ (.int o) h.step
    refine ⟨L', ln', x6', ?_, h'⟩
    rw [← e]
    exact forLoop_next (d := .int o) (s1 := ⟨[.int n, L0, .own (L.map D.int), x3, B, x5, .int o, x7, s8, .own (ln.map D.int), .int place], M⟩) rfl (lu_in C w h hn h.short)
theorem tgts_len (Z : List (Int × Int)) (s : Int) : (tgts Z s).length ≤ Z.length := by
  unfold tgts
  rw [List.length_map]
  exact List.length_filter_le _ _
/-- one turn of the outer loop -/
theorem lu_turn {Z : List (Int × Int)} {L ln : List Int} {B : D} {place : Nat} {s : Int} (hZ : ∀ z ∈ Z, 0 ≤ z.2 ∧ z.2 < n) (hn : n < 1000) (hB : B = .own (behO n Z) ∨ B = .lst (behL n Z)) (h : KOut n Z place L ln) (hs : ln[place]? = some s) :
    ∃ L' ln' x6', b_lined_up_7 C w ⟨[.int n, L0, .own (L.map D.int), x3, B, x5, x6, x7, x8, .own (ln.map D.int), .int place], M⟩ =
      some (.next, ⟨[.int n, L0, .own (L'.map D.int), x3, .lst (behL n Z), x5, x6', x7, .int s, .own (ln'.map D.int), .int ((place + 1 : Nat) : Int)], M⟩) ∧ KOut n Z (place + 1) L' ln' := by
  have hp : place < ln.length := (List.getElem?_eq_some_iff.mp hs).1
  obtain ⟨s0, s1⟩ := h.rg s (List.mem_of_getElem? hs)
  have ip : ixN (ln.map D.int).length (place : Int) = some place := by
    have := ixN_of (n := (ln.map D.int).length) (i := (place : Int)) (by omega) (by rw [List.length_map]; omega)
    rw [Int.toNat_natCast] at this
    exact this
  have gp : (ln.map D.int)[place]? = some (.int s) := by rw [List.getElem?_map, hs]; rfl
  have e1 : cAsg 8 (cIx 9 (cVar 10)) ⟨[.int n, L0, .own (L.map D.int), x3, B, x5, x6, x7, x8, .own (ln.map D.int), .int place], M⟩ = some (.next, ⟨[.int n, L0, .own (L.map D.int), x3, B, x5, x6, x7, .int s, .own (ln.map D.int), .int place], M⟩) :=
    cAsg_of (cIx_own (s := ⟨[.int n, L0, .own (L.map D.int), x3, B, x5, x6, x7, x8, .own (ln.map D.int), .int place], M⟩) (i := 9) (ci := cVar 10) rfl rfl ip gp rfl)
  have ev4 : cVar 4 ⟨[.int n, L0, .own (L.map D.int), x3, B, x5, x6, x7, .int s, .own (ln.map D.int), .int place], M⟩ = some (.lst (behL n Z), ⟨[.int n, L0, .own (L.map D.int), x3, .lst (behL n Z), x5, x6, x7, .int s, .own (ln.map D.int), .int place], M⟩) := by
    rcases hB with rfl | rfl
    · show some (D.lst (frzL (behO n Z)), (⟨[.int n, L0, .own (L.map D.int), x3, .lst (frzL (behO n Z)), x5, x6, x7, .int s, .own (ln.map D.int), .int place], M⟩ : S)) = _
      rw [frz_behO]
    · rfl
  have gs : atI (behL n Z) s = some (.lst ((tgts Z s).map D.int)) := by
    unfold atI
    rw [behL_len, ixN_of s0 s1]
    show (behL n Z)[s.toNat]? = _
    unfold behL
    rw [List.getElem?_map, List.getElem?_range (by omega)]
    simp [Int.toNat_of_nonneg s0]
  have hit : itS (cF (cBin gIx (cVar 4) (cVar 8))) ⟨[.int n, L0, .own (L.map D.int), x3, B, x5, x6, x7, .int s, .own (ln.map D.int), .int place], M⟩ = some ((tgts Z s).map D.int, ⟨[.int n, L0, .own (L.map D.int), x3, .lst (behL n Z), x5, x6, x7, .int s, .own (ln.map D.int), .int place], M⟩) := by
    have hb : cBin gIx (cVar 4) (cVar 8) ⟨[.int n, L0, .own (L.map D.int), x3, B, x5, x6, x7, .int s, .own (ln.map D.int), .int place], M⟩ = some (.lst ((tgts Z s).map D.int), ⟨[.int n, L0, .own (L.map D.int), x3, .lst (behL n Z), x5, x6, x7, .int s, .own (ln.map D.int), .int place], M⟩) := by
      unfold cBin
      rw [ev4]
      show ((atI (behL n Z) s).map fun d => (d, (⟨[.int n, L0, .own (L.map D.int), x3, .lst (behL n Z), x5, x6, x7, .int s, .own (ln.map D.int), .int place], M⟩ : S))) = _
      rw [gs]
      rfl
    unfold itS
    rw [cF_of hb]
    rfl
  obtain ⟨L', ln', x6', e2, k'⟩ := lu_for C w (M := M) (L0 := L0) (x3 := x3) (x5 := x5) (x7 := x7) (B := .lst (behL n Z)) (s8 := .int s) (place := place) hn _ L ln x6 (h.start hZ hs)
  refine ⟨L', ln', x6', ?_, k'.done hp⟩
  unfold b_lined_up_7
  rw [cSeq_next e1, cSeq_next ((cFor_of hit).trans e2)]
  rfl
/-- the outer loop -/
theorem lu_while {Z : List (Int × Int)} (hZ : ∀ z ∈ Z, 0 ≤ z.2 ∧ z.2 < n) (hn : n < 1000) : ∀ (k : Nat) {L ln : List Int} {B x6 x8 : D} {place : Nat}, (B = .own (behO n Z) ∨ B = .lst (behL n Z)) → KOut n Z place L ln → n ≤ place + k →
    ∃ L' ln' x4' x6' x8', t_lined_up_8 C w ⟨[.int n, L0, .own (L.map D.int), x3, B, x5, x6, x7, x8, .own (ln.map D.int), .int place], M⟩ =
      some (.next, ⟨[.int n, L0, .own (L'.map D.int), x3, x4', x5, x6', x7, x8', .own (ln'.map D.int), .int ln'.length], M⟩) ∧ KOut n Z ln'.length L' ln' := by
  intro k
  induction k with
  | zero =>
    intro L ln B x6 x8 place hB h hk
    have hs : ln.length ≤ n := KIn.short (Z := Z) (P := notIn (ln.take place)) (ln0 := ln) (L := L) (ln := ln) (os := []) ⟨h.len, h.nd, h.rg, fun b hb => by simp at hb, fun b b0 b1 => by rw [h.hlk b b0 b1, List.count_nil, Nat.add_zero], h.mem, [], by simp⟩
    have hp : place = ln.length := by have := h.pl; omega
    subst hp
    refine ⟨L, ln, B, x6, x8, ?_, h⟩
    unfold t_lined_up_8
    refine cWhile_f ?_
    have : decide ((ln.length : Int) < ((ln.map D.int).length : Int)) = false := by rw [List.length_map]; exact decide_eq_false (by omega)
    show (some (decide ((ln.length : Int) < ((ln.map D.int).length : Int)), _) : Option (Bool × S)) = _
    rw [this]
  | succ k ih =>
    intro L ln B x6 x8 place hB h hk
    by_cases hp : place < ln.length
    · obtain ⟨s, hs⟩ : ∃ s, ln[place]? = some s := ⟨_, List.getElem?_eq_getElem hp⟩
      obtain ⟨L', ln', x6', e, k'⟩ := lu_turn C w (M := M) (L0 := L0) (x3 := x3) (x5 := x5) (x6 := x6) (x7 := x7) (x8 := x8) hZ hn hB h hs
      obtain ⟨L2, ln2, x4', x62, x82, e2, k2⟩ := ih (x6 := x6') (x8 := .int s) (.inr rfl) k' (by omega)
      refine ⟨L2, ln2, x4', x62, x82, ?_, k2⟩
      unfold t_lined_up_8 at e2 ⊢
      refine cWhile_t (s1 := ⟨[.int n, L0, .own (L.map D.int), x3, B, x5, x6, x7, x8, .own (ln.map D.int), .int place], M⟩) ?_ e e2
      have : decide ((place : Int) < ((ln.map D.int).length : Int)) = true := by rw [List.length_map]; exact decide_eq_true (by omega)
      show (some (decide ((place : Int) < ((ln.map D.int).length : Int)), _) : Option (Bool × S)) = _
      rw [this]
    · have hp : place = ln.length := by have := h.pl; omega
      subst hp
      refine ⟨L, ln, B, x6, x8, ?_, h⟩
      unfold t_lined_up_8
      refine cWhile_f ?_
      have : decide ((ln.length : Int) < ((ln.map D.int).length : Int)) = false := by rw [List.length_map]; exact decide_eq_false (by omega)
      show (some (decide ((ln.length : Int) < ((ln.map D.int).length : Int)), _) : Option (Bool × S)) = _
      rw [this]
end
end K07

set_option maxRecDepth 100000
set_option maxHeartbeats 1000000
namespace K07
open PySem PySem.Spec PyProof.Rows _root_.L2 Fr
def r0 (n : Nat) : List Int := (List.range n).map fun (i : Nat) => (i : Int)
theorem rgD_r0 (n : Nat) : rgD 0 n = (r0 n).map D.int := by
  unfold rgD r0
  rw [List.map_map]
  refine List.map_congr_left fun i hi => ?_
  show D.int (0 + (i : Int)) = D.int (i : Int)
  rw [Int.zero_add]
theorem mem_r0 {n : Nat} {b : Int} : b ∈ r0 n ↔ 0 ≤ b ∧ b < n := by
  unfold r0
  rw [List.mem_map]
  constructor
  · rintro ⟨i, hi, rfl⟩
    have := List.mem_range.mp hi
    omega
  · rintro ⟨h0, h1⟩
    exact ⟨b.toNat, List.mem_range.mpr (by omega), by omega⟩
theorem nodup_r0 (n : Nat) : (r0 n).Nodup := by
  unfold r0
  refine List.pairwise_map.mpr (List.nodup_range.imp fun {a b} h e => h (by omega))
theorem r0_len (n : Nat) : (r0 n).length = n := by simp [r0]
def lak (n : Nat) (Z : List (Int × Int)) : List Int := (List.range n).map fun (i : Nat) => ((cnt Z (fun _ => true) i : Nat) : Int)
theorem lakO_eq (n : Nat) (Z) : lakO n Z = (lak n Z).map D.int := by
  unfold lakO lak
  rw [List.map_map]
  rfl
theorem lk_lak {n : Nat} {Z : List (Int × Int)} {b : Int} (h0 : 0 ≤ b) (h1 : b < n) : lk (lak n Z) b = (cnt Z (fun _ => true) b : Nat) := by
  unfold lk lak
  rw [List.getD_eq_getElem?_getD, List.getElem?_map, List.getElem?_range (by omega)]
  show ((cnt Z (fun _ => true) (b.toNat : Int) : Nat) : Int) = _
  rw [Int.toNat_of_nonneg h0]
def ln0 (n : Nat) (Z : List (Int × Int)) : List Int := (r0 n).filter fun b => decide (lk (lak n Z) b = 0)
theorem kout0 (n : Nat) (Z : List (Int × Int)) : KOut n Z 0 (lak n Z) (ln0 n Z) := by
  refine ⟨by simp [lak], (nodup_r0 n).filter _, fun b hb => mem_r0.mp (List.mem_filter.mp hb).1, fun b b0 b1 => ?_, fun b b0 b1 => ?_, Nat.zero_le _⟩
  · rw [lk_lak b0 b1, List.take_zero]
    congr 2
  · unfold ln0
    rw [List.mem_filter, decide_eq_true_eq]
    exact ⟨fun h => h.2, fun h => ⟨mem_r0.mpr ⟨b0, b1⟩, h⟩⟩
theorem zl_app (a b : List Tri) : zl (a ++ b) = zl a ++ zl b := by
  unfold zl
  rw [List.filter_append, List.map_append]
theorem zl_len (a : List Tri) : (zl a).length ≤ a.length := by
  unfold zl
  rw [List.length_map]
  exact List.length_filter_le _ _
section
variable (C : Addr) (w : World) {n : Nat} {M : List D}
theorem lu_lay {L0 x3 x8 x9 x10 : D} : ∀ (ts pre : List Tri) (x5 x6 x7 : D), (∀ t ∈ ts, 0 ≤ t.1 ∧ t.1 < n ∧ 0 ≤ t.2.1 ∧ t.2.1 < n) → pre.length + ts.length < 1000 →
    ∃ y5 y6 y7, forLoop (gT (gC (gN 5) (gC (gN 6) (gC (gN 7) gZ)))) (b_lined_up_3 C w) (ts.map dTri) ⟨[.int n, L0, .own (lakO n (zl pre)), x3, .own (behO n (zl pre)), x5, x6, x7, x8, x9, x10], M⟩ =
      some (.next, ⟨[.int n, L0, .own (lakO n (zl (pre ++ ts))), x3, .own (behO n (zl (pre ++ ts))), y5, y6, y7, x8, x9, x10], M⟩)
  | [], pre, x5, x6, x7, _, _ => ⟨x5, x6, x7, by rw [List.append_nil]; rfl⟩
  | t :: ts, pre, x5, x6, x7, h, hl => by
    rw [List.length_cons] at hl
    obtain ⟨a0, a1, b0, b1⟩ := h t (List.mem_cons_self ..)
    obtain ⟨y5, y6, y7, e⟩ := lu_lay ts (pre ++ [t]) (.int t.1) (.int t.2.1) (.int t.2.2) (fun u hu => h u (List.mem_cons_of_mem _ hu)) (by rw [List.length_append, List.length_singleton]; omega)
    refine ⟨y5, y6, y7, ?_⟩
    rw [List.append_assoc] at e
    refine Eq.trans ?_ e
    rw [zl_app]
    exact forLoop_next (d := dTri t) (s1 := ⟨[.int n, L0, .own (lakO n (zl pre)), x3, .own (behO n (zl pre)), .int t.1, .int t.2.1, .int t.2.2, x8, x9, x10], M⟩) rfl (lu_step C w a0 a1 b0 b1 (by have := zl_len pre; omega))
theorem zeros_of (hn : n < 1000) (s : S) (hs : cVar 0 s = some (.int n, s)) : cBin gMul (cF (cLst (cCons (cK (.int 0)) cNil))) (cVar 0) s = some (.own (lakO n []), s) := by
  have h1 : cLst (cCons (cK (.int 0)) cNil) s = some (.own [.int 0], s) := by
    unfold cLst
    rw [cCons_of (c := cK (.int 0)) (d := .int 0) (s1 := s) rfl (cNil_of)]
    exact if_pos (show ([.int 0] : List D).length ≤ line by unfold line; simp)
  have e : (List.replicate n [D.int 0]).flatten = lakO n [] := by
    unfold lakO
    refine List.ext_getElem? fun i => ?_
    rw [List.getElem?_map, List.flatten_replicate_singleton, List.getElem?_replicate]
    by_cases hi : i < n
    · rw [if_pos hi, List.getElem?_range hi]
      rfl
    · rw [if_neg hi, List.getElem?_eq_none (by simpa using hi)]
      rfl
  have hg : gMul (.lst [.int 0]) (.int n) = some (.own (lakO n [])) := by
    unfold gMul
    show ((none : Option D).or (gRepL (.lst [.int 0]) (.int n))) = _
    rw [Option.none_or]
    unfold gRepL
    dsimp only
    have hc : -(2 ^ 63) ≤ (n : Int) ∧ (n : Int) < 2 ^ 63 ∧ ([D.int 0] : List D).length * (n : Int).toNat ≤ line := by
      refine ⟨by omega, by omega, ?_⟩
      rw [Int.toNat_natCast, List.length_singleton]
      unfold line
      omega
    rw [if_pos hc, Int.toNat_natCast, e]
  exact cBin_of (cF_of h1) hs hg
theorem lined_up {ts : List Tri} (rank : Int → Int) (hn : n < 1000) (hl : ts.length < 1000) (h : ∀ t ∈ ts, 0 ≤ t.1 ∧ t.1 < n ∧ 0 ≤ t.2.1 ∧ t.2.1 < n ∧ (t.2.2 = 0 → rank t.1 < rank t.2.1)) (m : Int) (hm : ∀ a : Int, 0 ≤ a → a < n → m ≤ rank a) :
    ∃ ln : List Int, m_lined_up C w [.int n, .tup (ts.map dTri)] M = some (.lst (ln.map D.int), M) ∧ ln.length ≤ n ∧ ∀ a : Int, 0 ≤ a → a < n → a ∈ ln := by
  have hZ : ∀ z ∈ zl ts, 0 ≤ z.1 ∧ z.1 < n ∧ 0 ≤ z.2 ∧ z.2 < n ∧ rank z.1 < rank z.2 := fun z hz => by
    unfold zl at hz
    obtain ⟨t, ht, rfl⟩ := List.mem_map.mp hz
    obtain ⟨ht1, ht2⟩ := List.mem_filter.mp ht
    obtain ⟨a, b, c, d, e⟩ := h t ht1
    exact ⟨a, b, c, d, e (of_decide_eq_true ht2)⟩
  have s1 : t_lined_up_1 C w ⟨[.int n, .tup (ts.map dTri), .unb, .unb, .unb, .unb, .unb, .unb, .unb, .unb, .unb], M⟩ = some (.next, ⟨[.int n, .tup (ts.map dTri), .own (lakO n []), .unb, .unb, .unb, .unb, .unb, .unb, .unb, .unb], M⟩) :=
    cAsg_of (zeros_of hn _ rfl)
  have s2 : t_lined_up_2 C w ⟨[.int n, .tup (ts.map dTri), .own (lakO n []), .unb, .unb, .unb, .unb, .unb, .unb, .unb, .unb], M⟩ = some (.next, ⟨[.int n, .tup (ts.map dTri), .own (lakO n []), .unb, .own (behO n []), .unb, .unb, .unb, .unb, .unb, .unb], M⟩) := by
    have hi := itR1_of (c := cVar 0) (s := ⟨[.int n, .tup (ts.map dTri), .own (lakO n []), .unb, .unb, .unb, .unb, .unb, .unb, .unb, .unb], M⟩) (n := (n : Int)) rfl (small62_of (by omega) (by omega))
    rw [Int.toNat_natCast] at hi
    have hlc := lcLoop_pure (js := [3]) (tg := gN 3) (tt := bYes) (te := cLst cNil) (s := ⟨[.int n, .tup (ts.map dTri), .own (lakO n []), .unb, .unb, .unb, .unb, .unb, .unb, .unb, .unb], M⟩) (fun _ => true) (fun _ => .own []) (rgD 0 n) [] (by rw [rgD_len]; unfold line; simp only [List.length_nil]; omega)
      (fun d hd => ⟨⟨[.int n, .tup (ts.map dTri), .own (lakO n []), d, .unb, .unb, .unb, .unb, .unb, .unb, .unb], M⟩, rfl, rfl, rfl, fun _ => cLst_nil _⟩)
    have e : ([] : List D) ++ (((rgD 0 n).filter fun _ => true).map fun _ => D.own []) = behO n [] := by
      rw [List.nil_append, List.filter_eq_self.mpr (fun _ _ => rfl)]
      unfold rgD behO
      rw [List.map_map]
      rfl
    rw [e] at hlc
    exact cAsg_of (cLc_of hi rfl hlc)
  obtain ⟨y5, y6, y7, s4'⟩ := lu_lay C w (n := n) (M := M) (L0 := .tup (ts.map dTri)) (x3 := .unb) (x8 := .unb) (x9 := .unb) (x10 := .unb) ts [] .unb .unb .unb (fun t ht => ⟨(h t ht).1, (h t ht).2.1, (h t ht).2.2.1, (h t ht).2.2.2.1⟩) (by simpa using hl)
  have s4 : t_lined_up_4 C w ⟨[.int n, .tup (ts.map dTri), .own (lakO n []), .unb, .own (behO n []), .unb, .unb, .unb, .unb, .unb, .unb], M⟩ = some (.next, ⟨[.int n, .tup (ts.map dTri), .own (lakO n (zl ts)), .unb, .own (behO n (zl ts)), y5, y6, y7, .unb, .unb, .unb], M⟩) := by
    unfold t_lined_up_4
    rw [cFor_of (s := ⟨[.int n, .tup (ts.map dTri), .own (lakO n []), .unb, .own (behO n []), .unb, .unb, .unb, .unb, .unb, .unb], M⟩) (s1 := ⟨[.int n, .tup (ts.map dTri), .own (lakO n []), .unb, .own (behO n []), .unb, .unb, .unb, .unb, .unb, .unb], M⟩) (it := itS (cVar 1)) (ds := ts.map dTri) rfl]
    exact s4'
  have s5 : t_lined_up_5 C w ⟨[.int n, .tup (ts.map dTri), .own (lakO n (zl ts)), .unb, .own (behO n (zl ts)), y5, y6, y7, .unb, .unb, .unb], M⟩ = some (.next, ⟨[.int n, .tup (ts.map dTri), .own (lakO n (zl ts)), .unb, .own (behO n (zl ts)), y5, y6, y7, .unb, .own ((ln0 n (zl ts)).map D.int), .unb], M⟩) := by
    have hi := itR1_of (c := cVar 0) (s := ⟨[.int n, .tup (ts.map dTri), .own (lakO n (zl ts)), .unb, .own (behO n (zl ts)), y5, y6, y7, .unb, .unb, .unb], M⟩) (n := (n : Int)) rfl (small62_of (by omega) (by omega))
    rw [Int.toNat_natCast, rgD_r0] at hi
    have hlc := lcLoop_pure (js := [8]) (tg := gN 8) (tt := cT (cBin gEq (cF (cIx 2 (cVar 8))) (cK (.int 0)))) (te := cVar 8) (s := ⟨[.int n, .tup (ts.map dTri), .own (lakO n (zl ts)), .unb, .own (behO n (zl ts)), y5, y6, y7, .unb, .unb, .unb], M⟩)
      (fun d => match d with | .int b => decide (lk (lak n (zl ts)) b = 0) | _ => false) id ((r0 n).map D.int) [] (by rw [List.length_map, r0_len]; unfold line; simp only [List.length_nil]; omega)
      (fun d hd => by
        obtain ⟨b, hb, rfl⟩ := List.mem_map.mp hd
        obtain ⟨b0, b1⟩ := mem_r0.mp hb
        have hl : (lak n (zl ts)).length = n := by simp [lak]
        refine ⟨⟨[.int n, .tup (ts.map dTri), .own (lakO n (zl ts)), .unb, .own (behO n (zl ts)), y5, y6, y7, .int b, .unb, .unb], M⟩, rfl, ?_, rfl, fun _ => rfl⟩
        have hix := cIx_own (s := ⟨[.int n, .tup (ts.map dTri), .own (lakO n (zl ts)), .unb, .own (behO n (zl ts)), y5, y6, y7, .int b, .unb, .unb], M⟩) (i := 2) (ci := cVar 8) (k := b) (j := b.toNat) (d := .int (lk (lak n (zl ts)) b)) rfl rfl (by rw [lakO_len]; exact ixN_of b0 b1) (by rw [lakO_eq]; exact ints_get b0 (by rw [hl]; exact b1)) rfl
        unfold cT cBin
        rw [cF_of hix]
        show (match ((gEq (.int (lk (lak n (zl ts)) b)) (.int 0)).map fun d => (d, (⟨[.int n, .tup (ts.map dTri), .own (lakO n (zl ts)), .unb, .own (behO n (zl ts)), y5, y6, y7, .int b, .unb, .unb], M⟩ : S))) with
          | some (.bl b, s') => some (b, s')
          | _ => none) = _
        rw [gEq_i]
        rfl)
    have e : ([] : List D) ++ ((((r0 n).map D.int).filter fun d => match d with | .int b => decide (lk (lak n (zl ts)) b = 0) | _ => false).map id) = (ln0 n (zl ts)).map D.int := by
      rw [List.nil_append, List.map_id, List.filter_map]
      rfl
    rw [e] at hlc
    exact cAsg_of (cLc_of hi rfl hlc)
  have s6 : cAsg 10 (cK (.int 0)) ⟨[.int n, .tup (ts.map dTri), .own (lakO n (zl ts)), .unb, .own (behO n (zl ts)), y5, y6, y7, .unb, .own ((ln0 n (zl ts)).map D.int), .unb], M⟩ = some (.next, ⟨[.int n, .tup (ts.map dTri), .own ((lak n (zl ts)).map D.int), .unb, .own (behO n (zl ts)), y5, y6, y7, .unb, .own ((ln0 n (zl ts)).map D.int), .int ((0 : Nat) : Int)], M⟩) := by
    rw [lakO_eq]
    rfl
  obtain ⟨L', ln', x4', x6', x8', s8, k8⟩ := lu_while C w (M := M) (L0 := .tup (ts.map dTri)) (x3 := .unb) (x5 := y5) (x7 := y7) (fun z hz => ⟨(hZ z hz).2.2.1, (hZ z hz).2.2.2.1⟩) hn n (x6 := y6) (x8 := .unb) (.inl rfl) (kout0 n (zl ts)) (by omega)
  have hs : ln'.length ≤ n := KIn.short (Z := zl ts) (P := notIn (ln'.take ln'.length)) (ln0 := ln') (L := L') (ln := ln') (os := []) ⟨k8.len, k8.nd, k8.rg, fun b hb => by simp at hb, fun b b0 b1 => by rw [k8.hlk b b0 b1, List.count_nil, Nat.add_zero], k8.mem, [], by simp⟩
  refine ⟨ln', mOf_ret (env := [.int n, .tup (ts.map dTri), .unb, .unb, .unb, .unb, .unb, .unb, .unb, .unb, .unb]) (s' := ⟨[.int n, .tup (ts.map dTri), .own (L'.map D.int), .unb, x4', y5, x6', y7, x8', .lst (ln'.map D.int), .int ln'.length], M⟩) rfl ?_, hs, fun a a0 a1 => k8.all rank (fun z hz => ⟨(hZ z hz).1, (hZ z hz).2.1, (hZ z hz).2.2.2.2⟩) m hm ((rank a - m).toNat + 1) a a0 a1 (by omega)⟩
  unfold c_lined_up
  rw [cSeq_next s1, cSeq_next s2, cSeq_next s4, cSeq_next s5, cSeq_next s6, cSeq_next s8]
  refine cRet_of ?_
  show some (D.lst (frzL (ln'.map D.int)), (⟨[.int n, .tup (ts.map dTri), .own (L'.map D.int), .unb, x4', y5, x6', y7, x8', .lst (frzL (ln'.map D.int)), .int ln'.length], M⟩ : S)) = _
  rw [frz_ints]
end
end K07

set_option maxRecDepth 100000
set_option maxHeartbeats 1000000
namespace K07
open PySem PySem.Spec PyProof.Rows _root_.L2 Fr
section
variable (C : Addr) (w : World) {M : List D}
theorem is_integer_int (i : Int) : m_is_integer C w [.int i] M = some (.bl true, M) := rfl
theorem is_between_int (l h i : Int) : m_is_between C w [.int l, .int h, .int i] M = some (.bl (decide (l ≤ i ∧ i ≤ h)), M) := by
  unfold m_is_between c_is_between t_is_between_1
  by_cases h1 : l ≤ i
  · simp [mOf, cRet, cRetN, cSeq, cIfS, cAsg, cSkip, cDrop, cAndV, cOrV, cF, cCB, cCons, cNil, cVar, cK, cNotV, cCall, cChn, cT, cBin, cTup, cIx, cAttr, cLenP, cIf, bAnd, bOr, bNot, cCell, cSetIx, plc, rget, Fr.rset, frz, frzL, frzn, Fr.gLe, Fr.gLt, Fr.gGe, Fr.gGt, Fr.gIsN, Fr.gI, Fr.gSub, Fr.gAddI, gAdd, gMul, gMulI, gDiv, gMod, gPow, gCatL, gCatT, gRepL, gIsi, tyD, gLen, gTuple, gInt, gIx, atI, atF, is_integer_int, h1]
  · simp [mOf, cRet, cRetN, cSeq, cIfS, cAsg, cSkip, cDrop, cAndV, cOrV, cF, cCB, cCons, cNil, cVar, cK, cNotV, cCall, cChn, cT, cBin, cTup, cIx, cAttr, cLenP, cIf, bAnd, bOr, bNot, cCell, cSetIx, plc, rget, Fr.rset, frz, frzL, frzn, Fr.gLe, Fr.gLt, Fr.gGe, Fr.gGt, Fr.gIsN, Fr.gI, Fr.gSub, Fr.gAddI, gAdd, gMul, gMulI, gDiv, gMod, gPow, gCatL, gCatT, gRepL, gIsi, tyD, gLen, gTuple, gInt, gIx, atI, atF, is_integer_int, h1]
theorem is_rounds_int (i : Int) : m_is_rounds C w [.int i] M = some (.bl (decide (0 ≤ i ∧ i ≤ 6)), M) := by
  unfold m_is_rounds c_is_rounds t_is_rounds_1
  simp [mOf, cRet, cRetN, cSeq, cIfS, cAsg, cSkip, cDrop, cAndV, cOrV, cF, cCB, cCons, cNil, cVar, cK, cNotV, cCall, cChn, cT, cBin, cTup, cIx, cAttr, cLenP, cIf, bAnd, bOr, bNot, cCell, cSetIx, plc, rget, Fr.rset, frz, frzL, frzn, Fr.gLe, Fr.gLt, Fr.gGe, Fr.gGt, Fr.gIsN, Fr.gI, Fr.gSub, Fr.gAddI, gAdd, gMul, gMulI, gDiv, gMod, gPow, gCatL, gCatT, gRepL, gIsi, tyD, gLen, gTuple, gInt, gIx, atI, atF, is_between_int]
theorem i30 : ixN 3 0 = some 0 := rfl
theorem i31 : ixN 3 1 = some 1 := rfl
theorem i32 : ixN 3 2 = some 2 := rfl
theorem is_link_ok {n : Nat} {t : Tri} (a0 : 0 ≤ t.1) (a1 : t.1 < n) (b0 : 0 ≤ t.2.1) (b1 : t.2.1 < n) (r0 : 0 ≤ t.2.2) (r1 : t.2.2 ≤ 6) : m_is_link C w [.int n, dTri t] M = some (.bl true, M) := by
  obtain ⟨a, b, r⟩ := t
  rw [dTri_eq]
  dsimp only at a0 a1 b0 b1 r0 r1
  have h1 : a ≤ (n : Int) - 1 := by omega
  have h2 : b ≤ (n : Int) - 1 := by omega
  refine mOf_ret (env := [.int n, .tup [.int a, .int b, .int r]]) (s' := ⟨[.int n, .tup [.int a, .int b, .int r]], M⟩) rfl ?_
  unfold c_is_link t_is_link_1
  simp [mOf, cRet, cRetN, cSeq, cIfS, cAsg, cSkip, cDrop, cAndV, cOrV, cF, cCB, cCons, cNil, cVar, cK, cNotV, cCall, cChn, cT, cBin, cTup, cIx, cAttr, cLenP, cIf, bAnd, bOr, bNot, cCell, cSetIx, plc, rget, Fr.rset, frz, frzL, frzn, Fr.gLe, Fr.gLt, Fr.gGe, Fr.gGt, Fr.gIsN, Fr.gI, Fr.gSub, Fr.gAddI, gAdd, gMul, gMulI, gDiv, gMod, gPow, gCatL, gCatT, gRepL, gIsi, tyD, gLen, gTuple, gInt, gIx, atI, atF, is_between_int, is_rounds_int, gEq_i, i30, i31, i32, a0, b0, r0, r1, h1, h2]
theorem ded_id : ∀ {l : List (List Int)}, l.Nodup → ded l = l
  | [], _ => by unfold ded; rfl
  | x :: l, h => by
    have hx := List.nodup_cons.mp h
    unfold ded
    rw [ded_id hx.2, if_neg hx.1]
def rowOf (t : Tri) : List Int := [t.1, t.2.1, t.2.2]
theorem rows_eq (ts : List Tri) : ts.map dTri = (ts.map rowOf).map rowD := by
  rw [List.map_map]
  rfl
theorem rows_nd {ts : List Tri} (h : ts.Nodup) : (ts.map rowOf).Nodup := by
  refine List.pairwise_map.mpr (h.imp fun {a b} hab e => hab ?_)
  unfold rowOf at e
  simp at e
  exact Prod.ext e.1 (Prod.ext e.2.1 e.2.2)
/-- the links of a program -/
structure LinksOk (n : Nat) (ts : List Tri) : Prop where
  ok : ∀ t ∈ ts, 0 ≤ t.1 ∧ t.1 < n ∧ 0 ≤ t.2.1 ∧ t.2.1 < n ∧ 0 ≤ t.2.2 ∧ t.2.2 ≤ 6
  nd : ts.Nodup
  len : ts.length ≤ 40
theorem is_link_row_ok {n : Nat} {ts : List Tri} (h : LinksOk n ts) : m_is_link_row C w [.int n, .tup (ts.map dTri)] M = some (.bl true, M) := by
  have hlen := h.len
  have s1 : t_is_link_row_1 C w ⟨[.int n, .tup (ts.map dTri), .unb], M⟩ = some (.next, ⟨[.int n, .tup (ts.map dTri), .unb], M⟩) := by
    have hc : bOr (bNot (cT (cF (cCB gIsi (cCons (cVar 1) (cCons (cK (.ty "tuple")) cNil)))))) (cT (cBin Fr.gGt (cF (cLenP 1)) (cK (.int 40)))) ⟨[.int n, .tup (ts.map dTri), .unb], M⟩ = some (false, ⟨[.int n, .tup (ts.map dTri), .unb], M⟩) := by
      have e : decide ((40 : Int) < (ts.map dTri).length) = false := by rw [List.length_map]; exact decide_eq_false (by omega)
      show (match (some (decide ((40 : Int) < (ts.map dTri).length), _) : Option (Bool × S)) with | some (b, s') => some (b, s') | none => none) = _
      rw [e]
    unfold t_is_link_row_1
    rw [cIfS_f hc]
    rfl
  have hlc := lcLoop_pure (js := [2]) (tg := gN 2) (tt := bYes) (te := cCall (m_is_link C w) (cCons (cVar 0) (cCons (cVar 2) cNil))) (s := ⟨[.int n, .tup (ts.map dTri), .unb], M⟩) (fun _ => true) (fun _ => .bl true) (ts.map dTri) [] (by rw [List.length_map]; unfold line; simp only [List.length_nil]; omega)
    (fun d hd => by
      obtain ⟨t, ht, rfl⟩ := List.mem_map.mp hd
      obtain ⟨a, b, c, d, e, f⟩ := h.ok t ht
      exact ⟨⟨[.int n, .tup (ts.map dTri), dTri t], M⟩, rfl, rfl, rfl, fun _ => cCall_of (ds := [.int n, dTri t]) (s1 := ⟨[.int n, .tup (ts.map dTri), dTri t], M⟩) rfl (is_link_ok C w a b c d e f)⟩)
  have e : ([] : List D) ++ (((ts.map dTri).filter fun _ => true).map fun _ => D.bl true) = (ts.map fun _ => true).map D.bl := by
    rw [List.nil_append, List.filter_eq_self.mpr (fun _ _ => rfl), List.map_map, List.map_map]
    rfl
  rw [e] at hlc
  have hl2 : cLc (itS (cVar 1)) [2] (gN 2) bYes (cCall (m_is_link C w) (cCons (cVar 0) (cCons (cVar 2) cNil))) ⟨[.int n, .tup (ts.map dTri), .unb], M⟩ = some (.own ((ts.map fun _ => true).map D.bl), ⟨[.int n, .tup (ts.map dTri), .unb], M⟩) :=
    cLc_of (s1 := ⟨[.int n, .tup (ts.map dTri), .unb], M⟩) (ds := ts.map dTri) rfl rfl hlc
  have hall : gAll [frz (.own ((ts.map fun _ => true).map D.bl))] = some (.bl true) := by
    show gAll [.lst (frzL ((ts.map fun _ => true).map D.bl))] = _
    rw [frzL_eq, List.map_map]
    show ((blsOf ((ts.map fun _ => true).map D.bl)).map fun ns => D.bl (ns.all id)) = _
    rw [blsOf_map]
    show some (D.bl ((ts.map fun _ => true).all id)) = _
    congr 2
    rw [List.all_map, List.all_eq_true]
    intro x hx
    rfl
  have h1 := cF_of (cCB_of (cCons_of (cF_of hl2) cNil_of) hall)
  have hst : cLenST (cVar 1) ⟨[.int n, .tup (ts.map dTri), .unb], M⟩ = some (.int ts.length, ⟨[.int n, .tup (ts.map dTri), .unb], M⟩) := by
    unfold cLenST
    show ((rowsOf (ts.map dTri)).bind fun ls => if ls.length < 64 then some (D.int ((ded ls).length : Nat), _) else none) = _
    rw [rows_eq, rowsOf_map]
    show (if (ts.map rowOf).length < 64 then some (D.int ((ded (ts.map rowOf)).length : Nat), _) else none) = _
    rw [if_pos (by rw [List.length_map]; omega), ded_id (rows_nd h.nd), List.length_map]
  have h2 : cBin gEq (cF (cLenST (cVar 1))) (cF (cLenP 1)) ⟨[.int n, .tup (ts.map dTri), .unb], M⟩ = some (.bl true, ⟨[.int n, .tup (ts.map dTri), .unb], M⟩) := by
    refine cBin_of (cF_of hst) (s2 := ⟨[.int n, .tup (ts.map dTri), .unb], M⟩) (y := .int (ts.map dTri).length) rfl ?_
    show gEq (.int ts.length) (.int (ts.map dTri).length) = _
    rw [gEq_i, List.length_map, decide_eq_true rfl]
  refine mOf_ret (env := [.int n, .tup (ts.map dTri), .unb]) (s' := ⟨[.int n, .tup (ts.map dTri), .unb], M⟩) rfl ?_
  unfold c_is_link_row
  rw [cSeq_next s1]
  unfold t_is_link_row_2
  refine cRet_of ?_
  unfold cAndV
  rw [h1]
  show (match cF (cBin gEq (cF (cLenST (cVar 1))) (cF (cLenP 1))) ⟨[.int n, .tup (ts.map dTri), .unb], M⟩ with
    | some (.bl x, s2) => some (D.bl x, s2)
    | _ => none) = _
  rw [cF_of h2]
  rfl
end
end K07

set_option maxRecDepth 100000
set_option maxHeartbeats 1000000
namespace K07
open PySem PySem.Spec PyProof.Rows _root_.L2 Fr
section
variable (C : Addr) (w : World) {M : List D}
def tellD (s : Str) : D → D := fun d => match d with
  | .tup [.int i, x] => .tup [.tup [.str s, .int i], x]
  | d => d
theorem tell_comp {x0 x1 x4 : D} {i : Nat} {s : Str} {ts : List Tri} (hl : ts.length ≤ 40) (hi : cVar i ⟨[x0, x1, .unb, .unb, x4], M⟩ = some (.tup (ts.map dTri), ⟨[x0, x1, .unb, .unb, x4], M⟩)) :
    cLc (itEn (cCons (cVar i) cNil)) [2, 3] (gT (gC (gN 2) (gC (gN 3) gZ))) bYes (cTup (cCons (cF (cTup (cCons (cK (.str s)) (cCons (cVar 2) cNil)))) (cCons (cVar 3) cNil))) ⟨[x0, x1, .unb, .unb, x4], M⟩ = some (.own ((enD 0 (ts.map dTri)).map (tellD s)), ⟨[x0, x1, .unb, .unb, x4], M⟩) := by
  have hlc := lcLoop_pure (js := [2, 3]) (tg := gT (gC (gN 2) (gC (gN 3) gZ))) (tt := bYes) (te := cTup (cCons (cF (cTup (cCons (cK (.str s)) (cCons (cVar 2) cNil)))) (cCons (cVar 3) cNil))) (s := ⟨[x0, x1, .unb, .unb, x4], M⟩) (fun _ => true) (tellD s) (enD 0 (ts.map dTri)) [] (by rw [enD_len, List.length_map]; unfold line; simp only [List.length_nil]; omega)
    (fun d hd => by
      obtain ⟨k, hk⟩ := List.getElem?_of_mem hd
      obtain ⟨x, hx, rfl⟩ := enD_get hk
      obtain ⟨t, ht, rfl⟩ := List.mem_map.mp (List.mem_of_getElem? hx)
      refine ⟨⟨[x0, x1, .int ((0 + k : Nat) : Int), dTri t, x4], M⟩, rfl, rfl, rfl, fun _ => ?_⟩
      generalize ((0 + k : Nat) : Int) = j
      have h1 : cTup (cCons (cK (.str s)) (cCons (cVar 2) cNil)) ⟨[x0, x1, .int j, dTri t, x4], M⟩ = some (.tup [.str s, .int j], ⟨[x0, x1, .int j, dTri t, x4], M⟩) := by
        unfold cTup
        rw [cCons_of (c := cK (.str s)) (d := .str s) (s1 := ⟨[x0, x1, .int j, dTri t, x4], M⟩) rfl (cCons_of (c := cVar 2) (d := .int j) (s1 := ⟨[x0, x1, .int j, dTri t, x4], M⟩) rfl cNil_of)]
        exact if_pos (show ([.str s, .int j] : List D).length ≤ line by unfold line; simp)
      unfold cTup at h1 ⊢
      rw [cCons_of (cF_of h1) (cCons_of (c := cVar 3) (d := dTri t) (s1 := ⟨[x0, x1, .int j, dTri t, x4], M⟩) rfl cNil_of)]
      exact if_pos (show ([.tup [.str s, .int j], dTri t] : List D).length ≤ line by unfold line; simp))
  have e : ([] : List D) ++ (((enD 0 (ts.map dTri)).filter fun _ => true).map (tellD s)) = (enD 0 (ts.map dTri)).map (tellD s) := by
    rw [List.nil_append, List.filter_eq_self.mpr (fun _ _ => rfl)]
  rw [e] at hlc
  have hit : itEn (cCons (cVar i) cNil) ⟨[x0, x1, .unb, .unb, x4], M⟩ = some (enD 0 (ts.map dTri), ⟨[x0, x1, .unb, .unb, x4], M⟩) := by
    unfold itEn
    rw [cCons_of hi cNil_of]
  exact cLc_of hit rfl hlc
theorem tell_in {s : Str} {ts : List Tri} {d : D} (h : d ∈ (enD 0 (ts.map dTri)).map (tellD s)) : ∃ i t, t ∈ ts ∧ d = .tup [.tup [.str s, .int i], dTri t] := by
  obtain ⟨x, hx, rfl⟩ := List.mem_map.mp h
  obtain ⟨k, hk⟩ := List.getElem?_of_mem hx
  obtain ⟨y, hy, rfl⟩ := enD_get hk
  obtain ⟨t, ht, rfl⟩ := List.mem_map.mp (List.mem_of_getElem? hy)
  exact ⟨_, t, ht, rfl⟩
theorem frz_all {ds : List D} (h : ∀ d ∈ ds, frz d = d) : frzL ds = ds := by
  rw [frzL_eq]
  conv => rhs; rw [← List.map_id ds]
  exact List.map_congr_left h
theorem told_ok {ne be : List Tri} (h1 : ne.length ≤ 40) (h2 : be.length ≤ 40) :
    ∃ xs : List D, m_told_links C w [.tup (ne.map dTri), .tup (be.map dTri)] M = some (.own xs, M) ∧ frzL xs = xs ∧ ∀ d ∈ xs, ∃ s i t, t ∈ ne ++ be ∧ d = .tup [.tup [.str s, .int i], dTri t] := by
  generalize ha : (enD 0 (ne.map dTri)).map (tellD ("need" : Str)) = A
  generalize hb : (enD 0 (be.map dTri)).map (tellD ("before" : Str)) = B
  have fA : frzL A = A := frz_all fun d hd => by
    rw [← ha] at hd
    obtain ⟨i, t, ht, rfl⟩ := tell_in hd
    rfl
  have fB : frzL B = B := frz_all fun d hd => by
    rw [← hb] at hd
    obtain ⟨i, t, ht, rfl⟩ := tell_in hd
    rfl
  have lA : A.length = ne.length := by rw [← ha, List.length_map, enD_len, List.length_map]
  have lB : B.length = be.length := by rw [← hb, List.length_map, enD_len, List.length_map]
  refine ⟨A ++ B, mOf_ret (env := [.tup (ne.map dTri), .tup (be.map dTri), .unb, .unb, .unb]) (s' := ⟨[.tup (ne.map dTri), .tup (be.map dTri), .unb, .unb, .lst A], M⟩) rfl ?_, frz_all fun d hd => ?_, fun d hd => ?_⟩
  · have e1 := tell_comp (M := M) (x0 := .tup (ne.map dTri)) (x1 := .tup (be.map dTri)) (x4 := .unb) (i := 0) (s := ("need" : Str)) h1 rfl
    have e2 := tell_comp (M := M) (x0 := .tup (ne.map dTri)) (x1 := .tup (be.map dTri)) (x4 := .lst A) (i := 1) (s := ("before" : Str)) h2 rfl
    rw [ha] at e1
    rw [hb] at e2
    have s1 : t_told_links_1 C w ⟨[.tup (ne.map dTri), .tup (be.map dTri), .unb, .unb, .unb], M⟩ = some (.next, ⟨[.tup (ne.map dTri), .tup (be.map dTri), .unb, .unb, .own A], M⟩) := cAsg_of e1
    unfold c_told_links
    rw [cSeq_next s1]
    unfold t_told_links_2
    refine cRet_of ?_
    have h4 : cVar 4 ⟨[.tup (ne.map dTri), .tup (be.map dTri), .unb, .unb, .own A], M⟩ = some (.lst A, ⟨[.tup (ne.map dTri), .tup (be.map dTri), .unb, .unb, .lst A], M⟩) := by
      show some (D.lst (frzL A), (⟨[.tup (ne.map dTri), .tup (be.map dTri), .unb, .unb, .lst (frzL A)], M⟩ : S)) = _
      rw [fA]
    refine cBin_of h4 (cF_of e2) ?_
    show gAdd (.lst A) (.lst (frzL B)) = _
    rw [fB]
    show ((none : Option D).or ((gCatL (.lst A) (.lst B)).or _)) = _
    rw [Option.none_or]
    have : gCatL (.lst A) (.lst B) = some (.own (A ++ B)) := if_pos (by rw [lA, lB]; unfold line; omega)
    rw [this]
    rfl
  · rcases List.mem_append.mp hd with h | h
    · rw [← ha] at h
      obtain ⟨i, t, ht, rfl⟩ := tell_in h
      rfl
    · rw [← hb] at h
      obtain ⟨i, t, ht, rfl⟩ := tell_in h
      rfl
  · rcases List.mem_append.mp hd with h | h
    · rw [← ha] at h
      obtain ⟨i, t, ht, rfl⟩ := tell_in h
      exact ⟨_, i, t, List.mem_append_left _ ht, rfl⟩
    · rw [← hb] at h
      obtain ⟨i, t, ht, rfl⟩ := tell_in h
      exact ⟨_, i, t, List.mem_append_right _ ht, rfl⟩
theorem cat_tris {a b : List Tri} (h : a.length + b.length ≤ 1000) : gAdd (.tup (a.map dTri)) (.tup (b.map dTri)) = some (.tup ((a ++ b).map dTri)) := by
  show ((none : Option D).or ((none : Option D).or (gCatT (.tup (a.map dTri)) (.tup (b.map dTri))))) = _
  rw [Option.none_or, Option.none_or, List.map_append]
  exact if_pos (by rw [List.length_map, List.length_map]; unfold line; omega)
theorem zero_ring_ok {n : Nat} {ne be : List Tri} (rank : Int → Int) (hn : n < 1000) (h1 : ne.length ≤ 40) (h2 : be.length ≤ 40) (h : ∀ t ∈ ne ++ be, 0 ≤ t.1 ∧ t.1 < n ∧ 0 ≤ t.2.1 ∧ t.2.1 < n ∧ (t.2.2 = 0 → rank t.1 < rank t.2.1)) (m : Int) (hm : ∀ a : Int, 0 ≤ a → a < n → m ≤ rank a) :
    m_zero_ring C w [.int n, .tup (ne.map dTri), .tup (be.map dTri)] M = some (.non, M) := by
  obtain ⟨ln, e1, hl, hall⟩ := lined_up C w (M := M) (n := n) (ts := ne ++ be) rank hn (by rw [List.length_append]; omega) h m hm
  obtain ⟨xs, e2, fx, hx⟩ := told_ok C w (M := M) h1 h2
  have s1 : t_zero_ring_1 C w ⟨[.int n, .tup (ne.map dTri), .tup (be.map dTri), .unb, .unb, .unb, .unb, .unb, .unb], M⟩ = some (.next, ⟨[.int n, .tup (ne.map dTri), .tup (be.map dTri), .hset ln, .unb, .unb, .unb, .unb, .unb], M⟩) := by
    have hc : cBin gAdd (cVar 1) (cVar 2) ⟨[.int n, .tup (ne.map dTri), .tup (be.map dTri), .unb, .unb, .unb, .unb, .unb, .unb], M⟩ = some (.tup ((ne ++ be).map dTri), ⟨[.int n, .tup (ne.map dTri), .tup (be.map dTri), .unb, .unb, .unb, .unb, .unb, .unb], M⟩) :=
      cBin_of (s1 := ⟨[.int n, .tup (ne.map dTri), .tup (be.map dTri), .unb, .unb, .unb, .unb, .unb, .unb], M⟩) (x := .tup (ne.map dTri)) (y := .tup (be.map dTri)) rfl rfl (cat_tris (by omega))
    have hcall := cF_of (cCall_of (m := m_lined_up C w) (cCons_of (c := cVar 0) (d := .int n) (s := ⟨[.int n, .tup (ne.map dTri), .tup (be.map dTri), .unb, .unb, .unb, .unb, .unb, .unb], M⟩) (s1 := ⟨[.int n, .tup (ne.map dTri), .tup (be.map dTri), .unb, .unb, .unb, .unb, .unb, .unb], M⟩) rfl (cCons_of (cF_of hc) cNil_of)) e1)
    have hg : gSetL [frz (.lst (ln.map D.int))] = some (.hset ln) := by
      show ((intsOf (ln.map D.int)).bind fun ns => if ns.length < 1000 then some (D.hset ns) else none) = _
      rw [intsOf_map]
      exact if_pos (by omega)
    exact cAsg_of (cCB_of (cCons_of hcall cNil_of) hg)
  obtain ⟨s', e3, y5, y6, y7, y8, rfl⟩ := forLoop_inv (tg := gT (gC (gN 5) (gC (gT (gC (gN 6) (gC (gN 7) (gC (gN 8) gZ)))) gZ))) (body := b_zero_ring_2 C w)
    (fun _ s => ∃ y5 y6 y7 y8, s = ⟨[.int n, .tup (ne.map dTri), .tup (be.map dTri), .hset ln, .odic [] [], y5, y6, y7, y8], M⟩) xs 0
    ⟨[.int n, .tup (ne.map dTri), .tup (be.map dTri), .hset ln, .odic [] [], .unb, .unb, .unb, .unb], M⟩ ⟨_, _, _, _, rfl⟩ (fun i d s hd hI => by
      obtain ⟨y5, y6, y7, y8, rfl⟩ := hI
      obtain ⟨st, j, t, ht, rfl⟩ := hx d (List.mem_of_getElem? hd)
      obtain ⟨a0, a1, _, _, _⟩ := h t ht
      refine ⟨⟨[.int n, .tup (ne.map dTri), .tup (be.map dTri), .hset ln, .odic [] [], .tup [.str st, .int j], .int t.1, .int t.2.1, .int t.2.2], M⟩, ⟨[.int n, .tup (ne.map dTri), .tup (be.map dTri), .hset ln, .odic [] [], .tup [.str st, .int j], .int t.1, .int t.2.1, .int t.2.2], M⟩, .next, rfl, ?_, .inl rfl, _, _, _, _, rfl⟩
      have hin : gIn not (.int t.1) (.hset ln) = some (.bl false) := by
        show ((none : Option D).or (some (D.bl (!decide (t.1 ∈ ln))))) = _
        rw [Option.none_or, decide_eq_true (hall t.1 a0 a1)]
        rfl
      have hc1 : cT (cBin gEq (cVar 8) (cK (.int 0))) ⟨[.int n, .tup (ne.map dTri), .tup (be.map dTri), .hset ln, .odic [] [], .tup [.str st, .int j], .int t.1, .int t.2.1, .int t.2.2], M⟩ = some (decide (t.2.2 = 0), ⟨[.int n, .tup (ne.map dTri), .tup (be.map dTri), .hset ln, .odic [] [], .tup [.str st, .int j], .int t.1, .int t.2.1, .int t.2.2], M⟩) :=
        cT_of (cBin_of (s1 := ⟨[.int n, .tup (ne.map dTri), .tup (be.map dTri), .hset ln, .odic [] [], .tup [.str st, .int j], .int t.1, .int t.2.1, .int t.2.2], M⟩) (x := .int t.2.2) (y := .int 0) rfl rfl (gEq_i _ _))
      have hc2 : cT (cBin (gIn not) (cVar 6) (cVar 3)) ⟨[.int n, .tup (ne.map dTri), .tup (be.map dTri), .hset ln, .odic [] [], .tup [.str st, .int j], .int t.1, .int t.2.1, .int t.2.2], M⟩ = some (false, ⟨[.int n, .tup (ne.map dTri), .tup (be.map dTri), .hset ln, .odic [] [], .tup [.str st, .int j], .int t.1, .int t.2.1, .int t.2.2], M⟩) :=
        cT_of (cBin_of (s1 := ⟨[.int n, .tup (ne.map dTri), .tup (be.map dTri), .hset ln, .odic [] [], .tup [.str st, .int j], .int t.1, .int t.2.1, .int t.2.2], M⟩) (x := .int t.1) (y := .hset ln) rfl rfl hin)
      unfold b_zero_ring_2
      refine (cIfS_f ?_).trans rfl
      unfold bAnd
      rw [hc1]
      by_cases hz : t.2.2 = 0
      · rw [decide_eq_true hz]
        exact hc2
      · rw [decide_eq_false hz])
  have s3 : t_zero_ring_3 C w ⟨[.int n, .tup (ne.map dTri), .tup (be.map dTri), .hset ln, .odic [] [], .unb, .unb, .unb, .unb], M⟩ = some (.next, ⟨[.int n, .tup (ne.map dTri), .tup (be.map dTri), .hset ln, .odic [] [], y5, y6, y7, y8], M⟩) := by
    have hit : itS (cF (cCall (m_told_links C w) (cCons (cVar 1) (cCons (cVar 2) cNil)))) ⟨[.int n, .tup (ne.map dTri), .tup (be.map dTri), .hset ln, .odic [] [], .unb, .unb, .unb, .unb], M⟩ = some (xs, ⟨[.int n, .tup (ne.map dTri), .tup (be.map dTri), .hset ln, .odic [] [], .unb, .unb, .unb, .unb], M⟩) := by
      unfold itS
      rw [cF_of (cCall_of (m := m_told_links C w) (ds := [.tup (ne.map dTri), .tup (be.map dTri)]) (s1 := ⟨[.int n, .tup (ne.map dTri), .tup (be.map dTri), .hset ln, .odic [] [], .unb, .unb, .unb, .unb], M⟩) rfl e2)]
      show some (frzL xs, _) = _
      rw [fx]
    unfold t_zero_ring_3
    rw [cFor_of hit]
    exact e3
  refine mOf_ret (env := [.int n, .tup (ne.map dTri), .tup (be.map dTri), .unb, .unb, .unb, .unb, .unb, .unb]) (s' := ⟨[.int n, .tup (ne.map dTri), .tup (be.map dTri), .hset ln, .odic [] [], y5, y6, y7, y8], M⟩) rfl ?_
  unfold c_zero_ring
  rw [cSeq_next s1]
  have s2 : cAsg 4 (cK (.odic [] [])) ⟨[.int n, .tup (ne.map dTri), .tup (be.map dTri), .hset ln, .unb, .unb, .unb, .unb, .unb], M⟩ = some (.next, ⟨[.int n, .tup (ne.map dTri), .tup (be.map dTri), .hset ln, .odic [] [], .unb, .unb, .unb, .unb], M⟩) := rfl
  rw [cSeq_next s2, cSeq_next s3]
  refine cSeq_ret ?_
  unfold t_zero_ring_4
  have hc : cT (cBin gEq (cF (cLenP 4)) (cK (.int 0))) ⟨[.int n, .tup (ne.map dTri), .tup (be.map dTri), .hset ln, .odic [] [], y5, y6, y7, y8], M⟩ = some (true, ⟨[.int n, .tup (ne.map dTri), .tup (be.map dTri), .hset ln, .odic [] [], y5, y6, y7, y8], M⟩) :=
    cT_of (cBin_of (s1 := ⟨[.int n, .tup (ne.map dTri), .tup (be.map dTri), .hset ln, .odic [] [], y5, y6, y7, y8], M⟩) (x := .int 0) (y := .int 0) rfl rfl (gEq_i 0 0))
  rw [cIfS_t hc]
  rfl
end
end K07

set_option maxRecDepth 100000
set_option maxHeartbeats 1000000
namespace K07
open PySem PySem.Spec PyProof.Rows _root_.L2 Fr
/-- a lawful program's numbers -/
structure ProgOk (n : Nat) (ne be : List Tri) : Prop where
  n1 : 1 ≤ n
  n2 : n ≤ 12
  lne : LinksOk n ne
  lbe : LinksOk n be
  rk : ∃ rank : Int → Int, ∀ t ∈ ne ++ be, t.2.2 = 0 → rank t.1 < rank t.2.1
theorem low_of (rank : Int → Int) : ∀ n : Nat, ∃ m, ∀ a : Int, 0 ≤ a → a < n → m ≤ rank a
  | 0 => ⟨0, fun a h0 h1 => by omega⟩
  | n + 1 => by
    obtain ⟨m, hm⟩ := low_of rank n
    refine ⟨min m (rank n), fun a h0 h1 => ?_⟩
    by_cases h : a = n
    · subst h; exact Int.min_le_right _ _
    · exact Int.le_trans (Int.min_le_left _ _) (hm a h0 (by omega))
abbrev fsP : List Str := ["steps", "needs", "befores"]
abbrev vsP (n : Nat) (ne be : List Tri) : List D := [.int n, .tup (ne.map dTri), .tup (be.map dTri)]
def dPrg (C : Addr) (n : Nat) (ne be : List Tri) : D := .ins C fsP (vsP n ne be)
theorem get_last (M : List D) (x : D) : (M ++ [x])[M.length]? = some x := by simp
theorem set_last (M : List D) (x y : D) : (M ++ [x]).set M.length y = M ++ [y] := by
  rw [List.set_append_right _ _ (Nat.le_refl _), Nat.sub_self]
  rfl
theorem cFld_of {C : Addr} {i k : Nat} {f : Str} {c : Fr.C} {env M : List D} {d : D} {fs : List Str} {xs : List D} (hc : c ⟨env, M⟩ = some (d, ⟨env, M⟩)) (h1 : env[i]? = some (.cell k)) (h2 : M[k]? = some (.oins C fs xs)) (hf : f ∉ fs) (hl : fs.length < 1000) :
    cFld C i f c ⟨env, M⟩ = some (.next, ⟨env, M.set k (.oins C (fs ++ [f]) (xs ++ [d]))⟩) := by
  have hp : plc ⟨env, M⟩ i = some (.m k) := by
    unfold plc
    show (match env[i]? with
      | some (.cell k) => some (R.m k)
      | some .unb => none
      | some _ => some (R.e i)
      | none => none) = _
    rw [h1]
  have hr : rget ⟨env, M⟩ (.m k) = some (.oins C fs xs) := h2
  unfold cFld
  rw [hc]
  dsimp only
  rw [hp]
  dsimp only
  rw [hr]
  dsimp only
  rw [if_pos ⟨rfl, hf, hl⟩]
  rfl
section
variable (C : Addr) (w : World) {M : List D}
theorem prog_init {n : Nat} {ne be : List Tri} (h : ProgOk n ne be) : m_Program___init__ C w [.cell M.length, .int n, .tup (ne.map dTri), .tup (be.map dTri)] (M ++ [.oins C [] []]) = some (.non, M ++ [.oins C fsP (vsP n ne be)]) := by
  obtain ⟨rank, hr⟩ := h.rk
  obtain ⟨m, hm⟩ := low_of rank n
  have hn1 := h.n1
  have hn2 := h.n2
  have hall : ∀ t ∈ ne ++ be, 0 ≤ t.1 ∧ t.1 < n ∧ 0 ≤ t.2.1 ∧ t.2.1 < n ∧ (t.2.2 = 0 → rank t.1 < rank t.2.1) := fun t ht => by
    rcases List.mem_append.mp ht with z | z
    · obtain ⟨a, b, c, d, _⟩ := h.lne.ok t z; exact ⟨a, b, c, d, hr t ht⟩
    · obtain ⟨a, b, c, d, _⟩ := h.lbe.ok t z; exact ⟨a, b, c, d, hr t ht⟩
  have cond : ∀ {m : MF} {cs : S → Option (List D × S)} {s : S} {ds : List D}, cs s = some (ds, s) → m ds s.mem = some (.bl true, s.mem) → bNot (cT (cF (cCall m cs))) s = some (false, s) := fun {m cs s ds} h1 h2 => by
    unfold bNot
    rw [cT_of (cF_of (cCall_of h1 h2))]
    rfl
  have s1 : ∀ M', t_Program___init___1 C w ⟨[.cell M.length, .int n, .tup (ne.map dTri), .tup (be.map dTri), .unb], M'⟩ = some (.next, ⟨[.cell M.length, .int n, .tup (ne.map dTri), .tup (be.map dTri), .unb], M'⟩) := fun M' => by
    unfold t_Program___init___1
    have hb := is_between_int C w (M := M') 1 12 n
    rw [decide_eq_true (show (1 : Int) ≤ n ∧ (n : Int) ≤ 12 by omega)] at hb
    rw [cIfS_f (cond (ds := [.int 1, .int 12, .int n]) rfl hb)]
    rfl
  have s2 : ∀ M', t_Program___init___2 C w ⟨[.cell M.length, .int n, .tup (ne.map dTri), .tup (be.map dTri), .unb], M'⟩ = some (.next, ⟨[.cell M.length, .int n, .tup (ne.map dTri), .tup (be.map dTri), .unb], M'⟩) := fun M' => by
    unfold t_Program___init___2
    rw [cIfS_f (cond (ds := [.int n, .tup (ne.map dTri)]) rfl (is_link_row_ok C w h.lne))]
    rfl
  have s3 : ∀ M', t_Program___init___3 C w ⟨[.cell M.length, .int n, .tup (ne.map dTri), .tup (be.map dTri), .unb], M'⟩ = some (.next, ⟨[.cell M.length, .int n, .tup (ne.map dTri), .tup (be.map dTri), .unb], M'⟩) := fun M' => by
    unfold t_Program___init___3
    rw [cIfS_f (cond (ds := [.int n, .tup (be.map dTri)]) rfl (is_link_row_ok C w h.lbe))]
    rfl
  have s4 : ∀ M', t_Program___init___4 C w ⟨[.cell M.length, .int n, .tup (ne.map dTri), .tup (be.map dTri), .unb], M'⟩ = some (.next, ⟨[.cell M.length, .int n, .tup (ne.map dTri), .tup (be.map dTri), .non], M'⟩) := fun M' => by
    unfold t_Program___init___4
    exact cAsg_of (cCall_of (ds := [.int n, .tup (ne.map dTri), .tup (be.map dTri)]) (s1 := ⟨[.cell M.length, .int n, .tup (ne.map dTri), .tup (be.map dTri), .unb], M'⟩) rfl (zero_ring_ok C w rank (by omega) h.lne.len h.lbe.len hall m hm))
  have s5 : ∀ M', t_Program___init___5 C w ⟨[.cell M.length, .int n, .tup (ne.map dTri), .tup (be.map dTri), .non], M'⟩ = some (.next, ⟨[.cell M.length, .int n, .tup (ne.map dTri), .tup (be.map dTri), .non], M'⟩) := fun M' => rfl
  have s6 := cFld_of (C := C) (i := 0) (k := M.length) (f := ("steps" : Str)) (c := cVar 1) (env := [.cell M.length, .int n, .tup (ne.map dTri), .tup (be.map dTri), .non]) (M := M ++ [.oins C [] []]) rfl rfl (get_last M _) (by simp) (by decide)
  have s7 := cFld_of (C := C) (i := 0) (k := M.length) (f := ("needs" : Str)) (c := cVar 2) (env := [.cell M.length, .int n, .tup (ne.map dTri), .tup (be.map dTri), .non]) (M := M ++ [.oins C ["steps"] [.int n]]) rfl rfl (get_last M _) (by decide +kernel) (by decide)
  have s8 := cFld_of (C := C) (i := 0) (k := M.length) (f := ("befores" : Str)) (c := cVar 3) (env := [.cell M.length, .int n, .tup (ne.map dTri), .tup (be.map dTri), .non]) (M := M ++ [.oins C ["steps", "needs"] [.int n, .tup (ne.map dTri)]]) rfl rfl (get_last M _) (by decide +kernel) (by decide)
  rw [set_last] at s6 s7 s8
  unfold m_Program___init__
  refine mOf_next (n := 5) (ds := [.cell M.length, .int n, .tup (ne.map dTri), .tup (be.map dTri)]) (M := M ++ [.oins C [] []]) (env := [.cell M.length, .int n, .tup (ne.map dTri), .tup (be.map dTri), .unb]) (s' := ⟨[.cell M.length, .int n, .tup (ne.map dTri), .tup (be.map dTri), .non], M ++ [.oins C fsP (vsP n ne be)]⟩) rfl ?_
  unfold c_Program___init__
  rw [cSeq_next (s1 _), cSeq_next (s2 _), cSeq_next (s3 _), cSeq_next (s4 _), cSeq_next (s5 _), cSeq_next s6]
  exact (cSeq_next s7).trans s8
theorem made_ok {n : Nat} {ne be : List Tri} (h : ProgOk n ne be) : m__law_made C w [dParts n ne be] M = some (.oins C fsP (vsP n ne be), M ++ [.unb]) := by
  unfold m__law_made
  refine mOf_ret (n := 1) (ds := [dParts n ne be]) (M := M) (env := [dParts n ne be]) (s' := ⟨[dParts n ne be], M ++ [.unb]⟩) rfl ?_
  unfold c__law_made t__law_made_1
  refine cRet_of ?_
  have hargs : cCons (cF (cIx 0 (cK (.int 0)))) (cCons (cF (cIx 0 (cK (.int 1)))) (cCons (cF (cIx 0 (cK (.int 2)))) cNil)) ⟨[dParts n ne be], M⟩ = some (vsP n ne be, ⟨[dParts n ne be], M⟩) := rfl
  unfold cMake
  rw [hargs]
  dsimp only
  rw [prog_init C w h]
  dsimp only
  rw [get_last]
  dsimp only
  rw [set_last]
end
end K07

set_option maxRecDepth 100000
set_option maxHeartbeats 1000000
namespace K07
open PySem PySem.Spec PyProof.Rows _root_.L2 Fr
def prs (L : List Tri) (s : Int) : List (Int × Int) := (L.filter fun t => decide (t.2.1 = s)).map fun t => (t.1, t.2.2)
def rowsL (n : Nat) (L : List Tri) : List D := (List.range n).map fun (i : Nat) => D.lst ((prs L i).map dPr)
def rowsO (n : Nat) (L : List Tri) : List D := (List.range n).map fun (i : Nat) => D.own ((prs L i).map dPr)
theorem rowsL_len (n : Nat) (L) : (rowsL n L).length = n := by simp [rowsL]
theorem rowsO_len (n : Nat) (L) : (rowsO n L).length = n := by simp [rowsO]
theorem frz_prs (ps : List (Int × Int)) : frzL (ps.map dPr) = ps.map dPr := frz_all fun d hd => by
  obtain ⟨p, hp, rfl⟩ := List.mem_map.mp hd
  rfl
theorem frz_rowsO (n : Nat) (L) : frzL (rowsO n L) = rowsL n L := by
  rw [frzL_eq]
  unfold rowsO rowsL
  rw [List.map_map]
  refine List.map_congr_left fun i hi => ?_
  show D.lst (frzL _) = _
  rw [frz_prs]
theorem prs_snoc (L : List Tri) (t : Tri) (s : Int) : prs (L ++ [t]) s = prs L s ++ (if t.2.1 = s then [(t.1, t.2.2)] else []) := by
  unfold prs
  rw [List.filter_append, List.map_append]
  by_cases h : t.2.1 = s <;> simp [h]
theorem prs_len (L : List Tri) (s : Int) : (prs L s).length ≤ L.length := by
  unfold prs
  rw [List.length_map]
  exact List.length_filter_le _ _
section
variable (C : Addr) (w : World) {n : Nat} {M : List D}
/-! ### whether a step may come -/
def mayB (L : List Tri) (c : List Int) (s : Int) : Bool := L.all fun t => !decide (t.2.1 = s) || decide (lk c s + 1 - t.2.2 ≤ lk c t.1)
theorem mayB_iff {L : List Tri} {c : List Int} {s : Int} : mayB L c s = true ↔ ∀ t ∈ L, t.2.1 = s → lk c s + 1 - t.2.2 ≤ lk c t.1 := by
  unfold mayB
  rw [List.all_eq_true]
  constructor
  · intro h t ht e
    have := h t ht
    simpa [e] using this
  · intro h t ht
    by_cases e : t.2.1 = s
    · simpa [e] using h t ht e
    · simp [e]
def CAt (X : D) (M : List D) (c : List Int) : Prop := X = .lst (c.map D.int) ∨ ∃ k, X = .cell k ∧ M[k]? = some (.own (c.map D.int))
theorem cIx_c {X : D} {c : List Int} {i : Nat} {ci : Fr.C} {env : List D} {a : Int} (hX : CAt X M c) (he : env[i]? = some X) (hc : ci ⟨env, M⟩ = some (.int a, ⟨env, M⟩)) (a0 : 0 ≤ a) (a1 : a < c.length) : cIx i ci ⟨env, M⟩ = some (.int (lk c a), ⟨env, M⟩) := by
  have hat : atI (c.map D.int) a = some (.int (lk c a)) := by
    unfold atI
    rw [List.length_map, ixN_of a0 a1]
    exact ints_get a0 a1
  rcases hX with rfl | ⟨k, rfl, hk⟩
  · have hp : plc ⟨env, M⟩ i = some (.e i) := by unfold plc; rw [he]
    have hr : rget ⟨env, M⟩ (.e i) = some (.lst (c.map D.int)) := he
    unfold cIx
    rw [hp]
    dsimp only
    rw [hc]
    dsimp only
    rw [hp]
    dsimp only
    rw [hr]
    dsimp only
    rw [hat]
    rfl
  · have hp : plc ⟨env, M⟩ i = some (.m k) := by unfold plc; rw [he]
    have hr : rget ⟨env, M⟩ (.m k) = some (.own (c.map D.int)) := hk
    unfold cIx
    rw [hp]
    dsimp only
    rw [hc]
    dsimp only
    rw [hp]
    dsimp only
    rw [hr]
    dsimp only
    rw [hat]
    rfl
end
end K07

set_option maxRecDepth 100000
set_option maxHeartbeats 1000000
namespace K07
open PySem PySem.Spec PyProof.Rows _root_.L2 Fr
theorem cCell_of {i : Nat} {c : Fr.C} {s s1 : S} {ds : List D} (h : c s = some (.own ds, s1)) : cCell i c s = some (.next, ⟨s1.env.set i (.cell s1.mem.length), s1.mem ++ [.own ds]⟩) := by unfold cCell; rw [h]
theorem cAugIx_at {i j : Nat} {r : R} {f : Int → Int → Int} {ci cv : Fr.C} {s : S} {ds : List D} {k x y : Int} (hp : plc s i = some r) (hr : rget s r = some (.own ds)) (h2 : ci s = some (.int k, s)) (h3 : ixN ds.length k = some j) (h4 : ds[j]? = some (.int x)) (h5 : cv s = some (.int y, s)) :
    cAugIx i f ci cv s = some (.next, Fr.rset s r (.own (ds.set j (.int (f x y))))) := by
  have ha : atI ds k = some (.int x) := by
    unfold atI
    rw [h3]
    exact h4
  unfold cAugIx
  rw [hp]
  dsimp only
  rw [h2]
  dsimp only
  rw [hp]
  dsimp only
  rw [hr]
  dsimp only
  rw [ha]
  dsimp only
  rw [h5]
  dsimp only
  rw [hp]
  dsimp only
  rw [hr]
  dsimp only
  rw [h3]
  rfl
def bump (c : List Int) (s : Int) : List Int := c.set s.toNat (lk c s + 1)
theorem bump_len (c : List Int) (s : Int) : (bump c s).length = c.length := by simp [bump]
theorem lk_bump {c : List Int} {s b : Int} (h0 : 0 ≤ s) (h1 : s < c.length) (h2 : 0 ≤ b) : lk (bump c s) b = if b = s then lk c s + 1 else lk c b := lk_set h0 h1 h2
def faultM (L : List Tri) : List Int → List Int → Nat → Option Nat
  | _, [], _ => none
  | c, s :: o, i => if mayB L c s = true then faultM L (bump c s) o (i + 1) else some i
def optD : Option Nat → D
  | none => .non
  | some i => .int i
def zeros (n : Nat) : List Int := List.replicate n 0
theorem zeros_D (n : Nat) : lakO n [] = (zeros n).map D.int := by
  unfold lakO zeros
  refine List.ext_getElem? fun i => ?_
  rw [List.getElem?_map, List.getElem?_map, List.getElem?_replicate]
  by_cases hi : i < n
  · rw [List.getElem?_range hi, if_pos hi]
    rfl
  · rw [List.getElem?_eq_none (by simpa using hi), if_neg hi]
    rfl
theorem zeros_at {n : Nat} {c : Fr.C} {s : S} (hn : n < 1000) (hs : c s = some (.int n, s)) : cBin gMul (cF (cLst (cCons (cK (.int 0)) cNil))) c s = some (.own (lakO n []), s) := by
  have h1 : cLst (cCons (cK (.int 0)) cNil) s = some (.own [.int 0], s) := by
    unfold cLst
    rw [cCons_of (c := cK (.int 0)) (d := .int 0) (s1 := s) rfl (cNil_of)]
    exact if_pos (show ([.int 0] : List D).length ≤ line by unfold line; simp)
  refine cBin_of (cF_of h1) hs ?_
  have h2 := zeros_of hn ⟨[.int n], []⟩ rfl
  obtain ⟨da, s1, db, h3, h4, h5⟩ := cBin_inv h2
  have h6 : cLst (cCons (cK (.int 0)) cNil) ⟨[.int n], []⟩ = some (.own [.int 0], ⟨[.int n], []⟩) := by
    unfold cLst
    rw [cCons_of (c := cK (.int 0)) (d := .int 0) (s1 := ⟨[.int n], []⟩) rfl (cNil_of)]
    exact if_pos (show ([.int 0] : List D).length ≤ line by unfold line; simp)
  rw [cF_of h6] at h3
  cases h3
  cases h4
  exact h5
def InR (n : Nat) (o : List Int) : Prop := ∀ s ∈ o, 0 ≤ s ∧ s < (n : Int)
theorem sn_ne : ¬ (("steps" : Str) = "needs") := by decide +kernel
theorem sb_ne : ¬ (("steps" : Str) = "befores") := by decide +kernel
theorem nb_ne : ¬ (("needs" : Str) = "befores") := by decide +kernel
end K07

set_option maxRecDepth 100000
set_option maxHeartbeats 1000000
namespace K07
open PySem PySem.Spec PyProof.Rows _root_.L2 Fr
section
variable (C : Addr) (w : World) {n : Nat} {ne be : List Tri} {M : List D}
theorem is_step_ok (i : Int) : m_is_step C w [dPrg C n ne be, .int i] M = some (.bl (decide (0 ≤ i ∧ i ≤ (n : Int) - 1)), M) := by
  have hsub : cBin Fr.gSub (cAttr C "steps" (cVar 0)) (cK (.int 1)) ⟨[dPrg C n ne be, .int i], M⟩ = some (.int ((n : Int) - 1), ⟨[dPrg C n ne be, .int i], M⟩) := by
    refine cBin_of (s1 := ⟨[dPrg C n ne be, .int i], M⟩) (x := .int n) (s2 := ⟨[dPrg C n ne be, .int i], M⟩) (y := .int 1) ?_ rfl rfl
    unfold dPrg
    simp [mOf, cRet, cRetN, cSeq, cIfS, cAsg, cSkip, cDrop, cAndV, cOrV, cF, cCB, cCons, cNil, cVar, cK, cNotV, cCall, cChn, cT, cBin, cTup, cIx, cAttr, cLenP, cIf, bAnd, bOr, bNot, cCell, cSetIx, plc, rget, Fr.rset, frz, frzL, frzn, Fr.gLe, Fr.gLt, Fr.gGe, Fr.gGt, Fr.gIsN, Fr.gI, Fr.gSub, Fr.gAddI, gAdd, gMul, gMulI, gDiv, gMod, gPow, gCatL, gCatT, gRepL, gIsi, tyD, gLen, gTuple, gInt, gIx, atI, atF]
  unfold m_is_step
  refine mOf_ret (n := 2) (ds := [dPrg C n ne be, .int i]) (M := M) (env := [dPrg C n ne be, .int i]) (s' := ⟨[dPrg C n ne be, .int i], M⟩) rfl ?_
  unfold c_is_step t_is_step_1
  exact cRet_of (cCall_of (cCons_of (c := cK (.int 0)) (d := .int 0) (s := ⟨[dPrg C n ne be, .int i], M⟩) (s1 := ⟨[dPrg C n ne be, .int i], M⟩) rfl (cCons_of (cF_of hsub) (cCons_of (c := cVar 1) (d := .int i) (s1 := ⟨[dPrg C n ne be, .int i], M⟩) rfl cNil_of))) (is_between_int C w 0 ((n : Int) - 1) i))
end
end K07

set_option maxRecDepth 100000
set_option maxHeartbeats 1000000
namespace K07
open PySem PySem.Spec PyProof.Rows _root_.L2 Fr
section
variable (C : Addr) (w : World) {n : Nat} {ne be : List Tri} {M : List D}
theorem links_of_ok (h1 : ne.length ≤ 40) (h2 : be.length ≤ 40) : m_links_of C w [dPrg C n ne be] M = some (.tup ((ne ++ be).map dTri), M) := by
  unfold m_links_of
  refine mOf_ret (n := 1) (ds := [dPrg C n ne be]) (M := M) (env := [dPrg C n ne be]) (s' := ⟨[dPrg C n ne be], M⟩) rfl ?_
  unfold c_links_of t_links_of_1
  refine cRet_of (cBin_of (s1 := ⟨[dPrg C n ne be], M⟩) (x := .tup (ne.map dTri)) (s2 := ⟨[dPrg C n ne be], M⟩) (y := .tup (be.map dTri)) ?_ ?_ (cat_tris (by omega)))
  · unfold dPrg
    simp [mOf, cRet, cRetN, cSeq, cIfS, cAsg, cSkip, cDrop, cAndV, cOrV, cF, cCB, cCons, cNil, cVar, cK, cNotV, cCall, cChn, cT, cBin, cTup, cIx, cAttr, cLenP, cIf, bAnd, bOr, bNot, cCell, cSetIx, plc, rget, Fr.rset, frz, frzL, frzn, Fr.gLe, Fr.gLt, Fr.gGe, Fr.gGt, Fr.gIsN, Fr.gI, Fr.gSub, Fr.gAddI, gAdd, gMul, gMulI, gDiv, gMod, gPow, gCatL, gCatT, gRepL, gIsi, tyD, gLen, gTuple, gInt, gIx, atI, atF, sn_ne]
  · unfold dPrg
    simp [mOf, cRet, cRetN, cSeq, cIfS, cAsg, cSkip, cDrop, cAndV, cOrV, cF, cCB, cCons, cNil, cVar, cK, cNotV, cCall, cChn, cT, cBin, cTup, cIx, cAttr, cLenP, cIf, bAnd, bOr, bNot, cCell, cSetIx, plc, rget, Fr.rset, frz, frzL, frzn, Fr.gLe, Fr.gLt, Fr.gGe, Fr.gGt, Fr.gIsN, Fr.gI, Fr.gSub, Fr.gAddI, gAdd, gMul, gMulI, gDiv, gMod, gPow, gCatL, gCatT, gRepL, gIsi, tyD, gLen, gTuple, gInt, gIx, atI, atF, sb_ne, nb_ne]
end
end K07

set_option maxRecDepth 100000
set_option maxHeartbeats 1000000
namespace K07
open PySem PySem.Spec PyProof.Rows _root_.L2 Fr
def cts (n : Nat) (o : List Int) : List Int := o.foldl bump (zeros n)
theorem foldl_bump_len : ∀ (o c : List Int), (o.foldl bump c).length = c.length
  | [], _ => rfl
  | s :: o, c => by rw [List.foldl_cons, foldl_bump_len o, bump_len]
theorem cts_len (n : Nat) (o : List Int) : (cts n o).length = n := by
  unfold cts
  rw [foldl_bump_len]
  simp [zeros]
section
variable (C : Addr) (w : World) {n : Nat} {ne be : List Tri} {M : List D}
theorem attr_steps {env M : List D} {i : Nat} (h : env[i]? = some (dPrg C n ne be)) : cAttr C "steps" (cVar i) ⟨env, M⟩ = some (.int n, ⟨env, M⟩) := by
  have hv : cVar i ⟨env, M⟩ = some (dPrg C n ne be, ⟨env, M⟩) := by
    unfold cVar
    show (match env[i]? with
      | some (.own ds) => some (D.lst (frzL ds), (⟨env.set i (.lst (frzL ds)), M⟩ : S))
      | some (.odic ks ds) => some (D.dic ks (frzL ds), ⟨env.set i (.dic ks (frzL ds)), M⟩)
      | some (.oins C fs ds) => some (D.ins C fs (frzL ds), ⟨env.set i (.ins C fs (frzL ds)), M⟩)
      | some (.oset w zs) => some (D.rset w zs, ⟨env.set i (.rset w zs), M⟩)
      | some .unb => none
      | some d => some (d, ⟨env, M⟩)
      | none => none) = _
    rw [h]
    rfl
  unfold cAttr
  rw [hv]
  show (if C = C then (atF fsP (vsP n ne be) "steps").map fun d => (d, (⟨env, M⟩ : S)) else none) = _
  rw [if_pos rfl]
  simp [mOf, cRet, cRetN, cSeq, cIfS, cAsg, cSkip, cDrop, cAndV, cOrV, cF, cCB, cCons, cNil, cVar, cK, cNotV, cCall, cChn, cT, cBin, cTup, cIx, cAttr, cLenP, cIf, bAnd, bOr, bNot, cCell, cSetIx, plc, rget, Fr.rset, frz, frzL, frzn, Fr.gLe, Fr.gLt, Fr.gGe, Fr.gGt, Fr.gIsN, Fr.gI, Fr.gSub, Fr.gAddI, gAdd, gMul, gMulI, gDiv, gMod, gPow, gCatL, gCatT, gRepL, gIsi, tyD, gLen, gTuple, gInt, gIx, atI, atF]
theorem attr_needs {env M : List D} {i : Nat} (h : env[i]? = some (dPrg C n ne be)) : cAttr C "needs" (cVar i) ⟨env, M⟩ = some (.tup (ne.map dTri), ⟨env, M⟩) := by
  have hv : cVar i ⟨env, M⟩ = some (dPrg C n ne be, ⟨env, M⟩) := by
    unfold cVar
    show (match env[i]? with
      | some (.own ds) => some (D.lst (frzL ds), (⟨env.set i (.lst (frzL ds)), M⟩ : S))
      | some (.odic ks ds) => some (D.dic ks (frzL ds), ⟨env.set i (.dic ks (frzL ds)), M⟩)
      | some (.oins C fs ds) => some (D.ins C fs (frzL ds), ⟨env.set i (.ins C fs (frzL ds)), M⟩)
      | some (.oset w zs) => some (D.rset w zs, ⟨env.set i (.rset w zs), M⟩)
      | some .unb => none
      | some d => some (d, ⟨env, M⟩)
      | none => none) = _
    rw [h]
    rfl
  unfold cAttr
  rw [hv]
  show (if C = C then (atF fsP (vsP n ne be) "needs").map fun d => (d, (⟨env, M⟩ : S)) else none) = _
  rw [if_pos rfl]
  simp [mOf, cRet, cRetN, cSeq, cIfS, cAsg, cSkip, cDrop, cAndV, cOrV, cF, cCB, cCons, cNil, cVar, cK, cNotV, cCall, cChn, cT, cBin, cTup, cIx, cAttr, cLenP, cIf, bAnd, bOr, bNot, cCell, cSetIx, plc, rget, Fr.rset, frz, frzL, frzn, Fr.gLe, Fr.gLt, Fr.gGe, Fr.gGt, Fr.gIsN, Fr.gI, Fr.gSub, Fr.gAddI, gAdd, gMul, gMulI, gDiv, gMod, gPow, gCatL, gCatT, gRepL, gIsi, tyD, gLen, gTuple, gInt, gIx, atI, atF, sn_ne]
end
def freeM (n : Nat) (L : List Tri) (c : List Int) : List Int := (r0 n).filter fun s => mayB L c s
end K07

set_option maxRecDepth 100000
set_option maxHeartbeats 1000000
namespace K07
open PySem PySem.Spec PyProof.Rows _root_.L2 Fr
theorem lk_bump_bd {c : List Int} {s : Int} {B : Int} (s0 : 0 ≤ s) (s1 : s < c.length) (hb : ∀ a : Int, 0 ≤ a → a < c.length → 0 ≤ lk c a ∧ lk c a ≤ B) : ∀ a : Int, 0 ≤ a → a < (bump c s).length → 0 ≤ lk (bump c s) a ∧ lk (bump c s) a ≤ B + 1 := fun a a0 a1 => by
  rw [bump_len] at a1
  rw [lk_bump s0 s1 a0]
  have h1 := hb s s0 s1
  have h2 := hb a a0 a1
  split <;> omega
theorem foldl_bump_bd : ∀ (o c : List Int) (B : Int), InR c.length o → (∀ a : Int, 0 ≤ a → a < c.length → 0 ≤ lk c a ∧ lk c a ≤ B) → ∀ a : Int, 0 ≤ a → a < c.length → 0 ≤ lk (o.foldl bump c) a ∧ lk (o.foldl bump c) a ≤ B + o.length
  | [], c, B, _, hb, a, a0, a1 => by
    have := hb a a0 a1
    simpa using this
  | s :: o, c, B, ho, hb, a, a0, a1 => by
    obtain ⟨s0, s1⟩ := ho s (List.mem_cons_self ..)
    have ih := foldl_bump_bd o (bump c s) (B + 1) (by rw [bump_len]; exact fun x hx => ho x (List.mem_cons_of_mem _ hx)) (lk_bump_bd s0 s1 hb) a a0 (by rw [bump_len]; exact a1)
    rw [List.foldl_cons, List.length_cons]
    omega
theorem lk_zeros (n : Nat) (a : Int) : lk (zeros n) a = 0 := by
  unfold lk zeros
  rw [List.getD_eq_getElem?_getD, List.getElem?_replicate]
  split <;> rfl
theorem cts_bd {n : Nat} {o : List Int} (ho : InR n o) : ∀ a : Int, 0 ≤ a → a < n → 0 ≤ lk (cts n o) a ∧ lk (cts n o) a ≤ o.length := fun a a0 a1 => by
  have hl : (zeros n).length = n := by simp [zeros]
  have h := foldl_bump_bd o (zeros n) 0 (by rw [hl]; exact ho) (fun b _ _ => by rw [lk_zeros]; omega) a a0 (by rw [hl]; exact a1)
  unfold cts
  omega
end K07

set_option maxRecDepth 100000
set_option maxHeartbeats 1000000
namespace K07
open PySem PySem.Spec PyProof.Rows _root_.L2 Fr
theorem cut_len {α : Type} (xs : List α) (lo hi : Option Int) : (cut xs lo hi).length ≤ xs.length := by
  unfold cut
  rw [List.length_take, List.length_drop]
  omega
theorem cut_mem {α : Type} {xs : List α} {lo hi : Option Int} {x : α} (h : x ∈ cut xs lo hi) : x ∈ xs := List.mem_of_mem_drop (List.mem_of_mem_take h)
section
variable (C : Addr) (w : World) {n : Nat} {ne be : List Tri} {M : List D}
theorem hand_ok {ns : List Int} (h : ns.length ≤ 63) : ∃ L z, m__law_hand C w [.scr (ns.map D.int)] M = some (hnd L 0 0 z 0, M) ∧ ∀ x ∈ L, ∃ k, x = D.int k := by
  generalize hA : cut (ns.map D.int) none (some 63) = A
  have hAi : ∀ d ∈ A, ∃ i, d = D.int i := fun d hd => by
    rw [← hA] at hd
    obtain ⟨i, _, rfl⟩ := List.mem_map.mp (cut_mem hd)
    exact ⟨i, rfl⟩
  have hAl : A.length ≤ 63 := by
    have := cut_len (ns.map D.int) none (some 63)
    rw [hA, List.length_map] at this
    omega
  have fA : frzL A = A := frz_all fun d hd => by
    obtain ⟨i, rfl⟩ := hAi d hd
    rfl
  have hsl : cSl (cVar 0) cNoP (cPart (cK (.int 63))) ⟨[.scr (ns.map D.int), .unb, .unb], M⟩ = some (.own A, ⟨[.scr (ns.map D.int), .unb, .unb], M⟩) := by
    show some (D.own (cut (ns.map D.int) none (some 63)), _) = _
    rw [hA]
  have hit : itS (cF (cSl (cVar 0) cNoP (cPart (cK (.int 63))))) ⟨[.scr (ns.map D.int), .unb, .unb], M⟩ = some (A, ⟨[.scr (ns.map D.int), .unb, .unb], M⟩) := by
    unfold itS
    rw [cF_of hsl]
    show some (frzL A, _) = _
    rw [fA]
  have hlc := lcLoop_pure (js := [1]) (tg := gN 1) (tt := bYes) (te := cCB gAbs (cCons (cF (cCB gInt (cCons (cVar 1) cNil))) cNil)) (s := ⟨[.scr (ns.map D.int), .unb, .unb], M⟩) (fun _ => true) (fun d => match d with | .int i => .int (if i < 0 then -i else i) | d => d) A [] (by unfold line; simp only [List.length_nil]; omega)
    (fun d hd => by
      obtain ⟨i, rfl⟩ := hAi d hd
      exact ⟨⟨[.scr (ns.map D.int), .int i, .unb], M⟩, rfl, rfl, rfl, fun _ => rfl⟩)
  generalize hB : ([] : List D) ++ ((A.filter fun _ => true).map fun d => match d with | .int i => .int (if i < 0 then -i else i) | d => d) = B at hlc
  have hBi : ∀ x ∈ B, ∃ k, x = D.int k := fun x hx => by
    rw [← hB, List.nil_append, List.filter_eq_self.mpr (fun _ _ => rfl)] at hx
    obtain ⟨d, hd, rfl⟩ := List.mem_map.mp hx
    obtain ⟨i, rfl⟩ := hAi d hd
    exact ⟨_, rfl⟩
  have fB : frzL B = B := frz_all fun d hd => by
    obtain ⟨i, rfl⟩ := hBi d hd
    rfl
  refine ⟨B, 1 + (B.length : Int), ?_, hBi⟩
  have s1 : t__law_hand_1 C w ⟨[.scr (ns.map D.int), .unb, .unb], M⟩ = some (.next, ⟨[.scr (ns.map D.int), .unb, .own B], M⟩) := cAsg_of (cLc_of hit rfl hlc)
  unfold m__law_hand
  refine mOf_ret (n := 3) (ds := [.scr (ns.map D.int)]) (M := M) (env := [.scr (ns.map D.int), .unb, .unb]) (s' := ⟨[.scr (ns.map D.int), .unb, .lst B], M⟩) rfl ?_
  unfold c__law_hand
  rw [cSeq_next s1]
  unfold t__law_hand_2
  refine cRet_of ?_
  have hv : cVar 2 ⟨[.scr (ns.map D.int), .unb, .own B], M⟩ = some (.lst B, ⟨[.scr (ns.map D.int), .unb, .lst B], M⟩) := by
    show some (D.lst (frzL B), (⟨[.scr (ns.map D.int), .unb, .lst (frzL B)], M⟩ : S)) = _
    rw [fB]
  have hn : cF (cBin gAdd (cK (.int 1)) (cF (cLenP 2))) ⟨[.scr (ns.map D.int), .unb, .lst B], M⟩ = some (.int (1 + (B.length : Int)), ⟨[.scr (ns.map D.int), .unb, .lst B], M⟩) :=
    cF_of (d := .int (1 + (B.length : Int))) (cBin_of (s1 := ⟨[.scr (ns.map D.int), .unb, .lst B], M⟩) (x := .int 1) (y := .int B.length) rfl rfl rfl)
  unfold cLst
  rw [cCons_of hv (cCons_of (c := cK (.int 0)) (d := .int 0) (s1 := ⟨[.scr (ns.map D.int), .unb, .lst B], M⟩) rfl (cCons_of (c := cK (.int 0)) (d := .int 0) (s1 := ⟨[.scr (ns.map D.int), .unb, .lst B], M⟩) rfl (cCons_of hn (cCons_of (c := cK (.int 0)) (d := .int 0) (s1 := ⟨[.scr (ns.map D.int), .unb, .lst B], M⟩) rfl cNil_of))))]
  exact if_pos (show ([.lst B, .int 0, .int 0, .int (1 + (B.length : Int)), .int 0] : List D).length ≤ line by unfold line; simp)
/-- the law's own look at a step -/
theorem may_loop {P X : D} {c : List Int} {s : Int} (hX : CAt X M c) (hc : c.length = n) : ∀ (L : List Tri) (x4 x5 x6 : D), (∀ t ∈ L, 0 ≤ t.1 ∧ t.1 < n) →
    ∃ fl s', forLoop (gT (gC (gN 4) (gC (gN 5) (gC (gN 6) gZ)))) (b__law_may_2 C w) (L.map dTri) ⟨[P, X, .int s, .int (lk c s + 1), x4, x5, x6], M⟩ = some (fl, s') ∧ s'.mem = M ∧ (if mayB L c s = true then fl = .next else fl = .ret (.bl false))
  | [], x4, x5, x6, _ => ⟨.next, _, rfl, rfl, rfl⟩
  | t :: L, x4, x5, x6, h => by
    obtain ⟨a0, a1⟩ := h t (List.mem_cons_self ..)
    have h1 : cT (cBin gEq (cVar 5) (cVar 2)) ⟨[P, X, .int s, .int (lk c s + 1), .int t.1, .int t.2.1, .int t.2.2], M⟩ = some (decide (t.2.1 = s), ⟨[P, X, .int s, .int (lk c s + 1), .int t.1, .int t.2.1, .int t.2.2], M⟩) :=
      cT_of (cBin_of (s1 := ⟨[P, X, .int s, .int (lk c s + 1), .int t.1, .int t.2.1, .int t.2.2], M⟩) (x := .int t.2.1) (y := .int s) rfl rfl (gEq_i _ _))
    have h2 : cT (cBin Fr.gLt (cF (cIx 1 (cVar 4))) (cF (cBin Fr.gSub (cVar 3) (cVar 6)))) ⟨[P, X, .int s, .int (lk c s + 1), .int t.1, .int t.2.1, .int t.2.2], M⟩ = some (decide (lk c t.1 < lk c s + 1 - t.2.2), ⟨[P, X, .int s, .int (lk c s + 1), .int t.1, .int t.2.1, .int t.2.2], M⟩) :=
      cT_of (cBin_of (cF_of (cIx_c (i := 1) (ci := cVar 4) (env := [P, X, .int s, .int (lk c s + 1), .int t.1, .int t.2.1, .int t.2.2]) hX rfl rfl a0 (by omega))) (s2 := ⟨[P, X, .int s, .int (lk c s + 1), .int t.1, .int t.2.1, .int t.2.2], M⟩) (y := .int (lk c s + 1 - t.2.2)) rfl rfl)
    have hcond : bAnd (cT (cBin gEq (cVar 5) (cVar 2))) (cT (cBin Fr.gLt (cF (cIx 1 (cVar 4))) (cF (cBin Fr.gSub (cVar 3) (cVar 6))))) ⟨[P, X, .int s, .int (lk c s + 1), .int t.1, .int t.2.1, .int t.2.2], M⟩ = some (decide (t.2.1 = s) && decide (lk c t.1 < lk c s + 1 - t.2.2), ⟨[P, X, .int s, .int (lk c s + 1), .int t.1, .int t.2.1, .int t.2.2], M⟩) := by
      unfold bAnd
      rw [h1]
      by_cases e : t.2.1 = s
      · rw [decide_eq_true e]
        exact h2
      · rw [decide_eq_false e]
        rfl
    show ∃ fl s', forLoop _ _ (dTri t :: L.map dTri) _ = _ ∧ _
    by_cases hb : t.2.1 = s ∧ lk c t.1 < lk c s + 1 - t.2.2
    · have hm : mayB (t :: L) c s = false := by
        refine Bool.eq_false_iff.mpr fun z => ?_
        have := mayB_iff.mp z t (List.mem_cons_self ..) hb.1
        omega
      rw [decide_eq_true hb.1, decide_eq_true hb.2] at hcond
      refine ⟨.ret (.bl false), ⟨[P, X, .int s, .int (lk c s + 1), .int t.1, .int t.2.1, .int t.2.2], M⟩, ?_, rfl, by rw [hm]; rfl⟩
      refine forLoop_ret (s1 := ⟨[P, X, .int s, .int (lk c s + 1), .int t.1, .int t.2.1, .int t.2.2], M⟩) rfl ?_
      unfold b__law_may_2
      exact (cIfS_t hcond).trans rfl
    · have hf : (decide (t.2.1 = s) && decide (lk c t.1 < lk c s + 1 - t.2.2)) = false := by
        refine Bool.eq_false_iff.mpr fun z => hb ?_
        simpa using z
      rw [hf] at hcond
      obtain ⟨fl, s', e, em, er⟩ := may_loop hX hc L (.int t.1) (.int t.2.1) (.int t.2.2) (fun u hu => h u (List.mem_cons_of_mem _ hu))
      have hm : mayB (t :: L) c s = mayB L c s := by
        unfold mayB
        rw [List.all_cons]
        have : (!decide (t.2.1 = s) || decide (lk c s + 1 - t.2.2 ≤ lk c t.1)) = true := by
          by_cases e : t.2.1 = s
          · have : lk c s + 1 - t.2.2 ≤ lk c t.1 := by
              have := fun z => hb ⟨e, z⟩
              omega
            simp [this]
          · simp [e]
        rw [this, Bool.true_and]
      refine ⟨fl, s', ?_, em, by rw [hm]; exact er⟩
      refine (forLoop_next (s1 := ⟨[P, X, .int s, .int (lk c s + 1), .int t.1, .int t.2.1, .int t.2.2], M⟩) rfl ?_).trans e
      unfold b__law_may_2
      exact (cIfS_f hcond).trans rfl
theorem may_ok {X : D} {c : List Int} {s : Int} (hX : CAt X M c) (hc : c.length = n) (h1 : ne.length ≤ 40) (h2 : be.length ≤ 40) (h : ∀ t ∈ ne ++ be, 0 ≤ t.1 ∧ t.1 < n) (s0 : 0 ≤ s) (s1 : s < n) :
    m__law_may C w [dParts n ne be, X, .int s] M = some (.bl (mayB (ne ++ be) c s), M) := by
  have hs := cIx_c (M := M) (i := 1) (ci := cVar 2) (env := [dParts n ne be, X, .int s, .unb, .unb, .unb, .unb]) hX rfl rfl s0 (by omega)
  have e1 : t__law_may_1 C w ⟨[dParts n ne be, X, .int s, .unb, .unb, .unb, .unb], M⟩ = some (.next, ⟨[dParts n ne be, X, .int s, .int (lk c s + 1), .unb, .unb, .unb], M⟩) :=
    cAsg_of (cBin_of (cF_of hs) (s2 := ⟨[dParts n ne be, X, .int s, .unb, .unb, .unb, .unb], M⟩) (y := .int 1) rfl rfl)
  have hcat : cBin gAdd (cF (cIx 0 (cK (.int 1)))) (cF (cIx 0 (cK (.int 2)))) ⟨[dParts n ne be, X, .int s, .int (lk c s + 1), .unb, .unb, .unb], M⟩ = some (.tup ((ne ++ be).map dTri), ⟨[dParts n ne be, X, .int s, .int (lk c s + 1), .unb, .unb, .unb], M⟩) :=
    cBin_of (s1 := ⟨[dParts n ne be, X, .int s, .int (lk c s + 1), .unb, .unb, .unb], M⟩) (x := .tup (ne.map dTri)) (y := .tup (be.map dTri)) rfl rfl (cat_tris (by omega))
  have hit : itS (cF (cBin gAdd (cF (cIx 0 (cK (.int 1)))) (cF (cIx 0 (cK (.int 2)))))) ⟨[dParts n ne be, X, .int s, .int (lk c s + 1), .unb, .unb, .unb], M⟩ = some ((ne ++ be).map dTri, ⟨[dParts n ne be, X, .int s, .int (lk c s + 1), .unb, .unb, .unb], M⟩) := by
    unfold itS
    rw [cF_of hcat]
    rfl
  obtain ⟨fl, s', e2, em, er⟩ := may_loop C w (n := n) (P := dParts n ne be) (s := s) hX hc (ne ++ be) .unb .unb .unb h
  have e3 : t__law_may_3 C w ⟨[dParts n ne be, X, .int s, .int (lk c s + 1), .unb, .unb, .unb], M⟩ = some (fl, s') := by
    unfold t__law_may_3
    rw [cFor_of hit]
    exact e2
  unfold m__law_may
  rw [← em]
  rw [em]
  cases hm : mayB (ne ++ be) c s with
  | true =>
    rw [hm] at er
    have er : fl = .next := er
    subst er
    have := mOf_ret (n := 7) (cb := c__law_may C w) (ds := [dParts n ne be, X, .int s]) (M := M) (env := [dParts n ne be, X, .int s, .unb, .unb, .unb, .unb]) (s' := s') (d := .bl true) rfl (by
      unfold c__law_may
      rw [cSeq_next e1, cSeq_next e3]
      rfl)
    rw [em] at this
    exact this
  | false =>
    rw [hm] at er
    have er : fl = .ret (.bl false) := er
    subst er
    have := mOf_ret (n := 7) (cb := c__law_may C w) (ds := [dParts n ne be, X, .int s]) (M := M) (env := [dParts n ne be, X, .int s, .unb, .unb, .unb, .unb]) (s' := s') (d := .bl false) rfl (by
      unfold c__law_may
      rw [cSeq_next e1]
      exact cSeq_ret e3)
    rw [em] at this
    exact this
end
end K07

set_option maxRecDepth 100000
set_option maxHeartbeats 1000000
namespace K07
open PySem PySem.Spec PyProof.Rows _root_.L2 Fr
/-! ### orders, numbers only -/
def Lw (L : List Tri) : List Int → List Int → Prop
  | _, [] => True
  | c, s :: o => mayB L c s = true ∧ Lw L (bump c s) o
theorem faultM_none {L : List Tri} : ∀ (o c : List Int) (i : Nat), faultM L c o i = none ↔ Lw L c o
  | [], c, i => by unfold faultM Lw; simp
  | s :: o, c, i => by
    unfold faultM Lw
    cases h : mayB L c s with
    | true => simp [faultM_none o (bump c s) (i + 1)]
    | false => simp
theorem Lw.app {L : List Tri} : ∀ {a b c : List Int}, Lw L c (a ++ b) ↔ Lw L c a ∧ Lw L (a.foldl bump c) b
  | [], b, c => by simp [Lw]
  | s :: a, b, c => by
    show mayB L c s = true ∧ Lw L (bump c s) (a ++ b) ↔ (mayB L c s = true ∧ Lw L (bump c s) a) ∧ _
    rw [Lw.app (a := a) (b := b) (c := bump c s), List.foldl_cons, and_assoc]
theorem least {α : Type} (f g : α → Int) : ∀ (l : List α), l ≠ [] → ∃ s ∈ l, ∀ a ∈ l, f s < f a ∨ (f s = f a ∧ g s ≤ g a)
  | [], h => absurd rfl h
  | [x], _ => ⟨x, by simp, fun a ha => by rw [List.mem_singleton.mp ha]; exact .inr ⟨rfl, Int.le_refl _⟩⟩
  | x :: y :: l, _ => by
    obtain ⟨s, hs, h⟩ := least f g (y :: l) (by simp)
    by_cases hx : f x < f s ∨ (f x = f s ∧ g x ≤ g s)
    · refine ⟨x, List.mem_cons_self .., fun a ha => ?_⟩
      rcases List.mem_cons.mp ha with e | e
      · rw [e]; exact .inr ⟨rfl, Int.le_refl _⟩
      · have := h a e
        omega
    · refine ⟨s, List.mem_cons_of_mem _ hs, fun a ha => ?_⟩
      rcases List.mem_cons.mp ha with e | e
      · rw [e]; omega
      · exact h a e
theorem some_may {n : Nat} {L : List Tri} {c : List Int} (rank : Int → Int) (hn : 1 ≤ n) (h : ∀ t ∈ L, 0 ≤ t.1 ∧ t.1 < n ∧ 0 ≤ t.2.2 ∧ (t.2.2 = 0 → rank t.1 < rank t.2.1)) : ∃ s, 0 ≤ s ∧ s < (n : Int) ∧ mayB L c s = true := by
  obtain ⟨s, hs, hm⟩ := least (lk c) rank (r0 n) (by
    intro z
    have := r0_len n
    rw [z] at this
    simp at this
    omega)
  obtain ⟨s0, s1⟩ := mem_r0.mp hs
  refine ⟨s, s0, s1, mayB_iff.mpr fun t ht e => ?_⟩
  obtain ⟨a0, a1, r0', hz⟩ := h t ht
  have := hm t.1 (mem_r0.mpr ⟨a0, a1⟩)
  by_cases z : t.2.2 = 0
  · have := hz z
    rw [e] at this
    omega
  · omega
theorem bump_comm {c : List Int} {x y : Int} (h : x ≠ y) (x0 : 0 ≤ x) (y0 : 0 ≤ y) (x1 : x < c.length) (y1 : y < c.length) : bump (bump c x) y = bump (bump c y) x := by
  have e1 : lk (bump c x) y = lk c y := by rw [lk_bump x0 x1 y0, if_neg (Ne.symm h)]
  have e2 : lk (bump c y) x = lk c x := by rw [lk_bump y0 y1 x0, if_neg h]
  show (bump c x).set y.toNat (lk (bump c x) y + 1) = (bump c y).set x.toNat (lk (bump c y) x + 1)
  rw [e1, e2]
  unfold bump
  exact List.set_comm _ _ (by omega)
/-- x leads to y behind c -/
def leadB (L : List Tri) (c : List Int) (x y : Int) : Bool := L.any fun t => decide (t.1 = x) && (decide (t.2.1 = y) && decide (lk c x + 1 ≤ lk c y + 1 - t.2.2))
theorem leadB_iff {L : List Tri} {c : List Int} {x y : Int} : leadB L c x y = true ↔ ∃ t ∈ L, t.1 = x ∧ t.2.1 = y ∧ lk c x + 1 ≤ lk c y + 1 - t.2.2 := by
  unfold leadB
  rw [List.any_eq_true]
  simp
theorem exchange {n : Nat} {L : List Tri} {a b : List Int} {x y : Int} {c0 : List Int} (hc0 : c0.length = n) (h : Lw L c0 (a ++ x :: y :: b)) (hxy : x ≠ y) (x0 : 0 ≤ x) (x1 : x < n) (y0 : 0 ≤ y) (y1 : y < n) (hL : ∀ t ∈ L, 0 ≤ t.1 ∧ t.1 < n) :
    Lw L c0 (a ++ y :: x :: b) ↔ leadB L (a.foldl bump c0) x y = false := by
  generalize hc : a.foldl bump c0 = c at *
  have hcl : c.length = n := by rw [← hc, foldl_bump_len, hc0]
  rw [Lw.app, hc] at h
  rw [Lw.app, hc]
  obtain ⟨ha, hx, hy, hb⟩ := h
  have cx : x < (c.length : Int) := by rw [hcl]; exact x1
  have cy : y < (c.length : Int) := by rw [hcl]; exact y1
  constructor
  · rintro ⟨_, hy', _⟩
    refine Bool.eq_false_iff.mpr fun z => ?_
    obtain ⟨t, ht, e1, e2, e3⟩ := leadB_iff.mp z
    have := mayB_iff.mp hy' t ht e2
    rw [e1] at this
    omega
  · intro hl
    refine ⟨ha, mayB_iff.mpr fun t ht e => ?_, mayB_iff.mpr fun t ht e => ?_, ?_⟩
    · have h1 := mayB_iff.mp hy t ht e
      obtain ⟨t0, _⟩ := hL t ht
      rw [lk_bump x0 cx y0, if_neg (Ne.symm hxy), lk_bump x0 cx t0] at h1
      by_cases ex : t.1 = x
      · rw [if_pos ex] at h1
        rw [ex]
        have : ¬ (lk c x + 1 ≤ lk c y + 1 - t.2.2) := fun z => by
          have := leadB_iff.mpr ⟨t, ht, ex, e, z⟩
          rw [hl] at this
          cases this
        omega
      · rw [if_neg ex] at h1
        exact h1
    · have h1 := mayB_iff.mp hx t ht e
      obtain ⟨t0, _⟩ := hL t ht
      rw [lk_bump y0 cy x0, if_neg hxy, lk_bump y0 cy t0]
      split
      · rename_i ey
        rw [ey] at h1
        omega
      · exact h1
    · rw [← bump_comm hxy x0 y0 cx cy]
      exact hb
theorem cts_exchange {a b : List Int} {x y : Int} {c0 : List Int} {n : Nat} (hc0 : c0.length = n) (hxy : x ≠ y) (x0 : 0 ≤ x) (x1 : x < n) (y0 : 0 ≤ y) (y1 : y < n) : (a ++ y :: x :: b).foldl bump c0 = (a ++ x :: y :: b).foldl bump c0 := by
  rw [List.foldl_append, List.foldl_append, List.foldl_cons, List.foldl_cons, List.foldl_cons, List.foldl_cons]
  have hcl : (a.foldl bump c0).length = n := by rw [foldl_bump_len, hc0]
  rw [bump_comm hxy x0 y0 (by rw [hcl]; exact x1) (by rw [hcl]; exact y1)]
/-! ### an order of the same counts -/
def Le (n : Nat) (c d : List Int) : Prop := ∀ a : Int, 0 ≤ a → a < n → lk c a ≤ lk d a
theorem le_bump {n : Nat} {c : List Int} {s : Int} (hc : c.length = n) (s0 : 0 ≤ s) (s1 : s < n) : Le n c (bump c s) := fun a a0 a1 => by
  rw [lk_bump s0 (by rw [hc]; exact s1) a0]
  split
  · rename_i e; rw [e]; omega
  · exact Int.le_refl _
theorem le_foldl {n : Nat} : ∀ (o c : List Int), c.length = n → InR n o → Le n c (o.foldl bump c)
  | [], c, _, _ => fun a _ _ => Int.le_refl _
  | s :: o, c, hc, ho => fun a a0 a1 => by
    obtain ⟨s0, s1⟩ := ho s (List.mem_cons_self ..)
    exact Int.le_trans (le_bump hc s0 s1 a a0 a1) (le_foldl o (bump c s) (by rw [bump_len, hc]) (fun x hx => ho x (List.mem_cons_of_mem _ hx)) a a0 a1)
theorem next_may {n : Nat} {L : List Tri} {d : List Int} (hd : d.length = n) (hL : ∀ t ∈ L, 0 ≤ t.1 ∧ t.1 < n) : ∀ (rest c : List Int), c.length = n → InR n rest → Lw L c rest → Le n c d → ¬ Le n (rest.foldl bump c) d →
    ∃ s, 0 ≤ s ∧ s < (n : Int) ∧ lk d s < lk (rest.foldl bump c) s ∧ mayB L d s = true
  | [], c, _, _, _, h1, h2 => absurd h1 h2
  | s :: rest, c, hc, ho, hl, h1, h2 => by
    obtain ⟨s0, s1⟩ := ho s (List.mem_cons_self ..)
    have ho' : InR n rest := fun x hx => ho x (List.mem_cons_of_mem _ hx)
    have hcs : s < (c.length : Int) := by rw [hc]; exact s1
    by_cases h : lk c s < lk d s
    · refine next_may hd hL rest (bump c s) (by rw [bump_len, hc]) ho' hl.2 (fun a a0 a1 => ?_) h2
      rw [lk_bump s0 hcs a0]
      split
      · rename_i e; rw [e]; omega
      · exact h1 a a0 a1
    · have hle := h1 s s0 s1
      have heq : lk d s = lk c s := by omega
      refine ⟨s, s0, s1, ?_, mayB_iff.mpr fun t ht e => ?_⟩
      · have h3 := le_foldl rest (bump c s) (by rw [bump_len, hc]) ho' s s0 s1
        rw [lk_bump s0 hcs s0, if_pos rfl] at h3
        rw [List.foldl_cons]
        omega
      · have h3 := mayB_iff.mp hl.1 t ht e
        obtain ⟨t0, t1⟩ := hL t ht
        have := h1 t.1 t0 t1
        omega
theorem sum_set : ∀ (c : List Int) (k : Nat) (x : Int), k < c.length → (c.set k x).sum = c.sum - c.getD k 0 + x
  | [], k, x, h => by simp at h
  | a :: c, 0, x, h => by simp; omega
  | a :: c, k + 1, x, h => by
    have ih := sum_set c k x (by simpa using h)
    simp only [List.set_cons_succ, List.sum_cons, ih, List.getD_cons_succ]
    omega
theorem sum_bump {c : List Int} {s : Int} (s0 : 0 ≤ s) (s1 : s < c.length) : (bump c s).sum = c.sum + 1 := by
  unfold bump
  rw [sum_set _ _ _ (by omega)]
  unfold lk
  omega
theorem sum_foldl {n : Nat} : ∀ (o c : List Int), c.length = n → InR n o → (o.foldl bump c).sum = c.sum + o.length
  | [], c, _, _ => by simp
  | s :: o, c, hc, ho => by
    obtain ⟨s0, s1⟩ := ho s (List.mem_cons_self ..)
    rw [List.foldl_cons, sum_foldl o (bump c s) (by rw [bump_len, hc]) (fun x hx => ho x (List.mem_cons_of_mem _ hx)), sum_bump s0 (by rw [hc]; exact s1), List.length_cons]
    omega
theorem sum_le : ∀ {c d : List Int}, c.length = d.length → (∀ i : Nat, c.getD i 0 ≤ d.getD i 0) → c.sum ≤ d.sum ∧ (c.sum = d.sum → c = d)
  | [], [], _, _ => ⟨Int.le_refl _, fun _ => rfl⟩
  | [], _ :: _, h, _ => by simp at h
  | _ :: _, [], h, _ => by simp at h
  | a :: c, b :: d, h, hh => by
    have h0 := hh 0
    simp at h0
    obtain ⟨h1, h2⟩ := sum_le (c := c) (d := d) (by simpa using h) (fun i => by simpa using hh (i + 1))
    simp only [List.sum_cons]
    refine ⟨by omega, fun e => ?_⟩
    have : a = b := by omega
    rw [this, h2 (by omega)]
theorem le_sum {n : Nat} {c d : List Int} (hc : c.length = n) (hd : d.length = n) (h : Le n c d) : c.sum ≤ d.sum ∧ (c.sum = d.sum → c = d) := by
  refine sum_le (by rw [hc, hd]) fun i => ?_
  by_cases hi : i < n
  · have := h (i : Int) (by omega) (by omega)
    unfold lk at this
    rw [Int.toNat_natCast] at this
    exact this
  · rw [List.getD_eq_getElem?_getD, List.getD_eq_getElem?_getD, List.getElem?_eq_none (by omega), List.getElem?_eq_none (by omega)]
    exact Int.le_refl _
theorem sum_zeros (n : Nat) : (zeros n).sum = 0 := by
  unfold zeros
  induction n with
  | zero => rfl
  | succ n ih => rw [List.replicate_succ, List.sum_cons, ih]; rfl
end K07

set_option maxRecDepth 100000
set_option maxHeartbeats 1000000
namespace K07
open PySem PySem.Spec PyProof.Rows _root_.L2 Fr
theorem cIx_own' {i j : Nat} {ci : Fr.C} {s s1 : S} {ds0 ds : List D} {k : Int} {d : D} (h0 : s.env[i]? = some (.own ds0)) (h2 : ci s = some (.int k, s1)) (h1 : s1.env[i]? = some (.own ds)) (h3 : ixN ds.length k = some j) (h4 : ds[j]? = some d) (hf : frzn d = true) : cIx i ci s = some (d, s1) := by
  have hp := plc_own h0
  have hp1 := plc_own h1
  have hr : rget s1 (.e i) = some (.own ds) := h1
  have ha : atI ds k = some d := by
    unfold atI
    rw [h3]
    exact h4
  unfold cIx
  rw [hp]
  dsimp only
  rw [h2]
  dsimp only
  rw [hp1]
  dsimp only
  rw [hr]
  dsimp only
  rw [ha]
  dsimp only
  rw [if_pos hf]
theorem cSetIx_at {i j : Nat} {r : R} {ci cv : Fr.C} {s s1 : S} {ds : List D} {k : Int} {d : D} (hv : cv s = some (d, s1)) (hp : plc s1 i = some r) (hc : ci s1 = some (.int k, s1)) (hr : rget s1 r = some (.own ds)) (hj : ixN ds.length k = some j) :
    cSetIx i ci cv s = some (.next, Fr.rset s1 r (.own (ds.set j d))) := by
  unfold cSetIx
  rw [hv]
  dsimp only
  rw [hp]
  dsimp only
  rw [hc]
  dsimp only
  rw [hp]
  dsimp only
  rw [hr]
  dsimp only
  rw [hj]
  rfl
section
variable (C : Addr) (w : World) {n : Nat} {ne be : List Tri} {R : List D} {h : D}
theorem cts_snoc (o : List Int) (s : Int) : cts n (o ++ [s]) = bump (cts n o) s := by
  unfold cts
  rw [List.foldl_append]
  rfl
/-- the steps that may, or what a test lets of them, chosen by a draw; then the doing is laid down -/
theorem or_tail {P x2 x3 x6 : D} {fs o : List Int} {c : List Int} {K : Nat} {M : List D} (ok : HOk h) (hf : fs ≠ []) (hfl : fs.length < 1000) (hin : InR n fs) (hc : c.length = n) (hK : (h :: M)[K]? = some (.own (c.map D.int))) (hK1 : 1 ≤ K) (hol : o.length < 1000) :
    ∃ s h', s ∈ fs ∧ HOk h' ∧ cSeq (cAsg 3 (cIx 7 (cF (cCall (m__law_draw C w) (cCons (cVar 0) (cCons (cF (cLenP 7)) cNil)))))) (cSeq (cAsg 5 (cBin gAdd (cVar 5) (cF (cTup (cCons (cVar 3) cNil))))) (cSetIx 4 (cVar 3) (cF (cBin gAdd (cF (cIx 4 (cVar 3))) (cK (.int 1))))))
      ⟨[.cell 0, P, x2, x3, .cell K, .tup (o.map D.int), x6, .own (fs.map D.int)], h :: M⟩ = some (.next, ⟨[.cell 0, P, x2, .int s, .cell K, .tup ((o ++ [s]).map D.int), x6, .own (fs.map D.int)], (h' :: M).set K (.own ((bump c s).map D.int))⟩) := by
  have hpos : 0 < fs.length := List.length_pos_iff.mpr hf
  obtain ⟨d, h', e, ho, d0, d1⟩ := draw0 C w (R := M) (many := (fs.length : Int)) ok (by omega) (by omega)
  have hg : fs[d.toNat]? = some fs[d.toNat] := List.getElem?_eq_getElem (by omega)
  generalize hs : fs[d.toNat] = s at hg
  have hmem : s ∈ fs := List.mem_of_getElem? hg
  obtain ⟨s0, s1⟩ := hin s hmem
  refine ⟨s, h', hmem, ho, ?_⟩
  have hlen : cLenP 7 ⟨[.cell 0, P, x2, x3, .cell K, .tup (o.map D.int), x6, .own (fs.map D.int)], h :: M⟩ = some (.int (fs.length : Int), ⟨[.cell 0, P, x2, x3, .cell K, .tup (o.map D.int), x6, .own (fs.map D.int)], h :: M⟩) := by
    show some (D.int ((fs.map D.int).length : Int), _) = _
    rw [List.length_map]
  have hcall := cF_of (cCall_of (m := m__law_draw C w) (cCons_of (c := cVar 0) (d := .cell 0) (s := ⟨[.cell 0, P, x2, x3, .cell K, .tup (o.map D.int), x6, .own (fs.map D.int)], h :: M⟩) (s1 := ⟨[.cell 0, P, x2, x3, .cell K, .tup (o.map D.int), x6, .own (fs.map D.int)], h :: M⟩) rfl (cCons_of (cF_of hlen) cNil_of)) e)
  have hix : ixN (fs.map D.int).length d = some d.toNat := by rw [List.length_map]; exact ixN_of d0 d1
  have hgd : (fs.map D.int)[d.toNat]? = some (.int s) := by rw [List.getElem?_map, hg]; rfl
  have e3 : cAsg 3 (cIx 7 (cF (cCall (m__law_draw C w) (cCons (cVar 0) (cCons (cF (cLenP 7)) cNil))))) ⟨[.cell 0, P, x2, x3, .cell K, .tup (o.map D.int), x6, .own (fs.map D.int)], h :: M⟩ = some (.next, ⟨[.cell 0, P, x2, .int s, .cell K, .tup (o.map D.int), x6, .own (fs.map D.int)], h' :: M⟩) :=
    cAsg_of (cIx_own' (i := 7) rfl hcall rfl hix hgd rfl)
  rw [cSeq_next e3]
  have htup : cTup (cCons (cVar 3) cNil) ⟨[.cell 0, P, x2, .int s, .cell K, .tup (o.map D.int), x6, .own (fs.map D.int)], h' :: M⟩ = some (.tup [.int s], ⟨[.cell 0, P, x2, .int s, .cell K, .tup (o.map D.int), x6, .own (fs.map D.int)], h' :: M⟩) := by
    unfold cTup
    rw [cCons_of (c := cVar 3) (d := .int s) (s := ⟨[.cell 0, P, x2, .int s, .cell K, .tup (o.map D.int), x6, .own (fs.map D.int)], h' :: M⟩) (s1 := ⟨[.cell 0, P, x2, .int s, .cell K, .tup (o.map D.int), x6, .own (fs.map D.int)], h' :: M⟩) rfl cNil_of]
    exact if_pos (show ([.int s] : List D).length ≤ line by unfold line; simp)
  have hadd : gAdd (.tup (o.map D.int)) (.tup [.int s]) = some (.tup ((o ++ [s]).map D.int)) := by
    show ((none : Option D).or ((none : Option D).or (gCatT (.tup (o.map D.int)) (.tup [.int s])))) = _
    rw [Option.none_or, Option.none_or, List.map_append]
    refine if_pos ?_
    rw [List.length_map]
    unfold line
    simp
    omega
  have e5 : cAsg 5 (cBin gAdd (cVar 5) (cF (cTup (cCons (cVar 3) cNil)))) ⟨[.cell 0, P, x2, .int s, .cell K, .tup (o.map D.int), x6, .own (fs.map D.int)], h' :: M⟩ = some (.next, ⟨[.cell 0, P, x2, .int s, .cell K, .tup ((o ++ [s]).map D.int), x6, .own (fs.map D.int)], h' :: M⟩) :=
    cAsg_of (cBin_of (s1 := ⟨[.cell 0, P, x2, .int s, .cell K, .tup (o.map D.int), x6, .own (fs.map D.int)], h' :: M⟩) (x := .tup (o.map D.int)) rfl (cF_of htup) hadd)
  rw [cSeq_next e5]
  have hK' : (h' :: M)[K]? = some (.own (c.map D.int)) := by
    cases K with
    | zero => omega
    | succ K => simpa using hK
  have hcs : s < (c.length : Int) := by rw [hc]; exact s1
  have hget := cIx_c (M := h' :: M) (i := 4) (ci := cVar 3) (X := .cell K) (c := c) (env := [.cell 0, P, x2, .int s, .cell K, .tup ((o ++ [s]).map D.int), x6, .own (fs.map D.int)]) (.inr ⟨K, rfl, hK'⟩) rfl rfl s0 hcs
  have hval := cF_of (cBin_of (g := gAdd) (cb := cK (.int 1)) (y := .int 1) (d := .int (lk c s + 1)) (cF_of hget) rfl rfl)
  have hset := cSetIx_at (i := 4) (ci := cVar 3) (r := .m K) (k := s) (j := s.toNat) (ds := c.map D.int) hval rfl rfl hK' (by rw [List.length_map]; exact ixN_of s0 hcs)
  rw [show frz (D.int (lk c s + 1)) = .int (lk c s + 1) from rfl, ints_set] at hset
  exact hset
def InvO (n : Nat) (L : List Tri) (P : D) (k : Int) (R : List D) (i : Nat) (s : S) : Prop := ∃ (o : List Int) (h' x3 x6 x7 : D), s = ⟨[.cell 0, P, .int k, x3, .cell (R.length + 1), .tup (o.map D.int), x6, x7], h' :: (R ++ [.own ((cts n o).map D.int)])⟩ ∧ HOk h' ∧ frzn x3 = true ∧ InR n o ∧ o.length = i ∧ Lw L (zeros n) o
theorem freeM_in {L : List Tri} {c : List Int} : InR n (freeM n L c) := fun s hs => mem_r0.mp (List.mem_filter.mp hs).1
theorem freeM_len {L : List Tri} {c : List Int} : (freeM n L c).length ≤ n := by
  unfold freeM
  have := List.length_filter_le (fun s => mayB L c s) (r0 n)
  rw [r0_len] at this
  exact this
theorem InR.snoc {o : List Int} {s : Int} (h : InR n o) (s0 : 0 ≤ s) (s1 : s < n) : InR n (o ++ [s]) := fun x hx => by
  rcases List.mem_append.mp hx with z | z
  · exact h x z
  · rw [List.mem_singleton.mp z]; exact ⟨s0, s1⟩
theorem order_step (hp : ProgOk n ne be) {k : Int} {i : Nat} {d : D} {s : S} (hi : i < 999) (hI : InvO n (ne ++ be) (dParts n ne be) k R i s) : ∃ s1 s2, gN 6 d s = some s1 ∧ b__law_order_2 C w s1 = some (.next, s2) ∧ InvO n (ne ++ be) (dParts n ne be) k R (i + 1) s2 := by
  obtain ⟨o, h', x3, x6, x7, rfl, ok, hf3, ho, hol, hlw⟩ := hI
  have h12 := hp.n2
  have l1 := hp.lne.len
  have l2 := hp.lbe.len
  obtain ⟨rank, hr⟩ := hp.rk
  have hin : ∀ t ∈ ne ++ be, (0 ≤ t.1 ∧ t.1 < (n : Int)) ∧ 0 ≤ t.2.2 ∧ (t.2.2 = 0 → rank t.1 < rank t.2.1) := fun t ht => by
    rcases List.mem_append.mp ht with z | z
    · obtain ⟨a, b, c, d, e, _⟩ := hp.lne.ok t z; exact ⟨⟨a, b⟩, e, hr t ht⟩
    · obtain ⟨a, b, c, d, e, _⟩ := hp.lbe.ok t z; exact ⟨⟨a, b⟩, e, hr t ht⟩
  refine ⟨⟨[.cell 0, dParts n ne be, .int k, x3, .cell (R.length + 1), .tup (o.map D.int), d, x7], h' :: (R ++ [.own ((cts n o).map D.int)])⟩, ?_⟩
  have hcell : (h' :: (R ++ [D.own ((cts n o).map D.int)]))[R.length + 1]? = some (.own ((cts n o).map D.int)) := by simp
  have hX : CAt (.cell (R.length + 1)) (h' :: (R ++ [D.own ((cts n o).map D.int)])) (cts n o) := .inr ⟨_, rfl, hcell⟩
  have hit : itR1 (cCons (cF (cIx 1 (cK (.int 0)))) cNil) ⟨[.cell 0, dParts n ne be, .int k, x3, .cell (R.length + 1), .tup (o.map D.int), d, x7], h' :: (R ++ [D.own ((cts n o).map D.int)])⟩ = some ((r0 n).map D.int, ⟨[.cell 0, dParts n ne be, .int k, x3, .cell (R.length + 1), .tup (o.map D.int), d, x7], h' :: (R ++ [D.own ((cts n o).map D.int)])⟩) := by
    have hc : cF (cIx 1 (cK (.int 0))) ⟨[.cell 0, dParts n ne be, .int k, x3, .cell (R.length + 1), .tup (o.map D.int), d, x7], h' :: (R ++ [D.own ((cts n o).map D.int)])⟩ = some (.int n, ⟨[.cell 0, dParts n ne be, .int k, x3, .cell (R.length + 1), .tup (o.map D.int), d, x7], h' :: (R ++ [D.own ((cts n o).map D.int)])⟩) := rfl
    have := itR1_of hc (small62_of (by omega) (by omega))
    rw [Int.toNat_natCast, rgD_r0] at this
    exact this
  have hlc := lcLoop_pure (js := [3]) (tg := gN 3) (tt := cT (cF (cCall (m__law_may C w) (cCons (cVar 1) (cCons (cVar 4) (cCons (cVar 3) cNil)))))) (te := cVar 3) (s := ⟨[.cell 0, dParts n ne be, .int k, .unb, .cell (R.length + 1), .tup (o.map D.int), d, x7], h' :: (R ++ [D.own ((cts n o).map D.int)])⟩)
    (fun d => match d with | .int s => mayB (ne ++ be) (cts n o) s | _ => false) id ((r0 n).map D.int) [] (by rw [List.length_map, r0_len]; unfold line; simp only [List.length_nil]; omega)
    (fun dd hd => by
      obtain ⟨s, hs, rfl⟩ := List.mem_map.mp hd
      obtain ⟨s0, s1⟩ := mem_r0.mp hs
      have hm := may_ok C w (n := n) (ne := ne) (be := be) hX (cts_len n o) l1 l2 (fun t ht => (hin t ht).1) s0 s1
      exact ⟨⟨[.cell 0, dParts n ne be, .int k, .int s, .cell (R.length + 1), .tup (o.map D.int), d, x7], h' :: (R ++ [D.own ((cts n o).map D.int)])⟩, rfl, cT_of (cF_of (cCall_of (ds := [dParts n ne be, .cell (R.length + 1), .int s]) (s1 := ⟨[.cell 0, dParts n ne be, .int k, .int s, .cell (R.length + 1), .tup (o.map D.int), d, x7], h' :: (R ++ [D.own ((cts n o).map D.int)])⟩) rfl hm)), rfl, fun _ => rfl⟩)
  have e : ([] : List D) ++ ((((r0 n).map D.int).filter fun d => match d with | .int s => mayB (ne ++ be) (cts n o) s | _ => false).map id) = (freeM n (ne ++ be) (cts n o)).map D.int := by
    rw [List.nil_append, List.map_id, List.filter_map]
    rfl
  rw [e] at hlc
  have hfz : allFrz [.cell 0, dParts n ne be, .int k, x3, .cell (R.length + 1), .tup (o.map D.int), d, x7] [3] = true := by
    show (frzn x3 && true) = true
    rw [hf3]
    rfl
  have e7 : cAsg 7 (cLc (itR1 (cCons (cF (cIx 1 (cK (.int 0)))) cNil)) [3] (gN 3) (cT (cF (cCall (m__law_may C w) (cCons (cVar 1) (cCons (cVar 4) (cCons (cVar 3) cNil)))))) (cVar 3)) ⟨[.cell 0, dParts n ne be, .int k, x3, .cell (R.length + 1), .tup (o.map D.int), d, x7], h' :: (R ++ [D.own ((cts n o).map D.int)])⟩ = some (.next, ⟨[.cell 0, dParts n ne be, .int k, x3, .cell (R.length + 1), .tup (o.map D.int), d, .own ((freeM n (ne ++ be) (cts n o)).map D.int)], h' :: (R ++ [D.own ((cts n o).map D.int)])⟩) :=
    cAsg_of (cLc_of hit hfz hlc)
  have hne : freeM n (ne ++ be) (cts n o) ≠ [] := by
    obtain ⟨s, s0, s1, hm⟩ := some_may (c := cts n o) rank hp.n1 (fun t ht => ⟨(hin t ht).1.1, (hin t ht).1.2, (hin t ht).2⟩)
    intro z
    have : s ∈ freeM n (ne ++ be) (cts n o) := List.mem_filter.mpr ⟨mem_r0.mpr ⟨s0, s1⟩, hm⟩
    rw [z] at this
    simp at this
  obtain ⟨s, h2, hs, ok2, et⟩ := or_tail C w (n := n) (P := dParts n ne be) (x2 := .int k) (x3 := x3) (x6 := d) (o := o) ok hne (by have := freeM_len (n := n) (L := ne ++ be) (c := cts n o); omega) freeM_in (cts_len n o) hcell (by omega) (by omega)
  obtain ⟨s0, s1⟩ := freeM_in s hs
  have hms := (List.mem_filter.mp hs).2
  have hset : (h2 :: (R ++ [D.own ((cts n o).map D.int)])).set (R.length + 1) (.own ((bump (cts n o) s).map D.int)) = h2 :: (R ++ [D.own ((cts n (o ++ [s])).map D.int)]) := by
    rw [cts_snoc, List.set_cons_succ, set_last]
  rw [hset] at et
  refine ⟨_, rfl, ?_, o ++ [s], h2, .int s, d, .own ((freeM n (ne ++ be) (cts n o)).map D.int), rfl, ok2, rfl, ho.snoc s0 s1, by rw [List.length_append, hol]; rfl, Lw.app.mpr ⟨hlw, hms, trivial⟩⟩
  unfold b__law_order_2
  rw [cSeq_next e7]
  exact et
theorem order_ok (hp : ProgOk n ne be) {k : Nat} (ok : HOk h) (hk : k < 999) : ∃ (o : List Int) (h' : D) (J : List D), m__law_order C w [.cell 0, dParts n ne be, .int k] (h :: R) = some (.tup (o.map D.int), h' :: (R ++ J)) ∧ HOk h' ∧ InR n o ∧ o.length = k ∧ Lw (ne ++ be) (zeros n) o := by
  have h12 := hp.n2
  have e1 : t__law_order_1 C w ⟨[.cell 0, dParts n ne be, .int k, .unb, .unb, .unb, .unb, .unb], h :: R⟩ = some (.next, ⟨[.cell 0, dParts n ne be, .int k, .unb, .cell (R.length + 1), .unb, .unb, .unb], h :: (R ++ [.own ((cts n []).map D.int)])⟩) := by
    have hc : cF (cIx 1 (cK (.int 0))) ⟨[.cell 0, dParts n ne be, .int k, .unb, .unb, .unb, .unb, .unb], h :: R⟩ = some (.int n, ⟨[.cell 0, dParts n ne be, .int k, .unb, .unb, .unb, .unb, .unb], h :: R⟩) := rfl
    have hit := itR1_of hc (small62_of (by omega) (by omega))
    rw [Int.toNat_natCast, rgD_r0] at hit
    have hlc := lcLoop_pure (js := [3]) (tg := gN 3) (tt := bYes) (te := cK (.int 0)) (s := ⟨[.cell 0, dParts n ne be, .int k, .unb, .unb, .unb, .unb, .unb], h :: R⟩) (fun _ => true) (fun _ => .int 0) ((r0 n).map D.int) [] (by rw [List.length_map, r0_len]; unfold line; simp only [List.length_nil]; omega)
      (fun d hd => ⟨⟨[.cell 0, dParts n ne be, .int k, d, .unb, .unb, .unb, .unb], h :: R⟩, rfl, rfl, rfl, fun _ => rfl⟩)
    have e : ([] : List D) ++ ((((r0 n).map D.int).filter fun _ => true).map fun _ => D.int 0) = (cts n []).map D.int := by
      rw [List.nil_append, List.filter_eq_self.mpr (fun _ _ => rfl), List.map_map]
      show _ = (zeros n).map D.int
      rw [← zeros_D]
      unfold lakO r0
      rw [List.map_map]
      rfl
    rw [e] at hlc
    exact cCell_of (cLc_of hit rfl hlc)
  have e5 : cAsg 5 (cTup cNil) ⟨[.cell 0, dParts n ne be, .int k, .unb, .cell (R.length + 1), .unb, .unb, .unb], h :: (R ++ [D.own ((cts n []).map D.int)])⟩ = some (.next, ⟨[.cell 0, dParts n ne be, .int k, .unb, .cell (R.length + 1), .tup (([] : List Int).map D.int), .unb, .unb], h :: (R ++ [D.own ((cts n []).map D.int)])⟩) := by
    refine cAsg_of (d := .tup []) (s1 := ⟨[.cell 0, dParts n ne be, .int k, .unb, .cell (R.length + 1), .unb, .unb, .unb], h :: (R ++ [D.own ((cts n []).map D.int)])⟩) ?_
    unfold cTup
    rw [cNil_of]
    exact if_pos (show ([] : List D).length ≤ line from Nat.zero_le _)
  obtain ⟨s', e3, o, h', x3, x6, x7, rfl, ok', hf3, ho, hol, hlw⟩ := forLoop_inv (tg := gN 6) (body := b__law_order_2 C w) (InvO n (ne ++ be) (dParts n ne be) k R) (rgD 0 k) 0 _ ⟨[], h, .unb, .unb, .unb, rfl, ok, rfl, fun s hs => by simp at hs, rfl, trivial⟩ (fun i d s hd hI => by
    have hi : i < k := by have := (List.getElem?_eq_some_iff.mp hd).1; rw [rgD_len] at this; exact this
    rw [Nat.zero_add] at hI ⊢
    obtain ⟨s1, s2, a, b, c⟩ := order_step C w hp (by omega) hI
    exact ⟨s1, s2, .next, a, b, .inl rfl, c⟩)
  rw [Nat.zero_add, rgD_len] at hol
  have e4 : t__law_order_3 C w ⟨[.cell 0, dParts n ne be, .int k, .unb, .cell (R.length + 1), .tup (([] : List Int).map D.int), .unb, .unb], h :: (R ++ [D.own ((cts n []).map D.int)])⟩ = some (.next, ⟨[.cell 0, dParts n ne be, .int k, x3, .cell (R.length + 1), .tup (o.map D.int), x6, x7], h' :: (R ++ [.own ((cts n o).map D.int)])⟩) := by
    have hit := itR1_of (c := cVar 2) (s := ⟨[.cell 0, dParts n ne be, .int k, .unb, .cell (R.length + 1), .tup (([] : List Int).map D.int), .unb, .unb], h :: (R ++ [D.own ((cts n []).map D.int)])⟩) (n := (k : Int)) rfl (small62_of (by omega) (by omega))
    rw [Int.toNat_natCast] at hit
    unfold t__law_order_3
    rw [cFor_of hit]
    exact e3
  refine ⟨o, h', [.own ((cts n o).map D.int)], ?_, ok', ho, hol, hlw⟩
  unfold m__law_order
  refine mOf_ret (n := 8) (ds := [.cell 0, dParts n ne be, .int k]) (M := h :: R) (env := [.cell 0, dParts n ne be, .int k, .unb, .unb, .unb, .unb, .unb]) (s' := ⟨[.cell 0, dParts n ne be, .int k, x3, .cell (R.length + 1), .tup (o.map D.int), x6, x7], h' :: (R ++ [.own ((cts n o).map D.int)])⟩) rfl ?_
  unfold c__law_order
  rw [cSeq_next e1, cSeq_next e5, cSeq_next e4]
  rfl
end
end K07

set_option maxRecDepth 100000
set_option maxHeartbeats 1000000
namespace K07
open PySem PySem.Spec PyProof.Rows _root_.L2 Fr
theorem cut_take {α : Type} (xs : List α) (k : Nat) : cut xs none (some (k : Int)) = xs.take k := by
  unfold cut
  rw [HT.sIx_none, HT.sIx_nat, List.drop_zero, Nat.sub_zero]
  by_cases h : k ≤ xs.length
  · rw [Nat.min_eq_left h]
  · rw [Nat.min_eq_right (by omega), List.take_length, List.take_of_length_le (by omega)]
theorem cut_drop {α : Type} (xs : List α) (k : Nat) : cut xs (some (k : Int)) none = xs.drop k := by
  unfold cut
  rw [HT.sIx_none, HT.sIx_nat]
  by_cases h : k ≤ xs.length
  · rw [Nat.min_eq_left h, List.take_of_length_le (by rw [List.length_drop]; exact Nat.le_refl _)]
  · rw [Nat.min_eq_right (by omega), List.drop_of_length_le (Nat.le_refl _), List.drop_of_length_le (by omega), List.take_nil]
theorem cIx_tup {i : Nat} {ci : Fr.C} {s : S} {ds : List D} {k : Int} {d : D} (h1 : s.env[i]? = some (.tup ds)) (h2 : ci s = some (.int k, s)) (h3 : atI ds k = some d) : cIx i ci s = some (d, s) := by
  have hp : plc s i = some (.e i) := by unfold plc; rw [h1]
  have hr : rget s (.e i) = some (.tup ds) := h1
  unfold cIx
  rw [hp]
  dsimp only
  rw [h2]
  dsimp only
  rw [hp]
  dsimp only
  rw [hr]
  dsimp only
  rw [h3]
  rfl
theorem at_ints {o : List Int} {k : Nat} {x : Int} (h : o[k]? = some x) : atI (o.map D.int) (k : Int) = some (.int x) := by
  have hk := (List.getElem?_eq_some_iff.mp h).1
  unfold atI
  rw [List.length_map, ixN_of (by omega) (by omega), Int.toNat_natCast]
  show (o.map D.int)[k]? = _
  rw [List.getElem?_map, h]
  rfl
theorem prog_of {n rr k : Nat} {ps : List Int} {ne be : List Tri} (p : PartsOk rr n ps ne be k) (h : n ≤ 12) (hr : rr ≤ 6) (hk : k ≤ 40) : ProgOk n ne be where
  n1 := p.n1
  n2 := h
  lne := ⟨fun t ht => by
    have q := p.ne.ok t ht
    have := p.len
    exact ⟨q.a0, by have := q.a1; omega, q.b0, by have := q.b1; omega, q.r0, by have := q.r1; omega⟩, p.ne.nd, by have := p.ne.len; omega⟩
  lbe := ⟨fun t ht => by
    have q := p.be.ok t ht
    have := p.len
    exact ⟨q.a0, by have := q.a1; omega, q.b0, by have := q.b1; omega, q.r0, by have := q.r1; omega⟩, p.be.nd, by have := p.be.len; omega⟩
  rk := ⟨fun a => pl ps a, fun t ht => by
    rcases List.mem_append.mp ht with h1 | h1
    · exact (p.ne.ok t h1).z
    · exact (p.be.ok t h1).z⟩
def IsP (C : Addr) (n : Nat) (ne be : List Tri) (P : D) : Prop := P = .oins C fsP (vsP n ne be) ∨ P = dPrg C n ne be
theorem set_same {env : List D} {i : Nat} {x : D} (h : env[i]? = some x) : env.set i x = env := by
  refine List.ext_getElem? fun k => ?_
  by_cases hk : i = k
  · subst hk
    rw [List.getElem?_set_self (List.getElem?_eq_some_iff.mp h).1, h]
  · rw [List.getElem?_set_ne hk]
theorem frz_vsP {n : Nat} {ne be : List Tri} : frzL (vsP n ne be) = vsP n ne be := by
  unfold vsP
  simp only [frzL, frz]
theorem cVar_P {C : Addr} {n : Nat} {ne be : List Tri} {env M : List D} {i : Nat} {P : D} (h : env[i]? = some P) (hP : IsP C n ne be P) : cVar i ⟨env, M⟩ = some (dPrg C n ne be, ⟨env.set i (dPrg C n ne be), M⟩) := by
  rcases hP with rfl | rfl
  · unfold cVar
    dsimp only
    rw [h]
    dsimp only
    rw [frz_vsP]
    rfl
  · have hs := set_same h
    unfold cVar
    dsimp only
    rw [h]
    unfold dPrg at hs ⊢
    dsimp only
    rw [hs]
theorem cat_tup {a b : List D} (h : a.length + b.length ≤ 1000) : gAdd (.tup a) (.tup b) = some (.tup (a ++ b)) := by
  show ((none : Option D).or ((none : Option D).or (gCatT (.tup a) (.tup b)))) = _
  rw [Option.none_or, Option.none_or]
  exact if_pos (by unfold line; omega)
end K07

set_option maxRecDepth 100000
set_option maxHeartbeats 1000000
namespace Fr
open PySem PySem.Spec PyProof.Rows _root_.L2
theorem cIf_t {c : CB} {a b : C} {s s1 : S} (h : c s = some (true, s1)) : cIf c a b s = a s1 := by unfold cIf; rw [h]
theorem cIf_f {c : CB} {a b : C} {s s1 : S} (h : c s = some (false, s1)) : cIf c a b s = b s1 := by unfold cIf; rw [h]
end Fr
namespace K07
open PySem PySem.Spec PyProof.Rows _root_.L2 Fr
theorem cLst_of {cs : S → Option (List D × S)} {s s1 : S} {ds : List D} (h : cs s = some (ds, s1)) (hl : ds.length ≤ 1000) : cLst cs s = some (.own ds, s1) := by
  unfold cLst
  rw [h]
  exact if_pos (by unfold line; omega)
theorem cTup_of {cs : S → Option (List D × S)} {s s1 : S} {ds : List D} (h : cs s = some (ds, s1)) (hl : ds.length ≤ 1000) : cTup cs s = some (.tup ds, s1) := by
  unfold cTup
  rw [h]
  exact if_pos (by unfold line; omega)
end K07

set_option maxRecDepth 100000
set_option maxHeartbeats 1000000
namespace K07
open PySem PySem.Spec PyProof.Rows _root_.L2 Fr
/-! ### things of any kind -/
def stepD (n : Nat) : D → Bool
  | .int i => decide (0 ≤ i ∧ i ≤ (n : Int) - 1)
  | _ => false
def rowD' (n : Nat) : D → Bool
  | .tup ds => ds.all (stepD n)
  | _ => false
/-- a thing that may be handed in -/
def Thing (T : D) : Prop := tyD T ≠ none ∧ ∀ ds, T = .tup ds → ds.length < 1000 ∧ ∀ d ∈ ds, tyD d ≠ none
abbrev NoO : Rs := .exc ⟨1, [], []⟩
section
variable (C : Addr) (w : World) {n : Nat} {ne be : List Tri} {R M : List D} {h : D}
theorem is_integer_any {d : D} (ht : tyD d ≠ none) : m_is_integer C w [d] M = some (.bl (match d with | .int _ => true | _ => false), M) := by
  cases d <;> first | rfl | exact absurd rfl ht
theorem is_between_any {d : D} (l u : Int) (ht : tyD d ≠ none) (hd : ∀ i, d ≠ .int i) : m_is_between C w [.int l, .int u, d] M = some (.bl false, M) := by
  have e : m_is_integer C w [d] M = some (.bl false, M) := by
    rw [is_integer_any C w ht]
    cases d <;> first | rfl | exact absurd rfl (hd _)
  have hv : cVar 2 ⟨[.int l, .int u, d], M⟩ = some (d, ⟨[.int l, .int u, d], M⟩) := by
    cases d <;> first | rfl | exact absurd rfl ht
  unfold m_is_between
  refine mOf_ret (env := [.int l, .int u, d]) (s' := ⟨[.int l, .int u, d], M⟩) rfl ?_
  unfold c_is_between t_is_between_1
  refine cRet_of ?_
  unfold cAndV
  rw [cF_of (cCall_of (cCons_of hv cNil_of) e)]
  rfl
theorem is_step_any {d : D} (ht : tyD d ≠ none) : m_is_step C w [dPrg C n ne be, d] M = some (.bl (stepD n d), M) := by
  by_cases hi : ∃ i, d = .int i
  · obtain ⟨i, rfl⟩ := hi
    exact is_step_ok C w i
  · have hd : ∀ i, d ≠ .int i := fun i e => hi ⟨i, e⟩
    have hv : cVar 1 ⟨[dPrg C n ne be, d], M⟩ = some (d, ⟨[dPrg C n ne be, d], M⟩) := by
      cases d <;> first | rfl | exact absurd rfl ht
    have hsub : cBin Fr.gSub (cAttr C "steps" (cVar 0)) (cK (.int 1)) ⟨[dPrg C n ne be, d], M⟩ = some (.int ((n : Int) - 1), ⟨[dPrg C n ne be, d], M⟩) :=
      cBin_of (attr_steps C (i := 0) rfl) (y := .int 1) rfl rfl
    have hs : stepD n d = false := by
      cases d <;> first | rfl | exact absurd rfl (hd _)
    rw [hs]
    unfold m_is_step
    refine mOf_ret (env := [dPrg C n ne be, d]) (s' := ⟨[dPrg C n ne be, d], M⟩) rfl ?_
    unfold c_is_step t_is_step_1
    exact cRet_of (cCall_of (cCons_of (c := cK (.int 0)) (d := .int 0) (s := ⟨[dPrg C n ne be, d], M⟩) (s1 := ⟨[dPrg C n ne be, d], M⟩) rfl (cCons_of (cF_of hsub) (cCons_of hv cNil_of))) (is_between_any C w 0 ((n : Int) - 1) ht hd))
end
end K07

set_option maxRecDepth 100000
set_option maxHeartbeats 1000000
namespace K07
open PySem PySem.Spec PyProof.Rows _root_.L2 Fr
section
variable (C : Addr) (w : World) {n : Nat} {ne be : List Tri} {R M : List D} {h : D}
theorem mOfX_exc {nn : Nat} {cb : CsX} {ds M env : List D} {s' : S} {x : Exn} (hE : ds ++ List.replicate (nn - ds.length) .unb = env) (h : cb ⟨env, M⟩ = some (.exc x, s')) : mOfX nn cb ds M = some (.exc x, s'.mem) := by
  unfold mOfX
  rw [hE, h]
theorem cIfX_t {c : CB} {a b : CsX} {s s1 : S} (h : c s = some (true, s1)) : cIfX c a b s = a s1 := by unfold cIfX; rw [h]
theorem cIfX_f {c : CB} {a b : CsX} {s s1 : S} (h : c s = some (false, s1)) : cIfX c a b s = b s1 := by unfold cIfX; rw [h]
theorem cSeqX_exc {a b : CsX} {s s1 : S} {x : Exn} (h : a s = some (.exc x, s1)) : cSeqX a b s = some (.exc x, s1) := by unfold cSeqX; rw [h]
theorem cAsgX_exc {i : Nat} {c : CX1} {s s1 : S} {x : Exn} (h : c s = some (.exc x, s1)) : cAsgX i c s = some (.exc x, s1) := by unfold cAsgX; rw [h]
theorem cCallX_of {m : MFX} {cs : S → Option (List D × S)} {s s1 : S} {ds M' : List D} {r : Rs} (h1 : cs s = some (ds, s1)) (h2 : m ds s1.mem = some (r, M')) : cCallX m cs s = some (r, { s1 with mem := M' }) := by unfold cCallX; rw [h1]; dsimp only; rw [h2]
theorem bNot_of {c : CB} {s s1 : S} {b : Bool} (h : c s = some (b, s1)) : bNot c s = some (!b, s1) := by unfold bNot; rw [h]
end
end K07

set_option maxRecDepth 100000
set_option maxHeartbeats 1000000
namespace K07
open PySem PySem.Spec PyProof.Rows _root_.L2 Fr
/-! ### ways along rows, least sums, and how they are found -/
inductive Wy (E : Int → List (Int × Int)) (a : Int) : Int → Int → Prop
  | nil : Wy E a a 0
  | snoc {b c r x : Int} : Wy E a b r → (c, x) ∈ E b → Wy E a c (r + x)
def Ds (E : Int → List (Int × Int)) (a b d : Int) : Prop := Wy E a b d ∧ ∀ r, Wy E a b r → d ≤ r
theorem Ds.uniq {E a b d d'} (h : Ds E a b d) (h' : Ds E a b d') : d = d' := Int.le_antisymm (h.2 _ h'.1) (h'.2 _ h.1)
theorem Wy.app {E : Int → List (Int × Int)} {a b c r s : Int} (h : Wy E a b r) (h2 : Wy E b c s) : Wy E a c (r + s) := by
  induction h2 with
  | nil => rw [Int.add_zero]; exact h
  | snoc _ m ih => rw [← Int.add_assoc]; exact ih.snoc m
theorem Wy.pos {E : Int → List (Int × Int)} {a b r : Int} (hE : ∀ b, ∀ p ∈ E b, 0 ≤ p.2) (h : Wy E a b r) : 0 ≤ r := by
  induction h with
  | nil => exact Int.le_refl _
  | snoc _ m ih => have := hE _ _ m; dsimp only at this; omega
def tget (t : List (Int × Int)) (b : Int) : Option Int := (t.find? fun p => decide (p.1 = b)).map (·.2)
theorem tget_mem {t : List (Int × Int)} {b d : Int} (h : tget t b = some d) : (b, d) ∈ t := by
  unfold tget at h
  cases e : t.find? fun p => decide (p.1 = b) with
  | none => rw [e] at h; cases h
  | some p =>
    rw [e] at h
    have h1 := List.find?_some e
    have h2 := List.mem_of_find?_eq_some e
    simp at h1
    injection h with h
    have : p = (b, d) := Prod.ext h1 h
    rw [← this]
    exact h2
theorem tget_app (t : List (Int × Int)) (b r c : Int) : tget (t ++ [(b, r)]) c = (tget t c).or (if b = c then some r else none) := by
  unfold tget
  rw [List.find?_append]
  cases e : t.find? fun p => decide (p.1 = c) with
  | some p => simp
  | none => by_cases h : b = c <;> simp [h]
theorem tget_none {t : List (Int × Int)} {b : Int} (h : tget t b = none) : ∀ p ∈ t, p.1 ≠ b := by
  intro p hp e
  unfold tget at h
  rw [Option.map_eq_none_iff] at h
  have := List.find?_eq_none.mp h p hp
  simp [e] at this
def dcK (t : List (Int × Int)) : List Key := t.map fun p => .inl p.1
def dcV (t : List (Int × Int)) : List D := t.map fun p => .int p.2
theorem kvGet_t : ∀ (t : List (Int × Int)) (b : Int), kvGet (dcK t) (dcV t) (.inl b) = (tget t b).map D.int
  | [], b => rfl
  | p :: t, b => by
    have ih := kvGet_t t b
    show (if (Sum.inl p.1 : Key) = .inl b then some (D.int p.2) else kvGet (dcK t) (dcV t) (.inl b)) = _
    unfold tget
    rw [List.find?_cons]
    by_cases h : p.1 = b
    · rw [if_pos (by rw [h]), decide_eq_true h]; rfl
    · rw [if_neg (fun z => h (Sum.inl.inj z)), decide_eq_false h, ih]; rfl
theorem kvPut_t {t : List (Int × Int)} {b r : Int} (h : tget t b = none) : kvPut (dcK t) (dcV t) (.inl b) (.int r) = (dcK (t ++ [(b, r)]), dcV (t ++ [(b, r)])) := by
  unfold kvPut
  have e : ((dcK t).any fun k => decide (k = .inl b)) = false := by
    rw [List.any_eq_false]
    intro k hk
    unfold dcK at hk
    obtain ⟨p, hp, rfl⟩ := List.mem_map.mp hk
    have := tget_none h p hp
    simpa using this
  rw [e, if_neg (by decide)]
  unfold dcK dcV
  rw [List.map_append, List.map_append]
  rfl
theorem dcV_frz (t : List (Int × Int)) : (dcV t).all frzn = true := by
  unfold dcV
  rw [List.all_map]
  exact List.all_eq_true.mpr fun _ _ => rfl
structure SI (E : Int → List (Int × Int)) (a : Int) (t q : List (Int × Int)) : Prop where
  key : ∀ p ∈ t, Ds E a p.1 p.2
  qu : ∀ p ∈ q, Wy E a p.2 p.1
  fr : ∀ p ∈ t, ∀ e ∈ E p.1, (tget t e.1).isSome = true ∨ (p.2 + e.2, e.1) ∈ q
  st : (tget t a).isSome = true ∨ (0, a) ∈ q
  od : ∀ pre c d post, t = pre ++ (c, d) :: post → (c = a ∧ d = 0) ∨ ∃ b ∈ pre, ∃ x, (c, x) ∈ E b.1 ∧ d = b.2 + x
  qo : ∀ p ∈ q, p = (0, a) ∨ ∃ b ∈ t, ∃ x, (p.2, x) ∈ E b.1 ∧ p.1 = b.2 + x
theorem SI.least {E : Int → List (Int × Int)} {a : Int} {t q : List (Int × Int)} (hE : ∀ b, ∀ p ∈ E b, 0 ≤ p.2) (I : SI E a t q) {r : Int} (hr : ∀ p ∈ q, r ≤ p.1) : ∀ {c s : Int}, Wy E a c s → (∃ d, tget t c = some d ∧ d ≤ s) ∨ r ≤ s := by
  intro c s h
  induction h with
  | nil =>
    rcases I.st with h | h
    · obtain ⟨d, hd⟩ := Option.isSome_iff_exists.mp h
      exact .inl ⟨d, hd, (I.key _ (tget_mem hd)).2 _ .nil⟩
    · exact .inr (hr _ h)
  | snoc w m ih =>
    rename_i b c s x
    have hx := hE _ _ m
    dsimp only at hx
    rcases ih with ⟨d, hd, hs⟩ | h
    · rcases I.fr _ (tget_mem hd) _ m with h | h
      · obtain ⟨d', hd'⟩ := Option.isSome_iff_exists.mp h
        exact .inl ⟨d', hd', (I.key _ (tget_mem hd')).2 _ (w.snoc m)⟩
      · refine .inr ?_
        have := hr _ h
        dsimp only at this
        omega
    · exact .inr (by omega)
/-- at the end -/
theorem SI.done {E : Int → List (Int × Int)} {a : Int} {t : List (Int × Int)} (hE : ∀ b, ∀ p ∈ E b, 0 ≤ p.2) (I : SI E a t []) (c : Int) : match tget t c with
    | some d => Ds E a c d
    | none => ∀ s, ¬ Wy E a c s := by
  cases h : tget t c with
  | some d => exact I.key _ (tget_mem h)
  | none =>
    intro s hw
    rcases I.least hE (r := s + 1) (fun p hp => by simp at hp) hw with ⟨d, hd, _⟩ | h'
    · rw [h] at hd; cases hd
    · omega
def pushA (t : List (Int × Int)) (r : Int) : List (Int × Int) → List (Int × Int) → List (Int × Int)
  | [], q => q
  | (c, x) :: l, q => if (tget t c).isSome = true then pushA t r l q else pushA t r l (HQ.hpush HQ.ltI q (r + x, c))
theorem pushA_mem (t : List (Int × Int)) (r : Int) (p : Int × Int) : ∀ (l q : List (Int × Int)), p ∈ pushA t r l q ↔ p ∈ q ∨ ∃ e ∈ l, tget t e.1 = none ∧ p = (r + e.2, e.1)
  | [], q => by simp [pushA]
  | (c, x) :: l, q => by
    unfold pushA
    by_cases h : (tget t c).isSome = true
    · rw [if_pos h, pushA_mem t r p l q]
      constructor
      · rintro (h1 | ⟨e, he, h2, h3⟩)
        · exact .inl h1
        · exact .inr ⟨e, List.mem_cons_of_mem _ he, h2, h3⟩
      · rintro (h1 | ⟨e, he, h2, h3⟩)
        · exact .inl h1
        · rcases List.mem_cons.mp he with e1 | he
          · subst e1
            dsimp only at h2
            rw [h2] at h
            cases h
          · exact .inr ⟨e, he, h2, h3⟩
    · rw [if_neg h, pushA_mem t r p l _, (HQ.hpush_perm q (r + x, c)).mem_iff, List.mem_cons]
      have hn : tget t c = none := by simpa using h
      constructor
      · rintro ((h1 | h1) | ⟨e, he, h2, h3⟩)
        · exact .inr ⟨(c, x), List.mem_cons_self .., hn, h1⟩
        · exact .inl h1
        · exact .inr ⟨e, List.mem_cons_of_mem _ he, h2, h3⟩
      · rintro (h1 | ⟨e, he, h2, h3⟩)
        · exact .inl (.inr h1)
        · rcases List.mem_cons.mp he with e1 | he
          · subst e1
            exact .inl (.inl h3)
          · exact .inr ⟨e, he, h2, h3⟩
theorem pushA_heap (t : List (Int × Int)) (r : Int) : ∀ (l q : List (Int × Int)), HQ.IsHeap HQ.ltI q → HQ.IsHeap HQ.ltI (pushA t r l q)
  | [], q, h => h
  | (c, x) :: l, q, h => by
    unfold pushA
    split
    · exact pushA_heap t r l q h
    · exact pushA_heap t r l _ (HQ.hpush_heap HQ.ltI_ord h _)
theorem pushA_len (t : List (Int × Int)) (r : Int) : ∀ (l q : List (Int × Int)), (pushA t r l q).length ≤ q.length + l.length
  | [], q => by simp [pushA]
  | (c, x) :: l, q => by
    unfold pushA
    rw [List.length_cons]
    split
    · have := pushA_len t r l q; omega
    · have := pushA_len t r l (HQ.hpush HQ.ltI q (r + x, c)); rw [HQ.hpush_len] at this; omega
/-- one turn: the least one was there already -/
theorem SI.skip {E : Int → List (Int × Int)} {a r b : Int} {t q q' : List (Int × Int)} (I : SI E a t q) (hp : ((r, b) :: q').Perm q) (h : (tget t b).isSome = true) : SI E a t q' where
  key := I.key
  qu := fun p hq => I.qu p (hp.mem_iff.mp (List.mem_cons_of_mem _ hq))
  fr := fun p h1 e h2 => by
    rcases I.fr p h1 e h2 with z | z
    · exact .inl z
    · rcases List.mem_cons.mp (hp.mem_iff.mpr z) with y | y
      · injection y with y1 y2
        rw [y2]
        exact .inl h
      · exact .inr y
  st := by
    rcases I.st with z | z
    · exact .inl z
    · rcases List.mem_cons.mp (hp.mem_iff.mpr z) with y | y
      · injection y with y1 y2
        rw [y2]
        exact .inl h
      · exact .inr y
  od := I.od
  qo := fun p hq => I.qo p (hp.mem_iff.mp (List.mem_cons_of_mem _ hq))
theorem isSome_app {t : List (Int × Int)} {b r c : Int} (h : (tget t c).isSome = true) : (tget (t ++ [(b, r)]) c).isSome = true := by
  rw [tget_app]
  obtain ⟨d, hd⟩ := Option.isSome_iff_exists.mp h
  rw [hd]
  rfl
/-- one turn: it is new -/
theorem SI.take {E : Int → List (Int × Int)} (hE : ∀ b, ∀ p ∈ E b, 0 ≤ p.2) {a r b : Int} {t q q' : List (Int × Int)} (I : SI E a t q) (hp : ((r, b) :: q').Perm q) (hm : ∀ p ∈ q, r ≤ p.1) (h : tget t b = none) : SI E a (t ++ [(b, r)]) (pushA (t ++ [(b, r)]) r (E b) q') := by
  have hq : (r, b) ∈ q := hp.mem_iff.mp (List.mem_cons_self ..)
  have hd : Ds E a b r := ⟨I.qu _ hq, fun s hs => by
    rcases I.least hE hm hs with ⟨d, e, _⟩ | e
    · rw [h] at e; cases e
    · exact e⟩
  have hb : (tget (t ++ [(b, r)]) b).isSome = true := by rw [tget_app, h]; simp
  refine ⟨fun p h1 => ?_, fun p h1 => ?_, fun p h1 e h2 => ?_, ?_, fun pre c d post e => ?_, fun p h1 => ?_⟩
  · rcases List.mem_append.mp h1 with z | z
    · exact I.key p z
    · rw [List.mem_singleton.mp z]; exact hd
  · rcases (pushA_mem _ _ _ _ _).mp h1 with z | ⟨e, he, _, rfl⟩
    · exact I.qu p (hp.mem_iff.mp (List.mem_cons_of_mem _ z))
    · exact hd.1.snoc he
  · rcases List.mem_append.mp h1 with z | z
    · rcases I.fr p z e h2 with y | y
      · exact .inl (isSome_app y)
      · rcases List.mem_cons.mp (hp.mem_iff.mpr y) with u | u
        · injection u with u1 u2
          rw [u2]
          exact .inl hb
        · exact .inr ((pushA_mem _ _ _ _ _).mpr (.inl u))
    · rw [List.mem_singleton.mp z] at h2 ⊢
      cases hn : tget (t ++ [(b, r)]) e.1 with
      | some d => exact .inl rfl
      | none => exact .inr ((pushA_mem _ _ _ _ _).mpr (.inr ⟨e, h2, hn, rfl⟩))
  · rcases I.st with z | z
    · exact .inl (isSome_app z)
    · rcases List.mem_cons.mp (hp.mem_iff.mpr z) with u | u
      · injection u with u1 u2
        rw [u2]
        exact .inl hb
      · exact .inr ((pushA_mem _ _ _ _ _).mpr (.inl u))
  · rcases List.eq_nil_or_concat post with z | ⟨post', y, z⟩
    · subst z
      obtain ⟨e1, e2⟩ := List.append_inj' e rfl
      injection e2 with e2
      injection e2 with e3 e4
      subst e1 e3 e4
      rcases I.qo _ hq with z | z
      · injection z with z1 z2
        exact .inl ⟨z2, z1⟩
      · exact .inr z
    · rw [z] at e
      have e' : t ++ [(b, r)] = (pre ++ (c, d) :: post') ++ [y] := by rw [e]; simp
      obtain ⟨e1, _⟩ := List.append_inj' e' rfl
      exact I.od pre c d post' e1
  · rcases (pushA_mem _ _ _ _ _).mp h1 with z | ⟨e, he, _, rfl⟩
    · rcases I.qo p (hp.mem_iff.mp (List.mem_cons_of_mem _ z)) with u | ⟨b', hb', u⟩
      · exact .inl u
      · exact .inr ⟨b', List.mem_append_left _ hb', u⟩
    · exact .inr ⟨(b, r), by simp, e.2, he, rfl⟩
theorem SI.start (E : Int → List (Int × Int)) (a : Int) : SI E a [] [(0, a)] :=
  ⟨fun p h => by simp at h, fun p h => by rw [List.mem_singleton.mp h]; exact .nil, fun p h => by simp at h, .inr (by simp), fun pre c d post e => by
    have := congrArg List.length e
    simp at this, fun p h => .inl (List.mem_singleton.mp h)⟩
/-- what is left to be found, and what it may cost -/
def lft (n : Nat) (t : List (Int × Int)) : List Int := (r0 n).filter fun b => !(tget t b).isSome
def cost (n : Nat) (E : Int → List (Int × Int)) (t : List (Int × Int)) : Nat := ((lft n t).map fun b => (E b).length).sum
theorem lft_app {n : Nat} {t : List (Int × Int)} {b r : Int} (h : tget t b = none) (h0 : 0 ≤ b) (h1 : b < n) : (lft n t).Perm (b :: lft n (t ++ [(b, r)])) := by
  have hb : b ∈ lft n t := List.mem_filter.mpr ⟨mem_r0.mpr ⟨h0, h1⟩, by rw [h]; rfl⟩
  have nd : (lft n t).Nodup := (nodup_r0 n).filter _
  have e : lft n (t ++ [(b, r)]) = (lft n t).erase b := by
    rw [nd.erase_eq_filter]
    unfold lft
    rw [List.filter_filter]
    refine List.filter_congr fun c _ => ?_
    rw [tget_app]
    by_cases hc : b = c
    · subst hc; rw [h]; simp
    · cases tget t c <;> simp [hc, Ne.symm hc]
  rw [e]
  exact List.perm_cons_erase hb
theorem perm_sum : ∀ {l m : List Nat}, l.Perm m → l.sum = m.sum := by
  intro l m h
  induction h with
  | nil => rfl
  | cons x _ ih => simp [ih]
  | swap x y l => simp; omega
  | trans _ _ a b => exact a.trans b
theorem cost_app {n : Nat} (E : Int → List (Int × Int)) {t : List (Int × Int)} {b r : Int} (h : tget t b = none) (h0 : 0 ≤ b) (h1 : b < n) : cost n E t = (E b).length + cost n E (t ++ [(b, r)]) ∧ (lft n t).length = 1 + (lft n (t ++ [(b, r)])).length := by
  have p := lft_app (r := r) h h0 h1
  constructor
  · unfold cost
    rw [perm_sum (p.map _)]
    simp
  · rw [p.length_eq, List.length_cons]
    omega
end K07

set_option maxRecDepth 100000
set_option maxHeartbeats 1000000
namespace K07
open PySem PySem.Spec PyProof.Rows _root_.L2 Fr
/-! ### leading_from -/
def prsF (L : List Tri) (s : Int) : List (Int × Int) := (L.filter fun t => decide (t.1 = s)).map fun t => (t.2.1, t.2.2)
def rowsF (n : Nat) (L : List Tri) : List D := (List.range n).map fun (i : Nat) => D.lst ((prsF L i).map dPr)
def rowsFO (n : Nat) (L : List Tri) : List D := (List.range n).map fun (i : Nat) => D.own ((prsF L i).map dPr)
theorem rowsF_len (n : Nat) (L) : (rowsF n L).length = n := by simp [rowsF]
theorem rowsFO_len (n : Nat) (L) : (rowsFO n L).length = n := by simp [rowsFO]
theorem frz_rowsFO (n : Nat) (L) : frzL (rowsFO n L) = rowsF n L := by
  rw [frzL_eq]
  unfold rowsFO rowsF
  rw [List.map_map]
  refine List.map_congr_left fun i hi => ?_
  show D.lst (frzL _) = _
  rw [frz_prs]
theorem prsF_snoc (L : List Tri) (t : Tri) (s : Int) : prsF (L ++ [t]) s = prsF L s ++ (if t.1 = s then [(t.2.1, t.2.2)] else []) := by
  unfold prsF
  rw [List.filter_append, List.map_append]
  by_cases h : t.1 = s <;> simp [h]
theorem prsF_len (L : List Tri) (s : Int) : (prsF L s).length ≤ L.length := by
  unfold prsF
  rw [List.length_map]
  exact List.length_filter_le _ _
section
variable (C : Addr) (w : World) {n : Nat} {M : List D}
theorem lf_step {L0 x2 : D} {L : List Tri} {t : Tri} (b0 : 0 ≤ t.1) (b1 : t.1 < n) (hl : L.length < 1000) :
    b_leading_from_2 C w ⟨[.int n, L0, x2, .own (rowsFO n L), .int t.1, .int t.2.1, .int t.2.2], M⟩ = some (.next, ⟨[.int n, L0, x2, .own (rowsFO n (L ++ [t])), .int t.1, .int t.2.1, .int t.2.2], M⟩) := by
  have ib : ixN (rowsFO n L).length t.1 = some t.1.toNat := by rw [rowsFO_len]; exact ixN_of b0 b1
  have gb : (rowsFO n L)[t.1.toNat]? = some (.own ((prsF L t.1).map dPr)) := by
    unfold rowsFO
    rw [List.getElem?_map, List.getElem?_range (by omega)]
    simp [Int.toNat_of_nonneg b0]
  have hz : ((prsF L t.1).map dPr).length < line := by
    rw [List.length_map]
    have := prsF_len L t.1
    unfold line
    omega
  have htup : cF (cTup (cCons (cVar 5) (cCons (cVar 6) cNil))) ⟨[.int n, L0, x2, .unb, .int t.1, .int t.2.1, .int t.2.2], M⟩ = some (dPr (t.2.1, t.2.2), ⟨[.int n, L0, x2, .unb, .int t.1, .int t.2.1, .int t.2.2], M⟩) := by
    refine cF_of (d := dPr (t.2.1, t.2.2)) ?_
    unfold cTup
    rw [cCons_of (c := cVar 5) (d := .int t.2.1) (s := ⟨[.int n, L0, x2, .unb, .int t.1, .int t.2.1, .int t.2.2], M⟩) (s1 := ⟨[.int n, L0, x2, .unb, .int t.1, .int t.2.1, .int t.2.2], M⟩) rfl (cCons_of (c := cVar 6) (d := .int t.2.2) (s1 := ⟨[.int n, L0, x2, .unb, .int t.1, .int t.2.1, .int t.2.2], M⟩) rfl cNil_of)]
    exact if_pos (show ([.int t.2.1, .int t.2.2] : List D).length ≤ line by unfold line; simp)
  have eb : (rowsFO n L).set t.1.toNat (.own ((prsF L t.1).map dPr ++ [dPr (t.2.1, t.2.2)])) = rowsFO n (L ++ [t]) := by
    unfold rowsFO
    rw [range_set]
    refine List.map_congr_left fun i hi => ?_
    rw [prsF_snoc]
    by_cases hk : i = t.1.toNat
    · rw [if_pos hk, if_pos (by omega), show (i : Int) = t.1 by omega, List.map_append]
      rfl
    · rw [if_neg hk, if_neg (by omega), List.append_nil]
  unfold b_leading_from_2
  have s1 := cDrop_of (cApN_of (s := ⟨[.int n, L0, x2, .own (rowsFO n L), .int t.1, .int t.2.1, .int t.2.2], M⟩) (i := 3) (ci := cVar 4) (k := t.1) (s1 := ⟨[.int n, L0, x2, .own (rowsFO n L), .int t.1, .int t.2.1, .int t.2.2], M⟩) rfl rfl rfl ib gb htup hz)
  rw [eb] at s1
  exact s1
theorem lf_lay {L0 x2 : D} : ∀ (ts pre : List Tri) (x4 x5 x6 : D), (∀ t ∈ ts, 0 ≤ t.1 ∧ t.1 < n) → pre.length + ts.length < 1000 →
    ∃ y4 y5 y6, forLoop (gT (gC (gN 4) (gC (gN 5) (gC (gN 6) gZ)))) (b_leading_from_2 C w) (ts.map dTri) ⟨[.int n, L0, x2, .own (rowsFO n pre), x4, x5, x6], M⟩ = some (.next, ⟨[.int n, L0, x2, .own (rowsFO n (pre ++ ts)), y4, y5, y6], M⟩)
  | [], pre, x4, x5, x6, _, _ => ⟨x4, x5, x6, by rw [List.append_nil]; rfl⟩
  | t :: ts, pre, x4, x5, x6, h, hl => by
    rw [List.length_cons] at hl
    obtain ⟨b0, b1⟩ := h t (List.mem_cons_self ..)
    obtain ⟨y4, y5, y6, e⟩ := lf_lay ts (pre ++ [t]) (.int t.1) (.int t.2.1) (.int t.2.2) (fun u hu => h u (List.mem_cons_of_mem _ hu)) (by rw [List.length_append, List.length_singleton]; omega)
    refine ⟨y4, y5, y6, ?_⟩
    rw [List.append_assoc] at e
    refine Eq.trans ?_ e
    exact forLoop_next (d := dTri t) (s1 := ⟨[.int n, L0, x2, .own (rowsFO n pre), .int t.1, .int t.2.1, .int t.2.2], M⟩) rfl (lf_step C w b0 b1 (by omega))
theorem leadingF_ok {ts : List Tri} (hn : n < 1000) (hl : ts.length < 1000) (h : ∀ t ∈ ts, 0 ≤ t.1 ∧ t.1 < n) : m_leading_from C w [.int n, .tup (ts.map dTri)] M = some (.lst (rowsF n ts), M) := by
  have s1 : t_leading_from_1 C w ⟨[.int n, .tup (ts.map dTri), .unb, .unb, .unb, .unb, .unb], M⟩ = some (.next, ⟨[.int n, .tup (ts.map dTri), .unb, .own (rowsFO n []), .unb, .unb, .unb], M⟩) := by
    have hi := itR1_of (c := cVar 0) (s := ⟨[.int n, .tup (ts.map dTri), .unb, .unb, .unb, .unb, .unb], M⟩) (n := (n : Int)) rfl (small62_of (by omega) (by omega))
    rw [Int.toNat_natCast] at hi
    have hlc := lcLoop_pure (js := [2]) (tg := gN 2) (tt := bYes) (te := cLst cNil) (s := ⟨[.int n, .tup (ts.map dTri), .unb, .unb, .unb, .unb, .unb], M⟩) (fun _ => true) (fun _ => .own []) (rgD 0 n) [] (by rw [rgD_len]; unfold line; simp only [List.length_nil]; omega)
      (fun d hd => ⟨⟨[.int n, .tup (ts.map dTri), d, .unb, .unb, .unb, .unb], M⟩, rfl, rfl, rfl, fun _ => cLst_nil _⟩)
    have e : ([] : List D) ++ (((rgD 0 n).filter fun _ => true).map fun _ => D.own []) = rowsFO n [] := by
      rw [List.nil_append, List.filter_eq_self.mpr (fun _ _ => rfl)]
      unfold rgD rowsFO
      rw [List.map_map]
      rfl
    rw [e] at hlc
    exact cAsg_of (cLc_of hi rfl hlc)
  obtain ⟨y4, y5, y6, s3⟩ := lf_lay C w (n := n) (M := M) (L0 := .tup (ts.map dTri)) (x2 := .unb) ts [] .unb .unb .unb h (by simpa using hl)
  have s4 : t_leading_from_3 C w ⟨[.int n, .tup (ts.map dTri), .unb, .own (rowsFO n []), .unb, .unb, .unb], M⟩ = some (.next, ⟨[.int n, .tup (ts.map dTri), .unb, .own (rowsFO n ts), y4, y5, y6], M⟩) := by
    unfold t_leading_from_3
    rw [cFor_of (s := ⟨[.int n, .tup (ts.map dTri), .unb, .own (rowsFO n []), .unb, .unb, .unb], M⟩) (s1 := ⟨[.int n, .tup (ts.map dTri), .unb, .own (rowsFO n []), .unb, .unb, .unb], M⟩) (it := itS (cVar 1)) (ds := ts.map dTri) rfl]
    exact s3
  unfold m_leading_from
  refine mOf_ret (n := 7) (ds := [.int n, .tup (ts.map dTri)]) (M := M) (env := [.int n, .tup (ts.map dTri), .unb, .unb, .unb, .unb, .unb]) (s' := ⟨[.int n, .tup (ts.map dTri), .unb, .lst (rowsF n ts), y4, y5, y6], M⟩) rfl ?_
  unfold c_leading_from
  rw [cSeq_next s1, cSeq_next s4]
  refine cRet_of ?_
  show some (D.lst (frzL (rowsFO n ts)), (⟨[.int n, .tup (ts.map dTri), .unb, .lst (frzL (rowsFO n ts)), y4, y5, y6], M⟩ : S)) = _
  rw [frz_rowsFO]
end
end K07

set_option maxRecDepth 100000
set_option maxHeartbeats 1000000
namespace K07
open PySem PySem.Spec PyProof.Rows _root_.L2 Fr
/-! ### spread -/
def rowsG (n : Nat) (E : Int → List (Int × Int)) : D := .lst ((List.range n).map fun (i : Nat) => D.lst ((E i).map dPr))
def dicO (t : List (Int × Int)) : D := .odic (dcK t) (dcV t)
def dicF (t : List (Int × Int)) : D := .dic (dcK t) (dcV t)
theorem prsOf_one (p : Int × Int) : prsOf [dPr p] = some [p] := prsOf_map [p]
theorem cHPush_of {i : Nat} {ce : Fr.C} {s s1 : S} {ps ps0 : List (Int × Int)} {p : Int × Int} (h0 : s.env[i]? = some (.own (ps0.map dPr))) (h : ce s = some (dPr p, s1)) (h1 : s1.env[i]? = some (.own (ps.map dPr))) (hz : ps.length < line) :
    cHPush i ce s = some (.non, { s1 with env := s1.env.set i (.own ((HQ.hpush HQ.ltI ps p).map dPr)) }) := by
  have p0 := plc_own h0
  have p1 := plc_own h1
  have r1 : rget s1 (.e i) = some (.own (ps.map dPr)) := h1
  unfold cHPush
  rw [p0]
  dsimp only
  rw [h]
  dsimp only
  rw [p1]
  dsimp only
  rw [r1]
  dsimp only
  rw [prsOf_map, prsOf_one]
  show (if _ then _ else _) = _
  rw [if_pos (by rw [List.length_map]; exact hz)]
  rfl
theorem cHPop_of {i : Nat} {s : S} {ps rest : List (Int × Int)} {p : Int × Int} (h0 : s.env[i]? = some (.own (ps.map dPr))) (h : HQ.hpop HQ.ltI ps = some (p, rest)) : cHPop i s = some (dPr p, { s with env := s.env.set i (.own (rest.map dPr)) }) := by
  have p0 := plc_own h0
  have r1 : rget s (.e i) = some (.own (ps.map dPr)) := h0
  unfold cHPop
  rw [p0]
  dsimp only
  rw [r1]
  dsimp only
  rw [prsOf_map]
  show ((HQ.hpop HQ.ltI ps).map fun q => (dPr q.1, Fr.rset s (.e i) (.own (q.2.map dPr)))) = _
  rw [h]
  rfl
theorem gDic_o {i : Nat} {s : S} {t : List (Int × Int)} (h : s.env[i]? = some (dicO t)) : gDic s i = some (dcK t, dcV t) := by
  have hp : plc s i = some (.e i) := by unfold plc; rw [h]; rfl
  have hr : rget s (.e i) = some (dicO t) := h
  unfold gDic
  rw [hp]
  show (rget s (.e i)).bind _ = _
  rw [hr]
  exact if_pos (dcV_frz t)
theorem gDic_f {i : Nat} {s : S} {t : List (Int × Int)} (h : s.env[i]? = some (dicF t)) : gDic s i = some (dcK t, dcV t) := by
  have hp : plc s i = some (.e i) := by unfold plc; rw [h]; rfl
  have hr : rget s (.e i) = some (dicF t) := h
  unfold gDic
  rw [hp]
  show (rget s (.e i)).bind _ = _
  rw [hr]
  rfl
theorem cInD_of {f : Bool → Bool} {i : Nat} {ce : Fr.C} {s s1 : S} {t : List (Int × Int)} {b : Int} (h : ce s = some (.int b, s1)) (hg : gDic s1 i = some (dcK t, dcV t)) : cInD f i ce s = some (.bl (f (tget t b).isSome), s1) := by
  unfold cInD
  rw [h]
  dsimp only
  rw [hg]
  show some (D.bl (f (kvGet (dcK t) (dcV t) (.inl b)).isSome), s1) = _
  rw [kvGet_t]
  cases tget t b <;> rfl
theorem cPutD_of {i : Nat} {ci cv : Fr.C} {s s1 s2 : S} {t t0 : List (Int × Int)} {b r : Int} (hv : cv s = some (.int r, s1)) (h0 : s1.env[i]? = some (dicO t0)) (hi : ci s1 = some (.int b, s2)) (h1 : s2.env[i]? = some (dicO t)) (hn : tget t b = none) (hz : t.length < line) :
    cPutD i ci cv s = some (.next, { s2 with env := s2.env.set i (dicO (t ++ [(b, r)])) }) := by
  have p0 : plc s1 i = some (.e i) := by unfold plc; rw [h0]; rfl
  have p1 : plc s2 i = some (.e i) := by unfold plc; rw [h1]; rfl
  have r1 : rget s2 (.e i) = some (.odic (dcK t) (dcV t)) := h1
  unfold cPutD
  rw [hv]
  dsimp only
  rw [p0]
  dsimp only
  rw [hi]
  dsimp only
  rw [p1]
  dsimp only
  rw [r1]
  dsimp only
  rw [if_pos ⟨dcV_frz t, by show (dcK t).length < line; unfold dcK; rw [List.length_map]; exact hz⟩]
  show some (Fl.next, Fr.rset s2 (.e i) (.odic (kvPut (dcK t) (dcV t) (.inl b) (.int r)).1 (kvPut (dcK t) (dcV t) (.inl b) (.int r)).2)) = _
  rw [kvPut_t hn]
  rfl
section
variable (C : Addr) (w : World) {n : Nat} {M : List D}
theorem sp_push {R A x6 x7 : D} {t q : List (Int × Int)} {r b c x : Int} (hz : q.length < line) :
    b_spread_2 C w ⟨[R, A, dicO t, .own (q.map dPr), .int r, .int b, .int c, .int x], M⟩ = some (.next, ⟨[R, A, dicO t, .own ((if (tget t c).isSome = true then q else HQ.hpush HQ.ltI q (r + x, c)).map dPr), .int r, .int b, .int c, .int x], M⟩) := by
  have hc : cT (cInD not 2 (cVar 6)) ⟨[R, A, dicO t, .own (q.map dPr), .int r, .int b, .int c, .int x], M⟩ = some (!(tget t c).isSome, ⟨[R, A, dicO t, .own (q.map dPr), .int r, .int b, .int c, .int x], M⟩) :=
    cT_of (cInD_of (ce := cVar 6) (b := c) (s1 := ⟨[R, A, dicO t, .own (q.map dPr), .int r, .int b, .int c, .int x], M⟩) rfl (gDic_o rfl))
  unfold b_spread_2
  cases h : (tget t c).isSome with
  | true =>
    rw [h] at hc
    rw [cIfS_f hc, if_pos rfl]
    rfl
  | false =>
    rw [h] at hc
    rw [cIfS_t hc, if_neg (by decide)]
    have he : cF (cTup (cCons (cF (cBin gAdd (cVar 4) (cVar 7))) (cCons (cVar 6) cNil))) ⟨[R, A, dicO t, .own (q.map dPr), .int r, .int b, .int c, .int x], M⟩ = some (dPr (r + x, c), ⟨[R, A, dicO t, .own (q.map dPr), .int r, .int b, .int c, .int x], M⟩) :=
      cF_of (d := dPr (r + x, c)) (cTup_of (ds := [.int (r + x), .int c]) (cCons_of (d := .int (r + x)) (s1 := ⟨[R, A, dicO t, .own (q.map dPr), .int r, .int b, .int c, .int x], M⟩) rfl (cCons_of (c := cVar 6) (d := .int c) (s1 := ⟨[R, A, dicO t, .own (q.map dPr), .int r, .int b, .int c, .int x], M⟩) rfl cNil_of)) (by simp))
    exact cDrop_of (cHPush_of (i := 3) (ps0 := q) rfl he (ps := q) rfl hz)
theorem sp_for {R A : D} {t : List (Int × Int)} {r b : Int} : ∀ (l q : List (Int × Int)) (x6 x7 : D), q.length + l.length < line →
    ∃ y6 y7, forLoop (gT (gC (gN 6) (gC (gN 7) gZ))) (b_spread_2 C w) (l.map dPr) ⟨[R, A, dicO t, .own (q.map dPr), .int r, .int b, x6, x7], M⟩ = some (.next, ⟨[R, A, dicO t, .own ((pushA t r l q).map dPr), .int r, .int b, y6, y7], M⟩)
  | [], q, x6, x7, _ => ⟨x6, x7, rfl⟩
  | (c, x) :: l, q, x6, x7, hz => by
    rw [List.length_cons] at hz
    have hl : (if (tget t c).isSome = true then q else HQ.hpush HQ.ltI q (r + x, c)).length + l.length < line := by
      split
      · omega
      · rw [HQ.hpush_len]; omega
    obtain ⟨y6, y7, e⟩ := sp_for (R := R) (A := A) (t := t) (r := r) (b := b) l _ (.int c) (.int x) hl
    refine ⟨y6, y7, ?_⟩
    have hs := sp_push C w (M := M) (R := R) (A := A) (x6 := x6) (x7 := x7) (t := t) (q := q) (r := r) (b := b) (c := c) (x := x) (by omega)
    rw [List.map_cons, forLoop_next (d := dPr (c, x)) (s1 := ⟨[R, A, dicO t, .own (q.map dPr), .int r, .int b, .int c, .int x], M⟩) rfl hs, e, show pushA t r ((c, x) :: l) q = pushA t r l (if (tget t c).isSome = true then q else HQ.hpush HQ.ltI q (r + x, c)) from by
      show (if _ then _ else _) = _
      split <;> rfl]
theorem rowsG_at {E : Int → List (Int × Int)} {b : Int} (b0 : 0 ≤ b) (b1 : b < n) : atI ((List.range n).map fun (i : Nat) => D.lst ((E i).map dPr)) b = some (.lst ((E b).map dPr)) := by
  unfold atI
  rw [List.length_map, List.length_range, ixN_of b0 b1]
  show ((List.range n).map fun (i : Nat) => D.lst ((E i).map dPr))[b.toNat]? = _
  rw [List.getElem?_map, List.getElem?_range (by omega)]
  simp [Int.toNat_of_nonneg b0]
theorem sp_while {A : D} {E : Int → List (Int × Int)} {a : Int} (hE : ∀ b, ∀ p ∈ E b, 0 ≤ p.2 ∧ 0 ≤ p.1 ∧ p.1 < n) (hn : n < 1000) : ∀ (k : Nat) (t q : List (Int × Int)) (x4 x5 x6 x7 : D), k < 100000 → q.length + cost n E t ≤ k → t.length + (lft n t).length ≤ n →
    SI E a t q → HQ.IsHeap HQ.ltI q → (∀ p ∈ q, 0 ≤ p.2 ∧ p.2 < n) → (∀ p ∈ t, 0 ≤ p.1 ∧ p.1 < n) →
    ∃ t' y4 y5 y6 y7, t_spread_4 C w ⟨[rowsG n E, A, dicO t, .own (q.map dPr), x4, x5, x6, x7], M⟩ = some (.next, ⟨[rowsG n E, A, dicO t', .own [], y4, y5, y6, y7], M⟩) ∧ SI E a t' [] ∧ (∀ p ∈ t', 0 ≤ p.1 ∧ p.1 < n) ∧ t'.length ≤ n := by
  intro k
  induction k with
  | zero =>
    intro t q x4 x5 x6 x7 _ hk ht I hh hq hr
    have : q = [] := List.length_eq_zero_iff.mp (by omega)
    subst this
    exact ⟨t, x4, x5, x6, x7, cWhile_f rfl, I, hr, by omega⟩
  | succ k ih =>
    intro t q x4 x5 x6 x7 hk1 hk ht I hh hq hr
    by_cases hne : q = []
    · subst hne
      exact ⟨t, x4, x5, x6, x7, cWhile_f rfl, I, hr, by omega⟩
    obtain ⟨⟨r, b⟩, q', hp, pp, hh', hmin⟩ := HQ.hpop_spec HQ.ltI_ord hh hne
    have hmin' : ∀ p ∈ q, r ≤ p.1 := fun p hp => HQ.ltI_no (hmin p hp)
    have hb : (r, b) ∈ q := pp.mem_iff.mp (List.mem_cons_self ..)
    obtain ⟨b0, b1⟩ := hq _ hb
    dsimp only at b0 b1
    have hlen : q'.length + 1 = q.length := by have := pp.length_eq; simpa using this
    have hq' : ∀ p ∈ q', 0 ≤ p.2 ∧ p.2 < n := fun p h => hq p (pp.mem_iff.mp (List.mem_cons_of_mem _ h))
    have hw : cT (cBin gGt (cF (cLenP 3)) (cK (.int 0))) ⟨[rowsG n E, A, dicO t, .own (q.map dPr), x4, x5, x6, x7], M⟩ = some (true, ⟨[rowsG n E, A, dicO t, .own (q.map dPr), x4, x5, x6, x7], M⟩) := by
      refine cT_of (cBin_of (cF_of (d := .int (q.map dPr).length) rfl) (s2 := ⟨[rowsG n E, A, dicO t, .own (q.map dPr), x4, x5, x6, x7], M⟩) (y := .int 0) rfl ?_)
      show some (D.bl (decide ((0 : Int) < ((q.map dPr).length : Nat)))) = _
      rw [List.length_map, decide_eq_true (by omega)]
    have e1 : (cAsgG (gT (gC (gN 4) (gC (gN 5) gZ))) (cF (cHPop 3))) ⟨[rowsG n E, A, dicO t, .own (q.map dPr), x4, x5, x6, x7], M⟩ = some (.next, ⟨[rowsG n E, A, dicO t, .own (q'.map dPr), .int r, .int b, x6, x7], M⟩) := by
      unfold cAsgG
      rw [cF_of (cHPop_of (i := 3) rfl hp)]
      rfl
    have hc : cT (cInD not 2 (cVar 5)) ⟨[rowsG n E, A, dicO t, .own (q'.map dPr), .int r, .int b, x6, x7], M⟩ = some (!(tget t b).isSome, ⟨[rowsG n E, A, dicO t, .own (q'.map dPr), .int r, .int b, x6, x7], M⟩) :=
      cT_of (cInD_of (ce := cVar 5) (b := b) (s1 := ⟨[rowsG n E, A, dicO t, .own (q'.map dPr), .int r, .int b, x6, x7], M⟩) rfl (gDic_o rfl))
    cases h : (tget t b).isSome with
    | true =>
      rw [h] at hc
      obtain ⟨t', y4, y5, y6, y7, e, r1, r2, r3⟩ := ih t q' (.int r) (.int b) x6 x7 (by omega) (by omega) ht (I.skip pp h) hh' hq' hr
      refine ⟨t', y4, y5, y6, y7, cWhile_t hw ?_ e, r1, r2, r3⟩
      unfold b_spread_3
      rw [cSeq_next e1, cIfS_f hc]
      rfl
    | false =>
      rw [h] at hc
      have hn0 : tget t b = none := by simpa using h
      obtain ⟨c1, c2⟩ := cost_app E (r := r) hn0 b0 b1
      have hE' : ∀ b, ∀ p ∈ E b, 0 ≤ p.2 := fun b p hp => (hE b p hp).1
      have I2 := I.take hE' pp hmin' hn0
      have hz : q'.length + (E b).length < line := by unfold line; omega
      obtain ⟨z6, z7, e3⟩ := sp_for C w (M := M) (R := rowsG n E) (A := A) (t := t ++ [(b, r)]) (r := r) (b := b) (E b) q' x6 x7 hz
      have hl := pushA_len (t ++ [(b, r)]) r (E b) q'
      obtain ⟨t', y4, y5, y6, y7, e, r1, r2, r3⟩ := ih (t ++ [(b, r)]) (pushA (t ++ [(b, r)]) r (E b) q') (.int r) (.int b) z6 z7 (by omega) (by omega) (by rw [List.length_append, List.length_singleton]; omega) I2 (pushA_heap _ _ _ _ hh') (fun p hp => by
        rcases (pushA_mem _ _ _ _ _).mp hp with z | ⟨e, he, _, rfl⟩
        · exact hq' p z
        · exact (hE b e he).2) (fun p hp => by
        rcases List.mem_append.mp hp with z | z
        · exact hr p z
        · rw [List.mem_singleton.mp z]; exact ⟨b0, b1⟩)
      refine ⟨t', y4, y5, y6, y7, cWhile_t hw ?_ e, r1, r2, r3⟩
      unfold b_spread_3
      rw [cSeq_next e1, cIfS_t hc, cSeq_next (cPutD_of (i := 2) (ci := cVar 5) (cv := cVar 4) (t0 := t) (t := t) (b := b) (r := r) (s1 := ⟨[rowsG n E, A, dicO t, .own (q'.map dPr), .int r, .int b, x6, x7], M⟩) (s2 := ⟨[rowsG n E, A, dicO t, .own (q'.map dPr), .int r, .int b, x6, x7], M⟩) rfl rfl rfl rfl hn0 (by unfold line; omega))]
      have hit : itS (cF (cIx 0 (cVar 5))) ⟨[rowsG n E, A, dicO (t ++ [(b, r)]), .own (q'.map dPr), .int r, .int b, x6, x7], M⟩ = some ((E b).map dPr, ⟨[rowsG n E, A, dicO (t ++ [(b, r)]), .own (q'.map dPr), .int r, .int b, x6, x7], M⟩) := by
        have hrow : cIx 0 (cVar 5) ⟨[rowsG n E, A, dicO (t ++ [(b, r)]), .own (q'.map dPr), .int r, .int b, x6, x7], M⟩ = some (.lst ((E b).map dPr), ⟨[rowsG n E, A, dicO (t ++ [(b, r)]), .own (q'.map dPr), .int r, .int b, x6, x7], M⟩) := by
          show ((atI ((List.range n).map fun (i : Nat) => D.lst ((E i).map dPr)) b).map fun d => (d, (⟨[rowsG n E, A, dicO (t ++ [(b, r)]), .own (q'.map dPr), .int r, .int b, x6, x7], M⟩ : S))) = _
          rw [rowsG_at b0 b1]
          rfl
        unfold itS
        rw [cF_of hrow]
        rfl
      show cFor (itS (cF (cIx 0 (cVar 5)))) _ _ ⟨[rowsG n E, A, dicO (t ++ [(b, r)]), .own (q'.map dPr), .int r, .int b, x6, x7], M⟩ = _
      rw [cFor_of hit]
      exact e3
theorem spread_ok {E : Int → List (Int × Int)} {a : Int} (hE : ∀ b, ∀ p ∈ E b, 0 ≤ p.2 ∧ 0 ≤ p.1 ∧ p.1 < n) (hn : n < 1000) (a0 : 0 ≤ a) (a1 : a < n) (hc : cost n E [] < 99990) :
    ∃ t, m_spread C w [rowsG n E, .int a] M = some (dicF t, M) ∧ (∀ c, match tget t c with | some d => Ds E a c d | none => ∀ s, ¬ Wy E a c s) ∧ (∀ p ∈ t, 0 ≤ p.1 ∧ p.1 < n) ∧ t.length ≤ n ∧
      (∀ pre c d post, t = pre ++ (c, d) :: post → (c = a ∧ d = 0) ∨ ∃ b ∈ pre, ∃ x, (c, x) ∈ E b.1 ∧ d = b.2 + x) := by
  have hl0 : ([] : List (Int × Int)).length + (lft n []).length ≤ n := by
    have h1 := List.length_filter_le (fun b => !(tget [] b).isSome) (r0 n)
    rw [r0_len] at h1
    unfold lft
    simp only [List.length_nil]
    omega
  obtain ⟨t, y4, y5, y6, y7, e, I, hr, hl⟩ := sp_while C w (M := M) (A := .int a) hE hn (1 + cost n E []) [] [(0, a)] .unb .unb .unb .unb (by omega) (by simp) hl0 (SI.start E a) (HQ.heap_one _) (fun p hp => by rw [List.mem_singleton.mp hp]; exact ⟨a0, a1⟩) (fun p hp => by simp at hp)
  refine ⟨t, ?_, I.done fun b p hp => (hE b p hp).1, hr, hl, I.od⟩
  unfold m_spread
  refine mOf_ret (n := 8) (ds := [rowsG n E, .int a]) (M := M) (env := [rowsG n E, .int a, .unb, .unb, .unb, .unb, .unb, .unb]) (s' := ⟨[rowsG n E, .int a, dicF t, .own [], y4, y5, y6, y7], M⟩) rfl ?_
  have s1 : cAsg 2 (cK (.odic [] [])) ⟨[rowsG n E, .int a, .unb, .unb, .unb, .unb, .unb, .unb], M⟩ = some (.next, ⟨[rowsG n E, .int a, dicO [], .unb, .unb, .unb, .unb, .unb], M⟩) := rfl
  have s2 : t_spread_1 C w ⟨[rowsG n E, .int a, dicO [], .unb, .unb, .unb, .unb, .unb], M⟩ = some (.next, ⟨[rowsG n E, .int a, dicO [], .own ([((0 : Int), a)].map dPr), .unb, .unb, .unb, .unb], M⟩) := by
    refine cAsg_of (i := 3) (s1 := ⟨[rowsG n E, .int a, dicO [], .unb, .unb, .unb, .unb, .unb], M⟩) (d := .own ([((0 : Int), a)].map dPr)) (cLst_of (ds := [dPr (0, a)]) (cCons_of (d := dPr (0, a)) (s1 := ⟨[rowsG n E, .int a, dicO [], .unb, .unb, .unb, .unb, .unb], M⟩) ?_ cNil_of) (by simp))
    refine cF_of (d := dPr (0, a)) (cTup_of (ds := [.int 0, .int a]) (cCons_of (c := cK (.int 0)) (d := .int 0) (s1 := ⟨[rowsG n E, .int a, dicO [], .unb, .unb, .unb, .unb, .unb], M⟩) rfl (cCons_of (c := cVar 1) (d := .int a) (s1 := ⟨[rowsG n E, .int a, dicO [], .unb, .unb, .unb, .unb, .unb], M⟩) rfl cNil_of)) (by simp))
  unfold c_spread
  rw [cSeq_next s1, cSeq_next s2, cSeq_next e]
  refine cRet_of ?_
  show some (D.dic (dcK t) (frzL (dcV t)), (⟨[rowsG n E, .int a, .dic (dcK t) (frzL (dcV t)), .own [], y4, y5, y6, y7], M⟩ : S)) = _
  have hf : frzL (dcV t) = dcV t := frz_all fun d hd => by
    unfold dcV at hd
    obtain ⟨p, _, rfl⟩ := List.mem_map.mp hd
    rfl
  rw [hf]
  rfl
end
end K07

set_option maxRecDepth 100000
set_option maxHeartbeats 1000000
namespace K07
open PySem PySem.Spec PyProof.Rows _root_.L2 Fr
/-! ### least_from, ahead -/
def LkOk (n : Nat) (L : List Tri) : Prop := ∀ t ∈ L, 0 ≤ t.1 ∧ t.1 < n ∧ 0 ≤ t.2.1 ∧ t.2.1 < n ∧ 0 ≤ t.2.2
theorem ProgOk.lk {n : Nat} {ne be : List Tri} (h : ProgOk n ne be) : LkOk n (ne ++ be) := fun t ht => by
  rcases List.mem_append.mp ht with z | z
  · have := h.lne.ok t z; omega
  · have := h.lbe.ok t z; omega
theorem prsF_E {n : Nat} {L : List Tri} (h : LkOk n L) : ∀ b, ∀ p ∈ prsF L b, 0 ≤ p.2 ∧ 0 ≤ p.1 ∧ p.1 < n := fun b p hp => by
  unfold prsF at hp
  obtain ⟨t, ht, rfl⟩ := List.mem_map.mp hp
  have := h t (List.mem_filter.mp ht).1
  dsimp only
  omega
theorem mem_prsF {L : List Tri} {b c x : Int} : (c, x) ∈ prsF L b ↔ (b, c, x) ∈ L := by
  unfold prsF
  rw [List.mem_map]
  constructor
  · rintro ⟨t, ht, e⟩
    obtain ⟨h1, h2⟩ := List.mem_filter.mp ht
    have h2 := of_decide_eq_true h2
    injection e with e1 e2
    have : t = (b, c, x) := Prod.ext h2 (Prod.ext e1 e2)
    rw [← this]
    exact h1
  · intro h
    exact ⟨(b, c, x), List.mem_filter.mpr ⟨h, by simp⟩, rfl⟩
theorem cost_le {n : Nat} {E : Int → List (Int × Int)} {m : Nat} (h : ∀ b, (E b).length ≤ m) (t : List (Int × Int)) : cost n E t ≤ n * m := by
  have key : ∀ l : List Int, (l.map fun b => (E b).length).sum ≤ l.length * m := by
    intro l
    induction l with
    | nil => simp
    | cons b l ih =>
      have := h b
      simp only [List.map_cons, List.sum_cons, List.length_cons, Nat.add_mul]
      omega
  unfold cost
  refine Nat.le_trans (key _) (Nat.mul_le_mul_right m ?_)
  have := List.length_filter_le (fun b => !(tget t b).isSome) (r0 n)
  rw [r0_len] at this
  exact this
section
variable (C : Addr) (w : World) {n : Nat} {ne be : List Tri} {M : List D}
/-- the least sums from a step -/
def FrmT (n : Nat) (L : List Tri) (a : Int) (t : List (Int × Int)) : Prop := (∀ c, match tget t c with | some d => Ds (prsF L) a c d | none => ∀ s, ¬ Wy (prsF L) a c s) ∧ (∀ p ∈ t, 0 ≤ p.1 ∧ p.1 < n) ∧ t.length ≤ n ∧
  (∀ pre c d post, t = pre ++ (c, d) :: post → (c = a ∧ d = 0) ∨ ∃ b ∈ pre, ∃ x, (c, x) ∈ prsF L b.1 ∧ d = b.2 + x)
theorem least_from_ok (hp : ProgOk n ne be) {a : Int} (a0 : 0 ≤ a) (a1 : a < n) : ∃ t, m_least_from C w [dPrg C n ne be, .int a] M = some (dicF t, M) ∧ FrmT n (ne ++ be) a t := by
  have h12 := hp.n2
  have l1 := hp.lne.len
  have l2 := hp.lbe.len
  have lk := hp.lk
  obtain ⟨t, e, h⟩ := spread_ok C w (M := M) (prsF_E lk) (a := a) (by omega) a0 a1 (by
    have := cost_le (n := n) (E := prsF (ne ++ be)) (m := 80) (fun b => Nat.le_trans (prsF_len _ _) (by rw [List.length_append]; omega)) []
    have h2 : n * 80 ≤ 12 * 80 := Nat.mul_le_mul_right 80 h12
    omega)
  refine ⟨t, ?_, h⟩
  unfold m_least_from
  refine mOf_ret (n := 2) (ds := [dPrg C n ne be, .int a]) (M := M) (env := [dPrg C n ne be, .int a]) (s' := ⟨[dPrg C n ne be, .int a], M⟩) rfl ?_
  unfold c_least_from t_least_from_1
  have e1 := links_of_ok C w (n := n) (M := M) l1 l2
  have e2 := leadingF_ok C w (n := n) (M := M) (ts := ne ++ be) (by omega) (by rw [List.length_append]; omega) (fun t ht => ⟨(lk t ht).1, (lk t ht).2.1⟩)
  have c1 : cCall (m_links_of C w) (cCons (cVar 0) cNil) ⟨[dPrg C n ne be, .int a], M⟩ = some (.tup ((ne ++ be).map dTri), ⟨[dPrg C n ne be, .int a], M⟩) := cCall_of (s1 := ⟨[dPrg C n ne be, .int a], M⟩) (cCons_of (c := cVar 0) (d := dPrg C n ne be) (s1 := ⟨[dPrg C n ne be, .int a], M⟩) rfl cNil_of) e1
  have c2 : cCall (m_leading_from C w) (cCons (cAttr C "steps" (cVar 0)) (cCons (cF (cCall (m_links_of C w) (cCons (cVar 0) cNil))) cNil)) ⟨[dPrg C n ne be, .int a], M⟩ = some (.lst (rowsF n (ne ++ be)), ⟨[dPrg C n ne be, .int a], M⟩) :=
    cCall_of (cCons_of (attr_steps (C := C) (n := n) (ne := ne) (be := be) rfl) (cCons_of (cF_of c1) cNil_of)) e2
  exact cRet_of (cCall_of (cCons_of (cF_of c2) (cCons_of (c := cVar 1) (d := .int a) (s1 := ⟨[dPrg C n ne be, .int a], M⟩) rfl cNil_of)) e)
def optI : Option Int → D
  | none => .non
  | some i => .int i
theorem ahead_ok (hp : ProgOk n ne be) {a b : Int} (a0 : 0 ≤ a) (a1 : a < n) (b0 : 0 ≤ b) (b1 : b < n) {P : D} (hP : P = dPrg C n ne be) : ∃ t, m_ahead C w [P, .int b, .int a] M = some (optI (tget t b), M) ∧ FrmT n (ne ++ be) a t := by
  subst hP
  obtain ⟨t, e, h⟩ := least_from_ok C w (M := M) hp a0 a1
  refine ⟨t, ?_, h⟩
  unfold m_ahead
  refine mOf_ret (n := 3) (ds := [dPrg C n ne be, .int b, .int a]) (M := M) (env := [dPrg C n ne be, .int b, .int a]) (s' := ⟨[dPrg C n ne be, .int b, .int a], M⟩) rfl ?_
  have q1 := is_step_ok C w (n := n) (ne := ne) (be := be) (M := M) b
  have q2 := is_step_ok C w (n := n) (ne := ne) (be := be) (M := M) a
  rw [decide_eq_true (by omega)] at q1 q2
  have s1 : t_ahead_1 C w ⟨[dPrg C n ne be, .int b, .int a], M⟩ = some (.next, ⟨[dPrg C n ne be, .int b, .int a], M⟩) := by
    unfold t_ahead_1
    have c1 : bNot (cT (cF (cCall (m_is_step C w) (cCons (cVar 0) (cCons (cVar 1) cNil))))) ⟨[dPrg C n ne be, .int b, .int a], M⟩ = some (false, ⟨[dPrg C n ne be, .int b, .int a], M⟩) :=
      bNot_of (cT_of (cF_of (cCall_of (cCons_of (c := cVar 0) (d := dPrg C n ne be) rfl (cCons_of (c := cVar 1) (d := .int b) (s1 := ⟨[dPrg C n ne be, .int b, .int a], M⟩) rfl cNil_of)) q1)))
    have c2 : bNot (cT (cF (cCall (m_is_step C w) (cCons (cVar 0) (cCons (cVar 2) cNil))))) ⟨[dPrg C n ne be, .int b, .int a], M⟩ = some (false, ⟨[dPrg C n ne be, .int b, .int a], M⟩) :=
      bNot_of (cT_of (cF_of (cCall_of (cCons_of (c := cVar 0) (d := dPrg C n ne be) rfl (cCons_of (c := cVar 2) (d := .int a) (s1 := ⟨[dPrg C n ne be, .int b, .int a], M⟩) rfl cNil_of)) q2)))
    rw [cIfS_f (s1 := ⟨[dPrg C n ne be, .int b, .int a], M⟩) (by unfold bOr; rw [c1]; exact c2)]
    rfl
  unfold c_ahead
  rw [cSeq_next s1]
  unfold t_ahead_2
  refine cRet_of ?_
  unfold cGet1
  have c3 : cF (cCall (m_least_from C w) (cCons (cVar 0) (cCons (cVar 2) cNil))) ⟨[dPrg C n ne be, .int b, .int a], M⟩ = some (.dic (dcK t) (dcV t), ⟨[dPrg C n ne be, .int b, .int a], M⟩) :=
    cF_of (d := .dic (dcK t) (dcV t)) (cCall_of (cCons_of (c := cVar 0) (d := dPrg C n ne be) rfl (cCons_of (c := cVar 2) (d := .int a) (s1 := ⟨[dPrg C n ne be, .int b, .int a], M⟩) rfl cNil_of)) e)
  rw [c3]
  show some ((kvGet (dcK t) (dcV t) (.inl b)).getD .non, _) = _
  rw [kvGet_t]
  cases tget t b <;> rfl
end
end K07

set_option maxRecDepth 100000
set_option maxHeartbeats 1000000
namespace K07
open PySem PySem.Spec PyProof.Rows _root_.L2 Fr
theorem bAnd_t {a b : CB} {s s1 : S} (h : a s = some (true, s1)) : bAnd a b s = b s1 := by unfold bAnd; rw [h]
theorem bAnd_f {a b : CB} {s s1 : S} (h : a s = some (false, s1)) : bAnd a b s = some (false, s1) := by unfold bAnd; rw [h]
theorem bOr_t {a b : CB} {s s1 : S} (h : a s = some (true, s1)) : bOr a b s = some (true, s1) := by unfold bOr; rw [h]
theorem bOr_f {a b : CB} {s s1 : S} (h : a s = some (false, s1)) : bOr a b s = b s1 := by unfold bOr; rw [h]
/-! ### the law's own table of a step -/
def fo (F : List (Option Int)) (c : Int) : Option Int := (F[c.toNat]?).getD none
def minO : Option Int → Int → Option Int
  | none, y => some y
  | some u, y => if y < u then some y else some u
def rx (F : List (Option Int)) (t : Tri) : List (Option Int) := match fo F t.1 with
  | none => F
  | some v => F.set t.2.1.toNat (minO (fo F t.2.1) (v + t.2.2))
theorem rx_len (F : List (Option Int)) (t : Tri) : (rx F t).length = F.length := by
  unfold rx
  split
  · rfl
  · simp
theorem fo_set {F : List (Option Int)} {b c : Int} {x : Option Int} (b0 : 0 ≤ b) (b1 : b < F.length) (c0 : 0 ≤ c) : fo (F.set b.toNat x) c = if c = b then x else fo F c := by
  unfold fo
  by_cases h : c = b
  · subst h
    rw [if_pos rfl, List.getElem?_set_self (by omega)]
    rfl
  · rw [if_neg h, List.getElem?_set_ne (by omega)]
theorem fo_get {F : List (Option Int)} {c : Int} (c0 : 0 ≤ c) (c1 : c < F.length) : (F.map optI)[c.toNat]? = some (optI (fo F c)) := by
  unfold fo
  rw [List.getElem?_map, List.getElem?_eq_getElem (by omega)]
  rfl
def LeF (n : Nat) (F F' : List (Option Int)) : Prop := ∀ c v : Int, 0 ≤ c → c < n → fo F c = some v → ∃ v', fo F' c = some v' ∧ v' ≤ v
theorem LeF.rfl' {n F} : LeF n F F := fun c v _ _ h => ⟨v, h, Int.le_refl _⟩
theorem LeF.tr {n F G H} (a : LeF n F G) (b : LeF n G H) : LeF n F H := fun c v h0 h1 h => by
  obtain ⟨u, hu, hl⟩ := a c v h0 h1 h
  obtain ⟨x, hx, hl2⟩ := b c u h0 h1 hu
  exact ⟨x, hx, Int.le_trans hl2 hl⟩
theorem rx_le {n : Nat} {F : List (Option Int)} {t : Tri} (hF : F.length = n) (b0 : 0 ≤ t.2.1) (b1 : t.2.1 < n) : LeF n F (rx F t) := fun c v c0 c1 h => by
  unfold rx
  cases h1 : fo F t.1 with
  | none => exact ⟨v, h, Int.le_refl _⟩
  | some u =>
    dsimp only
    rw [fo_set b0 (by omega) c0]
    by_cases e : c = t.2.1
    · subst e
      rw [if_pos rfl, h]
      show ∃ v', (if u + t.2.2 < v then some (u + t.2.2) else some v) = some v' ∧ v' ≤ v
      by_cases hl : u + t.2.2 < v
      · rw [if_pos hl]; exact ⟨_, rfl, by omega⟩
      · rw [if_neg hl]; exact ⟨_, rfl, Int.le_refl _⟩
    · rw [if_neg e]
      exact ⟨v, h, Int.le_refl _⟩
theorem rx_get {n : Nat} {F : List (Option Int)} {t : Tri} {v : Int} (hF : F.length = n) (b0 : 0 ≤ t.2.1) (b1 : t.2.1 < n) (h : fo F t.1 = some v) : ∃ u, fo (rx F t) t.2.1 = some u ∧ u ≤ v + t.2.2 := by
  unfold rx
  rw [h]
  dsimp only
  rw [fo_set b0 (by omega) b0, if_pos rfl]
  cases fo F t.2.1 with
  | none => exact ⟨_, rfl, Int.le_refl _⟩
  | some u =>
    show ∃ w, (if v + t.2.2 < u then some (v + t.2.2) else some u) = some w ∧ w ≤ v + t.2.2
    by_cases hl : v + t.2.2 < u
    · rw [if_pos hl]; exact ⟨_, rfl, Int.le_refl _⟩
    · rw [if_neg hl]; exact ⟨_, rfl, by omega⟩
def Snd (n : Nat) (L : List Tri) (s : Int) (F : List (Option Int)) : Prop := ∀ c v : Int, 0 ≤ c → c < n → fo F c = some v → Wy (prsF L) s c v
theorem rx_snd {n : Nat} {L : List Tri} {s : Int} {F : List (Option Int)} {t : Tri} (hF : F.length = n) (ht : t ∈ L) (hL : LkOk n L) (h : Snd n L s F) : Snd n L s (rx F t) := fun c v c0 c1 e => by
  have hk := hL t ht
  unfold rx at e
  cases h1 : fo F t.1 with
  | none => rw [h1] at e; exact h c v c0 c1 e
  | some u =>
    rw [h1] at e
    dsimp only at e
    rw [fo_set hk.2.2.1 (by omega) c0] at e
    by_cases ec : c = t.2.1
    · subst ec
      rw [if_pos rfl] at e
      have hw : Wy (prsF L) s t.2.1 (u + t.2.2) := (h t.1 u hk.1 hk.2.1 h1).snoc (mem_prsF.mpr ht)
      cases h2 : fo F t.2.1 with
      | none =>
        rw [h2] at e
        injection e with e
        rw [← e]
        exact hw
      | some x =>
        rw [h2] at e
        unfold minO at e
        dsimp only at e
        split at e
        · injection e with e; rw [← e]; exact hw
        · injection e with e; rw [← e]; exact h _ _ c0 c1 h2
    · rw [if_neg ec] at e
      exact h c v c0 c1 e
def rxs (F : List (Option Int)) (L : List Tri) : List (Option Int) := L.foldl rx F
theorem rxs_len : ∀ (L : List Tri) (F : List (Option Int)), (rxs F L).length = F.length
  | [], F => rfl
  | t :: L, F => by show (rxs (rx F t) L).length = _; rw [rxs_len L, rx_len]
theorem rxs_le {n : Nat} : ∀ (L : List Tri) (F : List (Option Int)), F.length = n → LkOk n L → LeF n F (rxs F L)
  | [], F, _, _ => LeF.rfl'
  | t :: L, F, hF, hL => by
    have ht := hL t (List.mem_cons_self ..)
    exact (rx_le hF ht.2.2.1 ht.2.2.2.1).tr (rxs_le L (rx F t) (by rw [rx_len]; exact hF) fun u hu => hL u (List.mem_cons_of_mem _ hu))
theorem rxs_snd {n : Nat} {L : List Tri} {s : Int} (hL : LkOk n L) : ∀ (l : List Tri) (F : List (Option Int)), F.length = n → (∀ t ∈ l, t ∈ L) → Snd n L s F → Snd n L s (rxs F l)
  | [], F, _, _, h => h
  | t :: l, F, hF, hl, h => rxs_snd hL l (rx F t) (by rw [rx_len]; exact hF) (fun u hu => hl u (List.mem_cons_of_mem _ hu)) (rx_snd hF (hl t (List.mem_cons_self ..)) hL h)
theorem rxs_get {n : Nat} {b c x v : Int} : ∀ (L : List Tri) (F : List (Option Int)), F.length = n → LkOk n L → (b, c, x) ∈ L → fo F b = some v → ∃ u, fo (rxs F L) c = some u ∧ u ≤ v + x
  | [], F, _, _, h, _ => by simp at h
  | t :: L, F, hF, hL, h, hv => by
    have ht := hL t (List.mem_cons_self ..)
    have hL' : LkOk n L := fun u hu => hL u (List.mem_cons_of_mem _ hu)
    rcases List.mem_cons.mp h with e | h
    · subst e
      obtain ⟨u, hu, hl⟩ := rx_get (t := (b, c, x)) hF ht.2.2.1 ht.2.2.2.1 hv
      obtain ⟨u2, hu2, hl2⟩ := rxs_le L (rx F (b, c, x)) (by rw [rx_len]; exact hF) hL' c u ht.2.2.1 ht.2.2.2.1 hu
      exact ⟨u2, hu2, by dsimp only at hl; omega⟩
    · have hb := hL' _ h
      obtain ⟨v1, hv1, hl⟩ := rx_le (t := t) hF ht.2.2.1 ht.2.2.2.1 b v hb.1 hb.2.1 hv
      obtain ⟨u, hu, hl2⟩ := rxs_get L (rx F t) (by rw [rx_len]; exact hF) hL' h hv1
      exact ⟨u, hu, by omega⟩
def rnd (L : List Tri) : Nat → List (Option Int) → List (Option Int)
  | 0, F => F
  | k + 1, F => rnd L k (rxs F L)
theorem rnd_len (L : List Tri) : ∀ (k : Nat) (F : List (Option Int)), (rnd L k F).length = F.length
  | 0, F => rfl
  | k + 1, F => by show (rnd L k (rxs F L)).length = _; rw [rnd_len L k, rxs_len]
theorem rnd_snoc (L : List Tri) : ∀ (k : Nat) (F : List (Option Int)), rnd L (k + 1) F = rxs (rnd L k F) L
  | 0, F => rfl
  | k + 1, F => by show rnd L (k + 1) (rxs F L) = rxs (rnd L k (rxs F L)) L; exact rnd_snoc L k (rxs F L)
theorem rnd_good {n : Nat} {L : List Tri} {s : Int} {t : List (Int × Int)} {F : List (Option Int)} (hL : LkOk n L) (hF : F.length = n) (s0 : 0 ≤ s) (s1 : s < n) (h0 : fo F s = some 0) (hr : ∀ p ∈ t, 0 ≤ p.1 ∧ p.1 < n)
    (od : ∀ pre c d post, t = pre ++ (c, d) :: post → (c = s ∧ d = 0) ∨ ∃ b ∈ pre, ∃ x, (c, x) ∈ prsF L b.1 ∧ d = b.2 + x) :
    ∀ k : Nat, (∃ v, fo (rnd L k F) s = some v ∧ v ≤ 0) ∧ ∀ p ∈ t.take k, ∃ v, fo (rnd L k F) p.1 = some v ∧ v ≤ p.2
  | 0 => ⟨⟨0, h0, Int.le_refl _⟩, fun p hp => by simp at hp⟩
  | k + 1 => by
    obtain ⟨⟨v, hv, hl⟩, hg⟩ := rnd_good hL hF s0 s1 h0 hr od k
    have hlen : (rnd L k F).length = n := by rw [rnd_len]; exact hF
    have hle := rxs_le L (rnd L k F) hlen hL
    rw [rnd_snoc]
    have hs : ∃ v, fo (rxs (rnd L k F) L) s = some v ∧ v ≤ 0 := by
      obtain ⟨u, hu, hl2⟩ := hle s v s0 s1 hv
      exact ⟨u, hu, by omega⟩
    refine ⟨hs, fun p hp => ?_⟩
    have old : ∀ p ∈ t.take k, ∃ v, fo (rxs (rnd L k F) L) p.1 = some v ∧ v ≤ p.2 := fun p hp => by
      obtain ⟨v, hv, hl⟩ := hg p hp
      obtain ⟨p0, p1⟩ := hr p (List.mem_of_mem_take hp)
      obtain ⟨u, hu, hl2⟩ := hle p.1 v p0 p1 hv
      exact ⟨u, hu, by omega⟩
    by_cases hk : k < t.length
    · rw [List.take_succ, List.getElem?_eq_getElem hk] at hp
      rcases List.mem_append.mp hp with z | z
      · exact old p z
      · have hz : p = t[k] := by simpa using z
        obtain ⟨c, d⟩ := p
        have hsp : t = t.take k ++ (c, d) :: t.drop (k + 1) := by
          have := (List.take_append_drop k t).symm
          rw [List.drop_eq_getElem_cons hk, ← hz] at this
          exact this
        rcases od _ _ _ _ hsp with ⟨rfl, rfl⟩ | ⟨b, hb, x, hx, rfl⟩
        · exact hs
        · obtain ⟨v, hv, hl⟩ := hg b hb
          obtain ⟨u, hu, hl2⟩ := rxs_get L (rnd L k F) hlen hL (mem_prsF.mp hx) hv
          exact ⟨u, hu, by dsimp only; omega⟩
    · rw [List.take_of_length_le (by omega)] at hp
      exact old p (by rw [List.take_of_length_le (by omega)]; exact hp)
theorem rnd_end {n : Nat} {L : List Tri} {s : Int} {t : List (Int × Int)} {F : List (Option Int)} (hL : LkOk n L) (hF : F.length = n) (s0 : 0 ≤ s) (s1 : s < n) (h0 : fo F s = some 0) (hS : Snd n L s F) (ht : FrmT n L s t) {c : Int} (c0 : 0 ≤ c) (c1 : c < n) : fo (rnd L n F) c = tget t c := by
  obtain ⟨h1, h2, h3, h4⟩ := ht
  have good := (rnd_good hL hF s0 s1 h0 h2 h4 n).2
  rw [List.take_of_length_le h3] at good
  have snd : ∀ k, Snd n L s (rnd L k F) := by
    intro k
    induction k with
    | zero => exact hS
    | succ k ih => rw [rnd_snoc]; exact rxs_snd hL L _ (by rw [rnd_len]; exact hF) (fun _ h => h) ih
  have hc := h1 c
  cases e : tget t c with
  | some d =>
    rw [e] at hc
    obtain ⟨v, hv, hl⟩ := good _ (tget_mem e)
    rw [hv]
    have := hc.2 v (snd n c v c0 c1 hv)
    dsimp only at hl
    congr 1
    omega
  | none =>
    rw [e] at hc
    cases e2 : fo (rnd L n F) c with
    | none => rfl
    | some v => exact absurd (snd n c v c0 c1 e2) (hc v)
section
variable (C : Addr) (w : World) {n : Nat} {ne be : List Tri} {M : List D}
theorem far_step {P S T : D} {F : List (Option Int)} {t : Tri} (hF : F.length = n) (hn : n < 1000) (a0 : 0 ≤ t.1) (a1 : t.1 < n) (b0 : 0 ≤ t.2.1) (b1 : t.2.1 < n) :
    b__law_far_2 C w ⟨[P, S, .int t.2.1, .own (F.map optI), T, .int t.1, .int t.2.2], M⟩ = some (.next, ⟨[P, S, .int t.2.1, .own ((rx F t).map optI), T, .int t.1, .int t.2.2], M⟩) := by
  generalize hs : (⟨[P, S, .int t.2.1, .own (F.map optI), T, .int t.1, .int t.2.2], M⟩ : Fr.S) = s
  have he : s.env[3]? = some (.own (F.map optI)) := by rw [← hs]; rfl
  have ja : ixN (F.map optI).length t.1 = some t.1.toNat := by rw [List.length_map, hF]; exact ixN_of a0 a1
  have jb : ixN (F.map optI).length t.2.1 = some t.2.1.toNat := by rw [List.length_map, hF]; exact ixN_of b0 b1
  have fz : ∀ o : Option Int, frzn (optI o) = true := fun o => by cases o <;> rfl
  have ga : cIx 3 (cVar 5) s = some (optI (fo F t.1), s) := cIx_own he (by rw [← hs]; rfl) ja (fo_get a0 (by omega)) (fz _)
  have gb : cIx 3 (cVar 2) s = some (optI (fo F t.2.1), s) := cIx_own he (by rw [← hs]; rfl) jb (fo_get b0 (by omega)) (fz _)
  have fr : ∀ o : Option Int, frz (optI o) = optI o := fun o => by cases o <;> rfl
  have ga' : cF (cIx 3 (cVar 5)) s = some (optI (fo F t.1), s) := by rw [cF_of ga, fr]
  have gb' : cF (cIx 3 (cVar 2)) s = some (optI (fo F t.2.1), s) := by rw [cF_of gb, fr]
  have k0 : cK .non s = some (.non, s) := rfl
  have c1 : cT (cBin (gIsN not) (cF (cIx 3 (cVar 5))) (cK .non)) s = some ((fo F t.1).isSome, s) :=
    cT_of (cBin_of ga' k0 (by cases fo F t.1 <;> rfl))
  unfold b__law_far_2
  cases h1 : fo F t.1 with
  | none =>
    rw [h1] at c1
    rw [cIfS_f (s1 := s) (bAnd_f c1)]
    unfold rx
    rw [h1, ← hs]
    rfl
  | some v =>
    rw [h1] at c1 ga'
    have hsum : cBin gAdd (cF (cIx 3 (cVar 5))) (cVar 6) s = some (.int (v + t.2.2), s) := cBin_of ga' (y := .int t.2.2) (s2 := s) (by rw [← hs]; rfl) rfl
    have hput : cSetIx 3 (cVar 2) (cF (cBin gAdd (cF (cIx 3 (cVar 5))) (cVar 6))) s = some (.next, { s with env := s.env.set 3 (.own ((F.set t.2.1.toNat (some (v + t.2.2))).map optI)) }) := by
      have := cSetIx_at (i := 3) (ci := cVar 2) (s1 := s) (cF_of hsum) (plc_own he) (k := t.2.1) (by rw [← hs]; rfl) (show rget s (.e 3) = some (.own (F.map optI)) from he) jb
      rw [this, List.map_set]
      rfl
    have c2 : cT (cBin (gIsN id) (cF (cIx 3 (cVar 2))) (cK .non)) s = some ((fo F t.2.1).isNone, s) := cT_of (cBin_of gb' k0 (by cases fo F t.2.1 <;> rfl))
    cases h2 : fo F t.2.1 with
    | none =>
      rw [h2] at c2
      rw [cIfS_t (s1 := s) ((bAnd_t c1).trans (bOr_t c2)), hput]
      unfold rx
      rw [h1, ← hs]
      show some _ = some _
      rw [h2]
      rfl
    | some u =>
      rw [h2] at c2 gb'
      have c3 : cT (cBin gGt (cF (cIx 3 (cVar 2))) (cF (cBin gAdd (cF (cIx 3 (cVar 5))) (cVar 6)))) s = some (decide (v + t.2.2 < u), s) := cT_of (cBin_of gb' (cF_of hsum) rfl)
      have e2 : (if v + t.2.2 < u then (some (v + t.2.2) : Option Int) else some u) = minO (fo F t.2.1) (v + t.2.2) := by rw [h2]; rfl
      by_cases hl : v + t.2.2 < u
      · rw [decide_eq_true hl] at c3
        rw [cIfS_t (s1 := s) ((bAnd_t c1).trans ((bOr_f c2).trans c3)), hput]
        unfold rx
        rw [h1, ← hs]
        dsimp only
        rw [← e2, if_pos hl]
        rfl
      · rw [decide_eq_false hl] at c3
        rw [cIfS_f (s1 := s) ((bAnd_t c1).trans ((bOr_f c2).trans c3))]
        unfold rx
        rw [h1, ← hs]
        dsimp only
        rw [← e2, if_neg hl]
        have hset : F.set t.2.1.toNat (some u) = F := by
          refine List.ext_getElem? fun i => ?_
          by_cases hi : i = t.2.1.toNat
          · subst hi
            rw [List.getElem?_set_self (by omega)]
            unfold fo at h2
            rw [List.getElem?_eq_getElem (by omega)] at h2 ⊢
            simp at h2
            rw [h2]
          · rw [List.getElem?_set_ne (Ne.symm hi)]
        rw [hset]
        rfl
theorem far_links {P S T : D} (hn : n < 1000) : ∀ (ts : List Tri) (F : List (Option Int)) (x2 x5 x6 : D), F.length = n → LkOk n ts →
    ∃ y2 y5 y6, forLoop (gT (gC (gN 5) (gC (gN 2) (gC (gN 6) gZ)))) (b__law_far_2 C w) (ts.map dTri) ⟨[P, S, x2, .own (F.map optI), T, x5, x6], M⟩ = some (.next, ⟨[P, S, y2, .own ((rxs F ts).map optI), T, y5, y6], M⟩)
  | [], F, x2, x5, x6, _, _ => ⟨x2, x5, x6, rfl⟩
  | t :: ts, F, x2, x5, x6, hF, h => by
    have ht := h t (List.mem_cons_self ..)
    obtain ⟨y2, y5, y6, e⟩ := far_links (P := P) (S := S) (T := T) hn ts (rx F t) (.int t.2.1) (.int t.1) (.int t.2.2) (by rw [rx_len]; exact hF) fun u hu => h u (List.mem_cons_of_mem _ hu)
    refine ⟨y2, y5, y6, ?_⟩
    rw [List.map_cons, forLoop_next (d := dTri t) (s1 := ⟨[P, S, .int t.2.1, .own (F.map optI), T, .int t.1, .int t.2.2], M⟩) rfl (far_step C w hF hn ht.1 ht.2.1 ht.2.2.1 ht.2.2.2.1)]
    exact e
theorem far_rounds {P S : D} (hn : n < 1000) (hlk : LkOk n (ne ++ be)) (hl : ne.length + be.length ≤ 1000) : ∀ (ds : List D) (F : List (Option Int)) (x2 x4 x5 x6 : D), F.length = n →
    ∃ y2 y4 y5 y6, forLoop (gN 4) (b__law_far_3 C w) ds ⟨[dParts n ne be, S, x2, .own (F.map optI), x4, x5, x6], M⟩ = some (.next, ⟨[dParts n ne be, S, y2, .own ((rnd (ne ++ be) ds.length F).map optI), y4, y5, y6], M⟩)
  | [], F, x2, x4, x5, x6, _ => ⟨x2, x4, x5, x6, rfl⟩
  | d :: ds, F, x2, x4, x5, x6, hF => by
    obtain ⟨z2, z5, z6, e1⟩ := far_links C w (M := M) (P := dParts n ne be) (S := S) (T := d) hn (ne ++ be) F x2 x5 x6 hF hlk
    obtain ⟨y2, y4, y5, y6, e2⟩ := far_rounds (P := P) (S := S) hn hlk hl ds (rxs F (ne ++ be)) z2 d z5 z6 (by rw [rxs_len]; exact hF)
    refine ⟨y2, y4, y5, y6, ?_⟩
    have hit : itS (cF (cBin gAdd (cF (cIx 0 (cK (.int 1)))) (cF (cIx 0 (cK (.int 2)))))) ⟨[dParts n ne be, S, x2, .own (F.map optI), d, x5, x6], M⟩ = some ((ne ++ be).map dTri, ⟨[dParts n ne be, S, x2, .own (F.map optI), d, x5, x6], M⟩) := by
      unfold itS
      rw [cF_of (d := .tup ((ne ++ be).map dTri)) (cBin_of (x := .tup (ne.map dTri)) (y := .tup (be.map dTri)) (s1 := ⟨[dParts n ne be, S, x2, .own (F.map optI), d, x5, x6], M⟩) (s2 := ⟨[dParts n ne be, S, x2, .own (F.map optI), d, x5, x6], M⟩) rfl rfl (cat_tris hl))]
      rfl
    rw [forLoop_next (d := d) (s1 := ⟨[dParts n ne be, S, x2, .own (F.map optI), d, x5, x6], M⟩) (s2 := ⟨[dParts n ne be, S, z2, .own ((rxs F (ne ++ be)).map optI), d, z5, z6], M⟩) rfl (by unfold b__law_far_3; rw [cFor_of hit]; exact e1)]
    exact e2
theorem far_ok (hp : ProgOk n ne be) {s : Int} (s0 : 0 ≤ s) (s1 : s < n) : ∃ F : List (Option Int), m__law_far C w [dParts n ne be, .int s] M = some (.lst (F.map optI), M) ∧ F.length = n ∧ ∀ t, FrmT n (ne ++ be) s t → ∀ c : Int, 0 ≤ c → c < n → fo F c = tget t c := by
  have h12 := hp.n2
  have l1 := hp.lne.len
  have l2 := hp.lbe.len
  have hi := itR1_of (c := cF (cIx 0 (cK (.int 0)))) (s := ⟨[dParts n ne be, .int s, .unb, .unb, .unb, .unb, .unb], M⟩) (s1 := ⟨[dParts n ne be, .int s, .unb, .unb, .unb, .unb, .unb], M⟩) (n := (n : Int)) rfl (small62_of (by omega) (by omega))
  rw [Int.toNat_natCast] at hi
  have hlc := lcLoop_pure (js := [2]) (tg := gN 2) (tt := bYes) (te := cK .non) (s := ⟨[dParts n ne be, .int s, .unb, .unb, .unb, .unb, .unb], M⟩) (fun _ => true) (fun _ => .non) (rgD 0 n) [] (by rw [rgD_len]; unfold line; simp only [List.length_nil]; omega)
    (fun d hd => ⟨⟨[dParts n ne be, .int s, d, .unb, .unb, .unb, .unb], M⟩, rfl, rfl, rfl, fun _ => rfl⟩)
  have e0 : ([] : List D) ++ (((rgD 0 n).filter fun _ => true).map fun _ => D.non) = (List.replicate n none).map optI := by
    rw [List.nil_append, List.filter_eq_self.mpr (fun _ _ => rfl), List.map_replicate]
    show _ = List.replicate n D.non
    rw [List.eq_replicate_iff]
    exact ⟨by rw [List.length_map, rgD_len], fun b hb => by obtain ⟨_, _, rfl⟩ := List.mem_map.mp hb; rfl⟩
  rw [e0] at hlc
  have q1 : t__law_far_1 C w ⟨[dParts n ne be, .int s, .unb, .unb, .unb, .unb, .unb], M⟩ = some (.next, ⟨[dParts n ne be, .int s, .unb, .own ((List.replicate n none).map optI), .unb, .unb, .unb], M⟩) := cAsg_of (cLc_of hi rfl hlc)
  generalize hF0 : (List.replicate n (none : Option Int)).set s.toNat (some 0) = F0
  have hlen : F0.length = n := by rw [← hF0]; simp
  have q2 : cSetIx 3 (cVar 1) (cK (.int 0)) ⟨[dParts n ne be, .int s, .unb, .own ((List.replicate n none).map optI), .unb, .unb, .unb], M⟩ = some (.next, ⟨[dParts n ne be, .int s, .unb, .own (F0.map optI), .unb, .unb, .unb], M⟩) := by
    have jb : ixN ((List.replicate n (none : Option Int)).map optI).length s = some s.toNat := by rw [List.length_map, List.length_replicate]; exact ixN_of s0 s1
    rw [cSetIx_at (i := 3) (r := .e 3) (ci := cVar 1) (cv := cK (.int 0)) (s1 := ⟨[dParts n ne be, .int s, .unb, .own ((List.replicate n none).map optI), .unb, .unb, .unb], M⟩) rfl rfl (k := s) rfl rfl jb]
    rw [← hF0, List.map_set]
    rfl
  obtain ⟨y2, y4, y5, y6, q3⟩ := far_rounds C w (M := M) (P := .unb) (S := .int s) (by omega) hp.lk (by omega) (rgD 0 n) F0 .unb .unb .unb .unb hlen
  rw [rgD_len] at q3
  have hi2 := itR1_of (c := cF (cIx 0 (cK (.int 0)))) (s := ⟨[dParts n ne be, .int s, .unb, .own (F0.map optI), .unb, .unb, .unb], M⟩) (s1 := ⟨[dParts n ne be, .int s, .unb, .own (F0.map optI), .unb, .unb, .unb], M⟩) (n := (n : Int)) rfl (small62_of (by omega) (by omega))
  rw [Int.toNat_natCast] at hi2
  have q4 : t__law_far_4 C w ⟨[dParts n ne be, .int s, .unb, .own (F0.map optI), .unb, .unb, .unb], M⟩ = _ := (cFor_of hi2).trans q3
  refine ⟨rnd (ne ++ be) n F0, ?_, by rw [rnd_len]; exact hlen, fun t ht c c0 c1 => ?_⟩
  · unfold m__law_far
    refine mOf_ret (n := 7) (ds := [dParts n ne be, .int s]) (M := M) (env := [dParts n ne be, .int s, .unb, .unb, .unb, .unb, .unb]) (s' := ⟨[dParts n ne be, .int s, y2, .lst ((rnd (ne ++ be) n F0).map optI), y4, y5, y6], M⟩) rfl ?_
    unfold c__law_far
    rw [cSeq_next q1, cSeq_next q2, cSeq_next q4]
    refine cRet_of ?_
    have hf : frzL ((rnd (ne ++ be) n F0).map optI) = (rnd (ne ++ be) n F0).map optI := frz_all fun d hd => by
      obtain ⟨o, _, rfl⟩ := List.mem_map.mp hd
      cases o <;> rfl
    show some (D.lst (frzL _), (⟨[dParts n ne be, .int s, y2, .lst (frzL ((rnd (ne ++ be) n F0).map optI)), y4, y5, y6], M⟩ : Fr.S)) = _
    rw [hf]
  · have hrep : ∀ c : Int, fo (List.replicate n (none : Option Int)) c = none := fun c => by
      unfold fo
      rw [List.getElem?_replicate]
      split <;> rfl
    have h0 : fo F0 s = some 0 := by rw [← hF0, fo_set s0 (by simpa using s1) s0, if_pos rfl]
    refine rnd_end hp.lk hlen s0 s1 h0 (fun c v c0 c1 h => ?_) ht c0 c1
    rw [← hF0, fo_set s0 (by simpa using s1) c0] at h
    by_cases e : c = s
    · subst e
      rw [if_pos rfl] at h
      injection h with h
      rw [← h]
      exact .nil
    · rw [if_neg e, hrep] at h
      cases h
end
end K07

set_option maxRecDepth 100000
set_option maxHeartbeats 1000000
namespace K07
open PySem PySem.Spec PyProof.Rows _root_.L2 Fr
/-! ### the enemy: who never does the one, and the least of all others first -/
def enS (n : Nat) (L : List Tri) (o many : Int) (c : List Int) : List Int := ((r0 n).filter fun s => !decide (s = o) && mayB L c s).filter fun s => decide (lk c s < many)
theorem mem_enS {n : Nat} {L : List Tri} {o many s : Int} {c : List Int} : s ∈ enS n L o many c ↔ (0 ≤ s ∧ s < n) ∧ s ≠ o ∧ mayB L c s = true ∧ lk c s < many := by
  unfold enS
  rw [List.mem_filter, List.mem_filter, mem_r0]
  simp [and_assoc]
/-- what holds of the counts -/
structure EnI (n : Nat) (L : List Tri) (o : Int) (c : List Int) : Prop where
  len : c.length = n
  up : ∀ x r : Int, 0 ≤ x → x < n → Wy (prsF L) o x r → lk c x ≤ r
  o : lk c o = 0
theorem en_bump {n : Nat} {L : List Tri} {o s : Int} {c : List Int} (hL : LkOk n L) (o0 : 0 ≤ o) (I : EnI n L o c) (s0 : 0 ≤ s) (s1 : s < n) (hne : s ≠ o) (hm : mayB L c s = true) : EnI n L o (bump c s) where
  len := by rw [bump_len]; exact I.len
  up := fun x r x0 x1 hw => by
    rw [lk_bump s0 (by rw [I.len]; exact s1) x0]
    by_cases e : x = s
    · subst e
      rw [if_pos rfl]
      cases hw with
      | nil => exact absurd rfl hne
      | snoc w m =>
        rename_i b r' y
        have ht := mem_prsF.mp m
        have hk := hL _ ht
        have h1 := mayB_iff.mp hm _ ht rfl
        have h2 := I.up b r' hk.1 hk.2.1 w
        dsimp only at h1
        omega
    · rw [if_neg e]; exact I.up x r x0 x1 hw
  o := by rw [lk_bump s0 (by rw [I.len]; exact s1) o0, if_neg (Ne.symm hne)]; exact I.o
/-- not yet where it can come -/
def Unf (L : List Tri) (o : Int) (c : List Int) (x : Int) : Prop := ∀ r, Wy (prsF L) o x r → lk c x < r
theorem en_some {n : Nat} {L : List Tri} {o one many : Int} {c : List Int} (hL : LkOk n L) (rank : Int → Int) (hr : ∀ t ∈ L, t.2.2 = 0 → rank t.1 < rank t.2.1) (I : EnI n L o c) (h0 : 0 ≤ one) (h1 : one < n) (hne : one ≠ o) (hu : Unf L o c one) (hm : lk c one < many) :
    ∃ s ∈ enS n L o many c, lk c s ≤ lk c one := by
  classical
  have hmem : one ∈ (r0 n).filter fun x => decide (x ≠ o ∧ Unf L o c x) := List.mem_filter.mpr ⟨mem_r0.mpr ⟨h0, h1⟩, decide_eq_true ⟨hne, hu⟩⟩
  obtain ⟨s, hs, hmin⟩ := least (lk c) rank ((r0 n).filter fun x => decide (x ≠ o ∧ Unf L o c x)) (by intro z; rw [z] at hmem; simp at hmem)
  obtain ⟨hs1, hs2⟩ := List.mem_filter.mp hs
  obtain ⟨sne, su⟩ := of_decide_eq_true hs2
  obtain ⟨s0, s1⟩ := mem_r0.mp hs1
  have hle : lk c s ≤ lk c one := by rcases hmin one hmem with h | h <;> omega
  refine ⟨s, mem_enS.mpr ⟨⟨s0, s1⟩, sne, mayB_iff.mpr fun t ht e => ?_, by omega⟩, hle⟩
  obtain ⟨a, b, x⟩ := t
  dsimp only at e ⊢
  subst e
  have hk := hL _ ht
  dsimp only at hk
  have hlink := mem_prsF.mpr ht
  by_cases ea : a = o
  · subst ea
    have := su _ (Wy.nil.snoc hlink)
    rw [I.o]
    omega
  · by_cases ua : Unf L o c a
    · have hma : a ∈ (r0 n).filter fun x => decide (x ≠ o ∧ Unf L o c x) := List.mem_filter.mpr ⟨mem_r0.mpr ⟨hk.1, hk.2.1⟩, decide_eq_true ⟨ea, ua⟩⟩
      rcases hmin a hma with h | ⟨h, h'⟩
      · omega
      · by_cases ex : x = 0
        · have := hr _ ht ex
          dsimp only at this
          omega
        · omega
    · have : ∃ r, Wy (prsF L) o a r ∧ r ≤ lk c a := by
        by_cases hx : ∃ r, Wy (prsF L) o a r ∧ r ≤ lk c a
        · exact hx
        · refine absurd (fun r hw => ?_) ua
          by_cases hl : lk c a < r
          · exact hl
          · exact absurd ⟨r, hw, by omega⟩ hx
      obtain ⟨r, hw, hl⟩ := this
      have := su _ (hw.snoc hlink)
      omega
/-- a turn's state: come there, or all at most so many, as many as turns were -/
def EnJ (n : Nat) (L : List Tri) (o one B : Int) (k : Nat) (c : List Int) : Prop := EnI n L o c ∧ (B ≤ lk c one ∨ ((∀ x : Int, 0 ≤ x → x < n → lk c x ≤ B) ∧ c.sum = k))
theorem en_turn {n : Nat} {L : List Tri} {o one B many : Int} {k : Nat} {c : List Int} {s : Int} (hL : LkOk n L) (rank : Int → Int) (hr : ∀ t ∈ L, t.2.2 = 0 → rank t.1 < rank t.2.1) (o0 : 0 ≤ o) (h0 : 0 ≤ one) (h1 : one < n) (hne : one ≠ o)
    (hB : ∀ r, Wy (prsF L) o one r → B ≤ r) (hm : B ≤ many) (J : EnJ n L o one B k c) (hs : s ∈ enS n L o many c) (hmin : ∀ x ∈ enS n L o many c, lk c s ≤ lk c x) : EnJ n L o one B (k + 1) (bump c s) := by
  obtain ⟨I, h⟩ := J
  obtain ⟨⟨s0, s1⟩, sne, sm, _⟩ := mem_enS.mp hs
  have hsl : s < c.length := by rw [I.len]; exact s1
  refine ⟨en_bump hL o0 I s0 s1 sne sm, ?_⟩
  by_cases hd : B ≤ lk c one
  · refine .inl ?_
    rw [lk_bump s0 hsl h0]
    split
    · subst_vars; omega
    · exact hd
  · rcases h with h | ⟨ha, hk⟩
    · exact absurd h hd
    · obtain ⟨x, hx, hxl⟩ := en_some hL rank hr I h0 h1 hne (fun r hw => by have := hB r hw; omega) (by omega : lk c one < many)
      have hsx := hmin x hx
      refine .inr ⟨fun y y0 y1 => ?_, by rw [sum_bump s0 hsl, hk]; omega⟩
      rw [lk_bump s0 hsl y0]
      split
      · omega
      · exact ha y y0 y1
theorem en_stop {n : Nat} {L : List Tri} {o one B many : Int} {k : Nat} {c : List Int} (hL : LkOk n L) (rank : Int → Int) (hr : ∀ t ∈ L, t.2.2 = 0 → rank t.1 < rank t.2.1) (h0 : 0 ≤ one) (h1 : one < n) (hne : one ≠ o)
    (hB : ∀ r, Wy (prsF L) o one r → B ≤ r) (hm : B ≤ many) (J : EnJ n L o one B k c) (hs : enS n L o many c = []) : B ≤ lk c one := by
  by_cases hd : B ≤ lk c one
  · exact hd
  · obtain ⟨x, hx, _⟩ := en_some hL rank hr J.1 h0 h1 hne (fun r hw => by have := hB r hw; omega) (by omega : lk c one < many)
    rw [hs] at hx
    simp at hx
theorem sum_le_mul {n : Nat} {B : Int} : ∀ (c : List Int), c.length = n → (∀ x ∈ c, x ≤ B) → c.sum ≤ n * B := by
  induction n with
  | zero => intro c hc _; have : c = [] := List.length_eq_zero_iff.mp hc; subst this; simp
  | succ n ih =>
    intro c hc h
    cases c with
    | nil => cases hc
    | cons a c =>
      have h1 := ih c (by simpa using hc) fun x hx => h x (List.mem_cons_of_mem _ hx)
      have h2 := h a (List.mem_cons_self ..)
      rw [List.sum_cons]
      have : ((n + 1 : Nat) : Int) * B = n * B + B := by rw [show ((n + 1 : Nat) : Int) = (n : Int) + 1 by omega, Int.add_mul, Int.one_mul]
      omega
theorem en_end {n : Nat} {L : List Tri} {o one B : Int} {k : Nat} {c : List Int} (J : EnJ n L o one B k c) (hk : (n : Int) * B < k) : B ≤ lk c one := by
  rcases J.2 with h | ⟨ha, hs⟩
  · exact h
  · have := sum_le_mul (B := B) c J.1.len fun x hx => by
      obtain ⟨i, hi⟩ := List.getElem?_of_mem hx
      have hl := (List.getElem?_eq_some_iff.mp hi).1
      have := ha (i : Int) (by omega) (by have := J.1.len; omega)
      unfold lk at this
      rw [Int.toNat_natCast, List.getD_eq_getElem?_getD, hi] at this
      exact this
    omega
/-- rounds at most four: a distance is at most four times the steps ahead -/
theorem far_bound {n m : Nat} {L : List Tri} {a : Int} {t : List (Int × Int)} (hm : ∀ e ∈ L, e.2.2 ≤ m) (ht : FrmT n L a t) : ∀ (k : Nat) (p : Int × Int), t[k]? = some p → p.2 ≤ m * k := by
  intro k
  induction k using Nat.strongRecOn with
  | ind k ih =>
    intro p hp
    obtain ⟨c, d⟩ := p
    have hk := (List.getElem?_eq_some_iff.mp hp).1
    have hsp : t = t.take k ++ (c, d) :: t.drop (k + 1) := by
      have := (List.take_append_drop k t).symm
      rw [List.drop_eq_getElem_cons hk] at this
      have e : t[k] = (c, d) := (List.getElem?_eq_some_iff.mp hp).2
      rw [e] at this
      exact this
    have hpos : (0 : Int) ≤ (m : Int) * k := Int.mul_nonneg (by omega) (by omega)
    rcases ht.2.2.2 _ _ _ _ hsp with ⟨_, h⟩ | ⟨b, hb, x, hx, h⟩
    · dsimp only; omega
    · obtain ⟨j, hj⟩ := List.getElem?_of_mem hb
      have hjk : j < k := by
        have := (List.getElem?_eq_some_iff.mp hj).1
        rw [List.length_take] at this
        omega
      rw [List.getElem?_take_of_lt hjk] at hj
      have h1 := ih j hjk b hj
      have h2 := hm _ (mem_prsF.mp hx)
      dsimp only at h2 ⊢
      have h3 : (m : Int) * j + m ≤ m * k := by
        have : (m : Int) * (j + 1) ≤ m * k := Int.mul_le_mul_of_nonneg_left (by omega) (by omega)
        rw [Int.mul_add, Int.mul_one] at this
        exact this
      omega
theorem far_le {n m : Nat} {L : List Tri} {a c d : Int} {t : List (Int × Int)} (hm : ∀ e ∈ L, e.2.2 ≤ m) (ht : FrmT n L a t) (hd : tget t c = some d) : d ≤ m * n := by
  obtain ⟨k, hk⟩ := List.getElem?_of_mem (tget_mem hd)
  have h1 := far_bound hm ht k _ hk
  have h2 := (List.getElem?_eq_some_iff.mp hk).1
  have h3 := ht.2.2.1
  have : (m : Int) * k ≤ m * n := Int.mul_le_mul_of_nonneg_left (by omega) (by omega)
  dsimp only at h1
  omega
end K07

set_option maxRecDepth 100000
set_option maxHeartbeats 1000000
namespace K07
open PySem PySem.Spec PyProof.Rows _root_.L2 Fr
/-! ### the enemy's mirror -/
theorem forLoop_brk {tg : D → S → Option S} {body : Cs} {d : D} {ds : List D} {s s1 s2 : S} (h1 : tg d s = some s1) (h2 : body s1 = some (.brk, s2)) : forLoop tg body (d :: ds) s = some (.next, s2) := by
  rw [forLoop, h1]
  dsimp only
  rw [h2]
theorem itS_lst {c : Fr.C} {s s1 : S} {ds : List D} (h : c s = some (.lst ds, s1)) : itS c s = some (ds, s1) := by unfold itS; rw [h]
theorem fmap {p : D → Bool} {q : Int → Bool} (h : ∀ i, p (.int i) = q i) (l : List Int) : (l.map D.int).filter p = (l.filter q).map D.int := by
  rw [List.filter_map]
  congr 1
  exact List.filter_congr fun x _ => h x
section
variable (C : Addr) (w : World) {n : Nat} {ne be : List Tri} {R : List D}
abbrev EV (n : Nat) (ne be : List Tri) (one o many : Int) (R : List D) (x4 x6 x7 x8 : D) : List D := [dParts n ne be, .int one, .int o, .int many, x4, .cell R.length, x6, x7, x8]
theorem en_cell (c : List Int) (R : List D) : CAt (.cell R.length) (R ++ [D.own (c.map D.int)]) c := .inr ⟨_, rfl, by simp⟩
theorem en_comp {one o many : Int} {x4 x6 x7 x8 : D} {c : List Int} {l : List Int} {tt : CB} {q : Int → Bool} {it : S → Option (List D × S)} {y7 : D} (h4 : frzn x4 = true) (hl : l.length < 1000)
    (hi : it ⟨EV n ne be one o many R x4 x6 x7 x8, R ++ [.own (c.map D.int)]⟩ = some (l.map D.int, ⟨EV n ne be one o many R x4 x6 y7 x8, R ++ [.own (c.map D.int)]⟩))
    (ht : ∀ s ∈ l, tt ⟨EV n ne be one o many R (.int s) x6 y7 x8, R ++ [.own (c.map D.int)]⟩ = some (q s, ⟨EV n ne be one o many R (.int s) x6 y7 x8, R ++ [.own (c.map D.int)]⟩)) :
    cLc it [4] (gN 4) tt (cVar 4) ⟨EV n ne be one o many R x4 x6 x7 x8, R ++ [.own (c.map D.int)]⟩ = some (.own ((l.filter q).map D.int), ⟨EV n ne be one o many R x4 x6 y7 x8, R ++ [.own (c.map D.int)]⟩) := by
  have hlc := lcLoop_pure (js := [4]) (tg := gN 4) (tt := tt) (te := cVar 4) (s := ⟨EV n ne be one o many R .unb x6 y7 x8, R ++ [.own (c.map D.int)]⟩) (fun d => match d with | .int s => q s | _ => false) id (l.map D.int) [] (by rw [List.length_map]; unfold line; simp only [List.length_nil]; omega)
    (fun d hd => by
      obtain ⟨s, hs, rfl⟩ := List.mem_map.mp hd
      exact ⟨⟨EV n ne be one o many R (.int s) x6 y7 x8, R ++ [.own (c.map D.int)]⟩, rfl, ht s hs, rfl, fun _ => rfl⟩)
  rw [List.nil_append, List.map_id, fmap (q := q) (fun _ => rfl)] at hlc
  exact cLc_of hi (by show (frzn x4 && true) = true; rw [h4]; rfl) hlc
theorem en_read {one o many : Int} {x4 x6 x7 x8 : D} {c : List Int} {s : Int} (hc : c.length = n) (s0 : 0 ≤ s) (s1 : s < n) {ci : Fr.C} (hi : ci ⟨EV n ne be one o many R x4 x6 x7 x8, R ++ [.own (c.map D.int)]⟩ = some (.int s, ⟨EV n ne be one o many R x4 x6 x7 x8, R ++ [.own (c.map D.int)]⟩)) :
    cF (cIx 5 ci) ⟨EV n ne be one o many R x4 x6 x7 x8, R ++ [.own (c.map D.int)]⟩ = some (.int (lk c s), ⟨EV n ne be one o many R x4 x6 x7 x8, R ++ [.own (c.map D.int)]⟩) :=
  cF_of (cIx_c (i := 5) (en_cell c R) rfl hi s0 (by rw [hc]; exact s1))
theorem enemy_turn (hp : ProgOk n ne be) {one o many : Int} {x4 x6 x7 x8 : D} {c : List Int} (hc : c.length = n) (h4 : frzn x4 = true) :
    (enS n (ne ++ be) o many c = [] ∧ ∃ y7, b__law_enemy_2 C w ⟨EV n ne be one o many R x4 x6 x7 x8, R ++ [.own (c.map D.int)]⟩ = some (.brk, ⟨EV n ne be one o many R x4 x6 y7 x8, R ++ [.own (c.map D.int)]⟩)) ∨
    ∃ s ∈ enS n (ne ++ be) o many c, (∀ x ∈ enS n (ne ++ be) o many c, lk c s ≤ lk c x) ∧
      ∃ y7 y8, b__law_enemy_2 C w ⟨EV n ne be one o many R x4 x6 x7 x8, R ++ [.own (c.map D.int)]⟩ = some (.next, ⟨EV n ne be one o many R x4 x6 y7 y8, R ++ [.own ((bump c s).map D.int)]⟩) := by
  have h12 := hp.n2
  have l1 := hp.lne.len
  have l2 := hp.lbe.len
  have hlk := hp.lk
  generalize hM : R ++ [D.own (c.map D.int)] = M
  -- the first list
  have hit : itR1 (cCons (cF (cIx 0 (cK (.int 0)))) cNil) ⟨EV n ne be one o many R x4 x6 x7 x8, M⟩ = some ((r0 n).map D.int, ⟨EV n ne be one o many R x4 x6 x7 x8, M⟩) := by
    have := itR1_of (c := cF (cIx 0 (cK (.int 0)))) (s := ⟨EV n ne be one o many R x4 x6 x7 x8, M⟩) (s1 := ⟨EV n ne be one o many R x4 x6 x7 x8, M⟩) (n := (n : Int)) rfl (small62_of (by omega) (by omega))
    rw [Int.toNat_natCast, rgD_r0] at this
    exact this
  have hr0 : (r0 n).length = n := r0_len n
  generalize hS : (r0 n).filter (fun s => !decide (s = o) && mayB (ne ++ be) c s) = S1
  have hS1 : ∀ s ∈ S1, 0 ≤ s ∧ s < n := fun s hs => by rw [← hS] at hs; exact mem_r0.mp (List.mem_filter.mp hs).1
  have hl1 : S1.length ≤ n := by
    rw [← hS]
    have := List.length_filter_le (fun s => !decide (s = o) && mayB (ne ++ be) c s) (r0 n)
    omega
  have e1 := en_comp (n := n) (ne := ne) (be := be) (R := R) (one := one) (o := o) (many := many) (x4 := x4) (x6 := x6) (x7 := x7) (x8 := x8) (c := c) (l := r0 n)
    (tt := bAnd (cT (cBin gNe (cVar 4) (cVar 2))) (cT (cF (cCall (m__law_may C w) (cCons (cVar 0) (cCons (cVar 5) (cCons (cVar 4) cNil)))))))
    (q := fun s => !decide (s = o) && mayB (ne ++ be) c s) h4 (by omega) (by rw [hM]; exact hit) (fun s hs => by
      obtain ⟨s0, s1⟩ := mem_r0.mp hs
      have t1 : cT (cBin gNe (cVar 4) (cVar 2)) ⟨EV n ne be one o many R (.int s) x6 x7 x8, R ++ [.own (c.map D.int)]⟩ = some (!decide (s = o), ⟨EV n ne be one o many R (.int s) x6 x7 x8, R ++ [.own (c.map D.int)]⟩) :=
        cT_of (cBin_of (x := .int s) (y := .int o) (s1 := ⟨EV n ne be one o many R (.int s) x6 x7 x8, R ++ [.own (c.map D.int)]⟩) (s2 := ⟨EV n ne be one o many R (.int s) x6 x7 x8, R ++ [.own (c.map D.int)]⟩) rfl rfl (Em.int.gEqv_d (by decide) not s o))
      by_cases e : s = o
      · rw [decide_eq_true e] at t1 ⊢
        exact bAnd_f t1
      · rw [decide_eq_false e] at t1 ⊢
        have hm := may_ok C w (n := n) (ne := ne) (be := be) (en_cell c R) hc l1 l2 (fun t ht => ⟨(hlk t ht).1, (hlk t ht).2.1⟩) s0 s1
        exact (bAnd_t t1).trans (cT_of (cF_of (cCall_of (ds := [dParts n ne be, .cell R.length, .int s]) (s1 := ⟨EV n ne be one o many R (.int s) x6 x7 x8, R ++ [.own (c.map D.int)]⟩) rfl hm))))
  rw [hS] at e1
  have hfz : ∀ l : List Int, frzL (l.map D.int) = l.map D.int := fun l => frz_all fun d hd => by obtain ⟨i, _, rfl⟩ := List.mem_map.mp hd; rfl
  have v7 : ∀ (y8 : D) (l : List Int), cVar 7 ⟨EV n ne be one o many R x4 x6 (.own (l.map D.int)) y8, M⟩ = some (.lst (l.map D.int), ⟨EV n ne be one o many R x4 x6 (.lst (l.map D.int)) y8, M⟩) := fun y8 l => by
    show some (D.lst (frzL (l.map D.int)), (⟨EV n ne be one o many R x4 x6 (.lst (frzL (l.map D.int))) y8, M⟩ : S)) = _
    rw [hfz]
  -- the second list
  have e2 := en_comp (n := n) (ne := ne) (be := be) (R := R) (one := one) (o := o) (many := many) (x4 := x4) (x6 := x6) (x7 := .own (S1.map D.int)) (x8 := x8) (c := c) (l := S1) (tt := cT (cBin gLt (cF (cIx 5 (cVar 4))) (cVar 3))) (q := fun s => decide (lk c s < many)) h4 (by omega)
    (by rw [hM]; exact itS_lst (v7 x8 S1)) (fun s hs => by
      obtain ⟨s0, s1⟩ := hS1 s hs
      exact cT_of (cBin_of (en_read hc s0 s1 rfl) rfl rfl))
  have hS2 : S1.filter (fun s => decide (lk c s < many)) = enS n (ne ++ be) o many c := by rw [← hS]; rfl
  rw [hS2] at e2
  generalize hE : enS n (ne ++ be) o many c = S2 at *
  have hS2' : ∀ s ∈ S2, 0 ≤ s ∧ s < n := fun s hs => by rw [← hE] at hs; exact (mem_enS.mp hs).1
  have hl2 : S2.length ≤ n := by
    rw [← hS2]
    have := List.length_filter_le (fun s => decide (lk c s < many)) S1
    omega
  have a1 := cAsg_of (i := 7) e1
  have a2 := cAsg_of (i := 7) e2
  rw [hM] at a1 a2
  have hlen : cT (cBin gEq (cF (cLenP 7)) (cK (.int 0))) ⟨EV n ne be one o many R x4 x6 (.own (S2.map D.int)) x8, M⟩ = some (decide ((S2.length : Int) = 0), ⟨EV n ne be one o many R x4 x6 (.own (S2.map D.int)) x8, M⟩) := by
    refine cT_of (cBin_of (x := .int (S2.length : Int)) (y := .int 0) (s1 := ⟨EV n ne be one o many R x4 x6 (.own (S2.map D.int)) x8, M⟩) (cF_of (d := .int (S2.length : Int)) ?_) rfl (Em.int.gEqv_d (by decide) id _ _))
    show some (D.int ((S2.map D.int).length : Int), _) = _
    rw [List.length_map]
  have hb : ∀ r, b__law_enemy_2 C w ⟨EV n ne be one o many R x4 x6 x7 x8, M⟩ = r ↔ cSeq (cIfS (cT (cBin gEq (cF (cLenP 7)) (cK (.int 0)))) cBrk cSkip) (cSeq (cAsg 8 (cCB gMin (cCons (cF (cLc (itS (cVar 7)) [4] (gN 4) bYes (cIx 5 (cVar 4)))) cNil)))
    (cSeq (cAsg 7 (cLc (itS (cVar 7)) [4] (gN 4) (cT (cBin gEq (cF (cIx 5 (cVar 4))) (cVar 8))) (cVar 4)))
    (cSetIx 5 (cF (cIx 7 (cK (.int 0)))) (cF (cBin gAdd (cF (cIx 5 (cF (cIx 7 (cK (.int 0)))))) (cK (.int 1))))))) ⟨EV n ne be one o many R x4 x6 (.own (S2.map D.int)) x8, M⟩ = r := fun r => by
    unfold b__law_enemy_2
    rw [cSeq_next a1]
    show cSeq _ _ ⟨EV n ne be one o many R x4 x6 (.own (S1.map D.int)) x8, M⟩ = r ↔ _
    rw [cSeq_next a2]
    rfl
  by_cases hne : S2 = []
  · refine .inl ⟨hne, .own (S2.map D.int), (hb _).mpr ?_⟩
    rw [show decide ((S2.length : Int) = 0) = true by rw [hne]; rfl] at hlen
    show (match cIfS (cT (cBin gEq (cF (cLenP 7)) (cK (.int 0)))) cBrk cSkip ⟨EV n ne be one o many R x4 x6 (.own (S2.map D.int)) x8, M⟩ with | some (.next, s1) => _ | r => r) = _
    rw [cIfS_t hlen]
    rfl
  · have hpos : 0 < S2.length := List.length_pos_iff.mpr hne
    rw [decide_eq_false (show ¬ (S2.length : Int) = 0 by omega)] at hlen
    have a3 : cIfS (cT (cBin gEq (cF (cLenP 7)) (cK (.int 0)))) cBrk cSkip ⟨EV n ne be one o many R x4 x6 (.own (S2.map D.int)) x8, M⟩ = some (.next, ⟨EV n ne be one o many R x4 x6 (.own (S2.map D.int)) x8, M⟩) := by rw [cIfS_f hlen]; rfl
    -- the least
    have hlc := lcLoop_pure (js := [4]) (tg := gN 4) (tt := bYes) (te := cIx 5 (cVar 4)) (s := ⟨EV n ne be one o many R .unb x6 (.lst (S2.map D.int)) x8, M⟩) (fun _ => true) (fun d => match d with | .int s => .int (lk c s) | d => d) (S2.map D.int) [] (by rw [List.length_map]; unfold line; simp only [List.length_nil]; omega)
      (fun d hd => by
        obtain ⟨s, hs, rfl⟩ := List.mem_map.mp hd
        obtain ⟨s0, s1⟩ := hS2' s hs
        refine ⟨⟨EV n ne be one o many R (.int s) x6 (.lst (S2.map D.int)) x8, M⟩, rfl, rfl, rfl, fun _ => ?_⟩
        rw [← hM]
        exact cIx_c (i := 5) (en_cell c R) rfl rfl s0 (by rw [hc]; exact s1))
    have e3 : ([] : List D) ++ (((S2.map D.int).filter fun _ => true).map fun d => match d with | .int s => .int (lk c s) | d => d) = (S2.map fun s => lk c s).map D.int := by
      rw [List.nil_append, List.filter_eq_self.mpr (fun _ _ => rfl), List.map_map, List.map_map]
      rfl
    rw [e3] at hlc
    have hcl := cLc_of (it := itS (cVar 7)) (s := ⟨EV n ne be one o many R x4 x6 (.own (S2.map D.int)) x8, M⟩) (s1 := ⟨EV n ne be one o many R x4 x6 (.lst (S2.map D.int)) x8, M⟩) (itS_lst (v7 x8 S2)) (by show (frzn x4 && true) = true; rw [h4]; rfl) hlc
    have hcl' : cF (cLc (itS (cVar 7)) [4] (gN 4) bYes (cIx 5 (cVar 4))) ⟨EV n ne be one o many R x4 x6 (.own (S2.map D.int)) x8, M⟩ = some (.lst ((S2.map fun s => lk c s).map D.int), ⟨EV n ne be one o many R x4 x6 (.lst (S2.map D.int)) x8, M⟩) := by
      rw [cF_of hcl]
      show some (D.lst (frzL _), _) = _
      rw [hfz]
      rfl
    generalize hm : minI (S2.map fun s => lk c s) = m
    obtain ⟨hm1, hm2⟩ := minI_spec (ns := S2.map fun s => lk c s) (by simpa using hne)
    rw [hm] at hm1 hm2
    have a4 : cAsg 8 (cCB gMin (cCons (cF (cLc (itS (cVar 7)) [4] (gN 4) bYes (cIx 5 (cVar 4)))) cNil)) ⟨EV n ne be one o many R x4 x6 (.own (S2.map D.int)) x8, M⟩ = some (.next, ⟨EV n ne be one o many R x4 x6 (.lst (S2.map D.int)) (.int m), M⟩) := by
      refine cAsg_of (cCB_of (cCons_of hcl' cNil_of) (d := .int m) ?_)
      show (intsOf ((S2.map fun s => lk c s).map D.int)).bind _ = _
      rw [intsOf_map]
      show (if _ then none else some (D.int (minI _))) = _
      rw [if_neg (by simpa using hne), hm]
    -- the first of the least
    have e5 := en_comp (n := n) (ne := ne) (be := be) (R := R) (one := one) (o := o) (many := many) (x4 := x4) (x6 := x6) (x7 := .lst (S2.map D.int)) (x8 := .int m) (c := c) (l := S2) (tt := cT (cBin gEq (cF (cIx 5 (cVar 4))) (cVar 8))) (q := fun s => decide (lk c s = m)) (y7 := .lst (S2.map D.int)) (it := itS (cVar 7)) h4 (by omega)
      rfl (fun s hs => by
        obtain ⟨s0, s1⟩ := hS2' s hs
        exact cT_of (cBin_of (en_read hc s0 s1 rfl) (y := .int m) rfl (Em.int.gEqv_d (by decide) id _ _)))
    generalize hS3 : S2.filter (fun s => decide (lk c s = m)) = S3 at e5
    have hne3 : S3 ≠ [] := by
      obtain ⟨s, hs, e⟩ := List.mem_map.mp hm1
      intro z
      have : s ∈ S3 := by rw [← hS3]; exact List.mem_filter.mpr ⟨hs, decide_eq_true e⟩
      rw [z] at this
      simp at this
    obtain ⟨s, S4, rfl⟩ : ∃ s S4, S3 = s :: S4 := by cases S3 with | nil => exact absurd rfl hne3 | cons s S4 => exact ⟨s, S4, rfl⟩
    have hsm : s ∈ S2.filter (fun s => decide (lk c s = m)) := by rw [hS3]; exact List.mem_cons_self ..
    obtain ⟨hs2, hse⟩ := List.mem_filter.mp hsm
    have hse := of_decide_eq_true hse
    obtain ⟨s0, s1⟩ := hS2' s hs2
    refine .inr ⟨s, hs2, fun x hx => by rw [hse]; exact hm2 _ (List.mem_map.mpr ⟨x, hx, rfl⟩), .own ((s :: S4).map D.int), .int m, (hb _).mpr ?_⟩
    have a5 := cAsg_of (i := 7) e5
    rw [hM] at a5
    rw [cSeq_next a3, cSeq_next a4, cSeq_next a5]
    show cSetIx 5 _ _ ⟨EV n ne be one o many R x4 x6 (.own ((s :: S4).map D.int)) (.int m), M⟩ = _
    have g7 : cF (cIx 7 (cK (.int 0))) ⟨EV n ne be one o many R x4 x6 (.own ((s :: S4).map D.int)) (.int m), M⟩ = some (.int s, ⟨EV n ne be one o many R x4 x6 (.own ((s :: S4).map D.int)) (.int m), M⟩) :=
      cF_of (cIx_own (i := 7) (ds := (s :: S4).map D.int) (k := 0) (j := 0) rfl rfl (by rw [List.length_map]; exact ixN_of (by omega) (by simp)) rfl rfl)
    have gv : cF (cBin gAdd (cF (cIx 5 (cF (cIx 7 (cK (.int 0)))))) (cK (.int 1))) ⟨EV n ne be one o many R x4 x6 (.own ((s :: S4).map D.int)) (.int m), M⟩ = some (.int (lk c s + 1), ⟨EV n ne be one o many R x4 x6 (.own ((s :: S4).map D.int)) (.int m), M⟩) := by
      rw [← hM] at g7 ⊢
      exact cF_of (d := .int (lk c s + 1)) (cBin_of (en_read hc s0 s1 g7) rfl rfl)
    have hr : rget ⟨EV n ne be one o many R x4 x6 (.own ((s :: S4).map D.int)) (.int m), M⟩ (.m R.length) = some (.own (c.map D.int)) := by
      show M[R.length]? = _
      rw [← hM]
      simp
    have hset := cSetIx_at (i := 5) (ci := cF (cIx 7 (cK (.int 0)))) (r := .m R.length) (k := s) (j := s.toNat) (ds := c.map D.int) gv rfl g7 hr (by rw [List.length_map]; exact ixN_of s0 (by rw [hc]; exact s1))
    rw [hset, ints_set]
    show some (Fl.next, (⟨_, M.set R.length _⟩ : S)) = _
    rw [← hM, set_last]
    rfl
theorem enemy_loop (hp : ProgOk n ne be) {one o many B : Int} (rank : Int → Int) (hr : ∀ t ∈ ne ++ be, t.2.2 = 0 → rank t.1 < rank t.2.1) (o0 : 0 ≤ o) (h0 : 0 ≤ one) (h1 : one < n) (hne : one ≠ o)
    (hB : ∀ r, Wy (prsF (ne ++ be)) o one r → B ≤ r) (hm : B ≤ many) : ∀ (ds : List D) (k : Nat) (x4 x6 x7 x8 : D) (c : List Int), frzn x4 = true → EnJ n (ne ++ be) o one B k c →
    ∃ (y6 y7 y8 : D) (c' : List Int), forLoop (gN 6) (b__law_enemy_2 C w) ds ⟨EV n ne be one o many R x4 x6 x7 x8, R ++ [.own (c.map D.int)]⟩ = some (.next, ⟨EV n ne be one o many R x4 y6 y7 y8, R ++ [.own (c'.map D.int)]⟩) ∧ EnI n (ne ++ be) o c' ∧ (B ≤ lk c' one ∨ EnJ n (ne ++ be) o one B (k + ds.length) c')
  | [], k, x4, x6, x7, x8, c, h4, J => ⟨x6, x7, x8, c, rfl, J.1, .inr J⟩
  | d :: ds, k, x4, x6, x7, x8, c, h4, J => by
    have hg : gN 6 d ⟨EV n ne be one o many R x4 x6 x7 x8, R ++ [.own (c.map D.int)]⟩ = some ⟨EV n ne be one o many R x4 d x7 x8, R ++ [.own (c.map D.int)]⟩ := rfl
    rcases enemy_turn C w (R := R) (one := one) (o := o) (many := many) (x4 := x4) (x6 := d) (x7 := x7) (x8 := x8) hp J.1.len h4 with ⟨he, y7, e⟩ | ⟨s, hs, hmin, y7, y8, e⟩
    · refine ⟨d, y7, x8, c, ?_, J.1, .inl (en_stop hp.lk rank hr h0 h1 hne hB hm J he)⟩
      exact forLoop_brk hg e
    · have J2 := en_turn hp.lk rank hr o0 h0 h1 hne hB hm J hs hmin
      obtain ⟨z6, z7, z8, c', e2, I, h⟩ := enemy_loop hp rank hr o0 h0 h1 hne hB hm ds (k + 1) x4 d y7 y8 (bump c s) h4 J2
      refine ⟨z6, z7, z8, c', ?_, I, by rw [List.length_cons, show k + (ds.length + 1) = k + 1 + ds.length by omega]; exact h⟩
      exact (forLoop_next hg e).trans e2
theorem enemy_ok (hp : ProgOk n ne be) {one o B : Int} {many : Nat} (o0 : 0 ≤ o) (h0 : 0 ≤ one) (h1 : one < n) (hne : one ≠ o) (hB : ∀ r, Wy (prsF (ne ++ be)) o one r → B ≤ r) (hm : B ≤ many) (hk : (n : Int) * B < many) (hz : many < 1000) (hB0 : 0 ≤ B) :
    ∃ (v : Int) (J : List D), m__law_enemy C w [dParts n ne be, .int one, .int o, .int many] R = some (.int v, R ++ J) ∧ B ≤ v ∧ ∀ r, Wy (prsF (ne ++ be)) o one r → v ≤ r := by
  have h12 := hp.n2
  obtain ⟨rank, hr⟩ := hp.rk
  have hi := itR1_of (c := cF (cIx 0 (cK (.int 0)))) (s := ⟨[dParts n ne be, .int one, .int o, .int many, .unb, .unb, .unb, .unb, .unb], R⟩) (s1 := ⟨[dParts n ne be, .int one, .int o, .int many, .unb, .unb, .unb, .unb, .unb], R⟩) (n := (n : Int)) rfl (small62_of (by omega) (by omega))
  rw [Int.toNat_natCast, rgD_r0] at hi
  have hlc := lcLoop_pure (js := [4]) (tg := gN 4) (tt := bYes) (te := cK (.int 0)) (s := ⟨[dParts n ne be, .int one, .int o, .int many, .unb, .unb, .unb, .unb, .unb], R⟩) (fun _ => true) (fun _ => .int 0) ((r0 n).map D.int) [] (by rw [List.length_map, r0_len]; unfold line; simp only [List.length_nil]; omega)
    (fun d hd => ⟨⟨[dParts n ne be, .int one, .int o, .int many, d, .unb, .unb, .unb, .unb], R⟩, rfl, rfl, rfl, fun _ => rfl⟩)
  have e : ([] : List D) ++ ((((r0 n).map D.int).filter fun _ => true).map fun _ => D.int 0) = (zeros n).map D.int := by
    rw [List.nil_append, List.filter_eq_self.mpr (fun _ _ => rfl), List.map_map, ← zeros_D]
    unfold lakO r0
    rw [List.map_map]
    rfl
  rw [e] at hlc
  have e1 : t__law_enemy_1 C w ⟨[dParts n ne be, .int one, .int o, .int many, .unb, .unb, .unb, .unb, .unb], R⟩ = some (.next, ⟨EV n ne be one o many R .unb .unb .unb .unb, R ++ [.own ((zeros n).map D.int)]⟩) := cCell_of (cLc_of hi rfl hlc)
  have J0 : EnJ n (ne ++ be) o one B 0 (zeros n) := by
    refine ⟨⟨by simp [zeros], fun x r x0 x1 hw => ?_, lk_zeros n o⟩, .inr ⟨fun x _ _ => by rw [lk_zeros]; exact hB0, by rw [sum_zeros]; rfl⟩⟩
    rw [lk_zeros]
    exact hw.pos fun b p hp' => (prsF_E hp.lk b p hp').1
  obtain ⟨y6, y7, y8, c', e2, I, h⟩ := enemy_loop C w (R := R) hp rank hr o0 h0 h1 hne hB hm (rgD 0 many) 0 .unb .unb .unb .unb (zeros n) rfl J0
  rw [Nat.zero_add, rgD_len] at h
  have hfin : B ≤ lk c' one := by
    rcases h with h | h
    · exact h
    · exact en_end h hk
  refine ⟨lk c' one, [.own (c'.map D.int)], ?_, hfin, fun r hw => I.up one r h0 h1 hw⟩
  have hi2 := itR1_of (c := cVar 3) (s := ⟨EV n ne be one o many R .unb .unb .unb .unb, R ++ [.own ((zeros n).map D.int)]⟩) (n := (many : Int)) rfl (small62_of (by omega) (by omega))
  rw [Int.toNat_natCast] at hi2
  have e3 : t__law_enemy_3 C w ⟨EV n ne be one o many R .unb .unb .unb .unb, R ++ [.own ((zeros n).map D.int)]⟩ = _ := (cFor_of hi2).trans e2
  unfold m__law_enemy
  refine mOf_ret (n := 9) (ds := [dParts n ne be, .int one, .int o, .int many]) (M := R) (env := [dParts n ne be, .int one, .int o, .int many, .unb, .unb, .unb, .unb, .unb]) (s' := ⟨EV n ne be one o many R .unb y6 y7 y8, R ++ [.own (c'.map D.int)]⟩) rfl ?_
  unfold c__law_enemy
  rw [cSeq_next e1, cSeq_next e3]
  exact cRet_of (cIx_c (i := 5) (en_cell c' R) rfl rfl h0 (by rw [I.len]; exact h1))
end
end K07

set_option maxRecDepth 100000
set_option maxHeartbeats 1000000
namespace K07
open PySem PySem.Spec PyProof.Rows _root_.L2 Fr
/-! ### what is no step, and how it is refused -/
def NoSt (n : Nat) (T : D) : Prop := tyD T ≠ none ∧ stepD n T = false ∧ frzn T = true
theorem odd_in (x : D) (n : Nat) : ∀ T ∈ ([.non, .bl true, .bl false, .str ("1" : Str), .str ("A b" : Str), .lst [.str ("a" : Str)], .dic [.inr ("a" : Str)] [.str ("b" : Str)], .lst [], .dic [] [], .tup [.tup []], .tup [.str ("a" : Str)], .lst [x], .tup [.non], .int (-1), .lst [.int 0], .tup [.bl true]] : List D), NoSt n T := by
  intro T hT
  simp only [List.mem_cons, List.not_mem_nil, or_false] at hT
  rcases hT with rfl | rfl | rfl | rfl | rfl | rfl | rfl | rfl | rfl | rfl | rfl | rfl | rfl | rfl | rfl | rfl
  all_goals exact ⟨(by intro z; cases z), rfl, rfl⟩
theorem cVar_no {n : Nat} {T : D} {env M : List D} {i : Nat} (h : NoSt n T) (he : env[i]? = some T) : cVar i ⟨env, M⟩ = some (T, ⟨env, M⟩) := by
  obtain ⟨h1, _, h3⟩ := h
  unfold cVar
  rw [show (⟨env, M⟩ : S).env[i]? = some T from he]
  cases T <;> first | rfl | exact (h1 rfl).elim
section
variable (C : Addr) (w : World) {n : Nat} {ne be : List Tri} {R M : List D} {h : D}
theorem odd_ok (ok : HOk h) : ∃ T h', m__law_odd C w [.cell 0] (h :: R) = some (T, h' :: R) ∧ HOk h' ∧ ∀ n, NoSt n T := by
  have s1 : cAsg 1 (cLst (cCons (cK .non) cNil)) ⟨[.cell 0, .unb, .unb, .unb], h :: R⟩ = some (.next, ⟨[.cell 0, .own [.non], .unb, .unb], h :: R⟩) := rfl
  obtain ⟨s', e, x, x2, rfl⟩ := forLoop_inv (tg := gN 2) (body := cAsg 1 (cLst (cCons (cVar 1) cNil))) (fun _ s => ∃ x x2, s = ⟨[.cell 0, .own [x], x2, .unb], h :: R⟩) (rgD 0 18) 0 ⟨[.cell 0, .own [.non], .unb, .unb], h :: R⟩ ⟨_, _, rfl⟩ (fun i d s hd hI => by
    obtain ⟨x, x2, rfl⟩ := hI
    exact ⟨_, _, .next, rfl, rfl, .inl rfl, .lst [frz x], d, rfl⟩)
  have s2 : t__law_odd_1 C w ⟨[.cell 0, .own [.non], .unb, .unb], h :: R⟩ = some (.next, ⟨[.cell 0, .own [x], x2, .unb], h :: R⟩) := by
    unfold t__law_odd_1
    rw [cFor_of (itR1_of (c := cK (.int 18)) (s := ⟨[.cell 0, .own [.non], .unb, .unb], h :: R⟩) (n := 18) rfl rfl)]
    exact e
  obtain ⟨d, h', e3, ok', d0, d1⟩ := draw0 C w (R := R) (many := 16) ok (by omega) (by omega)
  have hodd := odd_in (frz x)
  generalize hL : ([.non, .bl true, .bl false, .str ("1" : Str), .str ("A b" : Str), .lst [.str ("a" : Str)], .dic [.inr ("a" : Str)] [.str ("b" : Str)], .lst [], .dic [] [], .tup [.tup []], .tup [.str ("a" : Str)], .lst [frz x], .tup [.non], .int (-1), .lst [.int 0], .tup [.bl true]] : List D) = L at hodd
  have hlen : L.length = 16 := by rw [← hL]; rfl
  have s3 : t__law_odd_2 C w ⟨[.cell 0, .own [x], x2, .unb], h :: R⟩ = some (.next, ⟨[.cell 0, .lst [frz x], x2, .own L], h :: R⟩) := by
    rw [← hL]
    rfl
  have hj : d.toNat < L.length := by rw [hlen]; omega
  have hmem : L[d.toNat] ∈ L := List.getElem_mem hj
  refine ⟨L[d.toNat], h', ?_, ok', fun n => hodd n _ hmem⟩
  unfold m__law_odd
  refine mOf_ret (env := [.cell 0, .unb, .unb, .unb]) (s' := ⟨[.cell 0, .lst [frz x], x2, .own L], h' :: R⟩) rfl ?_
  unfold c__law_odd
  rw [cSeq_next s1, cSeq_next s2, cSeq_next s3]
  unfold t__law_odd_3
  refine cRet_of ?_
  have hlp : cF (cLenP 3) ⟨[.cell 0, .lst [frz x], x2, .own L], h :: R⟩ = some (.int 16, ⟨[.cell 0, .lst [frz x], x2, .own L], h :: R⟩) := by
    refine cF_of (d := .int 16) ?_
    show some (D.int (L.length : Int), _) = _
    rw [hlen]
    rfl
  have hd := cF_of (cCall_of (m := m__law_draw C w) (cCons_of (c := cVar 0) (d := .cell 0) (s := ⟨[.cell 0, .lst [frz x], x2, .own L], h :: R⟩) rfl (cCons_of hlp cNil_of)) e3)
  exact cIx_own' (i := 3) (j := d.toNat) rfl hd rfl (by rw [hlen]; exact ixN_of d0 (by omega)) (List.getElem?_eq_getElem hj) (hodd 0 _ hmem).2.2
theorem ahead_exc1 {T U : D} (hT : NoSt n T) : mx_ahead C w [dPrg C n ne be, T, U] M = some (NoO, M) := by
  have hs := is_step_any C w (n := n) (ne := ne) (be := be) (M := M) hT.1
  rw [hT.2.1] at hs
  unfold mx_ahead
  refine mOfX_exc (env := [dPrg C n ne be, T, U]) (s' := ⟨[dPrg C n ne be, T, U], M⟩) rfl ?_
  unfold cx_ahead x_ahead_3
  exact cSeqX_exc ((cIfX_t (bOr_t (bNot_of (cT_of (cF_of (cCall_of (cCons_of (c := cVar 0) (d := dPrg C n ne be) (s1 := ⟨[dPrg C n ne be, T, U], M⟩) rfl (cCons_of (cVar_no hT rfl) cNil_of)) hs)))))).trans rfl)
theorem ahead_exc2 {T : D} {i : Int} (i0 : 0 ≤ i) (i1 : i < n) (hT : NoSt n T) : mx_ahead C w [dPrg C n ne be, .int i, T] M = some (NoO, M) := by
  have hs := is_step_any C w (n := n) (ne := ne) (be := be) (M := M) hT.1
  rw [hT.2.1] at hs
  have hq := is_step_ok C w (n := n) (ne := ne) (be := be) (M := M) i
  rw [decide_eq_true (by omega)] at hq
  unfold mx_ahead
  refine mOfX_exc (env := [dPrg C n ne be, .int i, T]) (s' := ⟨[dPrg C n ne be, .int i, T], M⟩) rfl ?_
  unfold cx_ahead x_ahead_3
  have c1 : bNot (cT (cF (cCall (m_is_step C w) (cCons (cVar 0) (cCons (cVar 1) cNil))))) ⟨[dPrg C n ne be, .int i, T], M⟩ = some (false, ⟨[dPrg C n ne be, .int i, T], M⟩) :=
    bNot_of (cT_of (cF_of (cCall_of (cCons_of (c := cVar 0) (d := dPrg C n ne be) rfl (cCons_of (c := cVar 1) (d := .int i) (s1 := ⟨[dPrg C n ne be, .int i, T], M⟩) rfl cNil_of)) hq)))
  have c2 : bNot (cT (cF (cCall (m_is_step C w) (cCons (cVar 0) (cCons (cVar 2) cNil))))) ⟨[dPrg C n ne be, .int i, T], M⟩ = some (true, ⟨[dPrg C n ne be, .int i, T], M⟩) :=
    bNot_of (cT_of (cF_of (cCall_of (cCons_of (c := cVar 0) (d := dPrg C n ne be) (s1 := ⟨[dPrg C n ne be, .int i, T], M⟩) rfl (cCons_of (c := cVar 2) (d := T) (cVar_no hT rfl) cNil_of)) hs)))
  exact cSeqX_exc ((cIfX_t ((bOr_f c1).trans c2)).trans rfl)
theorem refused_of {T U : D} (hT : cVar 1 ⟨[dPrg C n ne be, T, U, .bl false, .unb], M⟩ = some (T, ⟨[dPrg C n ne be, T, U, .bl false, .unb], M⟩)) (hU : cVar 2 ⟨[dPrg C n ne be, T, U, .bl false, .unb], M⟩ = some (U, ⟨[dPrg C n ne be, T, U, .bl false, .unb], M⟩))
    (he : mx_ahead C w [dPrg C n ne be, T, U] M = some (NoO, M)) : m__law_refused C w [dPrg C n ne be, T, U] M = some (.bl true, M) := by
  have hcall := cCallX_of (m := mx_ahead C w) (s := ⟨[dPrg C n ne be, T, U, .bl false, .unb], M⟩) (cCons_of (c := cVar 0) (d := dPrg C n ne be) (s1 := ⟨[dPrg C n ne be, T, U, .bl false, .unb], M⟩) rfl (cCons_of hT (cCons_of hU cNil_of))) he
  unfold m__law_refused
  refine mOf_ret (env := [dPrg C n ne be, T, U, .unb, .unb]) (s' := ⟨[dPrg C n ne be, T, U, .bl true, .unb], M⟩) rfl ?_
  unfold c__law_refused
  rw [cSeq_next (s1 := ⟨[dPrg C n ne be, T, U, .bl false, .unb], M⟩) rfl]
  have s2 : t__law_refused_2 C w ⟨[dPrg C n ne be, T, U, .bl false, .unb], M⟩ = some (.next, ⟨[dPrg C n ne be, T, U, .bl true, .unb], M⟩) := by
    unfold t__law_refused_2 cTryA x__law_refused_1 cDropX
    rw [hcall]
    dsimp only
    rw [if_pos (by decide)]
    rfl
  rw [cSeq_next s2]
  rfl
theorem refused1 {T : D} (hT : NoSt n T) : m__law_refused C w [dPrg C n ne be, T, .int 0] M = some (.bl true, M) :=
  refused_of C w (cVar_no hT rfl) rfl (ahead_exc1 C w hT)
theorem refused2 {T : D} (hn : 1 ≤ n) (hT : NoSt n T) : m__law_refused C w [dPrg C n ne be, .int 0, T] M = some (.bl true, M) :=
  refused_of C w rfl (cVar_no hT rfl) (ahead_exc2 C w (by omega) (by omega) hT)
end
/-! ### orders -/
def Lag (L : List Tri) (c : List Int) : Prop := ∀ t ∈ L, lk c t.2.1 ≤ lk c t.1 + t.2.2
theorem lag_bump {n : Nat} {L : List Tri} {c : List Int} {s : Int} (hL : LkOk n L) (hc : c.length = n) (h : Lag L c) (s0 : 0 ≤ s) (s1 : s < n) (hm : mayB L c s = true) : Lag L (bump c s) := fun t ht => by
  have hk := hL t ht
  have h1 := h t ht
  rw [lk_bump s0 (by rw [hc]; exact s1) hk.2.2.1, lk_bump s0 (by rw [hc]; exact s1) hk.1]
  by_cases e : t.2.1 = s
  · have h2 := mayB_iff.mp hm t ht e
    rw [if_pos e]
    split <;> omega
  · rw [if_neg e]
    split
    · rename_i e2; rw [e2] at h1; omega
    · exact h1
theorem lag_way {L : List Tri} {c : List Int} (h : Lag L c) {a b r : Int} (hw : Wy (prsF L) a b r) : lk c b ≤ lk c a + r := by
  induction hw with
  | nil => omega
  | snoc _ m ih => have := h _ (mem_prsF.mp m); dsimp only at this; omega
theorem lag_zeros {n : Nat} {L : List Tri} (hL : LkOk n L) : Lag L (zeros n) := fun t ht => by
  have := hL t ht
  rw [lk_zeros, lk_zeros]
  omega
end K07

set_option maxRecDepth 100000
set_option maxHeartbeats 1000000
namespace K07
open PySem PySem.Spec PyProof.Rows _root_.L2 Fr
abbrev EL (x0 P2 P x4 x5 x6 x7 x8 x9 x10 x11 x12 x13 : D) : List D := [x0, .cell 0, P2, P, x4, x5, x6, x7, x8, x9, x10, x11, x12, x13]
theorem neI (x : Option Int) (f : Bool → Bool) : gEqv f (optI x) (optI x) = some (.bl (f true)) := by
  cases x with
  | none => rfl
  | some i =>
    have := Em.int.gEqv_d (by decide) f i i
    rw [decide_eq_true rfl] at this
    exact this
theorem optI_frz (x : Option Int) : frz (optI x) = optI x := by cases x <;> rfl
theorem optI_var {x : Option Int} {env M : List D} {i : Nat} (h : env[i]? = some (optI x)) : cVar i ⟨env, M⟩ = some (optI x, ⟨env, M⟩) := by
  unfold cVar
  rw [show (⟨env, M⟩ : S).env[i]? = some (optI x) from h]
  cases x <;> rfl
theorem int_var {x : Int} {env M : List D} {i : Nat} (h : env[i]? = some (.int x)) : cVar i ⟨env, M⟩ = some (.int x, ⟨env, M⟩) := optI_var (x := some x) h
section
variable (C : Addr) (w : World) {n : Nat} {ne be : List Tri} {R M : List D} {h : D} {x0 x4 x5 x6 x7 x8 x9 x10 x11 x12 x13 P : D}
theorem ahead_at (hp : ProgOk n ne be) {env : List D} {a b : Int} {i j : Nat} (h3 : env[3]? = some P) (hP : IsP C n ne be P) (hi : (env.set 3 (dPrg C n ne be))[i]? = some (.int b)) (hj : (env.set 3 (dPrg C n ne be))[j]? = some (.int a)) (a0 : 0 ≤ a) (a1 : a < n) (b0 : 0 ≤ b) (b1 : b < n) :
    ∃ t, cCall (m_ahead C w) (cCons (cVar 3) (cCons (cVar i) (cCons (cVar j) cNil))) ⟨env, M⟩ = some (optI (tget t b), ⟨env.set 3 (dPrg C n ne be), M⟩) ∧ FrmT n (ne ++ be) a t := by
  obtain ⟨t, e, ht⟩ := ahead_ok C w (M := M) hp a0 a1 b0 b1 rfl
  exact ⟨t, cCall_of (s1 := ⟨env.set 3 (dPrg C n ne be), M⟩) (cCons_of (cVar_P h3 hP) (cCons_of (int_var hi) (cCons_of (int_var hj) cNil_of))) e, ht⟩
/-! the table -/
theorem tab_one (hp : ProgOk n ne be) (hP : IsP C n ne be P) {F : List (Option Int)} {o one : Int} (hF : F.length = n) (hfo : ∀ t, FrmT n (ne ++ be) o t → ∀ c : Int, 0 ≤ c → c < n → fo F c = tget t c) (o0 : 0 ≤ o) (o1 : o < n) (b0 : 0 ≤ one) (b1 : one < n) :
    ∃ y8, b_law_5 C w ⟨EL x0 (dParts n ne be) P x4 (.int o) (.lst (F.map optI)) (.int one) x8 x9 x10 x11 x12 x13, M⟩ = some (.next, ⟨EL x0 (dParts n ne be) (dPrg C n ne be) x4 (.int o) (.lst (F.map optI)) (.int one) y8 x9 x10 x11 x12 x13, M⟩) := by
  obtain ⟨t, e, ht⟩ := ahead_at C w (M := M) hp (env := EL x0 (dParts n ne be) P x4 (.int o) (.lst (F.map optI)) (.int one) x8 x9 x10 x11 x12 x13) (i := 7) (j := 5) rfl hP rfl rfl o0 o1 b0 b1
  refine ⟨optI (tget t one), ?_⟩
  have s1 := cAsg_of (i := 8) e
  unfold b_law_5
  rw [cSeq_next s1]
  show cIfS _ _ _ ⟨EL x0 (dParts n ne be) (dPrg C n ne be) x4 (.int o) (.lst (F.map optI)) (.int one) (optI (tget t one)) x9 x10 x11 x12 x13, M⟩ = _
  generalize hs : (⟨EL x0 (dParts n ne be) (dPrg C n ne be) x4 (.int o) (.lst (F.map optI)) (.int one) (optI (tget t one)) x9 x10 x11 x12 x13, M⟩ : Fr.S) = s
  have v8 : cVar 8 s = some (optI (tget t one), s) := by rw [← hs]; exact optI_var rfl
  have g6 : cF (cIx 6 (cVar 7)) s = some (optI (tget t one), s) := by
    have : cIx 6 (cVar 7) s = some (optI (fo F one), s) := by
      rw [← hs]
      show ((atI (F.map optI) one).map fun d => (d, _)) = _
      unfold atI
      rw [List.length_map, hF, ixN_of b0 b1]
      show ((F.map optI)[one.toNat]?).map _ = _
      rw [fo_get b0 (by omega)]
      rfl
    rw [cF_of this, optI_frz, hfo t ht one b0 b1]
  have c1 : cT (cBin gNe (cVar 8) (cF (cIx 6 (cVar 7)))) s = some (false, s) := cT_of (cBin_of v8 g6 (neI _ _))
  have c2 : cT (cF (cCB gIsi (cCons (cVar 8) (cCons (cK (.ty "bool")) cNil)))) s = some (false, s) :=
    cT_of (cF_of (d := .bl false) (cCB_of (cCons_of v8 (cCons_of (c := cK (.ty "bool")) rfl cNil_of)) (by cases tget t one <;> rfl)))
  rw [cIfS_f ((bOr_f c1).trans c2)]
  rfl
theorem tab_row (hp : ProgOk n ne be) {F : List (Option Int)} {o : Int} (hF : F.length = n) (hfo : ∀ t, FrmT n (ne ++ be) o t → ∀ c : Int, 0 ≤ c → c < n → fo F c = tget t c) (o0 : 0 ≤ o) (o1 : o < n) : ∀ (l : List Int) (P x7 x8 : D), IsP C n ne be P → InR n l →
    ∃ P' y7 y8, IsP C n ne be P' ∧ forLoop (gN 7) (b_law_5 C w) (l.map D.int) ⟨EL x0 (dParts n ne be) P x4 (.int o) (.lst (F.map optI)) x7 x8 x9 x10 x11 x12 x13, M⟩ = some (.next, ⟨EL x0 (dParts n ne be) P' x4 (.int o) (.lst (F.map optI)) y7 y8 x9 x10 x11 x12 x13, M⟩)
  | [], P, x7, x8, hP, _ => ⟨P, x7, x8, hP, rfl⟩
  | one :: l, P, x7, x8, hP, hl => by
    obtain ⟨b0, b1⟩ := hl one (List.mem_cons_self ..)
    obtain ⟨y8, e⟩ := tab_one C w (M := M) (x0 := x0) (x4 := x4) (x8 := x8) (x9 := x9) (x10 := x10) (x11 := x11) (x12 := x12) (x13 := x13) hp hP hF hfo o0 o1 b0 b1
    obtain ⟨P', z7, z8, hP', e2⟩ := tab_row hp hF hfo o0 o1 l (dPrg C n ne be) (.int one) y8 (.inr rfl) fun s hs => hl s (List.mem_cons_of_mem _ hs)
    have hg : gN 7 (.int one) ⟨EL x0 (dParts n ne be) P x4 (.int o) (.lst (F.map optI)) x7 x8 x9 x10 x11 x12 x13, M⟩ = some ⟨EL x0 (dParts n ne be) P x4 (.int o) (.lst (F.map optI)) (.int one) x8 x9 x10 x11 x12 x13, M⟩ := rfl
    exact ⟨P', z7, z8, hP', (forLoop_next hg e).trans e2⟩
theorem rng0 {x : D} {env : List D} (h : env[2]? = some (dParts n ne be)) (hn : n ≤ 12) : itR1 (cCons (cF (cIx 2 (cK (.int 0)))) cNil) ⟨env, M⟩ = some ((r0 n).map D.int, ⟨env, M⟩) := by
  have hc : cF (cIx 2 (cK (.int 0))) ⟨env, M⟩ = some (.int n, ⟨env, M⟩) := cF_of (d := .int n) (cIx_tup (k := 0) h rfl rfl)
  have := itR1_of hc (small62_of (by omega) (by omega))
  rw [Int.toNat_natCast, rgD_r0] at this
  exact this
theorem r0_in : InR n (r0 n) := fun s hs => mem_r0.mp hs
theorem tab_out (hp : ProgOk n ne be) : ∀ (l : List Int) (P x5 x6 x7 x8 : D), IsP C n ne be P → InR n l →
    ∃ P' y5 y6 y7 y8, IsP C n ne be P' ∧ forLoop (gN 5) (b_law_6 C w) (l.map D.int) ⟨EL x0 (dParts n ne be) P x4 x5 x6 x7 x8 x9 x10 x11 x12 x13, M⟩ = some (.next, ⟨EL x0 (dParts n ne be) P' x4 y5 y6 y7 y8 x9 x10 x11 x12 x13, M⟩)
  | [], P, x5, x6, x7, x8, hP, _ => ⟨P, x5, x6, x7, x8, hP, rfl⟩
  | o :: l, P, x5, x6, x7, x8, hP, hl => by
    obtain ⟨o0, o1⟩ := hl o (List.mem_cons_self ..)
    obtain ⟨F, ef, hF, hfo⟩ := far_ok C w (M := M) hp o0 o1
    obtain ⟨P2, y7, y8, hP2, e1⟩ := tab_row C w (M := M) (x0 := x0) (x4 := x4) (x9 := x9) (x10 := x10) (x11 := x11) (x12 := x12) (x13 := x13) hp hF hfo o0 o1 (r0 n) P x7 x8 hP r0_in
    obtain ⟨P3, z5, z6, z7, z8, hP3, e2⟩ := tab_out hp l P2 (.int o) (.lst (F.map optI)) y7 y8 hP2 fun s hs => hl s (List.mem_cons_of_mem _ hs)
    have hg : gN 5 (.int o) ⟨EL x0 (dParts n ne be) P x4 x5 x6 x7 x8 x9 x10 x11 x12 x13, M⟩ = some ⟨EL x0 (dParts n ne be) P x4 (.int o) x6 x7 x8 x9 x10 x11 x12 x13, M⟩ := rfl
    refine ⟨P3, z5, z6, z7, z8, hP3, (forLoop_next hg ?_).trans e2⟩
    have s1 : cAsg 6 (cCall (m__law_far C w) (cCons (cVar 2) (cCons (cVar 5) cNil))) ⟨EL x0 (dParts n ne be) P x4 (.int o) x6 x7 x8 x9 x10 x11 x12 x13, M⟩ = some (.next, ⟨EL x0 (dParts n ne be) P x4 (.int o) (.lst (F.map optI)) x7 x8 x9 x10 x11 x12 x13, M⟩) :=
      cAsg_of (cCall_of (ds := [dParts n ne be, .int o]) (s1 := ⟨EL x0 (dParts n ne be) P x4 (.int o) x6 x7 x8 x9 x10 x11 x12 x13, M⟩) rfl ef)
    unfold b_law_6
    rw [cSeq_next s1, cFor_of (rng0 (x := x0) rfl hp.n2)]
    exact e1
/-! the enemy -/
theorem foe_turn (hp : ProgOk n ne be) (h7 : n ≤ 7) (h4 : ∀ e ∈ ne ++ be, e.2.2 ≤ (4 : Nat)) (hP : IsP C n ne be P) (ok : HOk h) : ∃ y5 y7 y8 h' J, HOk h' ∧ b_law_8 C w ⟨EL x0 (dParts n ne be) P x4 x5 x6 x7 x8 x9 x10 x11 x12 x13, h :: R⟩ = some (.next, ⟨EL x0 (dParts n ne be) (dPrg C n ne be) x4 y5 x6 y7 y8 x9 x10 x11 x12 x13, h' :: (R ++ J)⟩) := by
  have hn1 := hp.n1
  obtain ⟨one, h1, e1, ok1, a0, a1⟩ := draw0 C w (R := R) (many := (n : Int)) ok (by omega) (by omega)
  obtain ⟨o, h2, e2, ok2, o0, o1⟩ := draw0 C w (R := R) (many := (n : Int)) ok1 (by omega) (by omega)
  have s1 : cAsg 7 (cCall (m__law_draw C w) (cCons (cVar 1) (cCons (cF (cIx 2 (cK (.int 0)))) cNil))) ⟨EL x0 (dParts n ne be) P x4 x5 x6 x7 x8 x9 x10 x11 x12 x13, h :: R⟩ = some (.next, ⟨EL x0 (dParts n ne be) P x4 x5 x6 (.int one) x8 x9 x10 x11 x12 x13, h1 :: R⟩) :=
    cAsg_of (cCall_of (ds := [.cell 0, .int n]) (s1 := ⟨EL x0 (dParts n ne be) P x4 x5 x6 x7 x8 x9 x10 x11 x12 x13, h :: R⟩) rfl e1)
  have s2 : cAsg 5 (cCall (m__law_draw C w) (cCons (cVar 1) (cCons (cF (cIx 2 (cK (.int 0)))) cNil))) ⟨EL x0 (dParts n ne be) P x4 x5 x6 (.int one) x8 x9 x10 x11 x12 x13, h1 :: R⟩ = some (.next, ⟨EL x0 (dParts n ne be) P x4 (.int o) x6 (.int one) x8 x9 x10 x11 x12 x13, h2 :: R⟩) :=
    cAsg_of (cCall_of (ds := [.cell 0, .int n]) (s1 := ⟨EL x0 (dParts n ne be) P x4 x5 x6 (.int one) x8 x9 x10 x11 x12 x13, h1 :: R⟩) rfl e2)
  obtain ⟨t, e3, ht⟩ := ahead_at C w (M := h2 :: R) hp (env := EL x0 (dParts n ne be) P x4 (.int o) x6 (.int one) x8 x9 x10 x11 x12 x13) (i := 7) (j := 5) rfl hP rfl rfl o0 o1 a0 a1
  have s3 := cAsg_of (i := 8) e3
  have base : ∀ M : List D, cT (cBin gNe (cVar 7) (cVar 5)) ⟨EL x0 (dParts n ne be) (dPrg C n ne be) x4 (.int o) x6 (.int one) (optI (tget t one)) x9 x10 x11 x12 x13, M⟩ = some (!decide (one = o), ⟨EL x0 (dParts n ne be) (dPrg C n ne be) x4 (.int o) x6 (.int one) (optI (tget t one)) x9 x10 x11 x12 x13, M⟩) := fun M =>
    cT_of (cBin_of (int_var rfl) (int_var rfl) (Em.int.gEqv_d (by decide) not one o))
  have v8 : ∀ M : List D, cVar 8 ⟨EL x0 (dParts n ne be) (dPrg C n ne be) x4 (.int o) x6 (.int one) (optI (tget t one)) x9 x10 x11 x12 x13, M⟩ = some (optI (tget t one), ⟨EL x0 (dParts n ne be) (dPrg C n ne be) x4 (.int o) x6 (.int one) (optI (tget t one)) x9 x10 x11 x12 x13, M⟩) := fun M => optI_var rfl
  have isn : ∀ (f : Bool → Bool) (M : List D), cT (cBin (gIsN f) (cVar 8) (cK .non)) ⟨EL x0 (dParts n ne be) (dPrg C n ne be) x4 (.int o) x6 (.int one) (optI (tget t one)) x9 x10 x11 x12 x13, M⟩ = some (f (tget t one).isNone, ⟨EL x0 (dParts n ne be) (dPrg C n ne be) x4 (.int o) x6 (.int one) (optI (tget t one)) x9 x10 x11 x12 x13, M⟩) := fun f M =>
    cT_of (cBin_of (v8 M) (cb := cK .non) rfl (by cases tget t one <;> rfl))
  have hargs : ∀ (k : Int) (M : List D), cCons (cVar 2) (cCons (cVar 7) (cCons (cVar 5) (cCons (cK (.int k)) cNil))) ⟨EL x0 (dParts n ne be) (dPrg C n ne be) x4 (.int o) x6 (.int one) (optI (tget t one)) x9 x10 x11 x12 x13, M⟩ = some ([dParts n ne be, .int one, .int o, .int k], ⟨EL x0 (dParts n ne be) (dPrg C n ne be) x4 (.int o) x6 (.int one) (optI (tget t one)) x9 x10 x11 x12 x13, M⟩) := fun k M => rfl
  suffices hh : ∃ J, cSeq (cIfS (bAnd (cT (cBin gNe (cVar 7) (cVar 5))) (bAnd (cT (cBin (gIsN id) (cVar 8) (cK .non))) (cT (cBin gLt (cF (cCall (m__law_enemy C w) (cCons (cVar 2) (cCons (cVar 7) (cCons (cVar 5) (cCons (cK (.int 60)) cNil)))))) (cK (.int 3)))))) (cRet (cK (.bl false))) cSkip)
      (cIfS (bAnd (cT (cBin gNe (cVar 7) (cVar 5))) (bAnd (cT (cBin (gIsN not) (cVar 8) (cK .non))) (cT (cBin gNe (cF (cCall (m__law_enemy C w) (cCons (cVar 2) (cCons (cVar 7) (cCons (cVar 5) (cCons (cK (.int 200)) cNil)))))) (cVar 8))))) (cRet (cK (.bl false))) cSkip)
      ⟨EL x0 (dParts n ne be) (dPrg C n ne be) x4 (.int o) x6 (.int one) (optI (tget t one)) x9 x10 x11 x12 x13, h2 :: R⟩ = some (.next, ⟨EL x0 (dParts n ne be) (dPrg C n ne be) x4 (.int o) x6 (.int one) (optI (tget t one)) x9 x10 x11 x12 x13, h2 :: (R ++ J)⟩) by
    obtain ⟨J, hj⟩ := hh
    refine ⟨.int o, .int one, optI (tget t one), h2, J, ok2, ?_⟩
    unfold b_law_8
    rw [cSeq_next s1, cSeq_next s2, cSeq_next s3]
    exact hj
  by_cases hne : one = o
  · have b := base (h2 :: R)
    rw [decide_eq_true hne] at b
    refine ⟨[], ?_⟩
    rw [cSeq_next ((cIfS_f (bAnd_f b)).trans rfl), cIfS_f (bAnd_f b), List.append_nil]
    rfl
  · have b := fun M => base M
    rw [decide_eq_false hne] at b
    have hc := ht.1 one
    cases htg : tget t one with
    | none =>
      rw [htg] at hc
      obtain ⟨v, J, ev, hv, _⟩ := enemy_ok C w (R := h2 :: R) (many := 60) hp o0 a0 a1 hne (B := 3) (fun r hw => absurd hw (hc r)) (by omega) (by omega) (by omega) (by omega)
      refine ⟨J, ?_⟩
      rw [← htg]
      have i1 := isn id (h2 :: R)
      have i2 := isn not (h2 :: (R ++ J))
      rw [htg] at i1 i2
      rw [show id (Option.isNone (none : Option Int)) = true from rfl] at i1
      rw [show (!Option.isNone (none : Option Int)) = false from rfl] at i2
      have c1 : cT (cBin gLt (cF (cCall (m__law_enemy C w) (cCons (cVar 2) (cCons (cVar 7) (cCons (cVar 5) (cCons (cK (.int 60)) cNil)))))) (cK (.int 3))) ⟨EL x0 (dParts n ne be) (dPrg C n ne be) x4 (.int o) x6 (.int one) (optI (tget t one)) x9 x10 x11 x12 x13, h2 :: R⟩ = some (decide (v < 3), ⟨EL x0 (dParts n ne be) (dPrg C n ne be) x4 (.int o) x6 (.int one) (optI (tget t one)) x9 x10 x11 x12 x13, h2 :: (R ++ J)⟩) :=
        cT_of (cBin_of (cF_of (cCall_of (hargs 60 _) ev)) (cb := cK (.int 3)) rfl rfl)
      rw [decide_eq_false (by omega)] at c1
      rw [htg] at c1 b ⊢
      rw [cSeq_next ((cIfS_f ((bAnd_t (b _)).trans ((bAnd_t i1).trans c1))).trans rfl), cIfS_f ((bAnd_t (b _)).trans (bAnd_f i2))]
      rfl
    | some d =>
      rw [htg] at hc
      have hd := far_le h4 ht htg
      have hd0 : 0 ≤ d := hc.1.pos fun b p hp' => (prsF_E hp.lk b p hp').1
      have hd28 : d ≤ 28 := by omega
      have hnd : (n : Int) * d ≤ 7 * 28 := by
        have h1 : (n : Int) * d ≤ 7 * d := Int.mul_le_mul_of_nonneg_right (by omega) hd0
        omega
      obtain ⟨v, J, ev, hv, hv2⟩ := enemy_ok C w (R := h2 :: R) (many := 200) hp o0 a0 a1 hne (B := d) (fun r hw => hc.2 r hw) (by omega) (by omega) (by omega) hd0
      have hvd : v = d := Int.le_antisymm (hv2 d hc.1) hv
      subst hvd
      refine ⟨J, ?_⟩
      have i1 := isn id (h2 :: R)
      have i2 := isn not (h2 :: R)
      rw [htg] at i1 i2
      rw [show id (Option.isNone (some v)) = false from rfl] at i1
      rw [show (!Option.isNone (some v)) = true from rfl] at i2
      have v8' := v8 (h2 :: (R ++ J))
      rw [htg] at v8' b
      have c1 : cT (cBin gNe (cF (cCall (m__law_enemy C w) (cCons (cVar 2) (cCons (cVar 7) (cCons (cVar 5) (cCons (cK (.int 200)) cNil)))))) (cVar 8)) ⟨EL x0 (dParts n ne be) (dPrg C n ne be) x4 (.int o) x6 (.int one) (optI (some v)) x9 x10 x11 x12 x13, h2 :: R⟩ = some (false, ⟨EL x0 (dParts n ne be) (dPrg C n ne be) x4 (.int o) x6 (.int one) (optI (some v)) x9 x10 x11 x12 x13, h2 :: (R ++ J)⟩) := by
        have ha := hargs 200 (h2 :: R)
        rw [htg] at ha
        exact cT_of (cBin_of (cF_of (cCall_of ha ev)) v8' (neI (some v) not))
      rw [cSeq_next ((cIfS_f ((bAnd_t (b _)).trans (bAnd_f i1))).trans rfl), cIfS_f ((bAnd_t (b _)).trans ((bAnd_t i2).trans c1))]
      rfl
end
end K07

set_option maxRecDepth 100000
set_option maxHeartbeats 1000000
namespace K07
open PySem PySem.Spec PyProof.Rows _root_.L2 Fr
section
variable (C : Addr) (w : World) {n : Nat} {ne be : List Tri} {R M : List D} {h : D} {x0 x4 x5 x6 x7 x8 x9 x10 x11 x12 x13 P : D}
theorem ord_one (hp : ProgOk n ne be) (hP : IsP C n ne be P) {c : List Int} {s one : Int} (hc : c.length = n) (hlag : Lag (ne ++ be) c) (s0 : 0 ≤ s) (s1 : s < n) (b0 : 0 ≤ one) (b1 : one < n) :
    ∃ y12, b_law_11 C w ⟨EL x0 (dParts n ne be) P x4 x5 x6 (.int one) x8 x9 (.int s) (.own (c.map D.int)) x12 x13, M⟩ = some (.next, ⟨EL x0 (dParts n ne be) (dPrg C n ne be) x4 x5 x6 (.int one) x8 x9 (.int s) (.own (c.map D.int)) y12 x13, M⟩) := by
  obtain ⟨t, e, ht⟩ := ahead_at C w (M := M) hp (env := EL x0 (dParts n ne be) P x4 x5 x6 (.int one) x8 x9 (.int s) (.own (c.map D.int)) x12 x13) (i := 10) (j := 7) rfl hP rfl rfl b0 b1 s0 s1
  refine ⟨optI (tget t s), ?_⟩
  have e1 := cAsg_of (i := 12) e
  unfold b_law_11
  rw [cSeq_next e1]
  show cIfS _ _ _ ⟨EL x0 (dParts n ne be) (dPrg C n ne be) x4 x5 x6 (.int one) x8 x9 (.int s) (.own (c.map D.int)) (optI (tget t s)) x13, M⟩ = _
  generalize hs : (⟨EL x0 (dParts n ne be) (dPrg C n ne be) x4 x5 x6 (.int one) x8 x9 (.int s) (.own (c.map D.int)) (optI (tget t s)) x13, M⟩ : Fr.S) = st
  have v12 : cVar 12 st = some (optI (tget t s), st) := by rw [← hs]; exact optI_var rfl
  have he : st.env[11]? = some (.own (c.map D.int)) := by rw [← hs]; rfl
  have c1 : cT (cBin (gIsN not) (cVar 12) (cK .non)) st = some ((tget t s).isSome, st) := cT_of (cBin_of v12 (cb := cK .non) rfl (by cases tget t s <;> rfl))
  have hcc := ht.1 s
  cases htg : tget t s with
  | none =>
    rw [htg] at c1
    rw [cIfS_f (bAnd_f c1)]
    rfl
  | some d =>
    rw [htg] at c1 v12 hcc
    have ga : cIx 11 (cVar 10) st = some (.int (lk c s), st) := cIx_own he (by rw [← hs]; rfl) (by rw [List.length_map, hc]; exact ixN_of s0 s1) (ints_get s0 (by omega)) rfl
    have gb : cIx 11 (cVar 7) st = some (.int (lk c one), st) := cIx_own he (by rw [← hs]; rfl) (by rw [List.length_map, hc]; exact ixN_of b0 b1) (ints_get b0 (by omega)) rfl
    have c2 : cT (cBin gGt (cF (cBin gSub (cF (cIx 11 (cVar 10))) (cF (cIx 11 (cVar 7))))) (cVar 12)) st = some (decide (d < lk c s - lk c one), st) :=
      cT_of (cBin_of (cF_of (cBin_of (cF_of ga) (cF_of gb) rfl)) v12 rfl)
    have hl := lag_way hlag hcc.1
    rw [decide_eq_false (by omega)] at c2
    rw [cIfS_f ((bAnd_t c1).trans c2)]
    rfl
theorem ord_row (hp : ProgOk n ne be) {c : List Int} {s : Int} (hc : c.length = n) (hlag : Lag (ne ++ be) c) (s0 : 0 ≤ s) (s1 : s < n) : ∀ (l : List Int) (P x7 x12 : D), IsP C n ne be P → InR n l →
    ∃ P' y7 y12, IsP C n ne be P' ∧ forLoop (gN 7) (b_law_11 C w) (l.map D.int) ⟨EL x0 (dParts n ne be) P x4 x5 x6 x7 x8 x9 (.int s) (.own (c.map D.int)) x12 x13, M⟩ = some (.next, ⟨EL x0 (dParts n ne be) P' x4 x5 x6 y7 x8 x9 (.int s) (.own (c.map D.int)) y12 x13, M⟩)
  | [], P, x7, x12, hP, _ => ⟨P, x7, x12, hP, rfl⟩
  | one :: l, P, x7, x12, hP, hl => by
    obtain ⟨b0, b1⟩ := hl one (List.mem_cons_self ..)
    obtain ⟨y12, e⟩ := ord_one C w (M := M) (x0 := x0) (x4 := x4) (x5 := x5) (x6 := x6) (x8 := x8) (x9 := x9) (x12 := x12) (x13 := x13) hp hP hc hlag s0 s1 b0 b1
    obtain ⟨P', z7, z12, hP', e2⟩ := ord_row hp hc hlag s0 s1 l (dPrg C n ne be) (.int one) y12 (.inr rfl) fun s hs => hl s (List.mem_cons_of_mem _ hs)
    have hg : gN 7 (.int one) ⟨EL x0 (dParts n ne be) P x4 x5 x6 x7 x8 x9 (.int s) (.own (c.map D.int)) x12 x13, M⟩ = some ⟨EL x0 (dParts n ne be) P x4 x5 x6 (.int one) x8 x9 (.int s) (.own (c.map D.int)) x12 x13, M⟩ := rfl
    exact ⟨P', z7, z12, hP', (forLoop_next hg e).trans e2⟩
theorem ord_out (hp : ProgOk n ne be) : ∀ (o c : List Int) (P x7 x10 x12 : D), IsP C n ne be P → InR n o → c.length = n → Lag (ne ++ be) c → Lw (ne ++ be) c o →
    ∃ (P' : D) (c' : List Int) (y7 y10 y12 : D), IsP C n ne be P' ∧ forLoop (gN 10) (b_law_12 C w) (o.map D.int) ⟨EL x0 (dParts n ne be) P x4 x5 x6 x7 x8 x9 x10 (.own (c.map D.int)) x12 x13, M⟩ = some (.next, ⟨EL x0 (dParts n ne be) P' x4 x5 x6 y7 x8 x9 y10 (.own (c'.map D.int)) y12 x13, M⟩)
  | [], c, P, x7, x10, x12, hP, _, _, _, _ => ⟨P, c, x7, x10, x12, hP, rfl⟩
  | s :: o, c, P, x7, x10, x12, hP, ho, hc, hlag, hlw => by
    obtain ⟨s0, s1⟩ := ho s (List.mem_cons_self ..)
    have hlag2 := lag_bump hp.lk hc hlag s0 s1 hlw.1
    obtain ⟨P2, y7, y12, hP2, e2⟩ := ord_row C w (M := M) (x0 := x0) (x4 := x4) (x5 := x5) (x6 := x6) (x8 := x8) (x9 := x9) (x13 := x13) hp (c := bump c s) (by rw [bump_len]; exact hc) hlag2 s0 s1 (r0 n) P x7 x12 hP r0_in
    obtain ⟨P3, c3, z7, z10, z12, hP3, e3⟩ := ord_out hp o (bump c s) P2 y7 (.int s) y12 hP2 (fun x hx => ho x (List.mem_cons_of_mem _ hx)) (by rw [bump_len]; exact hc) hlag2 hlw.2
    have hg : gN 10 (.int s) ⟨EL x0 (dParts n ne be) P x4 x5 x6 x7 x8 x9 x10 (.own (c.map D.int)) x12 x13, M⟩ = some ⟨EL x0 (dParts n ne be) P x4 x5 x6 x7 x8 x9 (.int s) (.own (c.map D.int)) x12 x13, M⟩ := rfl
    refine ⟨P3, c3, z7, z10, z12, hP3, (forLoop_next hg ?_).trans e3⟩
    have hset : cSetIx 11 (cVar 10) (cF (cBin gAdd (cF (cIx 11 (cVar 10))) (cK (.int 1)))) ⟨EL x0 (dParts n ne be) P x4 x5 x6 x7 x8 x9 (.int s) (.own (c.map D.int)) x12 x13, M⟩ = some (.next, ⟨EL x0 (dParts n ne be) P x4 x5 x6 x7 x8 x9 (.int s) (.own ((bump c s).map D.int)) x12 x13, M⟩) := by
      have ga : cIx 11 (cVar 10) ⟨EL x0 (dParts n ne be) P x4 x5 x6 x7 x8 x9 (.int s) (.own (c.map D.int)) x12 x13, M⟩ = some (.int (lk c s), ⟨EL x0 (dParts n ne be) P x4 x5 x6 x7 x8 x9 (.int s) (.own (c.map D.int)) x12 x13, M⟩) :=
        cIx_own (i := 11) rfl (int_var rfl) (by rw [List.length_map, hc]; exact ixN_of s0 s1) (ints_get s0 (by omega)) rfl
      have gv : cF (cBin gAdd (cF (cIx 11 (cVar 10))) (cK (.int 1))) ⟨EL x0 (dParts n ne be) P x4 x5 x6 x7 x8 x9 (.int s) (.own (c.map D.int)) x12 x13, M⟩ = some (.int (lk c s + 1), ⟨EL x0 (dParts n ne be) P x4 x5 x6 x7 x8 x9 (.int s) (.own (c.map D.int)) x12 x13, M⟩) :=
        cF_of (d := .int (lk c s + 1)) (cBin_of (cF_of ga) (cb := cK (.int 1)) rfl rfl)
      rw [cSetIx_at (i := 11) (r := .e 11) (ds := c.map D.int) gv rfl (k := s) (int_var rfl) rfl (by rw [List.length_map, hc]; exact ixN_of s0 s1), ints_set]
      rfl
    unfold b_law_12
    rw [cSeq_next hset, cFor_of (rng0 (x := x0) rfl hp.n2)]
    exact e2
/-! what is no step -/
theorem bad_out (hn : 1 ≤ n) : ∀ (ds : List D) (P x13 : D), IsP C n ne be P → (∀ T ∈ ds, NoSt n T) →
    ∃ P' y13, IsP C n ne be P' ∧ forLoop (gN 13) (b_law_14 C w) ds ⟨EL x0 (dParts n ne be) P x4 x5 x6 x7 x8 x9 x10 x11 x12 x13, M⟩ = some (.next, ⟨EL x0 (dParts n ne be) P' x4 x5 x6 x7 x8 x9 x10 x11 x12 y13, M⟩)
  | [], P, x13, hP, _ => ⟨P, x13, hP, rfl⟩
  | T :: ds, P, x13, hP, h => by
    have hT := h T (List.mem_cons_self ..)
    obtain ⟨P', y13, hP', e2⟩ := bad_out hn ds (dPrg C n ne be) T (.inr rfl) fun U hU => h U (List.mem_cons_of_mem _ hU)
    have hg : gN 13 T ⟨EL x0 (dParts n ne be) P x4 x5 x6 x7 x8 x9 x10 x11 x12 x13, M⟩ = some ⟨EL x0 (dParts n ne be) P x4 x5 x6 x7 x8 x9 x10 x11 x12 T, M⟩ := rfl
    refine ⟨P', y13, hP', (forLoop_next hg ?_).trans e2⟩
    have v3 := cVar_P (M := M) (env := EL x0 (dParts n ne be) P x4 x5 x6 x7 x8 x9 x10 x11 x12 T) (i := 3) rfl hP
    have v3' := cVar_P (M := M) (env := EL x0 (dParts n ne be) (dPrg C n ne be) x4 x5 x6 x7 x8 x9 x10 x11 x12 T) (i := 3) rfl (.inr rfl)
    have v13 : cVar 13 ⟨EL x0 (dParts n ne be) (dPrg C n ne be) x4 x5 x6 x7 x8 x9 x10 x11 x12 T, M⟩ = some (T, ⟨EL x0 (dParts n ne be) (dPrg C n ne be) x4 x5 x6 x7 x8 x9 x10 x11 x12 T, M⟩) := cVar_no hT rfl
    have c1 : bNot (cT (cF (cCall (m__law_refused C w) (cCons (cVar 3) (cCons (cVar 13) (cCons (cK (.int 0)) cNil)))))) ⟨EL x0 (dParts n ne be) P x4 x5 x6 x7 x8 x9 x10 x11 x12 T, M⟩ = some (false, ⟨EL x0 (dParts n ne be) (dPrg C n ne be) x4 x5 x6 x7 x8 x9 x10 x11 x12 T, M⟩) :=
      bNot_of (cT_of (cF_of (cCall_of (s1 := ⟨EL x0 (dParts n ne be) (dPrg C n ne be) x4 x5 x6 x7 x8 x9 x10 x11 x12 T, M⟩) (cCons_of v3 (cCons_of v13 (cCons_of (c := cK (.int 0)) (d := .int 0) rfl cNil_of))) (refused1 C w hT))))
    have c2 : bNot (cT (cF (cCall (m__law_refused C w) (cCons (cVar 3) (cCons (cK (.int 0)) (cCons (cVar 13) cNil)))))) ⟨EL x0 (dParts n ne be) (dPrg C n ne be) x4 x5 x6 x7 x8 x9 x10 x11 x12 T, M⟩ = some (false, ⟨EL x0 (dParts n ne be) (dPrg C n ne be) x4 x5 x6 x7 x8 x9 x10 x11 x12 T, M⟩) :=
      bNot_of (cT_of (cF_of (cCall_of (s1 := ⟨EL x0 (dParts n ne be) (dPrg C n ne be) x4 x5 x6 x7 x8 x9 x10 x11 x12 T, M⟩) (cCons_of v3' (cCons_of (c := cK (.int 0)) (d := .int 0) rfl (cCons_of v13 cNil_of))) (refused2 C w hn hT))))
    unfold b_law_14
    rw [cIfS_f ((bOr_f c1).trans c2)]
    rfl
/-! the law -/
theorem foe_loop (hp : ProgOk n ne be) (h7 : n ≤ 7) (h4 : ∀ e ∈ ne ++ be, e.2.2 ≤ (4 : Nat)) : ∀ (ds : List D) (R : List D) (P x5 x7 x8 x9 h : D), IsP C n ne be P → HOk h →
    ∃ P' y5 y7 y8 y9 h' R', IsP C n ne be P' ∧ HOk h' ∧ forLoop (gN 9) (b_law_8 C w) ds ⟨EL x0 (dParts n ne be) P x4 x5 x6 x7 x8 x9 x10 x11 x12 x13, h :: R⟩ = some (.next, ⟨EL x0 (dParts n ne be) P' x4 y5 x6 y7 y8 y9 x10 x11 x12 x13, h' :: R'⟩)
  | [], R, P, x5, x7, x8, x9, h, hP, ok => ⟨P, x5, x7, x8, x9, h, R, hP, ok, rfl⟩
  | d :: ds, R, P, x5, x7, x8, x9, h, hP, ok => by
    obtain ⟨y5, y7, y8, h2, J, ok2, e⟩ := foe_turn C w (R := R) (x0 := x0) (x4 := x4) (x5 := x5) (x6 := x6) (x7 := x7) (x8 := x8) (x9 := d) (x10 := x10) (x11 := x11) (x12 := x12) (x13 := x13) hp h7 h4 hP ok
    obtain ⟨P', z5, z7, z8, z9, h3, R3, hP', ok3, e2⟩ := foe_loop hp h7 h4 ds (R ++ J) (dPrg C n ne be) y5 y7 y8 d h2 (.inr rfl) ok2
    have hg : gN 9 d ⟨EL x0 (dParts n ne be) P x4 x5 x6 x7 x8 x9 x10 x11 x12 x13, h :: R⟩ = some ⟨EL x0 (dParts n ne be) P x4 x5 x6 x7 x8 d x10 x11 x12 x13, h :: R⟩ := rfl
    exact ⟨P', z5, z7, z8, z9, h3, R3, hP', ok3, (forLoop_next hg e).trans e2⟩
theorem law_true (ns : List Int) (hl : ns.length ≤ 63) : ∃ M', m_law C w [.scr (ns.map D.int)] [] = some (.bl true, M') := by
  obtain ⟨L, z, e1, hL⟩ := hand_ok C w (M := []) hl
  generalize hS0 : D.scr (ns.map D.int) = S0
  rw [hS0] at e1
  have s1 : t_law_1 C w ⟨[S0, .unb, .unb, .unb, .unb, .unb, .unb, .unb, .unb, .unb, .unb, .unb, .unb, .unb], []⟩ = some (.next, ⟨EL S0 .unb .unb .unb .unb .unb .unb .unb .unb .unb .unb .unb .unb, [hnd L 0 0 z 0]⟩) := by
    unfold t_law_1
    have v0 : cVar 0 ⟨[S0, .unb, .unb, .unb, .unb, .unb, .unb, .unb, .unb, .unb, .unb, .unb, .unb, .unb], []⟩ = some (S0, ⟨[S0, .unb, .unb, .unb, .unb, .unb, .unb, .unb, .unb, .unb, .unb, .unb, .unb, .unb], []⟩) := by rw [← hS0]; rfl
    exact cCell_of (cCall_of (m := m__law_hand C w) (ds := [S0]) (s1 := ⟨[S0, .unb, .unb, .unb, .unb, .unb, .unb, .unb, .unb, .unb, .unb, .unb, .unb, .unb], []⟩) (cCons_of v0 cNil_of) e1)
  have ok0 : HOk (hnd L 0 0 z 0) := ⟨_, _, _, _, _, rfl, Int.le_refl _, hL⟩
  obtain ⟨n, ps, ne, be, h1, e2, ok1, po, hn⟩ := parts C w (R := []) (most := 7) (lk := 7) (rounds := 4) ok0 (by omega) (by omega) (by omega) (by omega) (by omega)
  have hp := prog_of po (by omega) (by omega) (by omega)
  have h4 : ∀ e ∈ ne ++ be, e.2.2 ≤ (4 : Nat) := fun e he => by
    rcases List.mem_append.mp he with z | z
    · exact (po.ne.ok e z).r1
    · exact (po.be.ok e z).r1
  have s2 : t_law_2 C w ⟨EL S0 .unb .unb .unb .unb .unb .unb .unb .unb .unb .unb .unb .unb, [hnd L 0 0 z 0]⟩ = some (.next, ⟨EL S0 (dParts n ne be) .unb .unb .unb .unb .unb .unb .unb .unb .unb .unb .unb, [h1]⟩) :=
    cAsg_of (cCall_of (m := m__law_parts C w) (ds := [.cell 0, .int 7, .int 7, .int 4]) (s1 := ⟨EL S0 .unb .unb .unb .unb .unb .unb .unb .unb .unb .unb .unb .unb, [hnd L 0 0 z 0]⟩) rfl e2)
  have e3 := made_ok C w (M := [h1]) hp
  have s3 : t_law_3 C w ⟨EL S0 (dParts n ne be) .unb .unb .unb .unb .unb .unb .unb .unb .unb .unb .unb, [h1]⟩ = some (.next, ⟨EL S0 (dParts n ne be) (.oins C fsP (vsP n ne be)) .unb .unb .unb .unb .unb .unb .unb .unb .unb .unb, h1 :: [.unb]⟩) :=
    cAsg_of (cCall_of (m := m__law_made C w) (ds := [dParts n ne be]) (s1 := ⟨EL S0 (dParts n ne be) .unb .unb .unb .unb .unb .unb .unb .unb .unb .unb .unb, [h1]⟩) rfl e3)
  obtain ⟨o, h2, J2, e4, ok2, ho, hol, hw⟩ := order_ok C w (R := [.unb]) (k := 40) hp ok1 (by omega)
  have s4 : t_law_4 C w ⟨EL S0 (dParts n ne be) (.oins C fsP (vsP n ne be)) .unb .unb .unb .unb .unb .unb .unb .unb .unb .unb, h1 :: [.unb]⟩ = some (.next, ⟨EL S0 (dParts n ne be) (.oins C fsP (vsP n ne be)) (.tup (o.map D.int)) .unb .unb .unb .unb .unb .unb .unb .unb .unb, h2 :: ([.unb] ++ J2)⟩) :=
    cAsg_of (cCall_of (m := m__law_order C w) (ds := [.cell 0, dParts n ne be, .int 40]) (s1 := ⟨EL S0 (dParts n ne be) (.oins C fsP (vsP n ne be)) .unb .unb .unb .unb .unb .unb .unb .unb .unb .unb, h1 :: [.unb]⟩) rfl e4)
  generalize hR : ([.unb] ++ J2 : List D) = R at s4
  generalize hX4 : D.tup (o.map D.int) = X4 at s4
  obtain ⟨P5, y5, y6, y7, y8, hP5, s5⟩ := tab_out C w (M := h2 :: R) (x0 := S0) (x4 := X4) (x9 := .unb) (x10 := .unb) (x11 := .unb) (x12 := .unb) (x13 := .unb) hp (r0 n) (.oins C fsP (vsP n ne be)) .unb .unb .unb .unb (.inl rfl) r0_in
  have s5' : t_law_7 C w ⟨EL S0 (dParts n ne be) (.oins C fsP (vsP n ne be)) X4 .unb .unb .unb .unb .unb .unb .unb .unb .unb, h2 :: R⟩ = _ := (cFor_of (rng0 (x := S0) rfl hp.n2)).trans s5
  obtain ⟨P6, z5, z7, z8, z9, h6, R6, hP6, ok6, s6⟩ := foe_loop C w (x0 := S0) (x4 := X4) (x6 := y6) (x10 := .unb) (x11 := .unb) (x12 := .unb) (x13 := .unb) hp hn h4 (rgD 0 3) R P5 y5 y7 y8 .unb h2 hP5 ok2
  have s6' : t_law_9 C w ⟨EL S0 (dParts n ne be) P5 X4 y5 y6 y7 y8 .unb .unb .unb .unb .unb, h2 :: R⟩ = _ := (cFor_of (itR1_of (c := cK (.int 3)) (n := 3) rfl rfl)).trans s6
  have s7 : t_law_10 C w ⟨EL S0 (dParts n ne be) P6 X4 z5 y6 z7 z8 z9 .unb .unb .unb .unb, h6 :: R6⟩ = some (.next, ⟨EL S0 (dParts n ne be) P6 X4 z5 y6 z7 z8 z9 .unb (.own ((zeros n).map D.int)) .unb .unb, h6 :: R6⟩) := by
    have hlc := lcLoop_pure (js := [10]) (tg := gN 10) (tt := bYes) (te := cK (.int 0)) (s := ⟨EL S0 (dParts n ne be) P6 X4 z5 y6 z7 z8 z9 .unb .unb .unb .unb, h6 :: R6⟩) (fun _ => true) (fun _ => .int 0) ((r0 n).map D.int) [] (by rw [List.length_map, r0_len]; unfold line; simp only [List.length_nil]; omega)
      (fun d hd => ⟨⟨EL S0 (dParts n ne be) P6 X4 z5 y6 z7 z8 z9 d .unb .unb .unb, h6 :: R6⟩, rfl, rfl, rfl, fun _ => rfl⟩)
    have e : ([] : List D) ++ ((((r0 n).map D.int).filter fun _ => true).map fun _ => D.int 0) = (zeros n).map D.int := by
      rw [List.nil_append, List.filter_eq_self.mpr (fun _ _ => rfl), List.map_map, ← zeros_D]
      unfold lakO r0
      rw [List.map_map]
      rfl
    rw [e] at hlc
    exact cAsg_of (cLc_of (s := ⟨EL S0 (dParts n ne be) P6 X4 z5 y6 z7 z8 z9 .unb .unb .unb .unb, h6 :: R6⟩) (s1 := ⟨EL S0 (dParts n ne be) P6 X4 z5 y6 z7 z8 z9 .unb .unb .unb .unb, h6 :: R6⟩) (rng0 (x := S0) (env := EL S0 (dParts n ne be) P6 X4 z5 y6 z7 z8 z9 .unb .unb .unb .unb) rfl hp.n2) rfl hlc)
  obtain ⟨P8, c8, w7, w10, w12, hP8, s8⟩ := ord_out C w (M := h6 :: R6) (x0 := S0) (x4 := X4) (x5 := z5) (x6 := y6) (x8 := z8) (x9 := z9) (x13 := .unb) hp o (zeros n) P6 z7 .unb .unb hP6 ho (by simp [zeros]) (lag_zeros hp.lk) hw
  have s8' : t_law_13 C w ⟨EL S0 (dParts n ne be) P6 X4 z5 y6 z7 z8 z9 .unb (.own ((zeros n).map D.int)) .unb .unb, h6 :: R6⟩ = some (.next, ⟨EL S0 (dParts n ne be) P8 X4 z5 y6 w7 z8 z9 w10 (.own (c8.map D.int)) w12 .unb, h6 :: R6⟩) := by
    have hit : itS (cVar 4) ⟨EL S0 (dParts n ne be) P6 X4 z5 y6 z7 z8 z9 .unb (.own ((zeros n).map D.int)) .unb .unb, h6 :: R6⟩ = some (o.map D.int, ⟨EL S0 (dParts n ne be) P6 X4 z5 y6 z7 z8 z9 .unb (.own ((zeros n).map D.int)) .unb .unb, h6 :: R6⟩) := by rw [← hX4]; rfl
    exact (cFor_of hit).trans s8
  obtain ⟨T, h9, e9, ok9, hT⟩ := odd_ok C w (R := R6) ok6
  generalize hX11 : D.own (c8.map D.int) = X11 at s8 s8'
  have hbad : ∀ U ∈ ([.int n, .int (-1), .non, .bl true, .str ("0" : Str), .tup [.int 0], T] : List D), NoSt n U := fun U hU => by
    simp only [List.mem_cons, List.not_mem_nil, or_false] at hU
    rcases hU with rfl | rfl | rfl | rfl | rfl | rfl | rfl
    · exact ⟨(by intro z; cases z), by show decide (0 ≤ (n : Int) ∧ (n : Int) ≤ (n : Int) - 1) = false; exact decide_eq_false (by omega), rfl⟩
    · exact ⟨(by intro z; cases z), rfl, rfl⟩
    · exact ⟨(by intro z; cases z), rfl, rfl⟩
    · exact ⟨(by intro z; cases z), rfl, rfl⟩
    · exact ⟨(by intro z; cases z), rfl, rfl⟩
    · exact ⟨(by intro z; cases z), rfl, rfl⟩
    · exact hT n
  have hfT : frz T = T := by
    obtain ⟨a, _, b⟩ := hT 0
    cases T <;> first | rfl | exact (a rfl).elim
  obtain ⟨P10, w13, hP10, s10⟩ := bad_out C w (M := h9 :: R6) (x0 := S0) (x4 := X4) (x5 := z5) (x6 := y6) (x7 := w7) (x8 := z8) (x9 := z9) (x10 := w10) (x11 := X11) (x12 := w12) hp.n1 [.int n, .int (-1), .non, .bl true, .str ("0" : Str), .tup [.int 0], T] P8 .unb hP8 hbad
  have s10' : t_law_15 C w ⟨EL S0 (dParts n ne be) P8 X4 z5 y6 w7 z8 z9 w10 X11 w12 .unb, h6 :: R6⟩ = some (.next, ⟨EL S0 (dParts n ne be) P10 X4 z5 y6 w7 z8 z9 w10 X11 w12 w13, h9 :: R6⟩) := by
    have hod : cF (cCall (m__law_odd C w) (cCons (cVar 1) cNil)) ⟨EL S0 (dParts n ne be) P8 X4 z5 y6 w7 z8 z9 w10 X11 w12 .unb, h6 :: R6⟩ = some (T, ⟨EL S0 (dParts n ne be) P8 X4 z5 y6 w7 z8 z9 w10 X11 w12 .unb, h9 :: R6⟩) := by
      rw [cF_of (cCall_of (m := m__law_odd C w) (ds := [.cell 0]) (s1 := ⟨EL S0 (dParts n ne be) P8 X4 z5 y6 w7 z8 z9 w10 X11 w12 .unb, h6 :: R6⟩) rfl e9), hfT]
    have htp : cF (cTup (cCons (cK (.int 0)) cNil)) ⟨EL S0 (dParts n ne be) P8 X4 z5 y6 w7 z8 z9 w10 X11 w12 .unb, h6 :: R6⟩ = some (.tup [.int 0], ⟨EL S0 (dParts n ne be) P8 X4 z5 y6 w7 z8 z9 w10 X11 w12 .unb, h6 :: R6⟩) := rfl
    have hlst := cF_of (cLst_of (ds := [.int n, .int (-1), .non, .bl true, .str ("0" : Str), .tup [.int 0], T]) (cCons_of (c := cF (cIx 2 (cK (.int 0)))) (d := .int n) (s := ⟨EL S0 (dParts n ne be) P8 X4 z5 y6 w7 z8 z9 w10 X11 w12 .unb, h6 :: R6⟩) (s1 := ⟨EL S0 (dParts n ne be) P8 X4 z5 y6 w7 z8 z9 w10 X11 w12 .unb, h6 :: R6⟩) rfl
      (cCons_of (c := cNeg (cK (.int 1))) (d := .int (-1)) (s1 := ⟨EL S0 (dParts n ne be) P8 X4 z5 y6 w7 z8 z9 w10 X11 w12 .unb, h6 :: R6⟩) rfl (cCons_of (c := cK .non) (d := .non) (s1 := ⟨EL S0 (dParts n ne be) P8 X4 z5 y6 w7 z8 z9 w10 X11 w12 .unb, h6 :: R6⟩) rfl
      (cCons_of (c := cK (.bl true)) (d := .bl true) (s1 := ⟨EL S0 (dParts n ne be) P8 X4 z5 y6 w7 z8 z9 w10 X11 w12 .unb, h6 :: R6⟩) rfl (cCons_of (c := cK (.str ("0" : Str))) (d := .str ("0" : Str)) (s1 := ⟨EL S0 (dParts n ne be) P8 X4 z5 y6 w7 z8 z9 w10 X11 w12 .unb, h6 :: R6⟩) rfl
      (cCons_of htp (cCons_of hod cNil_of))))))) (by simp))
    have hfr : frz (.own [.int n, .int (-1), .non, .bl true, .str ("0" : Str), .tup [.int 0], T]) = .lst [.int n, .int (-1), .non, .bl true, .str ("0" : Str), .tup [.int 0], T] := by
      simp only [frz, frzL, hfT]
    rw [hfr] at hlst
    exact (cFor_of (itS_lst hlst)).trans s10
  refine ⟨h9 :: R6, ?_⟩
  unfold m_law
  refine mOf_ret (n := 14) (ds := [S0]) (M := []) (env := [S0, .unb, .unb, .unb, .unb, .unb, .unb, .unb, .unb, .unb, .unb, .unb, .unb, .unb]) (s' := ⟨EL S0 (dParts n ne be) P10 X4 z5 y6 w7 z8 z9 w10 X11 w12 w13, h9 :: R6⟩) rfl ?_
  unfold c_law
  rw [cSeq_next s1, cSeq_next s2, cSeq_next s3, cSeq_next s4, cSeq_next s5', cSeq_next s6', cSeq_next s7, cSeq_next s8', cSeq_next s10']
  rfl
end
end K07

set_option maxRecDepth 100000
namespace K07
open PySem PySem.Spec PyProof.Rows _root_.L2 Fr
theorem law_sp {K : PySem.W.Frag} {C : Addr} {w : World} {vs : List V} {H : Hp} {Q : VK} {E : XK} (h : spLaw K vs H Q E) : spD K 1 (m_law C w) vs H Q E := by
  obtain ⟨a, ns, rfl, hS, hl, q⟩ := h
  obtain ⟨M', hm⟩ := law_true C w ns hl
  refine ⟨H, [], [], [.scr (ns.map D.int)], [], .bl true, M', rfl, Ex.rfl', ?_, rfl, ?_, List.nodup_nil, fun a ha => by simp at ha, hm, fun F' ρ' v H' e p l c => ?_⟩
  · unfold RepL
    refine ⟨_, [], rfl, ?_, by unfold RepL; rfl⟩
    unfold Rep
    exact ⟨a, _, rfl, hS, ints_rep ns⟩
  · show OwnL K [] H H [] [] []
    unfold OwnL
    exact ⟨rfl, rfl⟩
  · have := c.headRep rfl
    unfold Rep at this
    rw [this]
    exact q H'
end K07

open PySem PySem.W PyProof.Rows
set_option maxHeartbeats 0 in
theorem PySem.Challenge.cw_aheadcells_k07_whole_how_far_ahead_holds : PySem.Challenge.rw_aheadcells_k07_whole_how_far_ahead.Holds := by
  w_on; o_law; k_head; (case hw => w_witness2)
  k_fill
  refine L2.walk_of (l := PySem.Challenge.rw_aheadcells_k07_whole_how_far_ahead) (n := 63) (k := 9) (x := "_law_script") (CX := fun _ => L2.CX0) (sp := fun w => K07.spLaw _) rfl (by decide) rfl ⟨rfl, by decide, by decide⟩ (fun w h Y => PySem.W.kIn_of Y) ?F (fun _ _ a ns hl _ hS => ⟨a, ns, rfl, hS, hl, fun _ => rfl⟩) (fun _ _ _ _ _ h => h)
  case F =>
    intro w mg fa h KX G hmg
    refine' K07.all_mk KX G hmg (fun C w vs H Q E h => K07.law_sp h) ?aC ?a0 ?l0 ?c0 ?k0 ?a1 ?l1 ?c1 ?k1 ?a2 ?l2 ?c2 ?k2 ?a3 ?l3 ?c3 ?k3 ?a4 ?l4 ?c4 ?k4 ?a5 ?l5 ?c5 ?k5 ?a6 ?l6 ?c6 ?k6 ?a7 ?l7 ?c7 ?k7 ?a8 ?l8 ?c8 ?k8 ?a9 ?l9 ?c9 ?k9 ?a10 ?l10 ?c10 ?k10 ?a11 ?l11 ?c11 ?k11 ?a12 ?l12 ?c12 ?k12 ?a13 ?i13 ?l13 ?c13 ?k13 ?a14 ?l14 ?c14 ?k14 ?a15 ?l15 ?c15 ?k15 ?a16 ?l16 ?c16 ?k16 ?a17 ?l17 ?c17 ?k17 ?a18 ?l18 ?c18 ?k18 ?a19 ?l19 ?c19 ?k19 ?a20 ?l20 ?c20 ?k20 ?a21 ?l21 ?c21 ?k21 ?a22 ?l22 ?c22 ?k22 ?a23 ?l23 ?c23 ?k23 ?a24 ?l24 ?c24 ?k24 ?a25 ?l25 ?c25 ?k25 ?a26 ?l26 ?c26 ?k26 ?a27 ?l27 ?c27 ?k27 ?pg ?hd ?po ?sa ?mk ?kc ?na_befores ?na_needs ?na_steps ?z_ValueError ?z_abs ?z_all ?z_bool ?z_enumerate ?z_int ?z_isinstance ?z_len ?z_list ?z_min ?z_range ?z_set ?z_tuple ?y_MOST_LINKS ?y_MOST_ROUNDS ?y_MOST_STEPS ?v_heappop ?v_heappush ?xg0 ?xb0 ?xi0 ?xt0 ?xg1 ?xb1 ?xi1 ?xt1 ?xL1 ?xs1 ?xk1 ?xa1 ?xy1 ?xl1 ?xc1 ?xm1 ?xs_1_0 ?xs_1_1 ?xhn ?xht ?xh1_1 ?xh2_1 ?xh3_1 ?xh4_1 ?xh5_1 ?xh6_1
    (case aC => k_is)
    (case a0 => k_is)
    (case l0 => k_is)
    (case c0 => k_is)
    (case k0 => k_is)
    (case a1 => k_is)
    (case l1 => k_is)
    (case c1 => k_is)
    (case k1 => k_is)
    (case a2 => k_is)
    (case l2 => k_is)
    (case c2 => k_is)
    (case k2 => k_is)
    (case a3 => k_is)
    (case l3 => k_is)
    (case c3 => k_is)
    (case k3 => k_is)
    (case a4 => k_is)
    (case l4 => k_is)
    (case c4 => k_is)
    (case k4 => k_is)
    (case a5 => k_is)
    (case l5 => k_is)
    (case c5 => k_is)
    (case k5 => k_is)
    (case a6 => k_is)
    (case l6 => k_is)
    (case c6 => k_is)
    (case k6 => k_is)
    (case a7 => k_is)
    (case l7 => k_is)
    (case c7 => k_is)
    (case k7 => k_is)
    (case a8 => k_is)
    (case l8 => k_is)
    (case c8 => k_is)
    (case k8 => k_is)
    (case a9 => k_is)
    (case l9 => k_is)
    (case c9 => k_is)
    (case k9 => k_is)
    (case a10 => k_is)
    (case l10 => k_is)
    (case c10 => k_is)
    (case k10 => k_is)
    (case a11 => k_is)
    (case l11 => k_is)
    (case c11 => k_is)
    (case k11 => k_is)
    (case a12 => k_is)
    (case l12 => k_is)
    (case c12 => k_is)
    (case k12 => k_is)
    (case a13 => k_is)
    (case i13 => k_is)
    (case l13 => k_is)
    (case c13 => k_is)
    (case k13 => k_is)
    (case a14 => k_is)
    (case l14 => k_is)
    (case c14 => k_is)
    (case k14 => k_is)
    (case a15 => k_is)
    (case l15 => k_is)
    (case c15 => k_is)
    (case k15 => k_is)
    (case a16 => k_is)
    (case l16 => k_is)
    (case c16 => k_is)
    (case k16 => k_is)
    (case a17 => k_is)
    (case l17 => k_is)
    (case c17 => k_is)
    (case k17 => k_is)
    (case a18 => k_is)
    (case l18 => k_is)
    (case c18 => k_is)
    (case k18 => k_is)
    (case a19 => k_is)
    (case l19 => k_is)
    (case c19 => k_is)
    (case k19 => k_is)
    (case a20 => k_is)
    (case l20 => k_is)
    (case c20 => k_is)
    (case k20 => k_is)
    (case a21 => k_is)
    (case l21 => k_is)
    (case c21 => k_is)
    (case k21 => k_is)
    (case a22 => k_is)
    (case l22 => k_is)
    (case c22 => k_is)
    (case k22 => k_is)
    (case a23 => k_is)
    (case l23 => k_is)
    (case c23 => k_is)
    (case k23 => k_is)
    (case a24 => k_is)
    (case l24 => k_is)
    (case c24 => k_is)
    (case k24 => k_is)
    (case a25 => k_is)
    (case l25 => k_is)
    (case c25 => k_is)
    (case k25 => k_is)
    (case a26 => k_is)
    (case l26 => k_is)
    (case c26 => k_is)
    (case k26 => k_is)
    (case a27 => k_is)
    (case l27 => k_is)
    (case c27 => k_is)
    (case k27 => k_is)
    (case pg => k_is)
    (case hd => k_is)
    (case po => k_is)
    (case sa => k_is)
    (case mk => k_is)
    (case kc => k_is)
    (case na_befores => k_is)
    (case na_needs => k_is)
    (case na_steps => k_is)
    (case z_ValueError => k_is)
    (case z_abs => k_is)
    (case z_all => k_is)
    (case z_bool => k_is)
    (case z_enumerate => k_is)
    (case z_int => k_is)
    (case z_isinstance => k_is)
    (case z_len => k_is)
    (case z_list => k_is)
    (case z_min => k_is)
    (case z_range => k_is)
    (case z_set => k_is)
    (case z_tuple => k_is)
    (case y_MOST_LINKS => k_is)
    (case y_MOST_ROUNDS => k_is)
    (case y_MOST_STEPS => k_is)
    (case v_heappop => k_is)
    (case v_heappush => k_is)
    (case xg0 => k_is)
    (case xb0 => k_is)
    (case xi0 => k_is)
    (case xt0 => k_is)
    (case xg1 => k_is)
    (case xb1 => k_is)
    (case xi1 => k_is)
    (case xt1 => k_is)
    (case xL1 => k_is)
    (case xs1 => k_is)
    (case xk1 => k_is)
    (case xa1 => k_is)
    (case xy1 => k_is)
    (case xl1 => k_is)
    (case xc1 => k_is)
    (case xm1 => k_is)
    (case xs_1_0 => k_is)
    (case xs_1_1 => k_is)
    (case xhn => k_is)
    (case xht => k_is)
    (case xh1_1 => k_is)
    (case xh2_1 => k_is)
    (case xh3_1 => k_is)
    (case xh4_1 => k_is)
    (case xh5_1 => k_is)
    (case xh6_1 => k_is)


