import PyProof.Rows.All
import Wide.All
import OpenK.AllK
import Wide.FinOn
import HandS.ForMost
import HandS.ForExc
import HandS.Lambda
import HandS.HeadHook4
import HandS.Walk
import HandS.Defaults
import KE.GoesEnum
import HandS.Zip
import KE.DataEq
import HandS.List
import HandS.Deep
import HandS.Style
import HandS.IsInst
import HandS.TupMul
import HandS.TupAny
import HandS.Wide
import HandS.Exc
import HandS.MakeKwOnly
import HandS.Conv
import HandS.ExcInit
import HandS.TryMany
import HandS.ExcField
import HandS.ExcIs
import KE.GoesZip
import KE.KItemsList
import HandS.Zip0
import HandS.ListItems
import PyProof.StrBlock2
import HandS.HeadWalk
import HandS.EndTab
import HandS.Head0
import HandS.Head1
import HandS.Head2
import KE.KStateDown
import HandS.HeadEnd
import PySem.Challenge.RW_foursfold_k01_mergers_queues_and_what_is
set_option Elab.async false
set_option linter.all false
set_option maxRecDepth 100000
set_option maxHeartbeats 0
namespace Fy
open PySem PySem.Spec PyProof.Rows L2

/-- plain values: what a Python value is, without the heap -/
inductive PV where
  | non | bl (b : Bool) | int (i : Int) | str (x : Str) | ty (n : String) | glo (x : Str)
  | tup (xs : List PV) | lst (xs : List PV) | rls (xs : List PV)
  | obj (c : Str) (ns : List Str) (xs : List PV)

mutual
inductive Rp (K : PySem.W.Frag) (G : Hp) : PV → V → Prop
  | non : Rp K G .non .non
  | bl (b : Bool) : Rp K G (.bl b) (.bl b)
  | int (i : Int) : Rp K G (.int i) (.int i)
  | str (x : Str) : Rp K G (.str x) (.str x)
  | ty (n : String) : Rp K G (.ty n) (.ty n)
  | glo (x : Str) : Rp K G (.glo x) (.ref (He.ga K x))
  | tup {a : Addr} {vs : List V} {xs : List PV} : SqT K G a vs → vs.length ≤ sizeLine → Rps K G xs vs → Rp K G (.tup xs) (.ref a)
  | lst {a : Addr} {vs : List V} {xs : List PV} : G a = some (.lst vs) → vs.length ≤ sizeLine → Rps K G xs vs → Rp K G (.lst xs) (.ref a)
  | rls {a : Addr} {vs : List V} {xs : List PV} : SqL K G a vs → vs.length ≤ sizeLine → Rps K G xs vs → Rp K G (.rls xs) (.ref a)
  | obj {a dx : Addr} {c : Str} {ns : List Str} {vs : List V} {xs : List PV} : G a = some (.ins (He.ga K c) dx (ns.zip vs)) → ns.length = vs.length → Rps K G xs vs → Rp K G (.obj c ns xs) (.ref a)
inductive Rps (K : PySem.W.Frag) (G : Hp) : List PV → List V → Prop
  | nil : Rps K G [] []
  | cons {p : PV} {v : V} {xs : List PV} {vs : List V} : Rp K G p v → Rps K G xs vs → Rps K G (p :: xs) (v :: vs)
end

/-- what a frame owns and may change: lists of lists .. of plain values; instances -/
inductive OT where
  | leaf (p : PV) | node (ts : List OT) | ins (c : Str) (ns : List Str) (ts : List OT)

mutual
def fz : OT → PV
  | .leaf p => p
  | .node ts => .lst (fzs ts)
  | .ins c ns ts => .obj c ns (fzs ts)
def fzs : List OT → List PV
  | [] => []
  | t :: ts => fz t :: fzs ts
end
theorem fzs_map : ∀ ts : List OT, fzs ts = ts.map fz
  | [] => by simp [fzs]
  | t :: ts => by simp [fzs, fzs_map ts]

mutual
inductive Ro (K : PySem.W.Frag) (G H : Hp) : OT → V → List Addr → Prop
  | leaf {p : PV} {v : V} : Rp K G p v → Ro K G H (.leaf p) v []
  | node {a : Addr} {vs : List V} {ts : List OT} {A : List Addr} : H a = some (.lst vs) → vs.length ≤ sizeLine → Ros K G H ts vs A → Ro K G H (.node ts) (.ref a) (a :: A)
  | ins {a dx : Addr} {c : Str} {ns : List Str} {vs : List V} {ts : List OT} {A : List Addr} : H a = some (.ins (He.ga K c) dx (ns.zip vs)) → ns.length = vs.length → Ros K G H ts vs A → Ro K G H (.ins c ns ts) (.ref a) (a :: A)
inductive Ros (K : PySem.W.Frag) (G H : Hp) : List OT → List V → List Addr → Prop
  | nil : Ros K G H [] [] []
  | cons {t : OT} {v : V} {ts : List OT} {vs : List V} {A B : List Addr} : Ro K G H t v A → Ros K G H ts vs B → Ros K G H (t :: ts) (v :: vs) (A ++ B)
end

section
variable {K : PySem.W.Frag} {G G' H H' : Hp}
theorem same_t {a : Addr} {xs : List V} (e : Same G G') (h : SqT K G a xs) : SqT K G' a xs := by
  rcases h with (h | ⟨o, h⟩) | h
  · exact .inl (.inl (e _ _ h))
  · exact .inl (.inr ⟨o, e _ _ h⟩)
  · exact .inr h
mutual
theorem Rp.mono (e : Same G G') : ∀ (p : PV) (v : V), Rp K G p v → Rp K G' p v
  | .non, _, h => by cases h; exact .non
  | .bl _, _, h => by cases h; exact .bl _
  | .int _, _, h => by cases h; exact .int _
  | .str _, _, h => by cases h; exact .str _
  | .ty _, _, h => by cases h; exact .ty _
  | .glo _, _, h => by cases h; exact .glo _
  | .tup xs, _, h => by
    cases h with
    | tup h1 h2 h3 => exact .tup (same_t e h1) h2 (Rps.mono e xs _ h3)
  | .lst xs, _, h => by
    cases h with
    | lst h1 h2 h3 => exact .lst (e _ _ h1) h2 (Rps.mono e xs _ h3)
  | .rls xs, _, h => by
    cases h with
    | rls h1 h2 h3 => exact .rls (e.seq h1) h2 (Rps.mono e xs _ h3)
  | .obj c ns xs, _, h => by
    cases h with
    | obj h1 h2 h3 => exact .obj (e _ _ h1) h2 (Rps.mono e xs _ h3)
theorem Rps.mono (e : Same G G') : ∀ (xs : List PV) (vs : List V), Rps K G xs vs → Rps K G' xs vs
  | [], _, h => by cases h; exact .nil
  | x :: xs, _, h => by
    cases h with
    | cons h1 h2 => exact .cons (Rp.mono e x _ h1) (Rps.mono e xs _ h2)
end
theorem Rps.len : ∀ {xs : List PV} {vs : List V}, Rps K G xs vs → xs.length = vs.length
  | [], _, h => by cases h; rfl
  | x :: xs, _, h => by
    cases h with
    | cons h1 h2 => simp [Rps.len h2]
theorem Rps.get : ∀ {xs : List PV} {vs : List V} {i : Nat} {p : PV}, Rps K G xs vs → xs[i]? = some p → ∃ v, vs[i]? = some v ∧ Rp K G p v
  | [], _, i, p, h, e => by simp at e
  | x :: xs, _, 0, p, h, e => by
    cases h with
    | cons h1 h2 =>
      have ex : x = p := Option.some.inj e
      subst ex
      exact ⟨_, rfl, h1⟩
  | x :: xs, _, i + 1, p, h, e => by
    cases h with
    | cons h1 h2 => exact Rps.get (i := i) h2 e
theorem Rps.app : ∀ {xs ys : List PV} {vs ws : List V}, Rps K G xs vs → Rps K G ys ws → Rps K G (xs ++ ys) (vs ++ ws)
  | [], _, _, _, h, q => by cases h; exact q
  | x :: xs, _, _, _, h, q => by
    cases h with
    | cons h1 h2 => exact .cons h1 (Rps.app h2 q)
theorem Rps.take : ∀ {xs : List PV} {vs : List V} (n : Nat), Rps K G xs vs → Rps K G (xs.take n) (vs.take n)
  | _, _, 0, _ => by simp; exact .nil
  | [], _, n + 1, h => by cases h; exact .nil
  | x :: xs, _, n + 1, h => by
    cases h with
    | cons h1 h2 => exact .cons h1 (Rps.take n h2)
theorem Rps.drop : ∀ {xs : List PV} {vs : List V} (n : Nat), Rps K G xs vs → Rps K G (xs.drop n) (vs.drop n)
  | _, _, 0, h => h
  | [], _, n + 1, h => by cases h; exact .nil
  | x :: xs, _, n + 1, h => by
    cases h with
    | cons h1 h2 => exact Rps.drop n h2

/-! ### owned trees -/
mutual
theorem Ro.mono (e : Same G G') : ∀ (t : OT) (v : V) (A : List Addr), (∀ a ∈ A, H' a = H a) → Ro K G H t v A → Ro K G' H' t v A
  | .leaf p, _, _, _, h => by
    cases h with
    | leaf h => exact .leaf (Rp.mono e p _ h)
  | .node ts, _, _, q, h => by
    cases h with
    | node h1 h2 h3 => exact .node ((q _ List.mem_cons_self).trans h1) h2 (Ros.mono e ts _ _ (fun a ha => q a (List.mem_cons_of_mem _ ha)) h3)
  | .ins c ns ts, _, _, q, h => by
    cases h with
    | ins h1 h2 h3 => exact .ins ((q _ List.mem_cons_self).trans h1) h2 (Ros.mono e ts _ _ (fun a ha => q a (List.mem_cons_of_mem _ ha)) h3)
theorem Ros.mono (e : Same G G') : ∀ (ts : List OT) (vs : List V) (A : List Addr), (∀ a ∈ A, H' a = H a) → Ros K G H ts vs A → Ros K G' H' ts vs A
  | [], _, _, _, h => by cases h; exact .nil
  | t :: ts, _, _, q, h => by
    cases h with
    | cons h1 h2 => exact .cons (Ro.mono e t _ _ (fun a ha => q a (List.mem_append_left _ ha)) h1) (Ros.mono e ts _ _ (fun a ha => q a (List.mem_append_right _ ha)) h2)
end
theorem Ros.len : ∀ {ts : List OT} {vs : List V} {A : List Addr}, Ros K G H ts vs A → ts.length = vs.length
  | [], _, _, h => by cases h; rfl
  | x :: xs, _, _, h => by
    cases h with
    | cons h1 h2 => simp [Ros.len h2]
mutual
theorem Ro.frz (e : Same G G') : ∀ (t : OT) (v : V) (A : List Addr), (∀ a ∈ A, G' a = H a) → Ro K G H t v A → Rp K G' (fz t) v
  | .leaf p, _, _, _, h => by
    cases h with
    | leaf h => unfold fz; exact Rp.mono e p _ h
  | .node ts, _, _, q, h => by
    cases h with
    | node h1 h2 h3 =>
      unfold fz
      exact .lst ((q _ List.mem_cons_self).trans h1) h2 (Ros.frz e ts _ _ (fun a ha => q a (List.mem_cons_of_mem _ ha)) h3)
  | .ins c ns ts, _, _, q, h => by
    cases h with
    | ins h1 h2 h3 =>
      unfold fz
      exact .obj ((q _ List.mem_cons_self).trans h1) h2 (Ros.frz e ts _ _ (fun a ha => q a (List.mem_cons_of_mem _ ha)) h3)
theorem Ros.frz (e : Same G G') : ∀ (ts : List OT) (vs : List V) (A : List Addr), (∀ a ∈ A, G' a = H a) → Ros K G H ts vs A → Rps K G' (fzs ts) vs
  | [], _, _, _, h => by
    cases h
    unfold fzs
    exact .nil
  | t :: ts, _, _, q, h => by
    cases h with
    | cons h1 h2 =>
      unfold fzs
      exact .cons (Ro.frz e t _ _ (fun a ha => q a (List.mem_append_left _ ha)) h1) (Ros.frz e ts _ _ (fun a ha => q a (List.mem_append_right _ ha)) h2)
end
theorem Ros.app : ∀ {ts us : List OT} {vs ws : List V} {A B : List Addr}, Ros K G H ts vs A → Ros K G H us ws B → Ros K G H (ts ++ us) (vs ++ ws) (A ++ B)
  | [], _, _, _, _, _, h, q => by cases h; exact q
  | x :: xs, us, _, ws, _, B, h, q => by
    cases h with
    | cons h1 h2 =>
      rw [List.append_assoc]
      exact .cons h1 (Ros.app h2 q)
theorem Ros.leaves : ∀ {xs : List PV} {vs : List V}, Rps K G xs vs → Ros K G H (xs.map .leaf) vs []
  | [], _, h => by cases h; exact .nil
  | x :: xs, _, h => by
    cases h with
    | cons h1 h2 => exact .cons (A := []) (B := []) (.leaf h1) (Ros.leaves h2)
theorem Ros.ofLeaves : ∀ {xs : List PV} {vs : List V} {A : List Addr}, Ros K G H (xs.map .leaf) vs A → A = [] ∧ Rps K G xs vs
  | [], _, _, h => by cases h; exact ⟨rfl, .nil⟩
  | x :: xs, _, _, h => by
    cases h with
    | cons h1 h2 =>
      cases h1 with
      | leaf h1 =>
        obtain ⟨e, r⟩ := Ros.ofLeaves h2
        subst e
        exact ⟨rfl, .cons h1 r⟩
/-- one of them, and the rest in its place -/
theorem Ros.split {i : Nat} : ∀ {ts : List OT} {vs : List V} {A : List Addr} {t : OT} {i : Nat}, Ros K G H ts vs A → ts[i]? = some t →
    ∃ v A1 At A2, vs[i]? = some v ∧ A = A1 ++ (At ++ A2) ∧ Ro K G H t v At ∧ ∀ (G' H' : Hp) (t' : OT) (v' : V) (At' : List Addr), Same G G' → (∀ a ∈ A1 ++ A2, H' a = H a) → Ro K G' H' t' v' At' → Ros K G' H' (ts.set i t') (vs.set i v') (A1 ++ (At' ++ A2))
  | [], _, _, _, i, h, e => by simp at e
  | x :: xs, _, _, t, 0, h, e => by
    cases h with
    | @cons _ v _ vs A B h1 h2 =>
      have ex : x = t := Option.some.inj e
      subst ex
      refine ⟨v, [], A, B, rfl, rfl, h1, fun G' H' t' v' At' e q h => ?_⟩
      exact .cons (A := At') (B := B) h (Ros.mono e xs vs B (fun a ha => q a (by simpa using ha)) h2)
  | x :: xs, _, _, t, i + 1, h, e => by
    cases h with
    | @cons _ v _ vs A B h1 h2 =>
      obtain ⟨w, B1, Bt, B2, e1, e2, r, f⟩ := Ros.split (i := i) (t := t) h2 e
      refine ⟨w, A ++ B1, Bt, B2, e1, by rw [e2]; simp, r, fun G' H' t' v' At' e q h => ?_⟩
      have := f G' H' t' v' At' e (fun a ha => q a (by simp at ha ⊢; rcases ha with z | z <;> simp [z])) h
      have h1' := Ro.mono e x v A (fun a ha => q a (by simp [ha])) h1
      have z := Ros.cons h1' this
      simpa using z
end

/-! ### slots -/
abbrev Sl := List (Option OT)
inductive Rsl (K : PySem.W.Frag) (G H : Hp) : Sl → L2.St → List Addr → Prop
  | nil : Rsl K G H [] [] []
  | off {S : Sl} {σ : L2.St} {A : List Addr} {x : Option V} : Rsl K G H S σ A → Rsl K G H (none :: S) (x :: σ) A
  | on {S : Sl} {σ : L2.St} {t : OT} {v : V} {A B : List Addr} : Ro K G H t v A → Rsl K G H S σ B → Rsl K G H (some t :: S) (some v :: σ) (A ++ B)
section
variable {K : PySem.W.Frag} {G G' H H' : Hp}
theorem Rsl.len : ∀ {S : Sl} {σ : L2.St} {A : List Addr}, Rsl K G H S σ A → S.length = σ.length
  | _, _, _, .nil => rfl
  | _, _, _, .off h => by simp [Rsl.len h]
  | _, _, _, .on _ h => by simp [Rsl.len h]
theorem Rsl.mono (e : Same G G') : ∀ {S : Sl} {σ : L2.St} {A : List Addr}, (∀ a ∈ A, H' a = H a) → Rsl K G H S σ A → Rsl K G' H' S σ A
  | _, _, _, _, .nil => .nil
  | _, _, _, q, .off h => .off (Rsl.mono e q h)
  | _, _, _, q, .on r h => .on (Ro.mono e _ _ _ (fun a ha => q a (List.mem_append_left _ ha)) r) (Rsl.mono e (fun a ha => q a (List.mem_append_right _ ha)) h)
/-- one slot, and the rest in its place -/
theorem Rsl.split : ∀ {S : Sl} {σ : L2.St} {A : List Addr} {t : OT} {i : Nat}, Rsl K G H S σ A → S[i]? = some (some t) →
    ∃ v A1 At A2, σ[i]? = some (some v) ∧ A = A1 ++ (At ++ A2) ∧ Ro K G H t v At ∧
      (∀ (G' H' : Hp) (t' : OT) (v' : V) (At' : List Addr), Same G G' → (∀ a ∈ A1 ++ A2, H' a = H a) → Ro K G' H' t' v' At' → Rsl K G' H' (S.set i (some t')) (σ.set i (some v')) (A1 ++ (At' ++ A2))) ∧
      ∀ (G' H' : Hp) (x : Option V), Same G G' → (∀ a ∈ A1 ++ A2, H' a = H a) → Rsl K G' H' (S.set i none) (σ.set i x) (A1 ++ A2)
  | _, _, _, t, i, .nil, e => by simp at e
  | _, _, _, t, 0, .off h, e => by simp at e
  | _, _, _, t, i + 1, .off h, e => by
    obtain ⟨w, B1, Bt, B2, e1, e2, r, f, g⟩ := Rsl.split (i := i) (t := t) h e
    exact ⟨w, B1, Bt, B2, e1, e2, r, fun G' H' t' v' At' e q h => .off (f G' H' t' v' At' e q h), fun G' H' x e q => .off (g G' H' x e q)⟩
  | _, _, _, t, 0, @Rsl.on _ _ _ S σ t0 v A B r h, e => by
    have ex : t0 = t := Option.some.inj (Option.some.inj e)
    subst ex
    refine ⟨v, [], A, B, rfl, rfl, r, fun G' H' t' v' At' e q h' => ?_, fun G' H' x e q => ?_⟩
    · exact .on (A := At') (B := B) h' (Rsl.mono e (fun a ha => q a (by simpa using ha)) h)
    · exact .off (Rsl.mono e (fun a ha => q a (by simpa using ha)) h)
  | _, _, _, t, i + 1, @Rsl.on _ _ _ S σ t0 v A B r h, e => by
    obtain ⟨w, B1, Bt, B2, e1, e2, r', f, g⟩ := Rsl.split (i := i) (t := t) h e
    refine ⟨w, A ++ B1, Bt, B2, e1, by rw [e2]; simp, r', fun G' H' t' v' At' e q h' => ?_, fun G' H' x e q => ?_⟩
    · have z1 := f G' H' t' v' At' e (fun a ha => q a (by simp at ha ⊢; rcases ha with z | z <;> simp [z])) h'
      have z2 := Ro.mono e t0 v A (fun a ha => q a (by simp [ha])) r
      simpa using Rsl.on z2 z1
    · have z1 := g G' H' x e (fun a ha => q a (by simp at ha ⊢; rcases ha with z | z <;> simp [z]))
      have z2 := Ro.mono e t0 v A (fun a ha => q a (by simp [ha])) r
      simpa using Rsl.on z2 z1
/-- any slot set: what it held is dropped -/
theorem Rsl.put {t : OT} {v : V} {At : List Addr} (r : Ro K G H t v At) : ∀ {S : Sl} {σ : L2.St} {A : List Addr} (i : Nat), Rsl K G H S σ A → i < S.length →
    ∃ A1 A2, (A1 ++ A2).Sublist A ∧ Rsl K G H (S.set i (some t)) (σ.set i (some v)) (A1 ++ (At ++ A2)) := by
  intro S σ A i h
  induction h generalizing i with
  | nil => intro hi; simp at hi
  | @off S σ A x h ih =>
    intro hi
    cases i with
    | zero => exact ⟨[], A, List.Sublist.refl A, Rsl.on (A := At) (B := A) r h⟩
    | succ i =>
      obtain ⟨A1, A2, s, z⟩ := ih i (by simpa using hi)
      exact ⟨A1, A2, s, Rsl.off z⟩
  | @on S σ t0 v0 A B r0 h ih =>
    intro hi
    cases i with
    | zero => exact ⟨[], B, List.sublist_append_right _ _, Rsl.on (A := At) (B := B) r h⟩
    | succ i =>
      obtain ⟨A1, A2, s, z⟩ := ih i (by simpa using hi)
      refine ⟨A ++ A1, A2, ?_, ?_⟩
      · rw [List.append_assoc]
        exact List.Sublist.append (List.Sublist.refl A) s
      · simpa using Rsl.on r0 z
/-- a slot forgotten -/
theorem Rsl.wipe : ∀ {S : Sl} {σ : L2.St} {A : List Addr} {i : Nat} (x : Option V), Rsl K G H S σ A → ∃ A', A'.Sublist A ∧ Rsl K G H (S.set i none) (σ.set i x) A'
  | _, _, _, i, x, .nil => ⟨[], by simp, .nil⟩
  | _, _, _, 0, x, @Rsl.off _ _ _ S σ A y h => ⟨A, List.Sublist.refl A, (Rsl.off h : Rsl K G H (none :: S) (x :: σ) A)⟩
  | _, _, _, 0, x, @Rsl.on _ _ _ S σ t0 v0 A B r0 h => ⟨B, List.sublist_append_right _ _, (Rsl.off h : Rsl K G H (none :: S) (x :: σ) B)⟩
  | _, _, _, i + 1, x, .off h => by
    obtain ⟨A', s, z⟩ := Rsl.wipe (i := i) x h
    exact ⟨A', s, .off z⟩
  | _, _, _, i + 1, x, @Rsl.on _ _ _ S σ t0 v0 A B r0 h => by
    obtain ⟨A', s, z⟩ := Rsl.wipe (i := i) x h
    exact ⟨A ++ A', List.Sublist.append (List.Sublist.refl A) s, .on r0 z⟩
end
end Fy

namespace Fy
open PySem PySem.Spec PyProof.Rows L2

/-- what stays fixed while a frame runs: the tables of code objects; the addresses of its caller that it may change; the heap and what was frozen at its entry; the slots that were handed by reference -/
structure Pm where
  T : List (Addr × Str)
  M : List Addr
  H0 : Hp
  G0 : Hp
  B : List (Nat × V)
  /-- no repr is under way, and one may be asked -/
  rp : Bool

/-- all but M and the tables stand -/
def Kp (M : List Addr) (H H' : Hp) : Prop := ∀ b o, H b = some o → (∀ ps, o ≠ .tbl ps) → b ∉ M → H' b = some o
theorem Kp.refl {M : List Addr} {H : Hp} : Kp M H H := fun _ _ h _ _ => h
theorem Kp.ext {M : List Addr} {H H1 H2 : Hp} (k : Kp M H H1) (e : Same H1 H2) : Kp M H H2 := fun b o h n m => e _ _ (k b o h n m)
theorem Kp.same {H H' : Hp} (e : Same H H') {M : List Addr} : Kp M H H' := fun b o h _ _ => e _ _ h

abbrev Tm := List (OT × V)
abbrev lf (xs : List PV) (vs : List V) : Tm := (xs.map OT.leaf).zip vs

/-- made by the frame itself, or handed to it to be changed -/
def Mine (P : Pm) (a : Addr) : Prop := a ∈ P.M ∨ ∀ o, P.H0 a = some o → ∃ ps, o = .tbl ps
/-- what is frozen: what was at the entry, and what the frame has frozen itself -/
def NT (G : Hp) : Prop := ∀ b ps, G b ≠ some (.tbl ps)
structure Gm (P : Pm) (G : Hp) : Prop where
  same : Same P.G0 G
  src : ∀ b o, G b = some o → P.G0 b = some o ∨ Mine P b
  nt : NT G
def SimG (K : PySem.W.Frag) (P : Pm) (G : Hp) (σ : L2.St) (H : Hp) (S : Sl) (tmp : Tm) (A B : List Addr) : Prop :=
  Gm P G ∧ Same G H ∧ Rsl K G H S σ A ∧ Ros K G H (tmp.map (·.1)) (tmp.map (·.2)) B ∧ (A ++ B).Nodup ∧ ∀ a ∈ A ++ B, G a = none ∧ Mine P a
structure Sim (K : PySem.W.Frag) (P : Pm) (σ : L2.St) (H : Hp) (S : Sl) (tmp : Tm) : Prop where
  rel : ∃ G A B, SimG K P G σ H S tmp A B
  kp : Kp P.M P.H0 H
  tabs : LamX.Tabs P.T H
  byr : ∀ p ∈ P.B, σ[p.1]? = some (some p.2)

section
variable {K : PySem.W.Frag} {P : Pm} {G G' : Hp} {σ : L2.St} {H H' : Hp} {S : Sl} {tmp tmp' : Tm}

theorem zip_fst {α β : Type} : ∀ {xs : List α} {ys : List β}, xs.length = ys.length → (xs.zip ys).map (·.1) = xs
  | [], [], _ => rfl
  | x :: xs, y :: ys, h => by simp [zip_fst (xs := xs) (ys := ys) (by simpa using h)]
theorem zip_snd {α β : Type} : ∀ {xs : List α} {ys : List β}, xs.length = ys.length → (xs.zip ys).map (·.2) = ys
  | [], [], _ => rfl
  | x :: xs, y :: ys, h => by simp [zip_snd (xs := xs) (ys := ys) (by simpa using h)]

theorem ros_perm {l l' : Tm} (p : l.Perm l') : ∀ {B : List Addr}, Ros K G H (l.map (·.1)) (l.map (·.2)) B → ∃ B', B.Perm B' ∧ Ros K G H (l'.map (·.1)) (l'.map (·.2)) B' := by
  induction p with
  | nil => intro B h; exact ⟨B, List.Perm.refl B, h⟩
  | cons x _ ih =>
    intro B h
    cases h with
    | @cons _ _ _ _ A1 B1 h1 h2 =>
      obtain ⟨B', p', h'⟩ := ih h2
      exact ⟨A1 ++ B', p'.append_left _, .cons h1 h'⟩
  | swap x y l =>
    intro B h
    cases h with
    | @cons _ _ _ _ A1 B1 h1 h2 =>
      cases h2 with
      | @cons _ _ _ _ A2 B2 h2 h3 =>
        refine ⟨A2 ++ (A1 ++ B2), ?_, .cons h2 (.cons h1 h3)⟩
        rw [← List.append_assoc, ← List.append_assoc]
        exact List.perm_append_comm.append_right _
  | trans _ _ ih1 ih2 =>
    intro B h
    obtain ⟨B1, p1, h1⟩ := ih1 h
    obtain ⟨B2, p2, h2⟩ := ih2 h1
    exact ⟨B2, p1.trans p2, h2⟩
theorem Sim.perm (s : Sim K P σ H S tmp) (p : tmp.Perm tmp') : Sim K P σ H S tmp' := by
  obtain ⟨⟨G, A, B, e0, e1, r1, r2, nd, fr⟩, kp, tb, by_⟩ := s
  obtain ⟨B', pb, r2'⟩ := ros_perm p r2
  refine ⟨⟨G, A, B', e0, e1, r1, r2', (pb.append_left A).nodup nd, fun a ha => fr a ?_⟩, kp, tb, by_⟩
  exact (pb.append_left A).mem_iff.mpr ha

theorem ros_app {l1 l2 : Tm} : ∀ {B : List Addr}, Ros K G H ((l1 ++ l2).map (·.1)) ((l1 ++ l2).map (·.2)) B → ∃ B1 B2, B = B1 ++ B2 ∧ Ros K G H (l1.map (·.1)) (l1.map (·.2)) B1 ∧ Ros K G H (l2.map (·.1)) (l2.map (·.2)) B2 := by
  induction l1 with
  | nil => intro B h; exact ⟨[], B, rfl, .nil, h⟩
  | cons x l ih =>
    intro B h
    cases h with
    | @cons _ _ _ _ A1 B1 h1 h2 =>
      obtain ⟨C1, C2, e, q1, q2⟩ := ih h2
      exact ⟨A1 ++ C1, C2, by rw [e, List.append_assoc], .cons h1 q1, q2⟩
theorem ros_join {l1 l2 : Tm} {B1 B2 : List Addr} (h1 : Ros K G H (l1.map (·.1)) (l1.map (·.2)) B1) (h2 : Ros K G H (l2.map (·.1)) (l2.map (·.2)) B2) : Ros K G H ((l1 ++ l2).map (·.1)) ((l1 ++ l2).map (·.2)) (B1 ++ B2) := by
  rw [List.map_append, List.map_append]
  exact h1.app h2

/-- temporary things are dropped -/
theorem Sim.drops {l : Tm} (s : Sim K P σ H S (l ++ tmp)) : Sim K P σ H S tmp := by
  obtain ⟨⟨G, A, B, e0, e1, r1, r2, nd, fr⟩, kp, tb, by_⟩ := s
  obtain ⟨B1, B2, rfl, q1, q2⟩ := ros_app r2
  have sub : (A ++ B2).Sublist (A ++ (B1 ++ B2)) := List.Sublist.append (List.Sublist.refl A) (List.sublist_append_right B1 B2)
  exact ⟨⟨G, A, B2, e0, e1, r1, q2, nd.sublist sub, fun a ha => fr a (sub.subset ha)⟩, kp, tb, by_⟩
theorem Sim.drop {x : OT × V} (s : Sim K P σ H S (x :: tmp)) : Sim K P σ H S tmp := Sim.drops (l := [x]) s

/-- what may be owned; with true lists only -/
def Own (b : Bool) (o : HO) : Prop := (∃ vs, o = .lst vs) ∨ (b = false ∧ ∃ c d f, o = .ins c d f)
theorem Own.mono {b b' : Bool} {o : HO} (h : Own b o) (e : b' = true → b = true) : Own b' o := by
  rcases h with h | ⟨h1, h2⟩
  · exact .inl h
  · refine .inr ⟨?_, h2⟩
    cases b' with
    | false => rfl
    | true => rw [e rfl] at h1; cases h1
theorem Own.nt {b : Bool} {o : HO} (h : Own b o) : ∀ ps, o ≠ .tbl ps := fun ps z => by
  rcases h with ⟨_, h⟩ | ⟨_, _, _, _, h⟩ <;> (rw [h] at z; cases z)
mutual
def okT : OT → Bool
  | .leaf _ => true
  | .node ts => okTs ts
  | .ins _ _ _ => false
def okTs : List OT → Bool
  | [] => true
  | t :: ts => okT t && okTs ts
end
def okS : Sl → Bool
  | [] => true
  | none :: S => okS S
  | some t :: S => okT t && okS S
mutual
theorem ro_at : ∀ (t : OT) (v : V) (A : List Addr), Ro K G H t v A → ∀ a ∈ A, ∃ o, H a = some o ∧ Own (okT t) o
  | .leaf _, _, _, h, a, ha => by cases h; simp at ha
  | .node ts, _, _, h, a, ha => by
    cases h with
    | node h1 h2 h3 =>
      rcases List.mem_cons.mp ha with z | z
      · subst z
        exact ⟨_, h1, .inl ⟨_, rfl⟩⟩
      · obtain ⟨o, h, w⟩ := ros_at ts _ _ h3 a z
        exact ⟨o, h, w.mono (fun e => by simpa [okT] using e)⟩
  | .ins c ns ts, _, _, h, a, ha => by
    cases h with
    | ins h1 h2 h3 =>
      rcases List.mem_cons.mp ha with z | z
      · subst z
        exact ⟨_, h1, .inr ⟨rfl, _, _, _, rfl⟩⟩
      · obtain ⟨o, h, w⟩ := ros_at ts _ _ h3 a z
        exact ⟨o, h, w.mono (fun e => by simp [okT] at e)⟩
theorem ros_at : ∀ (ts : List OT) (vs : List V) (A : List Addr), Ros K G H ts vs A → ∀ a ∈ A, ∃ o, H a = some o ∧ Own (okTs ts) o
  | [], _, _, h, a, ha => by cases h; simp at ha
  | t :: ts, _, _, h, a, ha => by
    cases h with
    | cons h1 h2 =>
      rcases List.mem_append.mp ha with z | z
      · obtain ⟨o, h, w⟩ := ro_at t _ _ h1 a z
        exact ⟨o, h, w.mono (fun e => by have : okT t = true ∧ okTs ts = true := by simpa [okTs] using e
                                         exact this.1)⟩
      · obtain ⟨o, h, w⟩ := ros_at ts _ _ h2 a z
        exact ⟨o, h, w.mono (fun e => by have : okT t = true ∧ okTs ts = true := by simpa [okTs] using e
                                         exact this.2)⟩
end
theorem rsl_at : ∀ {S : Sl} {σ : L2.St} {A : List Addr}, Rsl K G H S σ A → ∀ a ∈ A, ∃ o, H a = some o ∧ Own (okS S) o
  | _, _, _, .nil, a, ha => by simp at ha
  | _, _, _, .off h, a, ha => by
    obtain ⟨o, h, w⟩ := rsl_at h a ha
    exact ⟨o, h, w.mono (fun e => by simpa [okS] using e)⟩
  | _, _, _, @Rsl.on _ _ _ S σ t v A B r h, a, ha => by
    rcases List.mem_append.mp ha with z | z
    · obtain ⟨o, h, w⟩ := ro_at _ _ _ r a z
      exact ⟨o, h, w.mono (fun e => by have : okT t = true ∧ okS S = true := by simpa [okS] using e
                                       exact this.1)⟩
    · obtain ⟨o, h, w⟩ := rsl_at h a z
      exact ⟨o, h, w.mono (fun e => by have : okT t = true ∧ okS S = true := by simpa [okS] using e
                                       exact this.2)⟩

/-- H with what is at A frozen -/
def frzG (G H : Hp) (A : List Addr) : Hp := fun b => if b ∈ A then H b else G b
theorem frzG_same {A : List Addr} (e : Same G H) : Same G (frzG G H A) := fun b o h => by
  unfold frzG
  split
  · exact e b o h
  · exact h
theorem frzG_le {A : List Addr} (e : Same G H) : Same (frzG G H A) H := fun b o h => by
  unfold frzG at h
  split at h
  · exact h
  · exact e b o h
theorem frzG_at {A : List Addr} {a : Addr} (h : a ∈ A) : frzG G H A a = H a := if_pos h
theorem frzG_out {A : List Addr} {a : Addr} (h : a ∉ A) : frzG G H A a = G a := if_neg h

theorem Gm.frz (e : Gm P G) (le : Same G H) {A : List Addr} {w : Bool} (h : ∀ a ∈ A, Mine P a) (hn : ∀ a ∈ A, ∃ o, H a = some o ∧ Own w o) : Gm P (frzG G H A) := ⟨e.1.trans (frzG_same le), fun b o q => by
  unfold frzG at q
  split at q
  · rename_i hb
    exact .inr (h b hb)
  · exact e.2 b o q, fun b ps q => by
  unfold frzG at q
  split at q
  · rename_i hb
    obtain ⟨o, h1, h2⟩ := hn b hb
    rw [h1] at q
    cases q
    exact h2.nt ps rfl
  · exact e.3 b ps q⟩
theorem Gm.new (e : Gm P G) {a : Addr} {o : HO} (ha : G a = none) (h : Mine P a) (ho : ∀ ps, o ≠ .tbl ps) : Gm P (upd G a o) := ⟨e.1.trans fun b u q => by
  rw [upd_ne (ne_of_none q ha)]
  exact q, fun b u q => by
  by_cases hb : b = a
  · subst hb
    exact .inr h
  · rw [upd_ne hb] at q
    exact e.2 b u q, fun b ps q => by
  by_cases hb : b = a
  · subst hb
    rw [upd_same] at q
    cases q
    exact ho ps rfl
  · rw [upd_ne hb] at q
    exact e.3 b ps q⟩
theorem mine_new (kp : Kp P.M P.H0 H) {a : Addr} (ha : H a = none) : Mine P a := by
  by_cases hm : a ∈ P.M
  · exact .inl hm
  · refine .inr fun u q => ?_
    by_cases ht : ∃ ps, u = .tbl ps
    · exact ht
    · have z := kp a u q (fun ps z => ht ⟨ps, z⟩) hm
      rw [ha] at z
      cases z
theorem nd_out {A B C : List Addr} (nd : (A ++ (B ++ C)).Nodup) {a : Addr} (h : a ∈ A ++ C) : a ∉ B := by
  intro hb
  obtain ⟨_, n2, d⟩ := List.nodup_append.mp nd
  rcases List.mem_append.mp h with z | z
  · exact d a z a (List.mem_append_left _ hb) rfl
  · exact (List.nodup_append.mp n2).2.2 a hb a z rfl

/-- temporary things are frozen -/
theorem Sim.frzs {ts : List OT} {vs : List V} (hl : ts.length = vs.length) (s : Sim K P σ H S (ts.zip vs ++ tmp)) : Sim K P σ H S (lf (ts.map fz) vs ++ tmp) := by
  obtain ⟨⟨G, A, B, e0, e1, r1, r2, nd, fr⟩, kp, tb, by_⟩ := s
  obtain ⟨B1, B2, rfl, q1, q2⟩ := ros_app r2
  rw [zip_fst hl, zip_snd hl] at q1
  have sub : (A ++ B2).Sublist (A ++ (B1 ++ B2)) := List.Sublist.append (List.Sublist.refl A) (List.sublist_append_right B1 B2)
  have eG := frzG_same (A := B1) e1
  refine ⟨⟨frzG G H B1, A, B2, e0.frz e1 (fun a ha => (fr a (by simp [ha])).2) (ros_at _ _ _ q1), frzG_le e1, r1.mono eG fun _ _ => rfl, ?_, nd.sublist sub, fun a ha => ?_⟩, kp, tb, by_⟩
  · have z := Ros.frz eG ts vs B1 (fun a ha => frzG_at ha) q1
    rw [fzs_map] at z
    have z2 : Ros K (frzG G H B1) H ((lf (ts.map fz) vs).map (·.1)) ((lf (ts.map fz) vs).map (·.2)) [] := by
      rw [zip_fst (by simp [hl]), zip_snd (by simp [hl])]
      exact Ros.leaves z
    exact ros_join (B1 := []) z2 (Ros.mono eG _ _ _ (fun _ _ => rfl) q2)
  · obtain ⟨f1, f2⟩ := fr a (sub.subset ha)
    refine ⟨?_, f2⟩
    rw [frzG_out (nd_out nd ha)]
    exact f1
theorem Sim.frz1 {t : OT} {v : V} (s : Sim K P σ H S ((t, v) :: tmp)) : Sim K P σ H S ((.leaf (fz t), v) :: tmp) := Sim.frzs (ts := [t]) (vs := [v]) rfl s

/-- a slot frozen -/
theorem Sim.fslot {i : Nat} {t : OT} (s : Sim K P σ H S tmp) (h : S[i]? = some (some t)) : Sim K P σ H (S.set i (some (.leaf (fz t)))) tmp := by
  obtain ⟨⟨G, A, B, e0, e1, r1, r2, nd, fr⟩, kp, tb, by_⟩ := s
  obtain ⟨v, A1, At, A2, ev, rfl, rt, f, _⟩ := r1.split h
  have eG := frzG_same (A := At) e1
  have z := f (frzG G H At) H (.leaf (fz t)) v [] eG (fun _ _ => rfl) (.leaf (Ro.frz eG t v At (fun a ha => frzG_at ha) rt))
  have es : σ.set i (some v) = σ := List.ext_getElem? fun j => by
    rw [List.getElem?_set]
    split
    · rename_i e
      subst e
      obtain ⟨hi, _⟩ := List.getElem?_eq_some_iff.mp ev
      rw [if_pos hi, ev]
    · rfl
  rw [es] at z
  have sub : (A1 ++ ([] ++ A2) ++ B).Sublist (A1 ++ (At ++ A2) ++ B) := by
    refine List.Sublist.append (List.Sublist.append (List.Sublist.refl A1) ?_) (List.Sublist.refl B)
    exact List.sublist_append_right At A2
  refine ⟨⟨frzG G H At, _, B, e0.frz e1 (fun a ha => (fr a (by simp [ha])).2) (ro_at _ _ _ rt), frzG_le e1, z, Ros.mono eG _ _ _ (fun _ _ => rfl) r2, nd.sublist sub, fun a ha => ?_⟩, kp, tb, by_⟩
  obtain ⟨f1, f2⟩ := fr a (sub.subset ha)
  refine ⟨?_, f2⟩
  have nd' : (A1 ++ (At ++ (A2 ++ B))).Nodup := by
    have := nd
    simp only [List.append_assoc] at this
    exact this
  have ha' : a ∈ A1 ++ (A2 ++ B) := by simpa using ha
  rw [frzG_out (nd_out nd' ha')]
  exact f1

/-- a slot that is frozen, read -/
theorem Sim.rd {i : Nat} {p : PV} (s : Sim K P σ H S tmp) (h : S[i]? = some (some (.leaf p))) : ∃ v, σ[i]? = some (some v) ∧ Sim K P σ H S ((.leaf p, v) :: tmp) := by
  obtain ⟨⟨G, A, B, e0, e1, r1, r2, nd, fr⟩, kp, tb, by_⟩ := s
  obtain ⟨v, A1, At, A2, ev, _, rt, _, _⟩ := r1.split h
  cases rt with
  | leaf rp => exact ⟨v, ev, ⟨G, A, B, e0, e1, r1, .cons (A := []) (.leaf rp) r2, nd, fr⟩, kp, tb, by_⟩
/-- whatever a slot holds, read at the heap as it is -/
theorem Sim.rdH {i : Nat} {t : OT} (s : Sim K P σ H S tmp) (h : S[i]? = some (some t)) : ∃ v, σ[i]? = some (some v) ∧ Rp K H (fz t) v := by
  obtain ⟨⟨G, A, B, e0, e1, r1, r2, nd, fr⟩, kp, tb, by_⟩ := s
  obtain ⟨v, A1, At, A2, ev, _, rt, _, _⟩ := r1.split h
  exact ⟨v, ev, Ro.frz e1 t v At (fun _ _ => rfl) rt⟩

/-- a slot is set -/
theorem Sim.put {i : Nat} {t : OT} {v : V} (s : Sim K P σ H S ((t, v) :: tmp)) (hi : i < S.length) (hB : ∀ p ∈ P.B, p.1 ≠ i) : Sim K P (σ.set i (some v)) H (S.set i (some t)) tmp := by
  obtain ⟨⟨G, A, B, e0, e1, r1, r2, nd, fr⟩, kp, tb, by_⟩ := s
  cases r2 with
  | @cons _ _ _ _ At B' rt r2 =>
    obtain ⟨A1, A2, sb, z⟩ := Rsl.put rt i r1 hi
    have pm : (A1 ++ (At ++ A2) ++ B').Perm ((A1 ++ A2) ++ (At ++ B')) := by
      simp only [List.append_assoc]
      refine List.Perm.append_left _ ?_
      rw [← List.append_assoc, ← List.append_assoc]
      exact List.perm_append_comm.append_right _
    have sb2 : ((A1 ++ A2) ++ (At ++ B')).Sublist (A ++ (At ++ B')) := List.Sublist.append sb (List.Sublist.refl _)
    refine ⟨⟨G, _, B', e0, e1, z, r2, pm.symm.nodup (nd.sublist sb2), fun a ha => fr a (sb2.subset (pm.mem_iff.mp ha))⟩, kp, tb, fun p hp => ?_⟩
    rw [List.getElem?_set_ne (Ne.symm (hB p hp))]
    exact by_ p hp
/-- a slot is forgotten -/
theorem Sim.wipe1 {i : Nat} {x : Option V} (s : Sim K P σ H S tmp) (hB : ∀ p ∈ P.B, p.1 ≠ i) : Sim K P (σ.set i x) H (S.set i none) tmp := by
  obtain ⟨⟨G, A, B, e0, e1, r1, r2, nd, fr⟩, kp, tb, by_⟩ := s
  obtain ⟨A', sb, z⟩ := Rsl.wipe (i := i) x r1
  have sb2 : (A' ++ B).Sublist (A ++ B) := List.Sublist.append sb (List.Sublist.refl _)
  refine ⟨⟨G, A', B, e0, e1, z, r2, nd.sublist sb2, fun a ha => fr a (sb2.subset ha)⟩, kp, tb, fun p hp => ?_⟩
  rw [List.getElem?_set_ne (Ne.symm (hB p hp))]
  exact by_ p hp

/-- the heap has grown -/
theorem Sim.ext (s : Sim K P σ H S tmp) (e : Same H H') (t : LamX.Tabs P.T H') : Sim K P σ H' S tmp := by
  obtain ⟨⟨G, A, B, e0, e1, r1, r2, nd, fr⟩, kp, tb, by_⟩ := s
  have ra : ∀ a ∈ A, H' a = H a := fun a ha => by
    obtain ⟨o, h, _⟩ := rsl_at r1 a ha
    rw [h, e a _ h]
  have rb : ∀ a ∈ B, H' a = H a := fun a ha => by
    obtain ⟨o, h, _⟩ := ros_at _ _ _ r2 a ha
    rw [h, e a _ h]
  exact ⟨⟨G, A, B, e0, e1.trans e, r1.mono (Same.refl _) ra, Ros.mono (Same.refl _) _ _ _ rb r2, nd, fr⟩, kp.ext e, t, by_⟩

/-! ### tables stay -/
theorem tabs_new {T : List (Addr × Str)} {a : Addr} {o : HO} (h : H a = none) (t : LamX.Tabs T H) : LamX.Tabs T (upd H a o) := t.ext fun b u e => by
  rw [upd_ne (ne_of_none e h)]
  exact e
theorem codeO_lst {c : Addr} {q : Str} {vs : List V} : LamX.CodeO c q ≠ .lst vs := fun z => by
  unfold LamX.CodeO at z
  cases z
theorem tabs_lst {T : List (Addr × Str)} {a : Addr} {o : HO} {vs : List V} (h : H a = some (.lst vs)) (t : LamX.Tabs T H) : LamX.Tabs T (upd H a o) := fun p hp => by
  obtain ⟨ps, h1, h2, h3⟩ := t p hp
  refine ⟨ps, ?_, h2, fun pos cv hc => ?_⟩
  · rw [upd_ne (ne_of h1 h (by intro z; cases z))]
    exact h1
  · obtain ⟨c, e1, e2⟩ := h3 pos cv hc
    refine ⟨c, e1, ?_⟩
    rw [upd_ne (ne_of e2 h codeO_lst)]
    exact e2
theorem same_new {a : Addr} {o : HO} (h : H a = none) : Same H (upd H a o) := fun b u e => by
  rw [upd_ne (ne_of_none e h)]
  exact e

/-! ### what an operation needs of its operands, and what it leaves -/
structure Left (K : PySem.W.Frag) (P : Pm) (G : Hp) (σ : L2.St) (H : Hp) (S : Sl) (tmp : Tm) : Prop where
  le : Same G H
  /-- a value that leans on what stands -/
  val : ∀ p v, Rp K G p v → Sim K P σ H S ((.leaf p, v) :: tmp)
  vals : ∀ ps vs, Rps K G ps vs → Sim K P σ H S (lf ps vs ++ tmp)
  /-- a new thing that is frozen from its birth -/
  new : ∀ a o p, H a = none → (∀ ps, o ≠ .tbl ps) → Rp K (upd G a o) p (.ref a) → Sim K P σ (upd H a o) S ((.leaf p, .ref a) :: tmp)
  /-- a new list of one's own -/
  own : ∀ a vs ps, H a = none → vs.length ≤ sizeLine → Rps K G ps vs → Sim K P σ (upd H a (.lst vs)) S ((.node (ps.map .leaf), .ref a) :: tmp)
  rest : Sim K P σ H S tmp
theorem Left.of (s : Sim K P σ H S tmp) {A B : List Addr} (h : SimG K P G σ H S tmp A B) : Left K P G σ H S tmp := by
  obtain ⟨_, kp, tb, by_⟩ := id s
  obtain ⟨e0, e1, r1, r2, nd, fr⟩ := h
  refine ⟨e1, fun p v r => ⟨⟨G, A, B, e0, e1, r1, .cons (A := []) (.leaf r) r2, nd, fr⟩, kp, tb, by_⟩, fun ps vs r => ?_, fun a o p ha ho r => ?_, fun a vs ps ha hz r => ?_, s⟩
  · refine ⟨⟨G, A, B, e0, e1, r1, ?_, nd, fr⟩, kp, tb, by_⟩
    refine ros_join (B1 := []) ?_ r2
    rw [zip_fst (by simp [r.len]), zip_snd (by simp [r.len])]
    exact Ros.leaves r
  · have ga : G a = none := Same.free e1 ha
    have eG : Same G (upd G a o) := same_new ga
    have eH : Same H (upd H a o) := same_new ha
    have na : ∀ b ∈ A ++ B, b ≠ a := fun b hb z => by
      subst z
      rcases List.mem_append.mp hb with q | q
      · obtain ⟨_, h, _⟩ := rsl_at r1 _ q
        rw [ha] at h; cases h
      · obtain ⟨_, h, _⟩ := ros_at _ _ _ r2 _ q
        rw [ha] at h; cases h
    have ra : ∀ b ∈ A, upd H a o b = H b := fun b hb => upd_ne (na b (List.mem_append_left _ hb))
    have rb : ∀ b ∈ B, upd H a o b = H b := fun b hb => upd_ne (na b (List.mem_append_right _ hb))
    refine ⟨⟨upd G a o, A, B, e0.new ga (mine_new kp ha) ho, fun b u q => ?_, r1.mono eG ra, .cons (A := []) (.leaf r) (Ros.mono eG _ _ _ rb r2), nd, fun b hb => ⟨?_, (fr b hb).2⟩⟩, kp.ext eH, tabs_new ha tb, by_⟩
    · by_cases hb : b = a
      · subst hb
        rw [upd_same] at q ⊢
        exact q
      · rw [upd_ne hb] at q ⊢
        exact e1 b u q
    · rw [upd_ne (na b hb)]
      exact (fr b hb).1
  · have ga : G a = none := Same.free e1 ha
    have eH : Same H (upd H a (.lst vs)) := same_new ha
    have na : ∀ b ∈ A ++ B, b ≠ a := fun b hb z => by
      subst z
      rcases List.mem_append.mp hb with q | q
      · obtain ⟨_, h, _⟩ := rsl_at r1 _ q
        rw [ha] at h; cases h
      · obtain ⟨_, h, _⟩ := ros_at _ _ _ r2 _ q
        rw [ha] at h; cases h
    have ra : ∀ b ∈ A, upd H a (.lst vs) b = H b := fun b hb => upd_ne (na b (List.mem_append_left _ hb))
    have rb : ∀ b ∈ B, upd H a (.lst vs) b = H b := fun b hb => upd_ne (na b (List.mem_append_right _ hb))
    have h0 : Mine P a := mine_new kp ha
    refine ⟨⟨G, A, a :: B, e0, e1.trans eH, r1.mono (Same.refl _) ra, .cons (A := [a]) (.node upd_same hz (Ros.leaves r)) (Ros.mono (Same.refl _) _ _ _ rb r2), ?_, fun b hb => ?_⟩, kp.ext eH, tabs_new ha tb, by_⟩
    · have pm : (A ++ a :: B).Perm (a :: (A ++ B)) := List.perm_middle
      exact pm.symm.nodup (List.nodup_cons.mpr ⟨fun z => na a z rfl, nd⟩)
    · have pm : (A ++ a :: B).Perm (a :: (A ++ B)) := List.perm_middle
      rcases List.mem_cons.mp (pm.mem_iff.mp hb) with z | z
      · subst z
        exact ⟨ga, h0⟩
      · exact fr b z
end
end Fy

namespace Fy
open PySem PySem.Spec PyProof.Rows L2

/-- an exception of the program's own: its class by name, its fields -/
structure Exn where
  c : Str
  ns : List Str
  xs : List PV
inductive Out (α : Type) where
  | ok (a : α) (S : Sl) | err (x : Exn) (S : Sl) | stuck
def Out.bind {α β : Type} (o : Out α) (f : α → Sl → Out β) : Out β := match o with
  | .ok a S => f a S
  | .err x S => .err x S
  | .stuck => .stuck
inductive Fl where
  | nx | bk | ct | rt (t : OT)
abbrev ME := Sl → Out OT
abbrev MT := Sl → Out Bool
abbrev MA := Sl → Out (List OT)
abbrev MS := Sl → Out Fl

section
variable (K : PySem.W.Frag) (P : Pm) (W : WX) (σ : L2.St) (tmp : Tm)
def XAt (x : Exn) (vs : List V) (cls : Value) (d : Option Addr) (H : Hp) : Prop := cls = .ref (He.ga K x.c) ∧ x.ns.length = vs.length ∧ x.xs.length = vs.length ∧ ∃ dd, d = some dd ∧ H dd = some (.xd (x.ns.zip vs))
def PoX (x : Exn) (S : Sl) : Prop := ∀ vs cls d H, XAt K x vs cls d H → Sim K P σ H S (lf x.xs vs) → W cls d σ H
def PoE (Q : VK) : Out OT → Prop
  | .ok t S => ∀ v H, Sim K P σ H S ((t, v) :: tmp) → Q v H
  | .err x S => PoX K P W σ x S
  | .stuck => False
def PoT (Q : Bool → Hp → Prop) : Out Bool → Prop
  | .ok b S => ∀ H, Sim K P σ H S tmp → Q b H
  | .err x S => PoX K P W σ x S
  | .stuck => False
def PoA (Q : List V → Hp → Prop) : Out (List OT) → Prop
  | .ok ts S => ∀ vs H, ts.length = vs.length → Sim K P σ H S (ts.zip vs ++ tmp) → Q vs H
  | .err x S => PoX K P W σ x S
  | .stuck => False
def PoS (D : Ends) : Out Fl → Prop
  | .ok .nx S => ∀ σ H, Sim K P σ H S tmp → D.nx σ H
  | .ok .bk S => ∀ σ H, Sim K P σ H S tmp → D.bk σ H
  | .ok .ct S => ∀ σ H, Sim K P σ H S tmp → D.ct σ H
  | .ok (.rt t) S => ∀ v σ H, Sim K P σ H S ((t, v) :: tmp) → D.rt v H
  | .err x S => ∀ σ, PoX K P W σ x S
  | .stuck => False
end
section
variable (K : PySem.W.Frag) (P : Pm) (W : WX)
def tE (m : ME) : TE := fun σ H Q => ∃ S tmp, Sim K P σ H S tmp ∧ PoE K P W σ tmp Q (m S)
def tT (m : MT) : TT := fun σ H Q => ∃ S tmp, Sim K P σ H S tmp ∧ PoT K P W σ tmp Q (m S)
def tA (m : MA) : TA := fun σ H Q => ∃ S tmp, Sim K P σ H S tmp ∧ PoA K P W σ tmp Q (m S)
def tS (m : MS) : TS := fun D σ H => ∃ S tmp, Sim K P σ H S tmp ∧ PoS K P W tmp D (m S)
end
abbrev EM (X : Cx) (P : Pm) (W : WX) (e : Expr) (m : ME) : Prop := PE X e (tE X.K P W m)
abbrev TM (X : Cx) (P : Pm) (W : WX) (e : Expr) (m : MT) : Prop := PT X e (tT X.K P W m)
abbrev WM (X : Cx) (P : Pm) (W : WX) (e : Expr) (m : MT) : Prop := PW X e (tT X.K P W m)
abbrev AM (X : Cx) (P : Pm) (W : WX) (es : List Expr) (m : MA) : Prop := PA X es (tA X.K P W m)
abbrev SM (X : Cx) (P : Pm) (W : WX) (s : Stmt) (m : MS) : Prop := PS X s (tS X.K P W m)
abbrev BM (X : Cx) (P : Pm) (W : WX) (s : List Stmt) (m : MS) : Prop := PSs X s (tS X.K P W m)

section
variable {X : Cx} {P : Pm} {W : WX} {e : Expr} {es : List Expr} {s : Stmt} {ss : List Stmt}
theorem weakE {t t' : TE} (h : PE X e t) (i : ∀ σ H Q, t' σ H Q → t σ H Q) : PE X e t' := ⟨fun pins s σ H Q I q => h.run pins s σ H Q I (i σ H Q q)⟩
theorem weakT {t t' : TT} (h : PT X e t) (i : ∀ σ H Q, t' σ H Q → t σ H Q) : PT X e t' := ⟨fun pins s σ H Q I q => h.run pins s σ H Q I (i σ H Q q)⟩
theorem weakW {t t' : TT} (h : PW X e t) (i : ∀ σ H Q, t' σ H Q → t σ H Q) : PW X e t' := ⟨fun wh pins s σ H Q I q => h.run wh pins s σ H Q I (i σ H Q q)⟩
theorem weakA {t t' : TA} (h : PA X es t) (i : ∀ σ H Q, t' σ H Q → t σ H Q) : PA X es t' := ⟨fun pos pins s σ H Q I q => h.run pos pins s σ H Q I (i σ H Q q)⟩
theorem weakS {t t' : TS} (h : PS X s t) (i : ∀ D σ H, t' D σ H → t D σ H) : PS X s t' := ⟨fun pins st σ H D I q => h.run pins st σ H D I (i D σ H q)⟩
theorem weakB {t t' : TS} (h : PSs X ss t) (i : ∀ D σ H, t' D σ H → t D σ H) : PSs X ss t' := ⟨fun pins st σ H D I q => h.run pins st σ H D I (i D σ H q)⟩
end

/-! ### opening what stands on the pile -/
section
variable {K : PySem.W.Frag} {P : Pm} {σ : L2.St} {H : Hp} {S : Sl} {tmp : Tm}
theorem Sim.openN {ps : List PV} {vs : List V} (hl : ps.length = vs.length) (s : Sim K P σ H S (lf ps vs ++ tmp)) : ∃ G, Rps K G ps vs ∧ Left K P G σ H S tmp := by
  obtain ⟨⟨G, A, B, e0, e1, r1, r2, nd, fr⟩, kp, tb, by_⟩ := id s
  obtain ⟨B1, B2, rfl, q1, q2⟩ := ros_app r2
  rw [zip_fst (by simp [hl]), zip_snd (by simp [hl])] at q1
  obtain ⟨rfl, rp⟩ := Ros.ofLeaves q1
  exact ⟨G, rp, Left.of s.drops (A := A) (B := B2) ⟨e0, e1, r1, q2, nd, fr⟩⟩
theorem Sim.open1 {p : PV} {v : V} (s : Sim K P σ H S ((.leaf p, v) :: tmp)) : ∃ G, Rp K G p v ∧ Left K P G σ H S tmp := by
  obtain ⟨G, r, l⟩ := Sim.openN (ps := [p]) (vs := [v]) rfl s
  cases r with
  | cons r _ => exact ⟨G, r, l⟩
theorem Sim.open2 {p q : PV} {v w : V} (s : Sim K P σ H S ((.leaf q, w) :: (.leaf p, v) :: tmp)) : ∃ G, Rp K G p v ∧ Rp K G q w ∧ Left K P G σ H S tmp := by
  obtain ⟨G, r, l⟩ := Sim.openN (ps := [q, p]) (vs := [w, v]) rfl s
  cases r with
  | cons r1 r2 =>
    cases r2 with
    | cons r2 _ => exact ⟨G, r2, r1, l⟩
end

/-! ### constants, names -/
def eC (p : PV) : ME := fun S => .ok (.leaf p) S
/-- a slot read: what is one's own is frozen by it -/
def eV (i : Nat) : ME := fun S => match S[i]? with
  | some (some (.leaf p)) => .ok (.leaf p) S
  | some (some t) => .ok (.leaf (fz t)) (S.set i (some (.leaf (fz t))))
  | _ => .stuck
section
variable {X : Cx} {P : Pm} {W : WX} {pos : Pos}
theorem simC {K : PySem.W.Frag} {σ : L2.St} {H : Hp} {S : Sl} {tmp : Tm} {p : PV} {v : V} (s : Sim K P σ H S tmp) (r : ∀ G, Rp K G p v) : Sim K P σ H S ((.leaf p, v) :: tmp) := by
  obtain ⟨G, _, l⟩ := Sim.openN (ps := []) (vs := []) rfl (show Sim K P σ H S (lf [] [] ++ tmp) from s)
  exact l.val p v (r G)
theorem em_c {e : Expr} {v : V} {p : PV} (h : PE X e (tC v)) (r : ∀ G, Rp X.K G p v) : EM X P W e (eC p) := weakE h fun σ H Q ⟨S, tmp, s, q⟩ => q v H (simC s r)
theorem em_int {i j} : EM X P W (.Constant (.int i) j pos) (eC (.int i)) := em_c pe_int fun _ => .int _
theorem em_bl {b j} : EM X P W (.Constant (.bool b) j pos) (eC (.bl b)) := em_c pe_bl fun _ => .bl _
theorem em_non {j} : EM X P W (.Constant .none j pos) (eC .non) := em_c pe_non fun _ => .non
theorem em_str {x j} : EM X P W (.Constant (.str x) j pos) (eC (.str x)) := em_c pe_str fun _ => .str _
theorem em_v (i : Nat) {x : Str} {pos : Pos} (hN : X.N[i]? = some x := by rfl) (hv : Vis X.env.scope x := by first | exact Or.inl rfl | exact Or.inr (Or.inl rfl) | exact Or.inr (Or.inr rfl)) (hd : (x == ("__debug__" : Str)) = false := by decide)
    (hcd : (x == ("__classdict__" : Str)) = false := by decide) : EM X P W (.Name x pos) (eV i) := weakE (pe_var hN hv hd hcd) fun σ H Q ⟨S, tmp, s, q⟩ => by
  unfold eV at q
  split at q
  · rename_i p e
    obtain ⟨v, ev, s'⟩ := s.rd e
    exact ⟨v, ev, q v H s'⟩
  · rename_i t _ e
    have s1 := s.fslot e
    have hi : i < S.length := (List.getElem?_eq_some_iff.mp e).1
    obtain ⟨v, ev, s'⟩ := s1.rd (List.getElem?_set_self hi)
    exact ⟨v, ev, q v H s'⟩
  · exact q.elim
end

/-! ### operations by values -/
def lift (o : Option OT) (S : Sl) : Out OT := match o with
  | some t => .ok t S
  | none => .stuck
def e1 (f : PV → Option OT) (m : ME) : ME := fun S => (m S).bind fun t S1 => lift (f (fz t)) S1
def e2 (f : PV → PV → Option OT) (m1 m2 : ME) : ME := fun S => (m1 S).bind fun t S1 => (m2 S1).bind fun u S2 => lift (f (fz t) (fz u)) S2
def eN (f : List PV → Option OT) (m : MA) : ME := fun S => (m S).bind fun ts S1 => lift (f (ts.map fz)) S1
/-- what an operation of two values gives -/
def Op2 (K : PySem.W.Frag) (r : R2) (f : PV → PV → Option OT) : Prop := ∀ (P : Pm) (G : Hp) (σ : L2.St) (H : Hp) (S : Sl) (tmp : Tm) (Q : VK) (p q : PV) (v w : V) (t : OT), f p q = some t → Rp K G p v → Rp K G q w → Left K P G σ H S tmp → (∀ v' H', Sim K P σ H' S ((t, v') :: tmp) → Q v' H') → r v w H Q
def Op1 (K : PySem.W.Frag) (r : V → Hp → VK → Prop) (f : PV → Option OT) : Prop := ∀ (P : Pm) (G : Hp) (σ : L2.St) (H : Hp) (S : Sl) (tmp : Tm) (Q : VK) (p : PV) (v : V) (t : OT), f p = some t → Rp K G p v → Left K P G σ H S tmp → (∀ v' H', Sim K P σ H' S ((t, v') :: tmp) → Q v' H') → r v H Q
def OpN (K : PySem.W.Frag) (r : List V → Hp → VK → Prop) (f : List PV → Option OT) : Prop := ∀ (P : Pm) (G : Hp) (σ : L2.St) (H : Hp) (S : Sl) (tmp : Tm) (Q : VK) (ps : List PV) (vs : List V) (t : OT), f ps = some t → Rps K G ps vs → Left K P G σ H S tmp → (∀ v' H', Sim K P σ H' S ((t, v') :: tmp) → Q v' H') → r vs H Q
section
variable {K : PySem.W.Frag} {P : Pm} {W : WX} {m m1 m2 : ME} {ma : MA}
theorem t_e1 {r : V → Hp → VK → Prop} {f : PV → Option OT} (hf : Op1 K r f) (σ : L2.St) (H : Hp) (Q : VK) (h : tE K P W (e1 f m) σ H Q) : tUn r (tE K P W m) σ H Q := by
  obtain ⟨S, tmp, s, h⟩ := h
  refine ⟨S, tmp, s, ?_⟩
  unfold e1 at h
  cases hm : m S with
  | stuck => rw [hm] at h; exact h
  | err x S1 => rw [hm] at h; exact h
  | ok t S1 =>
    rw [hm] at h
    intro v H1 s1
    obtain ⟨G, rp, l⟩ := s1.frz1.open1
    have h : PoE K P W σ tmp Q (lift (f (fz t)) S1) := h
    cases e : f (fz t) with
    | none => rw [e] at h; exact h.elim
    | some u => rw [e] at h; exact hf P G σ H1 S1 tmp Q _ v u e rp l h
theorem t_e2 {r : R2} {f : PV → PV → Option OT} (hf : Op2 K r f) (σ : L2.St) (H : Hp) (Q : VK) (h : tE K P W (e2 f m1 m2) σ H Q) : tOp r (tE K P W m1) (tE K P W m2) σ H Q := by
  obtain ⟨S, tmp, s, h⟩ := h
  refine ⟨S, tmp, s, ?_⟩
  unfold e2 at h
  cases hm : m1 S with
  | stuck => rw [hm] at h; exact h
  | err x S1 => rw [hm] at h; exact h
  | ok t S1 =>
    rw [hm] at h
    intro v H1 s1
    refine ⟨S1, _, s1, ?_⟩
    have h : PoE K P W σ tmp Q ((m2 S1).bind fun u S2 => lift (f (fz t) (fz u)) S2) := h
    cases hm2 : m2 S1 with
    | stuck => rw [hm2] at h; exact h
    | err x S2 => rw [hm2] at h; exact h
    | ok u S2 =>
      rw [hm2] at h
      intro w H2 s2
      have s3 := Sim.frzs (ts := [u, t]) (vs := [w, v]) rfl s2
      obtain ⟨G, rp, rq, l⟩ := Sim.open2 s3
      have h : PoE K P W σ tmp Q (lift (f (fz t) (fz u)) S2) := h
      cases e : f (fz t) (fz u) with
      | none => rw [e] at h; exact h.elim
      | some z => rw [e] at h; exact hf P G σ H2 S2 tmp Q _ _ v w z e rp rq l h
theorem t_eN {r : List V → Hp → VK → Prop} {f : List PV → Option OT} (hf : OpN K r f) (σ : L2.St) (H : Hp) (Q : VK) (h : tE K P W (eN f ma) σ H Q) : tCB r (tA K P W ma) σ H Q := by
  obtain ⟨S, tmp, s, h⟩ := h
  refine ⟨S, tmp, s, ?_⟩
  unfold eN at h
  cases hm : ma S with
  | stuck => rw [hm] at h; exact h
  | err x S1 => rw [hm] at h; exact h
  | ok ts S1 =>
    rw [hm] at h
    intro vs H1 hl s1
    obtain ⟨G, rp, l⟩ := Sim.openN (by simp [hl]) (s1.frzs hl)
    have h : PoE K P W σ tmp Q (lift (f (ts.map fz)) S1) := h
    cases e : f (ts.map fz) with
    | none => rw [e] at h; exact h.elim
    | some u => rw [e] at h; exact hf P G σ H1 S1 tmp Q _ vs u e rp l h
end
/-! ### argument lists -/
def aN : MA := fun S => .ok [] S
def aC (m : ME) (ma : MA) : MA := fun S => (m S).bind fun t S1 => (ma S1).bind fun ts S2 => .ok (t :: ts) S2
section
variable {X : Cx} {P : Pm} {W : WX} {m m1 m2 : ME} {ma : MA} {e a b : Expr} {es : List Expr} {pos : Pos}
theorem am_n : AM X P W [] aN := weakA pa_nil fun σ H Q ⟨S, tmp, s, h⟩ => h [] H rfl s
theorem am_c (ha : EM X P W e m) (hr : AM X P W es ma) (hs : starEach (e :: es) X.env = (false, eval e X.env) :: starEach es X.env := by rfl) : AM X P W (e :: es) (aC m ma) := weakA (pa_cons ha hr hs) fun σ H Q ⟨S, tmp, s, h⟩ => by
  refine ⟨S, tmp, s, ?_⟩
  unfold aC at h
  cases hm : m S with
  | stuck => rw [hm] at h; exact h
  | err x S1 => rw [hm] at h; exact h
  | ok t S1 =>
    rw [hm] at h
    intro v H1 s1
    refine ⟨S1, _, s1, ?_⟩
    have h : PoA X.K P W σ tmp Q ((ma S1).bind fun ts S2 => .ok (t :: ts) S2) := h
    cases hm2 : ma S1 with
    | stuck => rw [hm2] at h; exact h
    | err x S2 => rw [hm2] at h; exact h
    | ok ts S2 =>
      rw [hm2] at h
      intro vs H2 hl s2
      refine h (v :: vs) H2 (by simp [hl]) (s2.perm ?_)
      show (ts.zip vs ++ (t, v) :: tmp).Perm ((t, v) :: (ts.zip vs ++ tmp))
      exact List.perm_middle
theorem em_op {op : Operator} {r : R2} {f : PV → PV → Option OT} (ho : OpR X (binaryOp op) r) (hf : Op2 X.K r f) (ha : EM X P W a m1) (hb : EM X P W b m2) : EM X P W (.BinOp a op b pos) (e2 f m1 m2) := weakE (pe_op ho ha hb) (t_e2 hf)
theorem em_un {op : UnaryOp} {r : V → Hp → VK → Prop} {f : PV → Option OT} (ho : UnR X (unaryOp op) r) (hf : Op1 X.K r f) (ha : EM X P W a m) : EM X P W (.UnaryOp op a pos) (e1 f m) := weakE (pe_un ho ha) (t_e1 hf)
theorem em_cmp {op : CmpOp} {r : R2} {f : PV → PV → Option OT} (ho : OpR X (compareOp op) r) (hf : Op2 X.K r f) (ha : EM X P W a m1) (hb : EM X P W b m2) (hm : behindInMarks op b = false) : EM X P W (.Compare a [op] [b] pos) (e2 f m1 m2) := weakE (pe_cmpR ho ha hb hm) (t_e2 hf)
/-- a test by its value -/
def tV (m : ME) : MT := fun S => (m S).bind fun t S1 => match t with
  | .leaf (.bl b) => .ok b S1
  | _ => .stuck
theorem t_tV {K : PySem.W.Frag} {σ : L2.St} {H : Hp} {Q : Bool → Hp → Prop} {te : TE} (hi : ∀ Q, tE K P W m σ H Q → te σ H Q) (h : tT K P W (tV m) σ H Q) : te σ H fun x H' => ∃ k, x = .bl k ∧ Q k H' := by
  obtain ⟨S, tmp, s, h⟩ := h
  refine hi _ ⟨S, tmp, s, ?_⟩
  unfold tV at h
  cases hm : m S with
  | stuck => rw [hm] at h; exact h
  | err x S1 => rw [hm] at h; exact h
  | ok t S1 =>
    rw [hm] at h
    intro v H1 s1
    cases t with
    | node ts => exact h.elim
    | ins c ns ts => exact h.elim
    | leaf p =>
      cases p <;> first
        | exact h.elim
        | (obtain ⟨G, rp, l⟩ := s1.open1
           cases rp
           exact ⟨_, rfl, h H1 s1.drop⟩)
theorem tm_cmp {op : CmpOp} {r : R2} {f : PV → PV → Option OT} (ho : OpR X (compareOp op) r) (hf : Op2 X.K r f) (ha : EM X P W a m1) (hb : EM X P W b m2) (hm : behindInMarks op b = false) : TM X P W (.Compare a [op] [b] pos) (tV (e2 f m1 m2)) :=
  weakT (pt_cmpR ho ha hb hm) fun σ H Q h => t_tV (te := tOp r (tE X.K P W m1) (tE X.K P W m2)) (fun Q q => t_e2 hf σ H Q q) h
theorem tm_val (ha : EM X P W e m) (he : ∀ whole, isTrue e X.env whole = (do let v ← whole; standAt e.pos; holding [v] (truthy v)) := by intro _; rfl) : TM X P W e (tV m) :=
  weakT (pt_val ha he) fun σ H Q h => t_tV (te := tE X.K P W m) (fun _ q => q) h
theorem em_bi {x : Str} {id : String} {r : List V → Hp → VK → Prop} {f : List PV → Option OT} {p : Pos} (hc : CallR X (.builtin id) r) (hf : OpN X.K r f) (hg : Gl X x) (hm : X.mg x = none) (hv : bootBuiltins x = some (.builtin id)) (ha : AM X P W (e :: es) ma)
    (hn : x ≠ "__name__" := by decide) (hdb : (x == ("__debug__" : Str)) = false := by decide)
    (he : starEach (e :: es) X.env = (false, eval e X.env) :: starEach es X.env := by rfl) (hpl : (backTo pos (starEach es X.env)).any (·.1) = false := by rfl) : EM X P W (.Call (.Name x p) (e :: es) [] pos) (eN f ma) := weakE (pe_callB hc hg hm hv ha hn hdb he hpl) (t_eN hf)
theorem em_ty {x : Str} {T : String} {r : List V → Hp → VK → Prop} {f : List PV → Option OT} {p : Pos} (hc : CallR X (.type T) r) (hf : OpN X.K r f) (hg : Gl X x) (hm : X.mg x = none) (hv : bootBuiltins x = some (.type T)) (ha : AM X P W (e :: es) ma)
    (hn : x ≠ "__name__" := by decide) (hdb : (x == ("__debug__" : Str)) = false := by decide)
    (he : starEach (e :: es) X.env = (false, eval e X.env) :: starEach es X.env := by rfl) (hpl : (backTo pos (starEach es X.env)).any (·.1) = false := by rfl) : EM X P W (.Call (.Name x p) (e :: es) [] pos) (eN f ma) := weakE (pe_callTy hc hg hm hv ha hn hdb he hpl) (t_eN hf)

/-! ### and, or, not, a if t else b -/
def tAndM (m1 m2 : MT) : MT := fun S => (m1 S).bind fun b S1 => if b = true then m2 S1 else .ok false S1
def tOrM (m1 m2 : MT) : MT := fun S => (m1 S).bind fun b S1 => if b = true then .ok true S1 else m2 S1
def tNotM (m : MT) : MT := fun S => (m S).bind fun b S1 => .ok (!b) S1
variable {t1 t2 : MT} {rest : List Expr}
theorem t_branch {K : PySem.W.Frag} {σ : L2.St} {H : Hp} {R : Bool → Hp → Prop} {k : Bool → Sl → Out Bool} {Q : Bool → Hp → Prop} (h : tT K P W (fun S => (t1 S).bind k) σ H Q) (hR : ∀ b H1 S1 tmp, Sim K P σ H1 S1 tmp → PoT K P W σ tmp Q (k b S1) → R b H1) : tT K P W t1 σ H R := by
  obtain ⟨S, tmp, s, h⟩ := h
  refine ⟨S, tmp, s, ?_⟩
  have h : PoT K P W σ tmp Q ((t1 S).bind k) := h
  cases hm : t1 S with
  | stuck => rw [hm] at h; exact h
  | err x S1 => rw [hm] at h; exact h
  | ok b S1 =>
    rw [hm] at h
    exact fun H1 s1 => hR b H1 S1 tmp s1 h
theorem wm_and1 (ha : TM X P W a t1) : WM X P W (.BoolOp .And [a] pos) t1 := pw_and1 ha
theorem wm_or1 (ha : TM X P W a t1) : WM X P W (.BoolOp .Or [a] pos) t1 := pw_or1 ha
theorem wm_and (ha : TM X P W a t1) (hb : WM X P W (.BoolOp .And (b :: rest) pos) t2) : WM X P W (.BoolOp .And (a :: b :: rest) pos) (tAndM t1 t2) := weakW (pw_and ha hb) fun σ H Q h => t_branch h fun c H1 S1 tmp s1 q => by
  cases c with
  | true => exact ⟨S1, tmp, s1, q⟩
  | false => exact q H1 s1
theorem wm_or (ha : TM X P W a t1) (hb : WM X P W (.BoolOp .Or (b :: rest) pos) t2) : WM X P W (.BoolOp .Or (a :: b :: rest) pos) (tOrM t1 t2) := weakW (pw_or ha hb) fun σ H Q h => t_branch h fun c H1 S1 tmp s1 q => by
  cases c with
  | true => exact q H1 s1
  | false => exact ⟨S1, tmp, s1, q⟩
theorem tm_not (ha : TM X P W a t1) : TM X P W (.UnaryOp .Not a pos) (tNotM t1) := weakT (pt_not ha) fun σ H Q h => t_branch h fun c H1 S1 tmp s1 q => q H1 s1
/-- .. as values -/
def eB (m1 : ME) (k : Bool → Sl → Out OT) : ME := fun S => (m1 S).bind fun t S1 => match t with
  | .leaf (.bl b) => k b S1
  | _ => .stuck
def eAnd (m1 m2 : ME) : ME := eB m1 fun b S1 => if b = true then m2 S1 else .ok (.leaf (.bl false)) S1
def eOr (m1 m2 : ME) : ME := eB m1 fun b S1 => if b = true then .ok (.leaf (.bl true)) S1 else m2 S1
def eNot (m : ME) : ME := eB m fun b S1 => .ok (.leaf (.bl (!b))) S1
def eIf (t : MT) (m1 m2 : ME) : ME := fun S => (t S).bind fun b S1 => if b = true then m1 S1 else m2 S1
theorem t_eB {K : PySem.W.Frag} {σ : L2.St} {H : Hp} {k : Bool → Sl → Out OT} {Q : VK} {R : VK} (h : tE K P W (eB m k) σ H Q) (hR : ∀ b H1 S1 tmp, Sim K P σ H1 S1 tmp → PoE K P W σ tmp Q (k b S1) → R (.bl b) H1) : tE K P W m σ H R := by
  obtain ⟨S, tmp, s, h⟩ := h
  refine ⟨S, tmp, s, ?_⟩
  unfold eB at h
  cases hm : m S with
  | stuck => rw [hm] at h; exact h
  | err x S1 => rw [hm] at h; exact h
  | ok t S1 =>
    rw [hm] at h
    intro v H1 s1
    cases t with
    | node ts => exact h.elim
    | ins c ns ts => exact h.elim
    | leaf p =>
      cases p <;> first
        | exact h.elim
        | (obtain ⟨G, rp, l⟩ := s1.open1
           cases rp
           exact hR _ H1 S1 tmp s1.drop h)
theorem em_one {op} (h : EM X P W a m) : EM X P W (.BoolOp op [a] pos) m := pe_one h
theorem em_and (ha : EM X P W a m1) (hb : EM X P W (.BoolOp .And (b :: rest) pos) m2) : EM X P W (.BoolOp .And (a :: b :: rest) pos) (eAnd m1 m2) := weakE (pe_and ha hb) fun σ H Q h => t_eB h fun c H1 S1 tmp s1 q => by
  refine ⟨c, rfl, ?_⟩
  cases c with
  | true => exact ⟨S1, tmp, s1, q⟩
  | false => exact q _ H1 (simC s1 fun _ => .bl _)
theorem em_or (ha : EM X P W a m1) (hb : EM X P W (.BoolOp .Or (b :: rest) pos) m2) : EM X P W (.BoolOp .Or (a :: b :: rest) pos) (eOr m1 m2) := weakE (pe_or ha hb) fun σ H Q h => t_eB h fun c H1 S1 tmp s1 q => by
  refine ⟨c, rfl, ?_⟩
  cases c with
  | true => exact q _ H1 (simC s1 fun _ => .bl _)
  | false => exact ⟨S1, tmp, s1, q⟩
theorem em_not (ha : EM X P W a m1) : EM X P W (.UnaryOp .Not a pos) (eNot m1) := weakE (pe_not ha) fun σ H Q h => t_eB h fun c H1 S1 tmp s1 q => ⟨c, rfl, q _ H1 (simC s1 fun _ => .bl _)⟩
theorem em_if {c : Expr} (hc : TM X P W c t1) (ha : EM X P W a m1) (hb : EM X P W b m2) : EM X P W (.IfExp c a b pos) (eIf t1 m1 m2) := weakE (pe_ifExp hc ha hb) fun σ H Q ⟨S, tmp, s, h⟩ => by
  refine ⟨S, tmp, s, ?_⟩
  unfold eIf at h
  cases hm : t1 S with
  | stuck => rw [hm] at h; exact h
  | err x S1 => rw [hm] at h; exact h
  | ok b S1 =>
    rw [hm] at h
    intro H1 s1
    cases b with
    | true => exact ⟨S1, tmp, s1, h⟩
    | false => exact ⟨S1, tmp, s1, h⟩
/-! ### displays -/
theorem Sim.node {K : PySem.W.Frag} {σ : L2.St} {H : Hp} {S : Sl} {tmp : Tm} {ts : List OT} {vs : List V} {a : Addr} (hl : ts.length = vs.length) (s : Sim K P σ H S (ts.zip vs ++ tmp)) (ha : H a = none) (hz : vs.length ≤ sizeLine) : Sim K P σ (upd H a (.lst vs)) S ((.node ts, .ref a) :: tmp) := by
  obtain ⟨⟨G, A, B, e0, e1, r1, r2, nd, fr⟩, kp, tb, by_⟩ := s
  obtain ⟨B1, B2, rfl, q1, q2⟩ := ros_app r2
  rw [zip_fst hl, zip_snd hl] at q1
  have ga : G a = none := Same.free e1 ha
  have eH : Same H (upd H a (.lst vs)) := same_new ha
  have nH : ∀ {w : Bool} b, (∃ o, H b = some o ∧ Own w o) → b ≠ a := fun b ⟨o, h, _⟩ => ne_of_none h ha
  have nA : ∀ b ∈ A, b ≠ a := fun b hb => nH b (rsl_at r1 b hb)
  have n1 : ∀ b ∈ B1, b ≠ a := fun b hb => nH b (ros_at _ _ _ q1 b hb)
  have n2 : ∀ b ∈ B2, b ≠ a := fun b hb => nH b (ros_at _ _ _ q2 b hb)
  have h0 : Mine P a := mine_new kp ha
  have pm : (A ++ (a :: B1 ++ B2)).Perm (a :: (A ++ (B1 ++ B2))) := List.perm_middle
  refine ⟨⟨G, A, a :: B1 ++ B2, e0, e1.trans eH, r1.mono (Same.refl _) (fun b hb => upd_ne (nA b hb)), .cons (A := a :: B1) (.node upd_same hz (Ros.mono (Same.refl _) _ _ _ (fun b hb => upd_ne (n1 b hb)) q1)) (Ros.mono (Same.refl _) _ _ _ (fun b hb => upd_ne (n2 b hb)) q2), ?_, fun b hb => ?_⟩, kp.ext eH, tabs_new ha tb, by_⟩
  · refine pm.symm.nodup (List.nodup_cons.mpr ⟨fun z => ?_, nd⟩)
    rcases List.mem_append.mp z with z | z
    · exact nA a z rfl
    · rcases List.mem_append.mp z with z | z
      · exact n1 a z rfl
      · exact n2 a z rfl
  · rcases List.mem_cons.mp (pm.mem_iff.mp hb) with z | z
    · subst z
      exact ⟨ga, h0⟩
    · exact fr b z
/-- [a, b]: a new list of one's own; (a, b): a tuple -/
def eL (m : MA) : ME := fun S => (m S).bind fun ts S1 => if ts.length ≤ 1000 then .ok (.node ts) S1 else .stuck
def eT (m : MA) : ME := fun S => (m S).bind fun ts S1 => if ts.length ≤ 1000 then .ok (.leaf (.tup (ts.map fz))) S1 else .stuck
theorem em_lst (h : AM X P W es ma) : EM X P W (.List es pos) (eL ma) := weakE (pe_lst h) fun σ H Q ⟨S, tmp, s, h⟩ => by
  refine ⟨S, tmp, s, ?_⟩
  unfold eL at h
  cases hm : ma S with
  | stuck => rw [hm] at h; exact h
  | err x S1 => rw [hm] at h; exact h
  | ok ts S1 =>
    rw [hm] at h
    have h : PoE X.K P W σ tmp Q (if ts.length ≤ 1000 then .ok (.node ts) S1 else .stuck) := h
    intro vs H1 hl s1
    split at h
    · rename_i hz
      have hz' : vs.length ≤ sizeLine := Nat.le_of_lt (small1000 (by omega))
      exact ⟨hz', fun p hp => h _ _ (s1.node hl hp hz')⟩
    · exact h.elim
theorem em_tup {k} (h : AM X P W es ma) : EM X P W (.Tuple es k pos) (eT ma) := weakE (pe_tup h) fun σ H Q ⟨S, tmp, s, h⟩ => by
  refine ⟨S, tmp, s, ?_⟩
  unfold eT at h
  cases hm : ma S with
  | stuck => rw [hm] at h; exact h
  | err x S1 => rw [hm] at h; exact h
  | ok ts S1 =>
    rw [hm] at h
    have h : PoE X.K P W σ tmp Q (if ts.length ≤ 1000 then .ok (.leaf (.tup (ts.map fz))) S1 else .stuck) := h
    intro vs H1 hl s1
    split at h
    · rename_i hz
      have hz' : vs.length ≤ sizeLine := Nat.le_of_lt (small1000 (by omega))
      refine ⟨hz', fun p hp => h _ _ ?_⟩
      obtain ⟨G, r, l⟩ := Sim.openN (by simp [hl]) (s1.frzs hl)
      exact l.new p (.tup vs) _ hp (fun _ z => by cases z) (.tup (.inl (.inl upd_same)) hz' (Rps.mono (same_new (Same.free l.le hp)) _ _ r))
    · exact h.elim
end
end Fy

namespace Fy
open PySem PySem.Spec PyProof.Rows L2

/-- what a context must have for the rules: n calls deep there is room -/
structure Gd (P : Pm) (W : WX) (bi : List Nat) (n : Nat) (X : Cx) : Prop where
  calm : X.calm = true
  nd : X.N.Nodup
  room : Room n X.A
  gu : P.rp = true → X.A.guards = some []
  pass : ∀ σ, PassesAt (L2.CX X.prog X.w) X σ (WE W σ)
  own : PassesOwn (model X.prog X.w) X.A X.env X.xe
  bi : P.B.map (·.1) = bi
  tk : Takes X W
theorem Gd.nb {P : Pm} {W : WX} {bi : List Nat} {n : Nat} {X : Cx} (g : Gd P W bi n X) {i : Nat} (h : bi.contains i = false) : ∀ p ∈ P.B, p.1 ≠ i := fun p hp z => by
  have hm : i ∈ bi := by
    rw [← g.bi, ← z]
    exact List.mem_map.mpr ⟨p, hp, rfl⟩
  have : bi.contains i = true := by simpa using hm
  rw [h] at this
  cases this

/-! ### statements -/
def sA (i : Nat) (m : ME) : MS := fun S => (m S).bind fun t S1 => if i < S1.length then .ok .nx (S1.set i (some t)) else .stuck
def sE (m : ME) : MS := fun S => (m S).bind fun _ S1 => .ok .nx S1
def sR (m : ME) : MS := fun S => (m S).bind fun t S1 => .ok (.rt t) S1
def sRN : MS := fun S => .ok (.rt (.leaf .non)) S
def sIf (t : MT) (a b : MS) : MS := fun S => (t S).bind fun c S1 => if c = true then a S1 else b S1
def sN : MS := fun S => .ok .nx S
def sB : MS := fun S => .ok .bk S
def sC : MS := fun S => .ok .ct S
def sS (a b : MS) : MS := fun S => (a S).bind fun f S1 => match f with
  | .nx => b S1
  | o => .ok o S1
section
variable {X : Cx} {P : Pm} {W : WX} {bi : List Nat} {n : Nat} {e : Expr} {m : ME} {ma mb : MS} {st : Stmt} {rest body : List Stmt} {pos : Pos}
theorem t_asg {K : PySem.W.Frag} {i : Nat} {te : TE} (hB : ∀ p ∈ P.B, p.1 ≠ i) (hi : ∀ σ H Q, tE K P W m σ H Q → te σ H Q) (D : Ends) (σ : L2.St) (H : Hp) (h : tS K P W (sA i m) D σ H) : tAsg te (gName i) D σ H := by
  obtain ⟨S, tmp, s, h⟩ := h
  refine hi σ H _ ⟨S, tmp, s, ?_⟩
  unfold sA at h
  cases hm : m S with
  | stuck => rw [hm] at h; exact h
  | err x S1 => rw [hm] at h; exact h σ
  | ok t S1 =>
    rw [hm] at h
    have h : PoS K P W tmp D (if i < S1.length then .ok .nx (S1.set i (some t)) else .stuck) := h
    intro v H1 s1
    split at h
    · rename_i hl
      exact h _ H1 (s1.put hl hB)
    · exact h.elim
theorem sm_a (g : Gd P W bi n X) {i : Nat} {x : Str} {pos' : Pos} (hi : X.N[i]? = some x) (hx : Loc X.env.scope x) (he : EM X P W e m) (hb : bi.contains i = false := by rfl) (hs : swapsWith e (some (.Name x pos')) pos.line X.env = pure false := by rfl) (hf : X.fn x = true ∨ X.env.scope.names.lookup x = some .local := by first | exact .inl rfl | exact .inr rfl | assumption) :
    SM X P W (.Assign [.Name x pos'] e pos) (sA i m) := weakS (ps_set g.nd hi hx he hs hf) (t_asg (g.nb hb) fun _ _ _ q => q)
theorem sm_e (he : EM X P W e m) (hs : swapsWith e none pos.line X.env = pure false := by rfl) : SM X P W (.Expr e pos) (sE m) := weakS (ps_expr he hs) fun D σ H ⟨S, tmp, s, h⟩ => by
  refine ⟨S, tmp, s, ?_⟩
  unfold sE at h
  cases hm : m S with
  | stuck => rw [hm] at h; exact h
  | err x S1 => rw [hm] at h; exact h σ
  | ok t S1 =>
    rw [hm] at h
    exact fun v H1 s1 => h σ H1 s1.drop
theorem sm_r (he : EM X P W e m) : SM X P W (.Return (some e) pos) (sR m) := weakS (ps_ret he) fun D σ H ⟨S, tmp, s, h⟩ => by
  refine ⟨S, tmp, s, ?_⟩
  unfold sR at h
  cases hm : m S with
  | stuck => rw [hm] at h; exact h
  | err x S1 => rw [hm] at h; exact h σ
  | ok t S1 =>
    rw [hm] at h
    exact fun v H1 s1 => h v σ H1 s1
theorem sm_rn : SM X P W (.Return none pos) sRN := weakS ps_retN fun D σ H ⟨S, tmp, s, h⟩ => h .non σ H (simC s fun _ => .non)
theorem sm_pass : SM X P W (.Pass pos) sN := weakS ps_pass fun D σ H ⟨S, tmp, s, h⟩ => h σ H s
theorem sm_break : SM X P W (.Break pos) sB := weakS ps_break fun D σ H ⟨S, tmp, s, h⟩ => h σ H s
theorem sm_cont : SM X P W (.Continue pos) sC := weakS ps_continue fun D σ H ⟨S, tmp, s, h⟩ => h σ H s
theorem sm_if {c : Expr} {a b : List Stmt} {t : MT} (hc : TM X P W c t) (ha : BM X P W a ma) (hb : BM X P W b mb) : SM X P W (.If c a b pos) (sIf t ma mb) := weakS (ps_if hc ha hb) fun D σ H ⟨S, tmp, s, h⟩ => by
  refine ⟨S, tmp, s, ?_⟩
  unfold sIf at h
  cases hm : t S with
  | stuck => rw [hm] at h; exact h
  | err x S1 => rw [hm] at h; exact h σ
  | ok c S1 =>
    rw [hm] at h
    intro H1 s1
    cases c with
    | true => exact ⟨S1, tmp, s1, h⟩
    | false => exact ⟨S1, tmp, s1, h⟩
theorem bm_n : BM X P W [] sN := weakB pss_nil fun D σ H ⟨S, tmp, s, h⟩ => h σ H s
theorem bm_1 (h : SM X P W st ma) : BM X P W [st] ma := pss_one h
theorem bm_c (h1 : SM X P W st ma) (h2 : BM X P W rest mb) : BM X P W (st :: rest) (sS ma mb) := weakB (pss_cons h1 h2) fun D σ H ⟨S, tmp, s, h⟩ => by
  refine ⟨S, tmp, s, ?_⟩
  unfold sS at h
  cases hm : ma S with
  | stuck => rw [hm] at h; exact h
  | err x S1 => rw [hm] at h; exact h
  | ok f S1 =>
    rw [hm] at h
    cases f with
    | nx => exact fun σ1 H1 s1 => ⟨S1, tmp, s1, h⟩
    | bk => exact h
    | ct => exact h
    | rt t => exact h

/-! ### targets -/
abbrev MG := PV → Sl → Option Sl
abbrev MGs := List PV → Sl → Option Sl
/-- all but these slots stand -/
def Off (gs : List Nat) (σ σ' : L2.St) : Prop := σ'.length = σ.length ∧ ∀ j, j ∉ gs → σ'[j]? = σ[j]?
theorem Off.refl {gs : List Nat} {σ : L2.St} : Off gs σ σ := ⟨rfl, fun _ _ => rfl⟩
theorem Off.set {i : Nat} {σ : L2.St} {x : Option V} : Off [i] σ (σ.set i x) := ⟨List.length_set, fun j hj => List.getElem?_set_ne fun z => hj (by simp [z])⟩
theorem Off.trans {g1 g2 : List Nat} {a b c : L2.St} (h1 : Off g1 a b) (h2 : Off g2 b c) : Off (g1 ++ g2) a c := ⟨h2.1.trans h1.1, fun j hj => (h2.2 j fun z => hj (List.mem_append_right _ z)).trans (h1.2 j fun z => hj (List.mem_append_left _ z))⟩
def tG (K : PySem.W.Frag) (P : Pm) (gs : List Nat) (mg : MG) : TG := fun v σ H Q => ∃ S tmp p S', Sim K P σ H S ((.leaf p, v) :: tmp) ∧ mg p S = some S' ∧ ∀ σ' H', Off gs σ σ' → Sim K P σ' H' S' tmp → Q σ' H'
def tGs (K : PySem.W.Frag) (P : Pm) (gs : List Nat) (mg : MGs) : TGs := fun vs σ H Q => ∃ S tmp ps S', ps.length = vs.length ∧ Sim K P σ H S (lf ps vs ++ tmp) ∧ mg ps S = some S' ∧ ∀ σ' H', Off gs σ σ' → Sim K P σ' H' S' tmp → Q σ' H'
abbrev GM (X : Cx) (P : Pm) (gs : List Nat) (tg : Expr) (mg : MG) : Prop := PG X tg (tG X.K P gs mg)
abbrev GsM (X : Cx) (P : Pm) (gs : List Nat) (tgs : List Expr) (mg : MGs) : Prop := PGs X tgs (tGs X.K P gs mg)
def gN (i : Nat) : MG := fun p S => if i < S.length then some (S.set i (some (.leaf p))) else none
def gsN : MGs := fun ps S => match ps with
  | [] => some S
  | _ => none
def gsC (g : MG) (gs : MGs) : MGs := fun ps S => match ps with
  | p :: r => (g p S).bind fun S1 => gs r S1
  | [] => none
/-- a tuple unpacked -/
def gT (n : Nat) (gs : MGs) : MG := fun p S => match p with
  | .tup ps => if ps.length = n then gs ps S else none
  | _ => none
variable {tg : Expr} {tgs : List Expr}
theorem weakG {t t' : TG} (h : PG X tg t) (i : ∀ v σ H Q, t' v σ H Q → t v σ H Q) : PG X tg t' := ⟨fun pins s σ H v u Q I r q => h.run pins s σ H v u Q I r (i v σ H Q q)⟩
theorem weakGs {t t' : TGs} (h : PGs X tgs t) (i : ∀ v σ H Q, t' v σ H Q → t v σ H Q) : PGs X tgs t' := ⟨fun pins s σ H v u Q I r q => h.run pins s σ H v u Q I r (i v σ H Q q)⟩
theorem gm_n (g : Gd P W bi n X) {i : Nat} {x : Str} (hi : X.N[i]? = some x) (hx : Loc X.env.scope x) (hb : bi.contains i = false := by rfl) (hf : X.fn x = true ∨ X.env.scope.names.lookup x = some .local := by first | exact .inl rfl | exact .inr rfl | assumption) : GM X P [i] (.Name x pos) (gN i) :=
  weakG (pg_name g.nd hi hx hf) fun v σ H Q ⟨S, tmp, p, S', s, e, q⟩ => by
    unfold gN at e
    split at e
    · rename_i hl
      cases e
      exact q _ H Off.set (s.put hl (g.nb hb))
    · cases e
theorem gsm_n : GsM X P [] [] gsN := weakGs pgs_nil fun vs σ H Q ⟨S, tmp, ps, S', hl, s, e, q⟩ => by
  cases ps with
  | nil =>
    cases vs with
    | nil => exact ⟨rfl, q σ H Off.refl (by cases e; exact s)⟩
    | cons v vs => simp at hl
  | cons p ps => cases e
theorem gsm_c {e : Expr} {es : List Expr} {mg : MG} {mgs : MGs} {g1 g2 : List Nat} (h1 : GM X P g1 e mg) (h2 : GsM X P g2 es mgs) (hs : (assignEach (e :: es) X.env).map (·.2) = assign e X.env :: (assignEach es X.env).map (·.2) := by rfl) : GsM X P (g1 ++ g2) (e :: es) (gsC mg mgs) :=
  weakGs (pgs_cons h1 h2 hs) fun vs σ H Q ⟨S, tmp, ps, S', hl, s, e, q⟩ => by
    cases ps with
    | nil => cases e
    | cons p ps =>
      cases vs with
      | nil => simp at hl
      | cons v vs =>
        refine ⟨v, vs, rfl, ?_⟩
        have e : (mg p S).bind (fun S1 => mgs ps S1) = some S' := e
        cases e1 : mg p S with
        | none => rw [e1] at e; cases e
        | some S1 =>
          rw [e1] at e
          exact ⟨S, lf ps vs ++ tmp, p, S1, s, e1, fun σ1 H1 o1 s1 => ⟨S1, tmp, ps, S', by simpa using hl, s1, e, fun σ2 H2 o2 s2 => q σ2 H2 (o1.trans o2) s2⟩⟩
theorem gm_t (g : Gd P W bi n X) {es : List Expr} {k : Nat} {mgs : MGs} {l : Nat} {gs : List Nat} (h : GsM X P gs es mgs) (hn : (assignEach es X.env).length = l := by rfl) (hst : (assignEach es X.env).findIdx? (·.1) = none := by rfl) : GM X P gs (.Tuple es k pos) (gT l mgs) :=
  weakG (pg_tup g.calm h hn hst) fun v σ H Q ⟨S, tmp, p, S', s, e, q⟩ => by
    unfold gT at e
    split at e
    · rename_i ps
      split at e
      · rename_i hl
        obtain ⟨G, r, l⟩ := s.open1
        cases r with
        | tup h1 h2 h3 => exact ⟨_, _, rfl, same_t l.le h1, by rw [← h3.len]; exact hl, S, tmp, ps, S', h3.len, l.vals _ _ h3, e, q⟩
      · cases e
    · cases e
/-- a, b = e -/
def sG (m : ME) (mg : MG) : MS := fun S => (m S).bind fun t S1 => match mg (fz t) S1 with
  | some S2 => .ok .nx S2
  | none => .stuck
theorem sm_g {mg : MG} {gs : List Nat} (he : EM X P W e m) (hg : GM X P gs tg mg) (hs : swapsWithSole [tg] e pos.line X.env = pure false := by rfl) (hw : swappedStores [tg] e X.env = pure none := by rfl) (h1 : (assignEach [tg] X.env).map (·.2) = [assign tg X.env] := by rfl) : SM X P W (.Assign [tg] e pos) (sG m mg) :=
  weakS (ps_asg he hg hs hw h1) fun D σ H ⟨S, tmp, s, h⟩ => by
    refine ⟨S, tmp, s, ?_⟩
    unfold sG at h
    cases hm : m S with
    | stuck => rw [hm] at h; exact h
    | err x S1 => rw [hm] at h; exact h σ
    | ok t S1 =>
      rw [hm] at h
      have h : PoS X.K P W tmp D (match mg (fz t) S1 with | some S2 => .ok .nx S2 | none => .stuck) := h
      intro v H1 s1
      cases e1 : mg (fz t) S1 with
      | none => rw [e1] at h; exact h.elim
      | some S2 =>
        rw [e1] at h
        exact ⟨S1, tmp, _, S2, s1.frz1, e1, fun σ' H' _ s' => h σ' H' s'⟩

/-! ### for -/
/-- what is walked: how it goes, as long as it stands on the pile -/
structure Wk (K : PySem.W.Frag) (P : Pm) (J : It) (xs : List PV) (tmp : Tm) : Prop where
  go : ∀ i σ H S, i < xs.length → Sim K P σ H S tmp → J.go i H
  stop : ∀ σ H S, Sim K P σ H S tmp → J.stop xs.length H
  yld : ∀ i σ H S x H' p, xs[i]? = some p → Sim K P σ H S tmp → J.yld i H x H' → Sim K P σ H' S ((.leaf p, x) :: tmp)
abbrev MI := Sl → Out (List PV)
def tI (K : PySem.W.Frag) (P : Pm) (W : WX) (mi : MI) : TI := fun σ H R => ∃ S tmp, Sim K P σ H S tmp ∧ match mi S with
  | .ok xs S1 => ∀ J H1 tm, Sim K P σ H1 S1 (tm ++ tmp) → (∀ tl, Wk K P J xs (tm ++ tl)) → R J H1
  | .err x S1 => PoX K P W σ x S1
  | .stuck => False
structure IM (X : Cx) (P : Pm) (W : WX) (tg iter : Expr) (mi : MI) : Prop where
  ex : ∃ wi, PI X tg iter wi ∧ ∀ σ H R, tI X.K P W mi σ H R → wi σ H R
def forM (mg : MG) (mb : MS) : List PV → MS
  | [], S => .ok .nx S
  | x :: xs, S => match mg x S with
    | none => .stuck
    | some S1 => (mb S1).bind fun f S2 => match f with
      | .nx => forM mg mb xs S2
      | .ct => forM mg mb xs S2
      | .bk => .ok .nx S2
      | .rt t => .ok (.rt t) S2
def sFor (mi : MI) (mg : MG) (mb : MS) : MS := fun S => (mi S).bind fun xs S1 => forM mg mb xs S1
theorem sm_for (g : Gd P W bi n X) {iter : Expr} {mi : MI} {mg : MG} {gs : List Nat} (hi : IM X P W tg iter mi) (hg : GM X P gs tg mg) (hb : BM X P W body mb) (hs : ∀ x, foldedSetIterable iter X.env x = pure x := by intro _; rfl) : SM X P W (.For tg iter body [] pos) (sFor mi mg mb) := by
  obtain ⟨wi, hw, iw⟩ := hi.ex
  refine weakS (ps_for g.own g.calm hw hg hb hs) fun D σ H ⟨S, tmp, s, h⟩ => ?_
  refine iw σ H _ ⟨S, tmp, s, ?_⟩
  unfold sFor at h
  cases hm : mi S with
  | stuck => rw [hm] at h; exact h
  | err x S1 => rw [hm] at h; exact h σ
  | ok xs S1 =>
    rw [hm] at h
    have h : PoS X.K P W tmp D (forM mg mb xs S1) := h
    intro J H1 tm s1 wk
    have wk := wk tmp
    have W' : Walk J xs.length (fun H => ∃ σ S, Sim X.K P σ H S (tm ++ tmp)) (fun i H x H' => J.yld i H x H') :=
      ⟨fun i H hi ⟨σ, S, q⟩ => wk.go i σ H S hi q, fun H ⟨σ, S, q⟩ => wk.stop σ H S q, fun _ _ _ _ _ _ y => y⟩
    refine for_it W' (fun i σ H => ∃ S, Sim X.K P σ H S (tm ++ tmp) ∧ PoS X.K P W tmp D (forM mg mb (xs.drop i) S)) ⟨S1, s1, h⟩ (fun i σ H _ ⟨S, q, _⟩ => ⟨σ, S, q⟩) (fun i x σ H H' hi ⟨S, q, r⟩ y => ?_) (fun σ H ⟨S, q, r⟩ => ?_)
    · have ed : xs.drop i = xs[i] :: xs.drop (i + 1) := List.drop_eq_getElem_cons hi
      rw [ed] at r
      have s2 := wk.yld i σ H S x H' xs[i] (List.getElem?_eq_getElem hi) q y
      unfold forM at r
      cases e1 : mg xs[i] S with
      | none => rw [e1] at r; exact r.elim
      | some S2 =>
        rw [e1] at r
        refine ⟨S, tm ++ tmp, xs[i], S2, s2, e1, fun σ3 H3 _ s3 => ⟨S2, tm ++ tmp, s3, ?_⟩⟩
        dsimp only at r
        cases hb2 : mb S2 with
        | stuck => rw [hb2] at r; exact r
        | err z S3 => rw [hb2] at r; exact r
        | ok f S3 =>
          rw [hb2] at r
          cases f with
          | nx => exact fun σ4 H4 s4 => ⟨S3, s4, r⟩
          | ct => exact fun σ4 H4 s4 => ⟨S3, s4, r⟩
          | bk => exact fun σ4 H4 s4 => r σ4 H4 s4.drops
          | rt t => exact fun v σ4 H4 s4 => r v σ4 H4 (Sim.drops (l := tm) (s4.perm List.perm_middle.symm))
    · rw [List.drop_length] at r
      exact r σ H q.drops
/-! ### while -/
def whM (t : MT) (mb : MS) : Nat → MS
  | 0, _ => .stuck
  | k + 1, S => (t S).bind fun c S1 => if c = true then (mb S1).bind fun f S2 => match f with
      | .nx => whM t mb k S2
      | .ct => whM t mb k S2
      | .bk => .ok .nx S2
      | .rt v => .ok (.rt v) S2
    else .ok .nx S1
theorem sm_while (k : Nat) (g : Gd P W bi n X) {c : Expr} {t : MT} (hc : TM X P W c t) (hb : BM X P W body mb) : SM X P W (.While c body [] pos) (whM t mb k) := by
  refine weakS (ps_while g.own hc hb) fun D σ H ⟨S, tmp, s, h⟩ => ?_
  refine ⟨fun m σ H => ∃ S, Sim X.K P σ H S tmp ∧ PoS X.K P W tmp D (whM t mb m S), ⟨k, S, s, h⟩, fun m σ H ⟨S, s, h⟩ => ⟨S, tmp, s, ?_⟩⟩
  cases m with
  | zero => exact h.elim
  | succ m =>
    unfold whM at h
    cases ht : t S with
    | stuck => rw [ht] at h; exact h
    | err x S1 => rw [ht] at h; exact h σ
    | ok c S1 =>
      rw [ht] at h
      intro H1 s1
      cases c with
      | false => exact h σ H1 s1
      | true =>
        have h : PoS X.K P W tmp D ((mb S1).bind fun f S2 => match f with | .nx => whM t mb m S2 | .ct => whM t mb m S2 | .bk => .ok .nx S2 | .rt v => .ok (.rt v) S2) := h
        rw [if_pos rfl]
        refine ⟨fun σ' H' => ∃ S2, Sim X.K P σ' H' S2 tmp ∧ PoS X.K P W tmp D (whM t mb m S2), fun σ' H' q => ⟨m, Nat.lt_succ_self m, q⟩, S1, tmp, s1, ?_⟩
        cases hb2 : mb S1 with
        | stuck => rw [hb2] at h; exact h
        | err z S3 => rw [hb2] at h; exact h
        | ok f S3 =>
          rw [hb2] at h
          cases f with
          | nx => exact fun σ4 H4 s4 => ⟨S3, s4, h⟩
          | ct => exact fun σ4 H4 s4 => ⟨S3, s4, h⟩
          | bk => exact fun σ4 H4 s4 => h σ4 H4 s4
          | rt t => exact fun v σ4 H4 s4 => h v σ4 H4 s4
end
end Fy

namespace Fy
open PySem PySem.Spec PyProof.Rows L2

/-! ### what a def keeps, told by a function of plain values -/
inductive FR where
  | ok (r : OT) (outs : List OT) | err (x : Exn) (outs : List OT) | stuck
def sel (bi : List Nat) (vs : List V) : List V := bi.map fun i => (vs[i]?).getD .non
/-- what stands behind a call -/
structure Ret (K : PySem.W.Frag) (T : List (Addr × Str)) (ws : List V) (A : List Addr) (G H G' H' : Hp) (outs : List OT) (A' Ar : List Addr) : Prop where
  gg : Same G G'
  nt : NT G'
  gm : ∀ b o, G' b = some o → G b = some o ∨ b ∈ A ∨ ∀ o, H b = some o → ∃ ps, o = .tbl ps
  gh : Same G' H'
  kp : Kp A H H'
  tb : LamX.Tabs T H'
  out : Ros K G' H' outs ws A'
  nd : (A' ++ Ar).Nodup
  fr : ∀ a ∈ A' ++ Ar, G' a = none ∧ (a ∈ A ∨ ∀ o, H a = some o → ∃ ps, o = .tbl ps)
def spM (K : PySem.W.Frag) (T : List (Addr × Str)) (n : Nat) (bi : List Nat) (run : List OT → FR) : Sp := fun vs H Q E => ∃ G ts A, vs.length = n ∧ NT G ∧ Same G H ∧ Ros K G H ts vs A ∧ A.Nodup ∧ (∀ a ∈ A, G a = none) ∧ LamX.Tabs T H ∧
  match run ts with
  | .ok r outs => ∀ v H' G' A' Ar, Ret K T (sel bi vs) A G H G' H' outs A' Ar → Ro K G' H' r v Ar → Q v H'
  | .err x outs => ∀ ws cls d H' G' A', Ret K T (sel bi vs) A G H G' H' outs A' [] → Rps K G' x.xs ws → XAt K x ws cls d H' → E cls d H'
  | .stuck => False
/-- a def, called where no repr is under way -/
structure FnG (rp : Bool) (Pr : Program) (w : World) (K : PySem.W.Frag) (mg : Str → Option Value) (base : Heap) (k : Nat) (f : Addr) (fd : FuncData) (ps : List Str) (sp : Sp) : Prop where
  len : ∀ vs H Q E, sp vs H Q E → vs.length = ps.length
  run : ∀ (A : Around) (outer : List Env) (s : Shared) (H : Hp) (args : Args) (us : List Value) (vs : List V) (Q : VK) (E : XK), Room k A → (rp = true → A.guards = some []) → Env0 Pr w K mg base A outer s H → BindsTo s fd args (ps.zip us) → Vals vs us → sp vs H Q E →
    codeAny (model Pr w) A (.call (.ref f) args) (CR (L2.CX Pr w) outer Pr w H s Q E) s
theorem FnG.mono {rp : Bool} {Pr : Program} {w : World} {K : PySem.W.Frag} {mg : Str → Option Value} {base : Heap} {j k : Nat} {f : Addr} {fd : FuncData} {ps : List Str} {sp : Sp} (F : FnG rp Pr w K mg base j f fd ps sp) (h : j ≤ k) : FnG rp Pr w K mg base k f fd ps sp :=
  ⟨F.len, fun A outer s H args us vs Q E hr => F.run A outer s H args us vs Q E (hr.mono h)⟩

theorem FnG.up {Pr : Program} {w : World} {K : PySem.W.Frag} {mg : Str → Option Value} {base : Heap} {k : Nat} {f : Addr} {fd : FuncData} {ps : List Str} {sp : Sp} (F : FnG false Pr w K mg base k f fd ps sp) (rp : Bool) : FnG rp Pr w K mg base k f fd ps sp :=
  ⟨F.len, fun A outer s H args us vs Q E hr _ => F.run A outer s H args us vs Q E hr fun z => Bool.noConfusion z⟩
/-- a def that asks for no repr -/
theorem FnG.ok {Pr : Program} {w : World} {K : PySem.W.Frag} {mg : Str → Option Value} {base : Heap} {k : Nat} {f : Addr} {fd : FuncData} {ps : List Str} {sp : Sp} (F : FnG false Pr w K mg base k f fd ps sp) : FnOk Pr w K mg base (L2.CX Pr w) k f fd ps sp :=
  ⟨F.len, fun A outer s H args us vs Q E hr e0 hb hv hs => F.run A outer s H args us vs Q E hr (fun z => Bool.noConfusion z) e0 hb hv hs⟩
section
variable {K : PySem.W.Frag} {P : Pm} {σ : L2.St} {H : Hp} {S : Sl} {tmp : Tm}
/-- a slot's thing is taken out -/
theorem Sim.take {i : Nat} {t : OT} (s : Sim K P σ H S tmp) (h : S[i]? = some (some t)) : ∃ v, σ[i]? = some (some v) ∧ Sim K P σ H (S.set i none) ((t, v) :: tmp) := by
  obtain ⟨⟨G, A, B, e0, e1, r1, r2, nd, fr⟩, kp, tb, by_⟩ := s
  obtain ⟨v, A1, At, A2, ev, rfl, rt, _, g⟩ := r1.split h
  have z := g G H (some v) (Same.refl _) (fun _ _ => rfl)
  have es : σ.set i (some v) = σ := List.ext_getElem? fun j => by
    rw [List.getElem?_set]
    split
    · rename_i e
      subst e
      obtain ⟨hi, _⟩ := List.getElem?_eq_some_iff.mp ev
      rw [if_pos hi, ev]
    · rfl
  rw [es] at z
  have pm : (A1 ++ (At ++ A2) ++ B).Perm (A1 ++ A2 ++ (At ++ B)) := by
    simp only [List.append_assoc]
    refine List.Perm.append_left _ ?_
    rw [← List.append_assoc, ← List.append_assoc]
    exact List.perm_append_comm.append_right _
  exact ⟨v, ev, ⟨G, A1 ++ A2, At ++ B, e0, e1, z, .cons rt r2, pm.nodup nd, fun a ha => fr a (pm.mem_iff.mpr ha)⟩, kp, tb, by_⟩
/-- .. and laid back -/
theorem Sim.back {i : Nat} {t : OT} {v : V} (s : Sim K P σ H S ((t, v) :: tmp)) (hi : i < S.length) (hv : σ[i]? = some (some v)) : Sim K P σ H (S.set i (some t)) tmp := by
  obtain ⟨⟨G, A, B, e0, e1, r1, r2, nd, fr⟩, kp, tb, by_⟩ := s
  cases r2 with
  | @cons _ _ _ _ At B' rt r2 =>
    obtain ⟨A1, A2, sb, z⟩ := Rsl.put rt i r1 hi
    have es : σ.set i (some v) = σ := List.ext_getElem? fun j => by
      rw [List.getElem?_set]
      split
      · rename_i e
        subst e
        obtain ⟨hi, _⟩ := List.getElem?_eq_some_iff.mp hv
        rw [if_pos hi, hv]
      · rfl
    rw [es] at z
    have pm : (A1 ++ (At ++ A2) ++ B').Perm ((A1 ++ A2) ++ (At ++ B')) := by
      simp only [List.append_assoc]
      refine List.Perm.append_left _ ?_
      rw [← List.append_assoc, ← List.append_assoc]
      exact List.perm_append_comm.append_right _
    have sb2 : ((A1 ++ A2) ++ (At ++ B')).Sublist (A ++ (At ++ B')) := List.Sublist.append sb (List.Sublist.refl _)
    exact ⟨⟨G, _, B', e0, e1, z, r2, pm.symm.nodup (nd.sublist sb2), fun a ha => fr a (sb2.subset (pm.mem_iff.mp ha))⟩, kp, tb, by_⟩
end

/-! ### a def's body -/
def outsOf : List Nat → Sl → Option (List OT)
  | [], _ => some []
  | i :: r, S => match S[i]? with
    | some (some t) => (outsOf r (S.set i none)).map fun ts => t :: ts
    | _ => none
def runB (N : Nat) (bi : List Nat) (m : MS) (ts : List OT) : FR := match m (ts.map some ++ List.replicate (N - ts.length) none) with
  | .ok (.rt r) S => (match outsOf bi S with
    | some os => .ok r os
    | none => .stuck)
  | .ok .nx S => (match outsOf bi S with
    | some os => .ok (.leaf .non) os
    | none => .stuck)
  | .err x S => (match outsOf bi S with
    | some os => .err x os
    | none => .stuck)
  | _ => .stuck
theorem outs_sim {K : PySem.W.Frag} {P : Pm} {σ : L2.St} {H : Hp} : ∀ {bi : List Nat} {ws : List V} {S : Sl} {tmp : Tm} {os : List OT}, Sim K P σ H S tmp → outsOf bi S = some os → bi.length = ws.length → (∀ (k i : Nat) (w : V), bi[k]? = some i → ws[k]? = some w → σ[i]? = some (some w)) → ∃ S', os.length = ws.length ∧ Sim K P σ H S' (os.zip ws ++ tmp)
  | [], [], S, tmp, os, s, e, _, _ => by
    cases e
    exact ⟨S, rfl, s⟩
  | [], w :: ws, _, _, _, _, _, hl, _ => by simp at hl
  | i :: r, [], _, _, _, _, _, hl, _ => by simp at hl
  | i :: r, w :: ws, S, tmp, os, s, e, hl, hv => by
    unfold outsOf at e
    split at e
    · rename_i t et
      cases e1 : outsOf r (S.set i none) with
      | none => rw [e1] at e; cases e
      | some ts =>
        rw [e1] at e
        have e : t :: ts = os := Option.some.inj e
        subst e
        obtain ⟨v, ev, s1⟩ := s.take et
        have ew : v = w := by
          have z := hv 0 i w rfl rfl
          rw [ev] at z
          exact Option.some.inj (Option.some.inj z)
        subst ew
        obtain ⟨S', hl', s2⟩ := outs_sim s1 e1 (by simpa using hl) (fun k j w a b => hv (k + 1) j w a b)
        exact ⟨S', by simp [hl'], s2.perm List.perm_middle⟩
    · cases e
theorem rsl_start {K : PySem.W.Frag} {G H : Hp} (n : Nat) : ∀ {ts : List OT} {vs : List V} {A : List Addr}, Ros K G H ts vs A → Rsl K G H (ts.map some ++ List.replicate n none) (vs.map some ++ List.replicate n none) A
  | [], _, _, h => by
    cases h
    induction n with
    | zero => exact .nil
    | succ n ih => exact .off ih
  | t :: ts, _, _, h => by
    cases h with
    | cons h1 h2 => exact .on h1 (rsl_start n h2)
/-- the code object of a def -/
def CodeAt (K : PySem.W.Frag) (f : Addr) (cdv : Value) : Prop := ∃ (oc : Value) (od : Option Addr) (fd : FuncData) (osl : Array (Option Value)) (c : Addr), K.lookup f = some ⟨oc, od, .func fd, osl⟩ ∧ fd.code = cdv ∧ cdv = .ref c
theorem fn_m {rp : Bool} {Pr : Program} {w : World} {K : PySem.W.Frag} {mg : Str → Option Value} {base : Heap} {x qual : Str} {params : Arguments} {body : List Stmt} {scope : Scope} {dvs : List V} {kws : List (Str × V)} {f : Addr} {fd : FuncData} {N ps : List Str} {k : Nat} {T : List (Addr × Str)} {bi : List Nat} {m : MS}
    (F : FunD K x qual params body scope dvs kws f fd) (S : FnScope N ps scope) (hbi : ∀ i ∈ bi, i < ps.length)
    (hbody : ∀ (cdv : Value) (A : Around) (outer : List Env) (s : Shared) (H : Hp) (E : XK) (P : Pm), CodeAt K f cdv → P.T = T → P.rp = rp → Gd P (fun cls d _ H => E cls d H) bi k (cxOf (L2.CX Pr w) Pr w K mg base N qual scope f cdv A outer s H E) →
      BM (cxOf (L2.CX Pr w) Pr w K mg base N qual scope f cdv A outer s H E) P (fun cls d _ H => E cls d H) body m) :
    FnG rp Pr w K mg base (k + 1) f fd ps (spM K T ps.length bi (runB N.length bi m)) := by
  obtain ⟨oc, od, dV, kV, doc, pm, an, cdv, ct, osl, rfl, lk, hcd, _, _⟩ := F.ex
  refine ⟨fun vs H Q E h => by obtain ⟨_, _, _, h, _⟩ := h; exact h, fun A outer s H args us vs Q E hr hg e0 hb hv hsp => ?_⟩
  obtain ⟨G, ts, As, hl, hnt, le, ro, nd, fr, tb, hq⟩ := hsp
  refine LamX.run_ofS lk hcd S hr e0 hb hv hl fun hr' => ?_
  have hts : ts.length = vs.length := ro.len
  have lsel : bi.length = (sel bi vs).length := by simp [sel]
  have gd : Gd ⟨T, As, H, G, bi.zip (sel bi vs), rp⟩ (fun cls d _ H => E cls d H) bi k (cxOf (L2.CX Pr w) Pr w K mg base N qual scope f cdv A outer s H E) :=
    ⟨rfl, S.nd, hr', hg, fun σ => passAt (takes_of rfl rfl rfl rfl) σ, passes_of rfl, zip_fst lsel, takes_of rfl rfl rfl rfl⟩
  have hcv : CodeAt K f cdv := by
    unfold PySem.W.codeIn at hcd
    split at hcd
    · exact ⟨_, _, _, _, _, lk, rfl, rfl⟩
    · cases hcd
  refine ⟨_, hbody cdv A outer s H E ⟨T, As, H, G, bi.zip (sel bi vs), rp⟩ hcv rfl rfl gd, ?_⟩
  have selAt : ∀ k i w, bi[k]? = some i → (sel bi vs)[k]? = some w → vs[i]? = some w := fun k i w a b => by
    unfold sel at b
    rw [List.getElem?_map, a] at b
    have b : (vs[i]?).getD V.non = w := Option.some.inj b
    have hi : i < vs.length := by
      rw [hl]
      exact hbi i (List.mem_of_getElem? a)
    rw [List.getElem?_eq_getElem hi] at b ⊢
    exact congrArg some b
  have startAt : ∀ i w, vs[i]? = some w → (L2.start N vs)[i]? = some (some w) := fun i w a => by
    have hi : i < vs.length := (List.getElem?_eq_some_iff.mp a).1
    unfold L2.start
    rw [List.getElem?_append_left (by simpa using hi), List.getElem?_map, a]
    rfl
  have byr : ∀ p ∈ bi.zip (sel bi vs), (L2.start N vs)[p.1]? = some (some p.2) := fun p hp => by
    obtain ⟨k, hk⟩ := List.mem_iff_getElem?.mp hp
    obtain ⟨z1, z2⟩ := List.getElem?_zip_eq_some.mp hk
    exact startAt _ _ (selAt k _ _ z1 z2)
  refine ⟨ts.map some ++ List.replicate (N.length - ts.length) none, [], ⟨⟨G, As, [], ⟨Same.refl _, fun _ _ h => .inl h, hnt⟩, le, ?_, .nil, by simpa using nd, fun a ha => ⟨fr a (by simpa using ha), .inl (by simpa using ha)⟩⟩, Kp.refl, tb, byr⟩, ?_⟩
  · rw [hts]
    exact rsl_start _ ro
  · -- the end
    unfold runB at hq
    have fin : ∀ {σ' : L2.St} {H' : Hp} {S' : Sl} {os : List OT} {tm : Tm}, Sim K ⟨T, As, H, G, bi.zip (sel bi vs), rp⟩ σ' H' S' tm → outsOf bi S' = some os → ∃ G' A' B', Ret K T (sel bi vs) As G H G' H' os A' B' ∧ Ros K G' H' (tm.map (·.1)) (tm.map (·.2)) B' := by
      intro σ' H' S' os tm s' eo
      obtain ⟨S2, hl2, s2⟩ := outs_sim (ws := sel bi vs) s' eo lsel (fun k i w a b => s'.byr (i, w) (List.mem_iff_getElem?.mpr ⟨k, List.getElem?_zip_eq_some.mpr ⟨a, b⟩⟩))
      obtain ⟨⟨G', A', B', g0, g1, r1, r2, nd', fr'⟩, kp', tb', by'⟩ := s2
      obtain ⟨B1, B2, rfl, q1, q2⟩ := ros_app r2
      rw [zip_fst hl2, zip_snd hl2] at q1
      refine ⟨G', B1, B2, ⟨g0.1, g0.3, fun b o q => ?_, g1, kp', tb', q1, (List.nodup_append.mp nd').2.1, fun a ha => ?_⟩, q2⟩
      · rcases g0.2 b o q with z | z
        · exact .inl z
        · exact .inr z
      · obtain ⟨f1, f2⟩ := fr' a (List.mem_append_right _ ha)
        exact ⟨f1, f2⟩
    cases hm : m (ts.map some ++ List.replicate (N.length - ts.length) none) with
    | stuck => rw [hm] at hq; exact hq
    | err x S' =>
      rw [hm] at hq
      dsimp only at hq
      intro σ' ws cls d H' xa s'
      cases eo : outsOf bi S' with
      | none => rw [eo] at hq; exact hq.elim
      | some os =>
        rw [eo] at hq
        obtain ⟨G', A', B', rt, q⟩ := fin s' eo
        obtain ⟨_, _, hlx, _⟩ := id xa
        rw [zip_fst (by simp [hlx]), zip_snd (by simp [hlx])] at q
        obtain ⟨rfl, rp⟩ := Ros.ofLeaves q
        exact hq ws cls d H' G' A' rt rp xa
    | ok fl S' =>
      rw [hm] at hq
      cases fl with
      | bk => exact hq.elim
      | ct => exact hq.elim
      | nx =>
        dsimp only at hq
        intro σ' H' s'
        cases eo : outsOf bi S' with
        | none => rw [eo] at hq; exact hq.elim
        | some os =>
          rw [eo] at hq
          obtain ⟨G', A', B', rt, q⟩ := fin s' eo
          cases q
          exact hq _ _ _ _ _ rt (.leaf .non)
      | rt r =>
        dsimp only at hq
        intro v σ' H' s'
        cases eo : outsOf bi S' with
        | none => rw [eo] at hq; exact hq.elim
        | some os =>
          rw [eo] at hq
          obtain ⟨G', A', B', rt, q⟩ := fin s' eo
          cases q with
          | cons q1 q2 =>
            cases q2
            rw [List.append_nil] at rt
            exact hq _ _ _ _ _ rt q1
end Fy

namespace Fy
open PySem PySem.Spec PyProof.Rows L2

/-! ### arguments: a value, a slot handed to be changed, a slot lent -/
inductive Ar where
  | vl (t : OT) | rf (i : Nat) | bo (i : Nat)
def tms : List Ar → List V → Tm
  | .vl t :: r, v :: vs => (t, v) :: tms r vs
  | .rf _ :: r, _ :: vs => tms r vs
  | .bo _ :: r, _ :: vs => tms r vs
  | _, _ => []
inductive RefOk (σ : L2.St) : List Ar → List V → Prop
  | nil : RefOk σ [] []
  | vl {t : OT} {v : V} {r : List Ar} {vs : List V} : RefOk σ r vs → RefOk σ (.vl t :: r) (v :: vs)
  | rf {i : Nat} {v : V} {r : List Ar} {vs : List V} : σ[i]? = some (some v) → RefOk σ r vs → RefOk σ (.rf i :: r) (v :: vs)
  | bo {i : Nat} {v : V} {r : List Ar} {vs : List V} : σ[i]? = some (some v) → RefOk σ r vs → RefOk σ (.bo i :: r) (v :: vs)
theorem RefOk.len {σ : L2.St} : ∀ {as : List Ar} {vs : List V}, RefOk σ as vs → as.length = vs.length
  | _, _, .nil => rfl
  | _, _, .vl h => by simp [RefOk.len h]
  | _, _, .rf _ h => by simp [RefOk.len h]
  | _, _, .bo _ h => by simp [RefOk.len h]
abbrev MR := Sl → Out (List Ar)
def PoR (K : PySem.W.Frag) (P : Pm) (W : WX) (σ : L2.St) (tmp : Tm) (Q : List V → Hp → Prop) : Out (List Ar) → Prop
  | .ok as S => ∀ vs H, RefOk σ as vs → Sim K P σ H S (tms as vs ++ tmp) → Q vs H
  | .err x S => PoX K P W σ x S
  | .stuck => False
def tR (K : PySem.W.Frag) (P : Pm) (W : WX) (m : MR) : TA := fun σ H Q => ∃ S tmp, Sim K P σ H S tmp ∧ PoR K P W σ tmp Q (m S)
abbrev RM (X : Cx) (P : Pm) (W : WX) (es : List Expr) (m : MR) : Prop := PA X es (tR X.K P W m)
def rN : MR := fun S => .ok [] S
def rV (m : ME) (mr : MR) : MR := fun S => (m S).bind fun t S1 => (mr S1).bind fun as S2 => .ok (.vl t :: as) S2
def rR (i : Nat) (mr : MR) : MR := fun S => match S[i]? with
  | some (some _) => (mr S).bind fun as S2 => .ok (.rf i :: as) S2
  | _ => .stuck
def rB (i : Nat) (mr : MR) : MR := fun S => match S[i]? with
  | some (some _) => (mr S).bind fun as S2 => .ok (.bo i :: as) S2
  | _ => .stuck
section
variable {X : Cx} {P : Pm} {W : WX} {m : ME} {mr : MR} {e : Expr} {es : List Expr}
theorem rm_n : RM X P W [] rN := weakA pa_nil fun σ H Q ⟨S, tmp, s, h⟩ => h [] H .nil s
theorem rm_v (ha : EM X P W e m) (hr : RM X P W es mr) (hs : starEach (e :: es) X.env = (false, eval e X.env) :: starEach es X.env := by rfl) : RM X P W (e :: es) (rV m mr) := weakA (pa_cons ha hr hs) fun σ H Q ⟨S, tmp, s, h⟩ => by
  refine ⟨S, tmp, s, ?_⟩
  unfold rV at h
  cases hm : m S with
  | stuck => rw [hm] at h; exact h
  | err x S1 => rw [hm] at h; exact h
  | ok t S1 =>
    rw [hm] at h
    intro v H1 s1
    refine ⟨S1, _, s1, ?_⟩
    have h : PoR X.K P W σ tmp Q ((mr S1).bind fun as S2 => .ok (.vl t :: as) S2) := h
    cases hm2 : mr S1 with
    | stuck => rw [hm2] at h; exact h
    | err x S2 => rw [hm2] at h; exact h
    | ok as S2 =>
      rw [hm2] at h
      intro vs H2 ro s2
      exact h (v :: vs) H2 (.vl ro) (s2.perm List.perm_middle)
theorem rm_r (i : Nat) {x : Str} {pos : Pos} (hN : X.N[i]? = some x) (hv : Vis X.env.scope x) (hr : RM X P W es mr) (hd : (x == ("__debug__" : Str)) = false := by decide)
    (hcd : (x == ("__classdict__" : Str)) = false := by decide) (hs : starEach (.Name x pos :: es) X.env = (false, eval (.Name x pos) X.env) :: starEach es X.env := by rfl) : RM X P W (.Name x pos :: es) (rR i mr) := weakA (pa_cons (pe_var hN hv hd hcd) hr hs) fun σ H Q ⟨S, tmp, s, h⟩ => by
  unfold rR at h
  split at h
  · rename_i t e
    obtain ⟨v, ev, _⟩ := s.rdH e
    refine ⟨v, ev, S, tmp, s, ?_⟩
    cases hm : mr S with
    | stuck => rw [hm] at h; exact h
    | err x S1 => rw [hm] at h; exact h
    | ok as S1 =>
      rw [hm] at h
      exact fun vs H1 ro s1 => h (v :: vs) H1 (.rf ev ro) s1
  · exact h.elim
theorem rm_b (i : Nat) {x : Str} {pos : Pos} (hN : X.N[i]? = some x) (hv : Vis X.env.scope x) (hr : RM X P W es mr) (hd : (x == ("__debug__" : Str)) = false := by decide)
    (hcd : (x == ("__classdict__" : Str)) = false := by decide) (hs : starEach (.Name x pos :: es) X.env = (false, eval (.Name x pos) X.env) :: starEach es X.env := by rfl) : RM X P W (.Name x pos :: es) (rB i mr) := weakA (pa_cons (pe_var hN hv hd hcd) hr hs) fun σ H Q ⟨S, tmp, s, h⟩ => by
  unfold rB at h
  split at h
  · rename_i t e
    obtain ⟨v, ev, _⟩ := s.rdH e
    refine ⟨v, ev, S, tmp, s, ?_⟩
    cases hm : mr S with
    | stuck => rw [hm] at h; exact h
    | err x S1 => rw [hm] at h; exact h
    | ok as S1 =>
      rw [hm] at h
      exact fun vs H1 ro s1 => h (v :: vs) H1 (.bo ev ro) s1
  · exact h.elim
end

/-! ### what the callee gets -/
def resolve : List Ar → Sl → Option (List OT × Sl)
  | [], S => some ([], S)
  | .vl t :: r, S => match resolve r S with
    | some (ts, S') => some (.leaf (fz t) :: ts, S')
    | none => none
  | .rf i :: r, S => match S[i]? with
    | some (some t) => (match resolve r (S.set i none) with
      | some (ts, S') => some (t :: ts, S')
      | none => none)
    | _ => none
  | .bo i :: r, S => match resolve r S with
    | some (ts, S') => (match S'[i]? with
      | some (some t) => some (.leaf (fz t) :: ts, S')
      | _ => none)
    | none => none
inductive ArgR (σ : L2.St) (S' : Sl) : List Ar → List OT → List V → Tm → Prop
  | nil : ArgR σ S' [] [] [] []
  | vl {t : OT} {v : V} {r : List Ar} {ts : List OT} {vs : List V} {tm : Tm} : ArgR σ S' r ts vs tm → ArgR σ S' (.vl t :: r) (.leaf (fz t) :: ts) (v :: vs) ((.leaf (fz t), v) :: tm)
  | rf {i : Nat} {t : OT} {v : V} {r : List Ar} {ts : List OT} {vs : List V} {tm : Tm} : σ[i]? = some (some v) → ArgR σ S' r ts vs tm → ArgR σ S' (.rf i :: r) (t :: ts) (v :: vs) ((t, v) :: tm)
  | bo {i : Nat} {t : OT} {v : V} {r : List Ar} {ts : List OT} {vs : List V} {tm : Tm} : σ[i]? = some (some v) → S'[i]? = some (some t) → ArgR σ S' r ts vs tm → ArgR σ S' (.bo i :: r) (.leaf (fz t) :: ts) (v :: vs) tm
theorem resolve_ok {K : PySem.W.Frag} {P : Pm} {σ : L2.St} {H : Hp} {as : List Ar} {vs : List V} (ro : RefOk σ as vs) : ∀ {S S' : Sl} {tmp : Tm} {ts : List OT}, resolve as S = some (ts, S') → Sim K P σ H S (tms as vs ++ tmp) → ∃ tm, ArgR σ S' as ts vs tm ∧ Sim K P σ H S' (tm ++ tmp) := by
  induction ro with
  | nil =>
    intro S S' tmp ts e s
    cases e
    exact ⟨[], .nil, s⟩
  | @vl t v r vs ro ih =>
    intro S S' tmp ts e s
    unfold resolve at e
    cases e1 : resolve r S with
    | none => rw [e1] at e; cases e
    | some z =>
      obtain ⟨ts1, S1⟩ := z
      rw [e1] at e
      cases e
      have s1 : Sim K P σ H S (tms r vs ++ (.leaf (fz t), v) :: tmp) := (Sim.frz1 (t := t) (v := v) (tmp := tms r vs ++ tmp) s).perm List.perm_middle.symm
      obtain ⟨tm, h1, h2⟩ := ih e1 s1
      exact ⟨_, .vl h1, h2.perm List.perm_middle⟩
  | @rf i v r vs ev ro ih =>
    intro S S' tmp ts e s
    unfold resolve at e
    split at e
    · rename_i t et
      cases e1 : resolve r (S.set i none) with
      | none => rw [e1] at e; cases e
      | some z =>
        obtain ⟨ts1, S1⟩ := z
        rw [e1] at e
        cases e
        obtain ⟨v', ev', s1⟩ := Sim.take (tmp := tms r vs ++ tmp) s et
        have evv : v' = v := by
          rw [ev] at ev'
          exact (Option.some.inj (Option.some.inj ev')).symm
        subst evv
        obtain ⟨tm, h1, h2⟩ := ih e1 (s1.perm List.perm_middle.symm)
        exact ⟨_, .rf ev h1, h2.perm List.perm_middle⟩
    · cases e
  | @bo i v r vs ev ro ih =>
    intro S S' tmp ts e s
    unfold resolve at e
    cases e1 : resolve r S with
    | none => rw [e1] at e; cases e
    | some z =>
      obtain ⟨ts1, S1⟩ := z
      rw [e1] at e
      dsimp only at e
      split at e
      · rename_i t et
        cases e
        obtain ⟨tm, h1, h2⟩ := ih e1 s
        exact ⟨_, .bo ev et h1, h2⟩
      · cases e
def hasBo : List Ar → Bool
  | [] => false
  | .bo _ :: _ => true
  | _ :: r => hasBo r
theorem argr_ros {K : PySem.W.Frag} {G Gc H : Hp} {σ : L2.St} {S' : Sl} {A : List Addr} (eG : Same G Gc) (rs : Rsl K G H S' σ A) {as : List Ar} {ts : List OT} {vs : List V} {tm : Tm} (h : ArgR σ S' as ts vs tm) :
    ∀ {B : List Addr}, (hasBo as = true → ∀ a ∈ A, Gc a = H a) → Ros K G H (tm.map (·.1)) (tm.map (·.2)) B → Ros K Gc H ts vs B := by
  induction h with
  | nil =>
    intro B hb r
    cases r
    exact .nil
  | @vl t v r ts vs tm h ih =>
    intro B hb q
    cases q with
    | cons q1 q2 => exact .cons (Ro.mono eG _ _ _ (fun _ _ => rfl) q1) (ih hb q2)
  | @rf i t v r ts vs tm ev h ih =>
    intro B hb q
    cases q with
    | cons q1 q2 => exact .cons (Ro.mono eG _ _ _ (fun _ _ => rfl) q1) (ih hb q2)
  | @bo i t v r ts vs tm ev et h ih =>
    intro B hb q
    have hA := hb rfl
    obtain ⟨v', A1, At, A2, ev', rfl, rt, _, _⟩ := rs.split et
    have evv : v' = v := by
      rw [ev] at ev'
      exact (Option.some.inj (Option.some.inj ev')).symm
    subst evv
    exact .cons (A := []) (.leaf (Ro.frz eG t v' At (fun a ha => hA a (by simp [ha])) rt)) (ih (fun _ => hA) q)

/-! ### values that hold no list -/
mutual
def noP (b : Bool) : PV → Bool
  | .lst _ => false
  | .rls _ => false
  | .tup xs => noPs b xs
  | .obj _ _ xs => b && noPs b xs
  | _ => true
def noPs (b : Bool) : List PV → Bool
  | [] => true
  | x :: xs => noP b x && noPs b xs
end
mutual
def noT (b : Bool) : OT → Bool
  | .leaf p => noP b p
  | .node ts => noTs b ts
  | .ins _ _ ts => noTs b ts
def noTs (b : Bool) : List OT → Bool
  | [] => true
  | t :: ts => noT b t && noTs b ts
end
section
variable {K : PySem.W.Frag} {G1 G2 H : Hp} {bb : Bool}
mutual
theorem Rp.less (e : ∀ b o, G1 b = some o → G2 b = some o ∨ Own bb o) : ∀ (p : PV) (v : V), noP bb p = true → Rp K G1 p v → Rp K G2 p v
  | .non, _, _, h => by cases h; exact .non
  | .bl _, _, _, h => by cases h; exact .bl _
  | .int _, _, _, h => by cases h; exact .int _
  | .str _, _, _, h => by cases h; exact .str _
  | .ty _, _, _, h => by cases h; exact .ty _
  | .glo _, _, _, h => by cases h; exact .glo _
  | .tup xs, _, n, h => by
    cases h with
    | tup h1 h2 h3 =>
      refine .tup ?_ h2 (Rps.less e xs _ (by simpa [noP] using n) h3)
      rcases h1 with (z | ⟨o, z⟩) | z
      · rcases e _ _ z with q | ⟨vs, q⟩ | ⟨_, _, _, _, q⟩
        · exact .inl (.inl q)
        · cases q
        · cases q
      · rcases e _ _ z with q | ⟨vs, q⟩ | ⟨_, _, _, _, q⟩
        · exact .inl (.inr ⟨o, q⟩)
        · cases q
        · cases q
      · exact .inr z
  | .lst xs, _, n, h => by simp [noP] at n
  | .rls xs, _, n, h => by simp [noP] at n
  | .obj c ns xs, _, n, h => by
    cases h with
    | obj h1 h2 h3 =>
      have n' : bb = true ∧ noPs bb xs = true := by simpa [noP] using n
      rcases e _ _ h1 with q | ⟨vs, q⟩ | ⟨hb, _⟩
      · exact .obj q h2 (Rps.less e xs _ n'.2 h3)
      · cases q
      · rw [n'.1] at hb; cases hb
theorem Rps.less (e : ∀ b o, G1 b = some o → G2 b = some o ∨ Own bb o) : ∀ (xs : List PV) (vs : List V), noPs bb xs = true → Rps K G1 xs vs → Rps K G2 xs vs
  | [], _, _, h => by cases h; exact .nil
  | x :: xs, _, n, h => by
    have n' : noP bb x = true ∧ noPs bb xs = true := by simpa [noPs] using n
    cases h with
    | cons h1 h2 => exact .cons (Rp.less e x _ n'.1 h1) (Rps.less e xs _ n'.2 h2)
end
mutual
theorem Ro.less (e : ∀ b o, G1 b = some o → G2 b = some o ∨ Own bb o) : ∀ (t : OT) (v : V) (A : List Addr), noT bb t = true → Ro K G1 H t v A → Ro K G2 H t v A
  | .leaf p, _, _, n, h => by
    cases h with
    | leaf h => exact .leaf (Rp.less e p _ (by simpa [noT] using n) h)
  | .node ts, _, _, n, h => by
    cases h with
    | node h1 h2 h3 => exact .node h1 h2 (Ros.less e ts _ _ (by simpa [noT] using n) h3)
  | .ins c ns ts, _, _, n, h => by
    cases h with
    | ins h1 h2 h3 => exact .ins h1 h2 (Ros.less e ts _ _ (by simpa [noT] using n) h3)
theorem Ros.less (e : ∀ b o, G1 b = some o → G2 b = some o ∨ Own bb o) : ∀ (ts : List OT) (vs : List V) (A : List Addr), noTs bb ts = true → Ros K G1 H ts vs A → Ros K G2 H ts vs A
  | [], _, _, _, h => by cases h; exact .nil
  | t :: ts, _, _, n, h => by
    have n' : noT bb t = true ∧ noTs bb ts = true := by simpa [noTs] using n
    cases h with
    | cons h1 h2 => exact .cons (Ro.less e t _ _ n'.1 h1) (Ros.less e ts _ _ n'.2 h2)
end
end

/-! ### the call -/
def refPos : Nat → List Ar → List Nat
  | _, [] => []
  | k, .rf _ :: r => k :: refPos (k + 1) r
  | k, _ :: r => refPos (k + 1) r
def refIx : List Ar → List Nat
  | [] => []
  | .rf i :: r => i :: refIx r
  | _ :: r => refIx r
def backs : List Nat → List OT → Sl → Option Sl
  | [], [], S => some S
  | i :: is, t :: ts, S => if i < S.length then backs is ts (S.set i (some t)) else none
  | _, _, _ => none
theorem backs_ok {K : PySem.W.Frag} {P : Pm} {σ : L2.St} {H : Hp} {tmp : Tm} : ∀ {is : List Nat} {os : List OT} {ws : List V} {S S' : Sl}, Sim K P σ H S (os.zip ws ++ tmp) → backs is os S = some S' → os.length = ws.length → (∀ (k i : Nat) (w : V), is[k]? = some i → ws[k]? = some w → σ[i]? = some (some w)) → Sim K P σ H S' tmp
  | [], [], ws, S, S', s, e, _, _ => by
    cases e
    simpa using s
  | i :: is, t :: ts, w :: ws, S, S', s, e, hl, hv => by
    unfold backs at e
    split at e
    · rename_i hi
      exact backs_ok (Sim.back (tmp := ts.zip ws ++ tmp) s hi (hv 0 i w rfl rfl)) e (by simpa using hl) (fun k j w a b => hv (k + 1) j w a b)
    · cases e
  | [], _ :: _, _, _, _, _, e, _, _ => by cases e
  | _ :: _, [], _, _, _, _, e, _, _ => by cases e
  | _ :: _, _ :: _, [], _, _, _, _, hl, _ => by simp at hl
theorem refs_at {σ : L2.St} {as : List Ar} {vs : List V} (ro : RefOk σ as vs) : ∀ (pre : List V), (refIx as).length = (refPos pre.length as).length ∧ ∀ (k i : Nat) (w : V), (refIx as)[k]? = some i → (sel (refPos pre.length as) (pre ++ vs))[k]? = some w → σ[i]? = some (some w) := by
  induction ro with
  | nil => exact fun pre => ⟨rfl, fun k i w a _ => by simp [refIx] at a⟩
  | @vl t v r vs ro ih =>
    intro pre
    have z := ih (pre ++ [v])
    simpa [refIx, refPos] using z
  | @bo i v r vs ev ro ih =>
    intro pre
    have z := ih (pre ++ [v])
    simpa [refIx, refPos] using z
  | @rf i v r vs ev ro ih =>
    intro pre
    obtain ⟨z1, z2⟩ := ih (pre ++ [v])
    have e1 : (pre ++ [v]).length = pre.length + 1 := by simp
    rw [e1] at z1 z2
    refine ⟨by simp [refIx, refPos, z1], fun k j w a b => ?_⟩
    cases k with
    | zero =>
      have ej : i = j := by simpa [refIx] using a
      subst ej
      have ew : v = w := by
        have b' : (some (((pre ++ v :: vs)[pre.length]?).getD V.non) : Option V) = some w := b
        rw [List.getElem?_append_right (Nat.le_refl _), Nat.sub_self] at b'
        exact Option.some.inj b'
      subst ew
      exact ev
    | succ k =>
      refine z2 k j w (by simpa [refIx] using a) ?_
      have b' : (sel (refPos (pre.length + 1) r) (pre ++ v :: vs))[k]? = some w := by simpa [refPos, sel] using b
      simpa using b'
def callM (n : Nat) (bi : List Nat) (run : List OT → FR) (as : List Ar) (S : Sl) : Out OT :=
  if as.length = n ∧ refPos 0 as = bi then
    match resolve as S with
    | none => .stuck
    | some (ts, S1) => match run ts with
      | .ok r os => if (!hasBo as || (noT (okS S1) r && noTs (okS S1) os)) = true then (match backs (refIx as) os S1 with
        | some S2 => .ok r S2
        | none => .stuck) else .stuck
      | .err x os => if (!hasBo as || (noPs (okS S1) x.xs && noTs (okS S1) os)) = true then (match backs (refIx as) os S1 with
        | some S2 => .err x S2
        | none => .stuck) else .stuck
      | .stuck => .stuck
  else .stuck
def eCall (n : Nat) (bi : List Nat) (run : List OT → FR) (mr : MR) : ME := fun S => (mr S).bind fun as S1 => callM n bi run as S1
/-- the caller's things behind a call -/
theorem call_back {K : PySem.W.Frag} {P : Pm} {σ : L2.St} {H H' G G' Gc : Hp} {S1 : Sl} {tmp : Tm} {A B1 B2 A' Ar Fz : List Addr} {ws : List V} {outs : List OT} {l : Tm}
    (kp : Kp P.M P.H0 H) (by_ : ∀ p ∈ P.B, σ[p.1]? = some (some p.2)) (g0 : Gm P G) (le : Same G H) (rs : Rsl K G H S1 σ A) (rt : Ros K G H (tmp.map (·.1)) (tmp.map (·.2)) B2) (nd : (A ++ (B1 ++ B2)).Nodup) (fr : ∀ a ∈ A ++ (B1 ++ B2), G a = none ∧ Mine P a)
    (hF : Fz = [] ∧ Gc = G ∨ Fz = A ∧ Gc = frzG G H A) (R : Ret K P.T ws B1 Gc H G' H' outs A' Ar) (hlo : outs.length = ws.length)
    (ro : ∀ G2, (∀ b o, G' b = some o → G2 b = some o ∨ (b ∈ Fz ∧ Own (okS S1) o)) → Ros K G2 H' outs ws A' ∧ Ros K G2 H' (l.map (·.1)) (l.map (·.2)) Ar) :
    Sim K P σ H' S1 (outs.zip ws ++ (l ++ tmp)) := by
  obtain ⟨gg, nt, gm, gh, kp', tb', out, nd', fr'⟩ := R
  have hG : Same G Gc := by
    rcases hF with ⟨_, e⟩ | ⟨_, e⟩
    · rw [e]; exact Same.refl _
    · rw [e]; exact frzG_same le
  have nB : ∀ a, a ∈ A ∨ a ∈ B2 → a ∉ B1 := fun a ha => nd_out nd (by rcases ha with z | z <;> simp [z])
  have lstA : ∀ a, a ∈ A ∨ a ∈ B2 → ∃ o, H a = some o ∧ ∀ ps, o ≠ .tbl ps := fun a ha => by
    rcases ha with z | z
    · obtain ⟨o, h, w⟩ := rsl_at rs a z
      exact ⟨o, h, w.nt⟩
    · obtain ⟨o, h, w⟩ := ros_at _ _ _ rt a z
      exact ⟨o, h, w.nt⟩
  have keep : ∀ a, a ∈ A ∨ a ∈ B2 → H' a = H a := fun a ha => by
    obtain ⟨o, e, nt⟩ := lstA a ha
    rw [e]
    exact kp' a _ e nt (nB a ha)
  -- what is frozen then
  let G2 : Hp := fun b => if b ∈ Fz then none else G' b
  have g2le : Same G2 G' := fun b o q => by
    have q' : (if b ∈ Fz then none else G' b) = some o := q
    split at q'
    · cases q'
    · exact q'
  have FzA : ∀ b ∈ Fz, b ∈ A := fun b hb => by
    rcases hF with ⟨e, _⟩ | ⟨e, _⟩
    · rw [e] at hb; simp at hb
    · rw [e] at hb; exact hb
  have GG2 : Same G G2 := fun b o q => by
    show (if b ∈ Fz then none else G' b) = some o
    rw [if_neg (fun z => by
      have := (fr b (List.mem_append_left _ (FzA b z))).1
      rw [q] at this
      cases this)]
    exact gg b o (hG b o q)
  obtain ⟨ro1, ro2⟩ := ro G2 fun b o q => by
    by_cases hb : b ∈ Fz
    · right
      refine ⟨hb, ?_⟩
      obtain ⟨o', e, w⟩ := rsl_at rs b (FzA b hb)
      have := gh b o q
      rw [keep b (.inl (FzA b hb)), e] at this
      rw [← Option.some.inj this]
      exact w
    · left
      show (if b ∈ Fz then none else G' b) = some o
      rw [if_neg hb]
      exact q
  have mineB : ∀ a ∈ B1, Mine P a := fun a ha => (fr a (by simp [ha])).2
  have kp2 : Kp P.M P.H0 H' := fun b o q nt nm => by
    have e := kp b o q nt nm
    refine kp' b o e nt fun hb => ?_
    rcases mineB b hb with z | z
    · exact nm z
    · obtain ⟨ps, z⟩ := z o q
      exact nt ps z
  have mineR : ∀ a, (a ∈ B1 ∨ ∀ o, H a = some o → ∃ ps, o = .tbl ps) → Mine P a := fun a ha => by
    rcases ha with z | z
    · exact mineB a z
    · by_cases hm : a ∈ P.M
      · exact .inl hm
      · refine .inr fun o q => ?_
        by_cases ht : ∃ ps, o = .tbl ps
        · exact ht
        · exact z o (kp a o q (fun ps z => ht ⟨ps, z⟩) hm)
  have apart : ∀ a ∈ A' ++ Ar, a ∉ A ∧ a ∉ B2 := fun a ha => by
    have h := (fr' a ha).2
    have no : ¬ (a ∈ A ∨ a ∈ B2) := fun z => by
      rcases h with q | q
      · exact nB a z q
      · obtain ⟨o, e, nt⟩ := lstA a z
        obtain ⟨ps, e2⟩ := q _ e
        exact nt ps e2
    exact ⟨fun z => no (.inl z), fun z => no (.inr z)⟩
  have gnone : ∀ a, a ∈ A ∨ a ∈ B2 → G2 a = none := fun a ha => by
    show (if a ∈ Fz then none else G' a) = none
    by_cases hb : a ∈ Fz
    · rw [if_pos hb]
    · rw [if_neg hb]
      cases q : G' a with
      | none => rfl
      | some o =>
        exfalso
        rcases gm a o q with z | z | z
        · have hn : G a = none := (fr a (by rcases ha with y | y <;> simp [y])).1
          rcases hF with ⟨_, e⟩ | ⟨e1, e⟩
          · rw [e, hn] at z; cases z
          · rw [e, frzG_out (by rw [← e1]; exact hb), hn] at z; cases z
        · exact nB a ha z
        · obtain ⟨o, e, nt⟩ := lstA a ha
          obtain ⟨ps, e2⟩ := z _ e
          exact nt ps e2
  refine ⟨⟨G2, A, A' ++ (Ar ++ B2), ⟨g0.1.trans GG2, fun b o q => ?_, fun b ps q => nt b ps (g2le b _ q)⟩, g2le.trans gh, rs.mono GG2 fun a ha => keep a (.inl ha), ?_, ?_, fun a ha => ?_⟩, kp2, tb', by_⟩
  · have q' := g2le b o q
    have nF : b ∉ Fz := fun hb => by
      have z : (if b ∈ Fz then none else G' b) = some o := q
      rw [if_pos hb] at z
      cases z
    rcases gm b o q' with z | z | z
    · rcases hF with ⟨_, e⟩ | ⟨e1, e⟩
      · rw [e] at z; exact g0.2 b o z
      · rw [e, frzG_out (by rw [← e1]; exact nF)] at z; exact g0.2 b o z
    · exact .inr (mineB b z)
    · exact .inr (mineR b (.inr z))
  · refine ros_join ?_ (ros_join ro2 (Ros.mono GG2 _ _ _ (fun a ha => keep a (.inr ha)) rt))
    rw [zip_fst hlo, zip_snd hlo]
    exact ro1
  · obtain ⟨n1, n2, n3⟩ := List.nodup_append.mp nd
    have n4 := (List.nodup_append.mp n2).2.1
    have e : A ++ (A' ++ (Ar ++ B2)) = A ++ ((A' ++ Ar) ++ B2) := by simp
    rw [e]
    refine List.nodup_append.mpr ⟨n1, List.nodup_append.mpr ⟨nd', n4, fun a ha b hb z => ?_⟩, fun a ha b hb z => ?_⟩
    · subst z
      exact (apart a ha).2 hb
    · subst z
      rcases List.mem_append.mp hb with y | y
      · exact (apart a y).1 ha
      · exact n3 a ha a (by simp [y]) rfl
  · have hc : a ∈ A ∨ a ∈ A' ++ Ar ∨ a ∈ B2 := by
      simp only [List.mem_append] at ha ⊢
      rcases ha with z | z | z | z <;> simp [z]
    rcases hc with z | z | z
    · exact ⟨gnone a (.inl z), (fr a (by simp [z])).2⟩
    · obtain ⟨f1, f2⟩ := fr' a z
      refine ⟨?_, mineR a f2⟩
      show (if a ∈ Fz then none else G' a) = none
      split
      · rfl
      · exact f1
    · exact ⟨gnone a (.inr z), (fr a (by simp [z])).2⟩
theorem call_sp {K : PySem.W.Frag} {P : Pm} {W : WX} {σ : L2.St} {H : Hp} {S : Sl} {tmp : Tm} {Q : VK} {n : Nat} {bi : List Nat} {run : List OT → FR} {as : List Ar} {vs : List V} (ro : RefOk σ as vs) (s : Sim K P σ H S (tms as vs ++ tmp)) (h : PoE K P W σ tmp Q (callM n bi run as S)) :
    spM K P.T n bi run vs H Q (WE W σ) := by
  unfold callM at h
  split at h
  · rename_i hn
    obtain ⟨hn, hbi⟩ := hn
    cases e1 : resolve as S with
    | none => rw [e1] at h; exact h.elim
    | some z =>
      obtain ⟨ts, S1⟩ := z
      rw [e1] at h
      obtain ⟨tm, ar, s1⟩ := resolve_ok ro e1 s
      obtain ⟨⟨G, A, B, g0, le, rs, rB, nd, fr⟩, kp, tb, by_⟩ := id s1
      obtain ⟨B1, B2, rfl, q1, q2⟩ := ros_app rB
      have hrl := (refs_at ro []).1
      have hra := (refs_at ro []).2
      have hsel : sel bi vs = sel (refPos ([] : List V).length as) ([] ++ vs) := by rw [← hbi]; rfl
      have lsel : (refIx as).length = (sel bi vs).length := by
        rw [hsel, hrl]
        simp [sel]
      -- frozen for the callee
      obtain ⟨Fz, Gc, hF, hbo⟩ : ∃ Fz Gc, (Fz = [] ∧ Gc = G ∨ Fz = A ∧ Gc = frzG G H A) ∧ (hasBo as = true → Fz = A ∧ Gc = frzG G H A) ∧ (hasBo as = false → Fz = [] ∧ Gc = G) := by
        cases hb : hasBo as with
        | true => exact ⟨A, frzG G H A, .inr ⟨rfl, rfl⟩, (fun _ => ⟨rfl, rfl⟩), (fun z => Bool.noConfusion z)⟩
        | false => exact ⟨[], G, .inl ⟨rfl, rfl⟩, (fun z => Bool.noConfusion z), (fun _ => ⟨rfl, rfl⟩)⟩
      have hG : Same G Gc := by
        rcases hF with ⟨_, e⟩ | ⟨_, e⟩
        · rw [e]; exact Same.refl _
        · rw [e]; exact frzG_same le
      have hGH : Same Gc H := by
        rcases hF with ⟨_, e⟩ | ⟨_, e⟩
        · rw [e]; exact le
        · rw [e]; exact frzG_le le
      have rts := argr_ros hG rs ar (B := B1) (fun hb a ha => by
        rw [(hbo.1 hb).2]
        exact frzG_at ha) q1
      have ndB1 : B1.Nodup := (List.nodup_append.mp (List.nodup_append.mp nd).2.1).1
      have noG : ∀ a ∈ B1, Gc a = none := fun a ha => by
        have hn := (fr a (by simp [ha])).1
        rcases hF with ⟨_, e⟩ | ⟨_, e⟩
        · rw [e]; exact hn
        · rw [e, frzG_out (fun z => (List.nodup_append.mp nd).2.2 a z a (by simp [ha]) rfl)]
          exact hn
      have hntc : NT Gc := by
        rcases hF with ⟨_, e⟩ | ⟨_, e⟩
        · rw [e]; exact g0.3
        · rw [e]; exact (g0.frz le (fun a ha => (fr a (by simp [ha])).2) (rsl_at rs)).3
      refine ⟨Gc, ts, B1, by rw [← ro.len]; exact hn, hntc, hGH, rts, ndB1, noG, tb, ?_⟩
      dsimp only at h
      cases er : run ts with
      | stuck => rw [er] at h; exact h
      | ok r os =>
        rw [er] at h
        dsimp only at h ⊢
        intro v H' G' A' Ar R rr
        split at h
        · rename_i hno
          cases eb : backs (refIx as) os S1 with
          | none => rw [eb] at h; exact h.elim
          | some S2 =>
            rw [eb] at h
            have hlo : os.length = (sel bi vs).length := R.out.len
            have z := call_back (l := [(r, v)]) kp by_ g0 le rs q2 nd fr hF R hlo (fun G2 hg2 => by
              cases hb : hasBo as with
              | false =>
                obtain ⟨eF, _⟩ := hbo.2 hb
                have e2 : Same G' G2 := fun b o q => by
                  rcases hg2 b o q with y | ⟨y, _⟩
                  · exact y
                  · rw [eF] at y; simp at y
                exact ⟨Ros.mono e2 _ _ _ (fun _ _ => rfl) R.out, by
                  have y := Ros.cons (Ro.mono e2 _ _ _ (fun _ _ => rfl) rr) Ros.nil
                  rw [List.append_nil] at y
                  exact y⟩
              | true =>
                have hno' : noT (okS S1) r = true ∧ noTs (okS S1) os = true := by simpa [hb] using hno
                have e2 : ∀ b o, G' b = some o → G2 b = some o ∨ Own (okS S1) o := fun b o q => (hg2 b o q).imp id fun y => y.2
                exact ⟨Ros.less e2 _ _ _ hno'.2 R.out, by
                  have y := Ros.cons (Ro.less e2 _ _ _ hno'.1 rr) Ros.nil
                  rw [List.append_nil] at y
                  exact y⟩)
            exact h v H' (backs_ok z eb hlo (fun k i w a b => hra k i w a (by rw [← hsel]; exact b)))
        · exact h.elim
      | err x os =>
        rw [er] at h
        dsimp only at h ⊢
        intro ws cls d H' G' A' R rx xa
        split at h
        · rename_i hno
          cases eb : backs (refIx as) os S1 with
          | none => rw [eb] at h; exact h.elim
          | some S2 =>
            rw [eb] at h
            have hlo : os.length = (sel bi vs).length := R.out.len
            have z := call_back (l := lf x.xs ws) kp by_ g0 le rs q2 nd fr hF R hlo (fun G2 hg2 => by
              rw [zip_fst (by simp [rx.len]), zip_snd (by simp [rx.len])]
              cases hb : hasBo as with
              | false =>
                obtain ⟨eF, _⟩ := hbo.2 hb
                have e2 : Same G' G2 := fun b o q => by
                  rcases hg2 b o q with y | ⟨y, _⟩
                  · exact y
                  · rw [eF] at y; simp at y
                exact ⟨Ros.mono e2 _ _ _ (fun _ _ => rfl) R.out, Ros.leaves (Rps.mono e2 _ _ rx)⟩
              | true =>
                have hno' : noPs (okS S1) x.xs = true ∧ noTs (okS S1) os = true := by simpa [hb] using hno
                have e2 : ∀ b o, G' b = some o → G2 b = some o ∨ Own (okS S1) o := fun b o q => (hg2 b o q).imp id fun y => y.2
                exact ⟨Ros.less e2 _ _ _ hno'.2 R.out, Ros.leaves (Rps.less e2 _ _ hno'.1 rx)⟩)
            have z2 := backs_ok z eb hlo (fun k i w a b => hra k i w a (by rw [← hsel]; exact b))
            have z3 : Sim K P σ H' S2 (lf x.xs ws) := Sim.drops (l := tmp) (z2.perm List.perm_append_comm)
            exact h ws cls d H' xa z3
        · exact h.elim
  · exact h.elim
section
variable {X : Cx} {P : Pm} {W : WX} {bi b2 : List Nat} {k nn : Nat} {f : Addr} {fd : FuncData} {ps : List Str} {run : List OT → FR} {mr : MR} {e : Expr} {es : List Expr}
theorem run_g {sp : Sp} {pins : List (Addr × Obj)} {σ : L2.St} {H : Hp} {s : Shared} {Q : VK} {args : Args} {us : List Value} {vs : List V} {rp : Bool} (F : FnG rp X.prog X.w X.K X.mg X.base k f fd ps sp) (hrp : rp = true → P.rp = true) (g : Gd P W bi nn X) (hk : k ≤ nn) (hb : BindsTo s fd args (ps.zip us))
    (I : Inv X pins σ H s) (r : Vals vs us) (h : sp vs H Q (WE W σ)) (pos : List Value) (kw : List (Str × Value)) (ea : args = ⟨pos, kw⟩) : wpAny (model X.prog X.w) X.A (call (.ref f) pos kw) (EP X pins σ Q) X.xe s := by
  subst ea
  refine wpAny_call (codeAny_mono (F.run X.A X.stack s H _ us vs Q (WE W σ) (g.room.mono hk) (fun z => g.gu (hrp z)) I.env0 hb r h) fun z s2 hz => ?_)
  match z, hz with
  | .error er, hz => exact g.pass σ pins H s er s2 I hz
  | .ok (.ret u), hz => exact I.after hz
  | .ok .next, hz => exact hz.elim
  | .ok .brk, hz => exact hz.elim
  | .ok .cont, hz => exact hz.elim
/-- f(e, ..) -/
theorem em_call (g : Gd P W bi nn X) {x : Str} {p pos : Pos} {T : List (Addr × Str)} {rp : Bool} (F : FnG rp X.prog X.w X.K X.mg X.base k f fd ps (spM X.K T ps.length b2 run)) (hrp : rp = true → P.rp = true) (hT : P.T = T) (hk : k ≤ nn) (hg : Gl X x) (hm : X.mg x = some (.ref f)) (kp : PySem.W.keepIn X.K (.ref f) = true) (hb : Binds X.K fd ps [])
    (ha : RM X P W (e :: es) mr) (hdb : (x == ("__debug__" : Str)) = false := by decide) (he : starEach (e :: es) X.env = (false, eval e X.env) :: starEach es X.env := by rfl) (hpl : (backTo pos (starEach es X.env)).any (·.1) = false := by rfl) :
    EM X P W (.Call (.Name x p) (e :: es) [] pos) (eCall ps.length b2 run mr) := by
  refine ⟨fun pins s σ H Q I h => ?_⟩
  obtain ⟨S, tmp, sm, h⟩ := h
  refine wpAny_Call_Name_kw (ld_glob I hg hm ?_ hdb)
  refine PySem.W.callWith_K (h₀ := X.base) I.ok.mod.kin kp (thn (ha.run pos pins s σ H (fun vs H1 => spM X.K P.T ps.length b2 run vs H1 Q (WE W σ)) I ⟨S, tmp, sm, ?_⟩) fun us s1 hz => ?_) he hpl
  · unfold eCall at h
    cases hm2 : mr S with
    | stuck => rw [hm2] at h; exact h
    | err z S1 => rw [hm2] at h; exact h
    | ok as S1 =>
      rw [hm2] at h
      exact fun vs H1 ro s1 => call_sp ro s1 h
  · obtain ⟨vs, H1, I1, r, q⟩ := hz
    refine ⟨I1.kIn, ?_⟩
    rw [hT] at q
    have hl : us.length = ps.length := by rw [← r.length]; exact F.len _ _ _ _ q
    have bd := hb s1 us I1.kIn (by rw [List.append_nil]; exact hl)
    rw [List.append_nil] at bd
    exact run_g F hrp g hk bd I1 r q us [] rfl
end
end Fy

namespace Fy
open PySem PySem.Spec PyProof.Rows L2

/-! ### enumerate over a tuple -/
set_option maxHeartbeats 1000000 in
theorem meets_enum1 {v : Value} {o : Obj} {Hc : Heap → Prop} (Bg : Begins v o Hc) : Meets (Builtin.«enumerate.__new__» ⟨[.type "enumerate", v], []⟩) (fun _ R s => Hc s.heap ∧
      R (.ok (.ret (.ref (s.heap.push o).objs.size))) { s with heap := (s.heap.push o).push { cls := .type "enumerate", data := .fields #[.none, .bool false, .ref s.heap.objs.size, rawInt 0, .none, .none] } }) :=
  .of_wp fun pr wo Ar Rs st hx => by
    obtain ⟨h0, g0, d0, t0, o0⟩ := st
    obtain ⟨hh, hr⟩ := hx
    have hsub := sub_enumerate
    have step : ∀ {A' : Around} {E : Value → Shared → Prop} {Q : Value → Shared → Prop}, Q (.ref h0.objs.size) ⟨h0.push o, g0, d0, t0, o0⟩ → wpAny (model pr wo) A' (pyIter v) Q E ⟨h0, g0, d0, t0, o0⟩ := fun q => Bg.iter pr wo _ _ ⟨h0, g0, d0, t0, o0⟩ _ hh q
    wp_walk using step
    refine wpAny_stack_any fun _ => wpAny_pure ?_
    split
    · rename_i c _ _ _ _ _
      cases (c == Value.type "enumerate") <;> (wp_walk using step; exact ⟨_, rfl, hr⟩)
    · wp_walk using step
      exact ⟨_, rfl, hr⟩
theorem call_enum1 {prog : Program} {w : World} {A : Around} {E : Value → Shared → Prop} {s : Shared} {v : Value} {o : Obj} {Hc : Heap → Prop} {Q : Value → Shared → Prop} (Bg : Begins v o Hc) (h1 : Hc s.heap)
    (k : ∀ h', IsEnum h' (s.heap.objs.size + 1) s.heap.objs.size 0 .none → h'.get? s.heap.objs.size = some o → h'.objs.size = s.heap.objs.size + 2 → (∀ b u, s.heap.get? b = some u → h'.get? b = some u) → Q (.ref (s.heap.objs.size + 1)) { s with heap := h' }) :
    wpAny (model prog w) A (call (.type "enumerate") [v]) Q E s := by
  refine callType_new F.called_enumerate (by decide) (F.typeCall_enumerate_1 _) (F.newCall_enumerate_1 _) (fun ob => F.args_object_init_2 ob _) F.entry_enumerate_new (meets_enum1 Bg) ⟨h1, ?_⟩
  have hz : (s.heap.push o).objs.size = s.heap.objs.size + 1 := Heap.size_push ..
  show _ ∧ _
  rw [hz]
  have he : IsEnum ((s.heap.push o).push { cls := .type "enumerate", data := .fields #[.none, .bool false, .ref s.heap.objs.size, rawInt 0, .none, .none] }) (s.heap.objs.size + 1) s.heap.objs.size 0 .none := by
    have z := Heap.get?_push_size (s.heap.push o) (o := { cls := .type "enumerate", data := .fields #[.none, .bool false, .ref s.heap.objs.size, rawInt 0, .none, .none] }) rfl
    rw [hz] at z
    exact z
  exact ⟨⟨_, he, rfl⟩, k _ he (Heap.get?_push_of_some _ (Heap.get?_push_size _ Bg.free)) (by rw [Heap.size_push, hz]) fun b u q => Heap.get?_push_of_some _ (Heap.get?_push_of_some _ q)⟩
def IteT (K : PySem.W.Frag) (a : Addr) : It :=
  ⟨fun i H => ∃ (xs : List V) (x : V), SqT K H a xs ∧ xs[i]? = some x, fun i H v H' => ∃ T x, v = .ref T ∧ H T = none ∧ H' = upd H T (.tup [.int (i : Nat), x]) ∧ ∀ xs, SqT K H a xs → xs[i]? = some x, fun i H => ∃ xs : List V, SqT K H a xs ∧ xs.length ≤ i⟩
theorem turn_enumT {P : Program} {w : World} {K : PySem.W.Frag} {elts : List Expr} {kk : Nat} {tpos : Pos} (a e it : Addr) :
    Turn P w K (.Tuple elts kk tpos) (IteT K a) [e, it] e (fun i h => (∃ old, IsEnum h e it ((i : Nat) : Int) old) ∧ h.IsTupleIter it a i ∧ e ≠ it ∧ a ≠ it ∧ a ≠ e) where
  mem := by simp
  obj := fun i h st b hb => by
    obtain ⟨⟨old, he⟩, ⟨o, ho, hc, hd⟩, _⟩ := st
    have eb : b = e ∨ b = it := by simpa using hb
    rcases eb with z | z
    · rw [z]; exact ⟨_, he, fun v q => nomatch q⟩
    · rw [z]; exact ⟨o, ho, fun v q => by rw [hd] at q; cases q⟩
  keep := fun i h h' st k => let ⟨⟨old, he⟩, hi, hne, hn2⟩ := st; ⟨⟨old, k e (by simp) _ he⟩, hi.at fun o q => k it (by simp) o q, hne, hn2⟩
  item := by
    intro X hP hw hK hc i pins s σ H E I hf st hg
    subst hP hw hK
    obtain ⟨⟨old, he⟩, hit, hne, nai, nae⟩ := st
    obtain ⟨xs, x, hq, hx⟩ := hg
    obtain ⟨its, rv, p, hz⟩ := I.tuple hq
    obtain ⟨u, hu, ru⟩ := rv.get hx
    have hel : e < s.heap.objs.size := Heap.lt_size he
    have hil : it < s.heap.objs.size := by obtain ⟨_, q, _⟩ := hit; exact Heap.lt_size q
    have D : Draws X.prog X.w X.A.in1 it [it, a] its.toArray.size (fun i v => its.toArray[i]? = some v) (fun i h => h.IsTupleIter it a i ∧ h.IsTuple a its.toArray) := Draws.tuple (show X.A.in1.handled = none from I.ok.hd hc) it a nai its.toArray
    have hlt : i < its.toArray.size := by
      have := (List.getElem?_eq_some_iff.mp hu).1
      simpa using this
    refine wpAny_pyNext_enum_itemD D he ⟨hit, p⟩ hlt hne (by simp [hne, Ne.symm nae]) fun y h' tk hy ho hit' hT hsz hk => ?_
    have hyu : y = u := by
      have z : its.toArray[i]? = some u := by simpa using hu
      rw [z] at hy
      exact (Option.some.inj hy).symm
    subst hyu
    refine ⟨_, rfl, wpAny_letOwnedTupleGo_enum (s := { s with heap := h', toks := tk + 1 }) ho fun h'' he' sb => ?_⟩
    have hT2 : h''.get? s.heap.objs.size = some { cls := .type "tuple", data := .seq #[.int i tk, y] } := (sb.2 _ (Nat.ne_of_gt hel)).trans hT
    have new : ObjOk X.prog X.w (upd H s.heap.objs.size (.tup [.int (i : Nat), x])) h'' s.heap.objs.size (.tup [.int (i : Nat), x]) :=
      ⟨by show 2 ≤ sizeLine; decide, [.int i tk, y], .cons ⟨_, rfl⟩ (.cons ru .nil), ⟨_, hT2, rfl, _, rfl⟩⟩
    have I1 : Inv X pins σ (upd H s.heap.objs.size (.tup [.int (i : Nat), x])) { s with heap := h'', toks := tk + 1 } :=
      I.turnedNew (ch := [e, it]) (fun b ob hb q => (sb.2 b (fun z => hb (by simp [z]))).trans (hk b ob (fun z => hb (by simp [z])) (fun z => hb (by simp [z])) q)) hf (Nat.le_refl _) new
    refine ⟨.ref s.heap.objs.size, _, I1, rfl, ⟨_, x, rfl, I.hok.fresh (Nat.le_refl _), rfl, fun ys hy => by rw [I.tuple_inj hy hq]; exact hx⟩, ⟨⟨y, ?_⟩, hit'.1.at fun o q => (sb.2 it (Ne.symm hne)).trans q, hne, nai, nae⟩, fun b hb => ?_⟩
    · have e1 : ((i + 1 : Nat) : Int) = (i : Int) + 1 := by omega
      rw [e1]; exact he'
    · have hb' : b < s.heap.objs.size := by
        have eb : b = e ∨ b = it := by simpa using hb
        rcases eb with z | z
        · rw [z]; exact hel
        · rw [z]; exact hil
      rw [upd_ne (Nat.ne_of_lt hb')]
      exact (hf b hb).1
  done := by
    intro X hP hw hK hc i pins s σ H E I hf st hg
    subst hP hw hK
    obtain ⟨⟨old, he⟩, hit, hne, nai, nae⟩ := st
    obtain ⟨xs, hq, hx⟩ := hg
    obtain ⟨its, rv, p, hz⟩ := I.tuple hq
    obtain ⟨f0, f1, f2, f3, f4, f5⟩ := hf it (by simp)
    have hl := rv.length
    have D : Draws X.prog X.w X.A.in1 it [it, a] i (fun _ _ => True) (fun j h => j = i ∧ h.IsTupleIter it a j ∧ h.IsTuple a its.toArray) :=
      ⟨fun _ _ st => let ⟨o, ho, _⟩ := st.2.1; ⟨o, ho⟩, fun _ _ _ st hk => ⟨st.1, st.2.1.at fun o e => hk it (by simp) o e, st.2.2.at fun o e => hk a (by simp) o e⟩, fun j s' Q' E' hj st' hQ' => absurd st'.1 (Nat.ne_of_lt hj),
        fun s' Q' E' st' hE' => wpAny_nextOf_tuple_end (show X.A.in1.handled = none from I.ok.hd hc) st'.2.1 st'.2.2 (by simp; omega) hE'⟩
    exact wpAny_pyNext_enum_endD D he ⟨rfl, hit, p⟩ fun h' eb => ⟨rfl, I.turned (t' := s.toks) (fun b o hb q => eb b o hb q) f0 f1 f3 f4 f5⟩
  self := fun A i s Q E st h => let ⟨⟨_, he⟩, _⟩ := st; wpAny_pyIter_enum he h
/-- enumerate(e): a list or a tuple -/
def iEnumA (K : PySem.W.Frag) (ta : TA) : TI := fun σ H R => ta σ H fun vs H1 => ∃ a xs, vs = [.ref a] ∧ ((SqL K H1 a xs ∧ R (Ite K a) H1) ∨ (SqT K H1 a xs ∧ R (IteT K a) H1))
theorem pi_enumA {X : Cx} {e : Expr} {ta : TA} {p pos tpos : Pos} {elts : List Expr} {kk : Nat} (hg : Gl X "enumerate") (hm : X.mg "enumerate" = none) (ha : PA X [e] ta) (hs : starEach [e] X.env = [(false, eval e X.env)] := by rfl) :
    PI X (.Tuple elts kk tpos) (.Call (.Name "enumerate" p) [e] [] pos) (iEnumA X.K ta) := by
  refine ⟨fun pins s σ H R I h => ?_⟩
  refine Call_ (ld_blt I hg hm boot_enumerate (PyProof.Rows.callWith_type1 (thn (ha.run pos pins s σ H _ I h) fun us s1 hz => ?_) hs rfl))
  obtain ⟨vs, H1, I1, r1, a, xs, ex, q⟩ := hz
  subst ex
  cases r1 with
  | cons r rr =>
    cases rr
    cases r
    have fp : ∀ b, b ∈ [s1.heap.objs.size + 1, s1.heap.objs.size] → FpOk X pins H1 b := fun b hb => by
      have eb : b = s1.heap.objs.size + 1 ∨ b = s1.heap.objs.size := by simpa using hb
      have hle : s1.heap.objs.size ≤ b := by
        rcases eb with z | z
        · rw [z]; exact Nat.le_add_right _ _
        · rw [z]; exact Nat.le_refl _
      exact I1.fpOk hle (I1.hok.fresh hle)
    rcases q with ⟨hq, q⟩ | ⟨hq, q⟩
    · obtain ⟨its, rv, pl, hz⟩ := I1.list hq
      refine call_enumerate_list pl.isList fun h' he hit hsz hk => wpAny_pyIter_enum he ?_
      exact ⟨s1.heap.objs.size + 1, [s1.heap.objs.size + 1, s1.heap.objs.size], _, _, H1, rfl, I1.kept (t' := s1.toks) hk, turn_enum a (s1.heap.objs.size + 1) s1.heap.objs.size, ⟨⟨.none, he⟩, hit, Nat.succ_ne_self _⟩, fp, q⟩
    · obtain ⟨its, rv, pl, hz⟩ := I1.tuple hq
      have pl' : s1.heap.IsTuple a its.toArray := pl
      have hlt : a < s1.heap.objs.size := by obtain ⟨o, e, _⟩ := pl; exact Heap.lt_size e
      refine call_enum1 (begins_tuple a its.toArray) pl' fun h' he hit hsz hk => wpAny_pyIter_enum he ?_
      exact ⟨s1.heap.objs.size + 1, [s1.heap.objs.size + 1, s1.heap.objs.size], _, _, H1, rfl, I1.kept (t' := s1.toks) hk, turn_enumT a (s1.heap.objs.size + 1) s1.heap.objs.size, ⟨⟨.none, he⟩, ⟨_, hit, rfl, rfl⟩, Nat.succ_ne_self _, Nat.ne_of_lt hlt, Nat.ne_of_lt (Nat.lt_succ_of_lt hlt)⟩, fp, q⟩
/-- e: a list or a tuple -/
def iSeqA (K : PySem.W.Frag) (tl : TE) : TI := fun σ H R => tl σ H fun x H1 => ∃ a xs, x = .ref a ∧ ((SqL K H1 a xs ∧ R (Itl K a) H1) ∨ (SqT K H1 a xs ∧ R (Itt K a) H1))
theorem pi_seqA {X : Cx} {tg l : Expr} {tl : TE} (hl : PE X l tl) : PI X tg l (iSeqA X.K tl) := by
  refine ⟨fun pins s σ H R I h => ?_⟩
  refine thn (hl.run pins s σ H _ I h) fun v s1 hz => ?_
  obtain ⟨x, H1, I1, r1, a, xs, ex, q⟩ := hz
  subst ex
  cases r1
  have fp : ∀ b, b ∈ [s1.heap.objs.size] → FpOk X pins H1 b := fun b hb => by
    have eb : b = s1.heap.objs.size := by simpa using hb
    rw [eb]
    exact I1.fpOk (Nat.le_refl _) (I1.hok.fresh (Nat.le_refl _))
  have kept := fun (o : Obj) => I1.kept (t' := s1.toks) (h' := s1.heap.push o) fun b u q => Heap.get?_push_of_some _ q
  rcases q with ⟨hq, q⟩ | ⟨hq, q⟩
  · obtain ⟨its, rv, pl, hz⟩ := I1.list hq
    exact wpAny_pyIter_list pl.isList ⟨s1.heap.objs.size, [s1.heap.objs.size], _, _, H1, rfl, kept _, turn_list a _, ⟨_, Heap.get?_push_size _ rfl, rfl, rfl⟩, fp, q⟩
  · obtain ⟨its, rv, pl, hz⟩ := I1.tuple hq
    exact wpAny_pyIter_tuple (show s1.heap.IsTuple a its.toArray from pl) ⟨s1.heap.objs.size, [s1.heap.objs.size], _, _, H1, rfl, kept _, turn_tuple a _, ⟨_, Heap.get?_push_size _ rfl, rfl, rfl⟩, fp, q⟩

/-! ### what is walked, by plain values -/
def seqOf : PV → Option (List PV)
  | .lst xs => some xs
  | .rls xs => some xs
  | .tup xs => some xs
  | _ => none
theorem seq_sq {K : PySem.W.Frag} {G : Hp} {p : PV} {v : V} {xs : List PV} (r : Rp K G p v) (h : seqOf p = some xs) : ∃ a vs, v = .ref a ∧ (SqL K G a vs ∨ SqT K G a vs) ∧ Rps K G xs vs ∧ vs.length ≤ sizeLine := by
  cases r with
  | tup h1 h2 h3 => cases h; exact ⟨_, _, rfl, .inr h1, h3, h2⟩
  | lst h1 h2 h3 => cases h; exact ⟨_, _, rfl, .inl (.inl (.inl h1)), h3, h2⟩
  | rls h1 h2 h3 => cases h; exact ⟨_, _, rfl, .inl h1, h3, h2⟩
  | _ => cases h
/-- what stands at an address is one thing -/
theorem sql_inj {K : PySem.W.Frag} {H : Hp} {a : Addr} {xs ys : List V} (h : H a = some (.lst xs)) (q : Rd H a (.lst ys)) : xs = ys := by
  rcases q with q | ⟨o, q⟩
  · rw [h] at q; cases q; rfl
  · rw [h] at q; cases q
end Fy

namespace Fy
open PySem PySem.Spec PyProof.Rows L2

/-! ### a list of one's own is changed -/
section
variable {K : PySem.W.Frag} {P : Pm} {σ : L2.St} {H : Hp} {S : Sl} {tmp : Tm}
theorem Sim.mod {l : Tm} {ts : List OT} {x : V} (s : Sim K P σ H S (l ++ (.node ts, x) :: tmp)) : ∃ a acc G Al At, x = .ref a ∧ H a = some (.lst acc) ∧ acc.length ≤ sizeLine ∧ Ros K G H ts acc At ∧ Ros K G H (l.map (·.1)) (l.map (·.2)) Al ∧ LamX.Tabs P.T H ∧
    ∀ us ws C C', Ros K G H us ws C → C.Perm C' → C'.Sublist (Al ++ At) → ws.length ≤ sizeLine → Sim K P σ (upd H a (.lst ws)) S ((.node us, .ref a) :: tmp) := by
  obtain ⟨⟨G, A, B, e0, e1, r1, r2, nd, fr⟩, kp, tb, by_⟩ := s
  obtain ⟨Al, B2, rfl, q1, q2⟩ := ros_app r2
  cases q2 with
  | @cons _ _ _ _ Aa Bt h1 h2 =>
    cases h1 with
    | @node a acc _ At ha hz hr =>
      refine ⟨a, acc, G, Al, At, rfl, ha, hz, hr, q1, tb, fun us ws C C' hu pc sc hw => ?_⟩
      have nd1 : (A ++ (Al ++ (a :: At ++ Bt))).Nodup := nd
      have fa : G a = none ∧ Mine P a := fr a (by simp)
      have pm : (A ++ (Al ++ (a :: At ++ Bt))).Perm (a :: (A ++ (Al ++ (At ++ Bt)))) := by
        refine List.Perm.trans (List.Perm.append_left A ?_) List.perm_middle
        exact List.perm_middle
      have nd2 : (a :: (A ++ (Al ++ (At ++ Bt)))).Nodup := pm.nodup nd1
      obtain ⟨na, nd3⟩ := List.nodup_cons.mp nd2
      have ne : ∀ b ∈ A ++ (Al ++ (At ++ Bt)), upd H a (.lst ws) b = H b := fun b hb => upd_ne (fun z => na (z ▸ hb))
      have cin : ∀ b ∈ C, b ∈ Al ++ At := fun b hb => sc.subset (pc.mem_iff.mp hb)
      have pA : (A ++ (a :: C' ++ Bt)).Perm (a :: (A ++ (C' ++ Bt))) := List.perm_middle
      have pA2 : (A ++ (a :: C ++ Bt)).Perm (A ++ (a :: C' ++ Bt)) := by
        refine List.Perm.append_left A (List.Perm.append_right Bt (List.Perm.cons a pc))
      have sA : (A ++ (C' ++ Bt)).Sublist (A ++ (Al ++ (At ++ Bt))) := by
        refine List.Sublist.append (List.Sublist.refl A) ?_
        rw [← List.append_assoc]
        exact List.Sublist.append sc (List.Sublist.refl Bt)
      refine ⟨⟨G, A, a :: C ++ Bt, e0, ?_, ?_, ?_, ?_, ?_⟩, ?_, tabs_lst ha tb, by_⟩
      · intro b o hb
        rw [upd_ne (fun z => by rw [z, fa.1] at hb; cases hb)]
        exact e1 b o hb
      · exact r1.mono (Same.refl _) fun b hb => ne b (by simp [hb])
      · refine .cons (.node upd_same hw (Ros.mono (Same.refl _) _ _ _ (fun b hb => ne b ?_) hu)) (Ros.mono (Same.refl _) _ _ _ (fun b hb => ne b (by simp [hb])) h2)
        have := cin b hb
        simp at this ⊢
        rcases this with z | z <;> simp [z]
      · exact (pA2.trans pA).symm.nodup (List.nodup_cons.mpr ⟨fun z => na (sA.subset z), nd3.sublist sA⟩)
      · intro b hb
        have hb2 := (pA2.trans pA).mem_iff.mp hb
        rcases List.mem_cons.mp hb2 with z | z
        · rw [z]; exact fa
        · exact fr b (pm.mem_iff.mpr (List.mem_cons_of_mem _ (sA.subset z)))
      · intro b o hb hn hm
        by_cases hba : b = a
        · subst hba
          rcases fa.2 with z | z
          · exact absurd z hm
          · obtain ⟨ps, e⟩ := z o hb
            exact absurd e (hn ps)
        · rw [upd_ne hba]
          exact kp b o hb hn hm
theorem ros_snoc {G : Hp} {ts : List OT} {acc : List V} {A B : List Addr} {t : OT} {v : V} (h : Ros K G H ts acc A) (r : Ro K G H t v B) : Ros K G H (ts ++ [t]) (acc ++ [v]) (A ++ B) := by
  have z : Ros K G H [t] [v] (B ++ []) := .cons r .nil
  rw [List.append_nil] at z
  exact h.app z
theorem Sim.push {t : OT} {v : V} {ts : List OT} {x : V} (s : Sim K P σ H S ((t, v) :: (.node ts, x) :: tmp)) : ∃ a acc, x = .ref a ∧ H a = some (.lst acc) ∧ acc.length = ts.length ∧ (ts.length < sizeLine → Sim K P σ (upd H a (.lst (acc ++ [v]))) S ((.node (ts ++ [t]), .ref a) :: tmp)) := by
  obtain ⟨a, acc, G, Al, At, ex, ha, hz, hr, hl, tb, f⟩ := Sim.mod (l := [(t, v)]) s
  refine ⟨a, acc, ex, ha, hr.len.symm, fun h => ?_⟩
  cases hl with
  | @cons _ _ _ _ A1 B1 h1 h2 =>
    cases h2
    refine f _ _ _ (A1 ++ [] ++ At) (ros_snoc hr h1) ?_ (List.Sublist.refl _) (by simp [← hr.len]; omega)
    simpa using List.perm_append_comm
theorem Sim.setAt {t : OT} {v : V} {ts : List OT} {x : V} (s : Sim K P σ H S ((t, v) :: (.node ts, x) :: tmp)) : ∃ a acc, x = .ref a ∧ H a = some (.lst acc) ∧ acc.length = ts.length ∧ ∀ j, j < ts.length → Sim K P σ (upd H a (.lst (acc.set j v))) S ((.node (ts.set j t), .ref a) :: tmp) := by
  obtain ⟨a, acc, G, Al, At, ex, ha, hz, hr, hl, tb, f⟩ := Sim.mod (l := [(t, v)]) s
  refine ⟨a, acc, ex, ha, hr.len.symm, fun j h => ?_⟩
  cases hl with
  | @cons _ _ _ _ A1 B1 h1 h2 =>
    cases h2
    obtain ⟨w, C1, Ct, C2, ew, rfl, rt, g⟩ := Ros.split (i := j) hr (List.getElem?_eq_getElem h)
    refine f _ _ _ (A1 ++ (C1 ++ C2)) (g G H t v A1 (Same.refl _) (fun _ _ => rfl) h1) ?_ ?_ (by simpa using hz)
    · rw [← List.append_assoc, ← List.append_assoc]
      exact List.perm_append_comm.append_right _
    · refine List.Sublist.append (by simp) (List.Sublist.append (List.Sublist.refl _) ?_)
      exact List.sublist_append_right Ct C2
end

/-! ### what is walked -/
section
variable {K : PySem.W.Frag} {P : Pm} {W : WX} {tmp : Tm}
/-- what stands on top of the pile, looked at -/
theorem Sim.peek {σ : L2.St} {H : Hp} {S : Sl} {p : PV} {v : V} (s : Sim K P σ H S ((.leaf p, v) :: tmp)) : ∃ G, Same G H ∧ Rp K G p v ∧ Left K P G σ H S ((.leaf p, v) :: tmp) := by
  obtain ⟨⟨G, A, B, e0, e1, r1, r2, nd, fr⟩, kp, tb, by_⟩ := id s
  cases r2 with
  | cons q1 q2 =>
    cases q1 with
    | leaf q1 => exact ⟨G, e1, q1, Left.of s (A := A) (B := _) ⟨e0, e1, r1, .cons (A := []) (.leaf q1) q2, nd, fr⟩⟩
theorem Sim.peek2 {σ : L2.St} {H : Hp} {S : Sl} {p q : PV} {v w : V} (s : Sim K P σ H S ((.leaf q, w) :: (.leaf p, v) :: tmp)) : ∃ G, Same G H ∧ Rp K G p v ∧ Rp K G q w ∧ Left K P G σ H S ((.leaf q, w) :: (.leaf p, v) :: tmp) := by
  obtain ⟨⟨G, A, B, e0, e1, r1, r2, nd, fr⟩, kp, tb, by_⟩ := id s
  cases r2 with
  | cons q1 q2 =>
    cases q1 with
    | leaf q1 =>
      cases q2 with
      | cons q2 q3 =>
        cases q2 with
        | leaf q2 => exact ⟨G, e1, q2, q1, Left.of s (A := A) (B := _) ⟨e0, e1, r1, .cons (A := []) (.leaf q1) (.cons (A := []) (.leaf q2) q3), nd, fr⟩⟩
/-- lists and tuples by one word: what stands at an address is a list, or a tuple -/
def SqAt (K : PySem.W.Frag) (tp : Bool) (G : Hp) (a : Addr) (vs : List V) : Prop := if tp = true then SqT K G a vs else SqL K G a vs
theorem SqAt.mono {tp : Bool} {G H : Hp} {a : Addr} {vs : List V} (e : Same G H) (h : SqAt K tp G a vs) : SqAt K tp H a vs := by
  unfold SqAt at *
  split at h
  · rename_i e1; rw [if_pos e1]; exact same_t e h
  · rename_i e1; rw [if_neg e1]; exact e.seq h
def tpOf : PV → Bool
  | .tup _ => true
  | _ => false
theorem rp_sq {G : Hp} {p : PV} {v : V} {xs : List PV} (h : seqOf p = some xs) (r : Rp K G p v) : ∃ a vs, v = .ref a ∧ SqAt K (tpOf p) G a vs ∧ Rps K G xs vs ∧ vs.length ≤ sizeLine := by
  cases r with
  | tup h1 h2 h3 => cases h; exact ⟨_, _, rfl, h1, h3, h2⟩
  | lst h1 h2 h3 => cases h; exact ⟨_, _, rfl, .inl (.inl h1), h3, h2⟩
  | rls h1 h2 h3 => cases h; exact ⟨_, _, rfl, h1, h3, h2⟩
  | _ => cases h
theorem wk_seq {p : PV} {a : Addr} {xs : List PV} (h : seqOf p = some xs) : Wk K P (if tpOf p = true then Itt K a else Itl K a) xs ((.leaf p, .ref a) :: tmp) := by
  have get : ∀ {σ H S}, Sim K P σ H S ((.leaf p, .ref a) :: tmp) → ∃ G vs, SqAt K (tpOf p) H a vs ∧ Rps K G xs vs ∧ Left K P G σ H S ((.leaf p, .ref a) :: tmp) := fun s => by
    obtain ⟨G, e, r, l⟩ := s.peek
    obtain ⟨b, vs, eb, h1, h2, _⟩ := rp_sq h r
    cases eb
    exact ⟨G, vs, h1.mono e, h2, l⟩
  unfold SqAt at get
  cases e : tpOf p with
  | true =>
    rw [if_pos rfl]
    simp only [e, if_pos] at get
    refine ⟨fun i σ H S hi s => ?_, fun σ H S s => ?_, fun i σ H S x H' p' hx s y => ?_⟩
    · obtain ⟨G, vs, h1, h2, _⟩ := get s
      obtain ⟨v, hv, _⟩ := Rps.get h2 (List.getElem?_eq_getElem hi)
      exact ⟨vs, v, h1, hv⟩
    · obtain ⟨G, vs, h1, h2, _⟩ := get s
      exact ⟨vs, h1, by rw [← h2.len]; exact Nat.le_refl _⟩
    · obtain ⟨G, vs, h1, h2, l⟩ := get s
      obtain ⟨eH, y⟩ := y
      subst eH
      obtain ⟨v, hv, rv⟩ := Rps.get h2 hx
      have z := y vs h1
      rw [hv] at z
      cases z
      exact l.val _ _ rv
  | false =>
    rw [if_neg (by decide)]
    simp only [e, if_neg (show ¬ (false = true) by decide)] at get
    refine ⟨fun i σ H S hi s => ?_, fun σ H S s => ?_, fun i σ H S x H' p' hx s y => ?_⟩
    · obtain ⟨G, vs, h1, h2, _⟩ := get s
      obtain ⟨v, hv, _⟩ := Rps.get h2 (List.getElem?_eq_getElem hi)
      exact ⟨vs, v, h1, hv⟩
    · obtain ⟨G, vs, h1, h2, _⟩ := get s
      exact ⟨vs, h1, by rw [← h2.len]; exact Nat.le_refl _⟩
    · obtain ⟨G, vs, h1, h2, l⟩ := get s
      obtain ⟨eH, y⟩ := y
      subst eH
      obtain ⟨v, hv, rv⟩ := Rps.get h2 hx
      have z := y vs h1
      rw [hv] at z
      cases z
      exact l.val _ _ rv
/-- for x in e -/
def mSeq (m : ME) : MI := fun S => (m S).bind fun t S1 => match seqOf (fz t) with
  | some xs => .ok xs S1
  | none => .stuck
theorem im_seq {X : Cx} {tg e : Expr} {m : ME} (he : EM X P W e m) : IM X P W tg e (mSeq m) := ⟨_, pi_seqA he, fun σ H R ⟨S, tmp, s, h⟩ => by
  refine ⟨S, tmp, s, ?_⟩
  unfold mSeq at h
  cases hm : m S with
  | stuck => rw [hm] at h; exact h
  | err x S1 => rw [hm] at h; exact h
  | ok t S1 =>
    rw [hm] at h
    intro v H1 s1
    have s2 := s1.frz1
    obtain ⟨G, eH, r, l⟩ := s2.peek
    cases e1 : seqOf (fz t) with
    | none => simp only [Out.bind, e1] at h
    | some xs =>
      simp only [Out.bind, e1] at h
      obtain ⟨a, vs, ev, h1, h2, _⟩ := rp_sq e1 r
      subst ev
      have z := h _ H1 [(.leaf (fz t), .ref a)] s2 (fun tl => wk_seq e1)
      refine ⟨a, vs, rfl, ?_⟩
      have h1 := h1.mono eH
      unfold SqAt at h1
      cases e2 : tpOf (fz t) with
      | true => rw [e2, if_pos rfl] at h1 z; exact .inr ⟨h1, z⟩
      | false => rw [e2, if_neg (by decide)] at h1 z; exact .inl ⟨h1, z⟩⟩
/-! ### what is walked, by the values of a call's arguments -/
def iN (f : List PV → Option (List PV)) (ma : MA) : MI := fun S => (ma S).bind fun ts S1 => match f (ts.map fz) with
  | some xs => .ok xs S1
  | none => .stuck
def OpI (K : PySem.W.Frag) (r : List V → Hp → (It → Hp → Prop) → Prop) (f : List PV → Option (List PV)) : Prop := ∀ (P : Pm) (G : Hp) (σ : L2.St) (H : Hp) (S : Sl) (tmp : Tm) (R : It → Hp → Prop) (ps : List PV) (vs : List V) (xs : List PV), f ps = some xs → Rps K G ps vs → Same G H → Sim K P σ H S (lf ps vs ++ tmp) →
  (∀ J tm, Sim K P σ H S (tm ++ tmp) → (∀ tl, Wk K P J xs (tm ++ tl)) → R J H) → r vs H R
theorem Sim.peekN {σ : L2.St} {H : Hp} {S : Sl} {ps : List PV} {vs : List V} (hl : ps.length = vs.length) (s : Sim K P σ H S (lf ps vs ++ tmp)) : ∃ G, Same G H ∧ Rps K G ps vs ∧ Left K P G σ H S (lf ps vs ++ tmp) := by
  obtain ⟨⟨G, A, B, e0, e1, r1, r2, nd, fr⟩, kp, tb, by_⟩ := id s
  obtain ⟨B1, B2, rfl, q1, q2⟩ := ros_app r2
  have q0 := q1
  rw [zip_fst (by simp [hl]), zip_snd (by simp [hl])] at q1
  obtain ⟨rfl, rp⟩ := Ros.ofLeaves q1
  exact ⟨G, e1, rp, Left.of s (A := A) (B := [] ++ B2) ⟨e0, e1, r1, r2, nd, fr⟩⟩
theorem t_iN {ma : MA} {r : List V → Hp → (It → Hp → Prop) → Prop} {f : List PV → Option (List PV)} (hf : OpI K r f) (σ : L2.St) (H : Hp) (R : It → Hp → Prop) (h : tI K P W (iN f ma) σ H R) : tA K P W ma σ H fun vs H1 => r vs H1 R := by
  obtain ⟨S, tmp, s, h⟩ := h
  refine ⟨S, tmp, s, ?_⟩
  unfold iN at h
  cases hm : ma S with
  | stuck => rw [hm] at h; exact h
  | err x S1 => rw [hm] at h; exact h
  | ok ts S1 =>
    rw [hm] at h
    intro vs H1 hl s1
    have s2 := s1.frzs hl
    obtain ⟨G, eH, r, l⟩ := Sim.peekN (by simp [hl]) s2
    cases e : f (ts.map fz) with
    | none => simp only [Out.bind, e] at h
    | some xs =>
      simp only [Out.bind, e] at h
      exact hf P G σ H1 S1 tmp R _ vs xs e r eH s2 fun J tm a b => h J H1 tm a b
/-! range -/
def rng (lo : Int) (n : Nat) : List PV := (List.range n).map fun (k : Nat) => .int (lo + (k : Int))
theorem rng_len {lo : Int} {n : Nat} : (rng lo n).length = n := by simp [rng]
theorem wk_rng {lo : Int} {n : Nat} : Wk K P (Itr lo n) (rng lo n) tmp := by
  refine ⟨fun i σ H S hi s => ?_, fun σ H S s => ?_, fun i σ H S x H' p' hx s y => ?_⟩
  · rw [rng_len] at hi; exact hi
  · rw [rng_len]; exact Nat.le_refl n
  · obtain ⟨e1, e2⟩ := y
    subst e1; subst e2
    unfold rng at hx
    rw [List.getElem?_map] at hx
    cases e : (List.range n)[i]? with
    | none => rw [e] at hx; cases hx
    | some k =>
      rw [e] at hx
      obtain ⟨h1, h2⟩ := List.getElem?_eq_some_iff.mp e
      simp at h2
      subst h2
      cases hx
      exact simC s fun _ => .int _
def okR (j : Int) : Bool := decide (-(2 ^ 62) ≤ j) && decide (j < 2 ^ 62)
theorem okR_of {j : Int} (h : okR j = true) : -(2 ^ 62) ≤ j ∧ j < 2 ^ 62 := by
  unfold okR at h
  simpa using h
def fR1 : List PV → Option (List PV)
  | [.int j] => if okR j = true then some (rng 0 j.toNat) else none
  | _ => none
def fR2 : List PV → Option (List PV)
  | [.int i, .int j] => if (okR i && okR j) = true then some (rng i (j - i).toNat) else none
  | _ => none
theorem opi_r1 : OpI K (fun vs H1 R => ∃ j : Int, vs = [.int j] ∧ -(2 ^ 62) ≤ j ∧ j < 2 ^ 62 ∧ R (Itr 0 j.toNat) H1) fR1 := fun P G σ H S tmp R ps vs xs e r eH s k => by
  unfold fR1 at e
  split at e
  · split at e
    · rename_i j hk
      cases e
      cases r with
      | cons r1 r2 =>
        cases r2
        cases r1
        exact ⟨j, rfl, (okR_of hk).1, (okR_of hk).2, k _ [] (Sim.drops (l := [_]) s) fun tl => wk_rng⟩
    · cases e
  · cases e
theorem opi_r2 : OpI K (fun vs H1 R => ∃ i j : Int, vs = [.int i, .int j] ∧ (-(2 ^ 62) ≤ i ∧ i < 2 ^ 62 ∧ -(2 ^ 62) ≤ j ∧ j < 2 ^ 62) ∧ R (Itr i (j - i).toNat) H1) fR2 := fun P G σ H S tmp R ps vs xs e r eH s k => by
  unfold fR2 at e
  split at e
  · split at e
    · rename_i i j hk
      cases e
      cases r with
      | cons r1 r2 =>
        cases r2 with
        | cons r2 r3 =>
          cases r3
          cases r1
          cases r2
          obtain ⟨k1, k2⟩ := Bool.and_eq_true_iff.mp hk
          exact ⟨i, j, rfl, ⟨(okR_of k1).1, (okR_of k1).2, (okR_of k2).1, (okR_of k2).2⟩, k _ [] (Sim.drops (l := [_, _]) s) fun tl => wk_rng⟩
    · cases e
  · cases e
/-! enumerate, zip -/
def enm (lo : Nat) : List PV → List PV
  | [] => []
  | x :: xs => .tup [.int (lo : Int), x] :: enm (lo + 1) xs
theorem enm_len : ∀ {lo : Nat} {xs : List PV}, (enm lo xs).length = xs.length
  | _, [] => rfl
  | lo, x :: xs => by simp [enm, enm_len]
theorem enm_get : ∀ {lo : Nat} {xs : List PV} {i : Nat} {p : PV}, (enm lo xs)[i]? = some p → ∃ x, xs[i]? = some x ∧ p = .tup [.int ((lo + i : Nat) : Int), x]
  | _, [], i, p, h => by simp [enm] at h
  | lo, x :: xs, 0, p, h => ⟨x, rfl, by simpa [enm] using h.symm⟩
  | lo, x :: xs, i + 1, p, h => by
    obtain ⟨y, h1, h2⟩ := enm_get (lo := lo + 1) (xs := xs) (i := i) (p := p) (by simpa [enm] using h)
    exact ⟨y, by simpa using h1, by rw [h2]; congr 4; omega⟩
theorem Left.pair {G : Hp} {σ : L2.St} {H : Hp} {S : Sl} {p q : PV} {v w : V} {T : Addr} (l : Left K P G σ H S tmp) (h1 : Rp K G p v) (h2 : Rp K G q w) (hT : H T = none) : Sim K P σ (upd H T (.tup [v, w])) S ((.leaf (.tup [p, q]), .ref T) :: tmp) := by
  have e : Same G (upd G T (.tup [v, w])) := same_new (Same.free l.le hT)
  exact l.new T _ _ hT (fun _ z => by cases z) (.tup (.inl (.inl upd_same)) (by show 2 ≤ sizeLine; decide) (.cons (h1.mono e _ _) (.cons (h2.mono e _ _) .nil)))
theorem wk_enm {p : PV} {a : Addr} {xs : List PV} (h : seqOf p = some xs) : Wk K P (if tpOf p = true then IteT K a else Ite K a) (enm 0 xs) ((.leaf p, .ref a) :: tmp) := by
  have get : ∀ {σ H S}, Sim K P σ H S ((.leaf p, .ref a) :: tmp) → ∃ G vs, SqAt K (tpOf p) H a vs ∧ Rps K G xs vs ∧ Left K P G σ H S ((.leaf p, .ref a) :: tmp) := fun s => by
    obtain ⟨G, e, r, l⟩ := s.peek
    obtain ⟨b, vs, eb, h1, h2, _⟩ := rp_sq h r
    cases eb
    exact ⟨G, vs, h1.mono e, h2, l⟩
  unfold SqAt at get
  cases e : tpOf p with
  | true =>
    rw [if_pos rfl]
    simp only [e, if_pos] at get
    refine ⟨fun i σ H S hi s => ?_, fun σ H S s => ?_, fun i σ H S x H' p' hx s y => ?_⟩
    · obtain ⟨G, vs, h1, h2, _⟩ := get s
      obtain ⟨v, hv, _⟩ := Rps.get h2 (List.getElem?_eq_getElem (by rw [enm_len] at hi; exact hi))
      exact ⟨vs, v, h1, hv⟩
    · obtain ⟨G, vs, h1, h2, _⟩ := get s
      exact ⟨vs, h1, by rw [enm_len, ← h2.len]; exact Nat.le_refl _⟩
    · obtain ⟨G, vs, h1, h2, l⟩ := get s
      obtain ⟨T, z, e1, e2, e3, y⟩ := y
      subst e1; subst e3
      obtain ⟨x, hx1, ep⟩ := enm_get hx
      subst ep
      obtain ⟨v, hv, rv⟩ := Rps.get h2 hx1
      have z := y vs h1
      rw [hv] at z
      cases z
      have eI : ((0 + i : Nat) : Int) = (i : Int) := by omega
      rw [eI]
      exact l.pair (.int _) rv e2
  | false =>
    rw [if_neg (by decide)]
    simp only [e, if_neg (show ¬ (false = true) by decide)] at get
    refine ⟨fun i σ H S hi s => ?_, fun σ H S s => ?_, fun i σ H S x H' p' hx s y => ?_⟩
    · obtain ⟨G, vs, h1, h2, _⟩ := get s
      obtain ⟨v, hv, _⟩ := Rps.get h2 (List.getElem?_eq_getElem (by rw [enm_len] at hi; exact hi))
      exact ⟨vs, v, h1, hv⟩
    · obtain ⟨G, vs, h1, h2, _⟩ := get s
      exact ⟨vs, h1, by rw [enm_len, ← h2.len]; exact Nat.le_refl _⟩
    · obtain ⟨G, vs, h1, h2, l⟩ := get s
      obtain ⟨T, z, e1, e2, e3, y⟩ := y
      subst e1; subst e3
      obtain ⟨x, hx1, ep⟩ := enm_get hx
      subst ep
      obtain ⟨v, hv, rv⟩ := Rps.get h2 hx1
      have z := y vs h1
      rw [hv] at z
      cases z
      have eI : ((0 + i : Nat) : Int) = (i : Int) := by omega
      rw [eI]
      exact l.pair (.int _) rv e2
def fEn : List PV → Option (List PV)
  | [p] => (seqOf p).map (enm 0)
  | _ => none
theorem opi_en : OpI K (fun vs H1 R => ∃ a xs, vs = [.ref a] ∧ ((SqL K H1 a xs ∧ R (Ite K a) H1) ∨ (SqT K H1 a xs ∧ R (IteT K a) H1))) fEn := fun P G σ H S tmp R ps vs xs e r eH s k => by
  unfold fEn at e
  split at e
  · rename_i p
    cases r with
    | cons r1 r2 =>
      cases r2
      cases es : seqOf p with
      | none => rw [es] at e; cases e
      | some ys =>
        rw [es] at e
        cases e
        obtain ⟨a, vs, ev, h1, h2, _⟩ := rp_sq es r1
        subst ev
        have z := k _ [(.leaf p, .ref a)] s (fun tl => wk_enm es)
        refine ⟨a, vs, rfl, ?_⟩
        have h1 := h1.mono eH
        unfold SqAt at h1
        cases e2 : tpOf p with
        | true => rw [e2, if_pos rfl] at h1 z; exact .inr ⟨h1, z⟩
        | false => rw [e2, if_neg (by decide)] at h1 z; exact .inl ⟨h1, z⟩
  · cases e
def zp : List PV → List PV → List PV
  | x :: xs, y :: ys => .tup [x, y] :: zp xs ys
  | _, _ => []
theorem zp_len : ∀ {xs ys : List PV}, (zp xs ys).length = min xs.length ys.length
  | [], ys => by simp [zp]
  | x :: xs, [] => by simp [zp]
  | x :: xs, y :: ys => by simp [zp, zp_len]
theorem zp_get : ∀ {xs ys : List PV} {i : Nat} {p : PV}, (zp xs ys)[i]? = some p → ∃ x y, xs[i]? = some x ∧ ys[i]? = some y ∧ p = .tup [x, y]
  | [], ys, i, p, h => by simp [zp] at h
  | x :: xs, [], i, p, h => by simp [zp] at h
  | x :: xs, y :: ys, 0, p, h => ⟨x, y, rfl, rfl, by simpa [zp] using h.symm⟩
  | x :: xs, y :: ys, i + 1, p, h => zp_get (xs := xs) (ys := ys) (i := i) (by simpa [zp] using h)
theorem wk_zp {p q : PV} {a b : Addr} {xs ys : List PV} (h : seqOf p = some xs) (hq : seqOf q = some ys) (ht : tpOf p = tpOf q) : Wk K P (if tpOf p = true then RZ.ItzT K a b else Itz K a b) (zp xs ys) ((.leaf p, .ref a) :: (.leaf q, .ref b) :: tmp) := by
  have get : ∀ {σ H S}, Sim K P σ H S ((.leaf p, .ref a) :: (.leaf q, .ref b) :: tmp) → ∃ G vs ws, SqAt K (tpOf p) H a vs ∧ SqAt K (tpOf p) H b ws ∧ Rps K G xs vs ∧ Rps K G ys ws ∧ Left K P G σ H S ((.leaf p, .ref a) :: (.leaf q, .ref b) :: tmp) := fun s => by
    obtain ⟨G, e, r2, r1, l⟩ := s.peek2
    obtain ⟨b, vs, eb, h1, h2, _⟩ := rp_sq h r1
    cases eb
    obtain ⟨b, ws, eb, h3, h4, _⟩ := rp_sq hq r2
    cases eb
    exact ⟨G, vs, ws, h1.mono e, by rw [ht]; exact h3.mono e, h2, h4, l⟩
  unfold SqAt at get
  have lt : ∀ {i}, i < (zp xs ys).length → i < xs.length ∧ i < ys.length := fun h => by rw [zp_len] at h; omega
  cases e : tpOf p with
  | true =>
    rw [if_pos rfl]
    simp only [e, if_pos] at get
    refine ⟨fun i σ H S hi s => ?_, fun σ H S s => ?_, fun i σ H S x H' p' hx s y => ?_⟩
    · obtain ⟨G, vs, ws, h1, h3, h2, h4, _⟩ := get s
      obtain ⟨v, hv, _⟩ := Rps.get h2 (List.getElem?_eq_getElem (lt hi).1)
      obtain ⟨w, hw, _⟩ := Rps.get h4 (List.getElem?_eq_getElem (lt hi).2)
      exact ⟨vs, ws, v, w, h1, h3, hv, hw⟩
    · obtain ⟨G, vs, ws, h1, h3, h2, h4, _⟩ := get s
      exact ⟨vs, ws, h1, h3, by rw [zp_len, ← h2.len, ← h4.len]; omega⟩
    · obtain ⟨G, vs, ws, h1, h3, h2, h4, l⟩ := get s
      obtain ⟨T, z1, z2, e1, e2, e3, y1, y2⟩ := y
      subst e1; subst e3
      obtain ⟨x, y, hx1, hy, ep⟩ := zp_get hx
      subst ep
      obtain ⟨v, hv, rv⟩ := Rps.get h2 hx1
      obtain ⟨w, hw, rw_⟩ := Rps.get h4 hy
      have z := y1 vs h1
      rw [hv] at z
      cases z
      have z := y2 ws h3
      rw [hw] at z
      cases z
      exact l.pair rv rw_ e2
  | false =>
    rw [if_neg (by decide)]
    simp only [e, if_neg (show ¬ (false = true) by decide)] at get
    refine ⟨fun i σ H S hi s => ?_, fun σ H S s => ?_, fun i σ H S x H' p' hx s y => ?_⟩
    · obtain ⟨G, vs, ws, h1, h3, h2, h4, _⟩ := get s
      obtain ⟨v, hv, _⟩ := Rps.get h2 (List.getElem?_eq_getElem (lt hi).1)
      obtain ⟨w, hw, _⟩ := Rps.get h4 (List.getElem?_eq_getElem (lt hi).2)
      exact ⟨vs, ws, v, w, h1, h3, hv, hw⟩
    · obtain ⟨G, vs, ws, h1, h3, h2, h4, _⟩ := get s
      exact ⟨vs, ws, h1, h3, by rw [zp_len, ← h2.len, ← h4.len]; omega⟩
    · obtain ⟨G, vs, ws, h1, h3, h2, h4, l⟩ := get s
      obtain ⟨T, z1, z2, e1, e2, e3, y1, y2⟩ := y
      subst e1; subst e3
      obtain ⟨x, y, hx1, hy, ep⟩ := zp_get hx
      subst ep
      obtain ⟨v, hv, rv⟩ := Rps.get h2 hx1
      obtain ⟨w, hw, rw_⟩ := Rps.get h4 hy
      have z := y1 vs h1
      rw [hv] at z
      cases z
      have z := y2 ws h3
      rw [hw] at z
      cases z
      exact l.pair rv rw_ e2
def fZp : List PV → Option (List PV)
  | [p, q] => if tpOf p = tpOf q then (seqOf p).bind fun xs => (seqOf q).map (zp xs) else none
  | _ => none
theorem opi_zp : OpI K (fun vs H1 R => ∃ a b xs ys, vs = [.ref a, .ref b] ∧ ((SqL K H1 a xs ∧ SqL K H1 b ys ∧ R (Itz K a b) H1) ∨ (SqT K H1 a xs ∧ SqT K H1 b ys ∧ R (RZ.ItzT K a b) H1))) fZp := fun P G σ H S tmp R ps vs xs e r eH s k => by
  unfold fZp at e
  split at e
  · rename_i p q
    split at e
    · rename_i ht
      cases r with
      | cons r1 r2 =>
        cases r2 with
        | cons r2 r3 =>
          cases r3
          cases es : seqOf p with
          | none => rw [es] at e; cases e
          | some ys =>
            rw [es] at e
            cases eq : seqOf q with
            | none => rw [eq] at e; cases e
            | some zs =>
              rw [eq] at e
              cases e
              obtain ⟨a, vs, ev, h1, h2, _⟩ := rp_sq es r1
              subst ev
              obtain ⟨b, ws, ev, h3, h4, _⟩ := rp_sq eq r2
              subst ev
              have z := k _ [(.leaf p, .ref a), (.leaf q, .ref b)] s (fun tl => wk_zp es eq ht)
              refine ⟨a, b, vs, ws, rfl, ?_⟩
              have h1 := h1.mono eH
              have h3 := h3.mono eH
              rw [← ht] at h3
              unfold SqAt at h1 h3
              cases e2 : tpOf p with
              | true => rw [e2, if_pos rfl] at h1 h3 z; exact .inr ⟨h1, h3, z⟩
              | false => rw [e2, if_neg (by decide)] at h1 h3 z; exact .inl ⟨h1, h3, z⟩
    · cases e
  · cases e
section
variable {X : Cx} {tg a b e : Expr} {p pos tpos : Pos} {ma : MA} {elts : List Expr} {kk : Nat}
theorem im_rng1 (hg : Gl X "range") (hm : X.mg "range" = none) (ha : AM X P W [a] ma) (hs : starEach [a] X.env = [(false, eval a X.env)] := by rfl) : IM X P W tg (.Call (.Name "range" p) [a] [] pos) (iN fR1 ma) := ⟨_, pi_range1 hg hm ha hs, t_iN opi_r1⟩
theorem im_rng2 (hg : Gl X "range") (hm : X.mg "range" = none) (ha : AM X P W [a, b] ma) (h1 : starEach [a, b] X.env = [(false, eval a X.env), (false, eval b X.env)] := by rfl) (h2 : starEach [b] X.env = [(false, eval b X.env)] := by rfl) : IM X P W tg (.Call (.Name "range" p) [a, b] [] pos) (iN fR2 ma) := ⟨_, pi_range2 hg hm ha h1 h2, t_iN opi_r2⟩
theorem im_enum (hg : Gl X "enumerate") (hm : X.mg "enumerate" = none) (ha : AM X P W [e] ma) (hs : starEach [e] X.env = [(false, eval e X.env)] := by rfl) : IM X P W (.Tuple elts kk tpos) (.Call (.Name "enumerate" p) [e] [] pos) (iN fEn ma) := ⟨_, pi_enumA hg hm ha hs, t_iN opi_en⟩
theorem im_zip (hg : Gl X "zip") (hm : X.mg "zip" = none) (ha : AM X P W [a, b] ma) (h1 : starEach [a, b] X.env = (false, eval a X.env) :: starEach [b] X.env := by rfl) (h2 : (backTo pos (starEach [b] X.env)).any (·.1) = false := by rfl) : IM X P W (.Tuple elts kk tpos) (.Call (.Name "zip" p) [a, b] [] pos) (iN fZp ma) := ⟨_, RZ.pi_zipA hg hm ha h1 h2, t_iN opi_zp⟩
end
end
end Fy

namespace Fy
open PySem PySem.Spec PyProof.Rows L2

/-! ### comprehensions -/
def Wno : WX := fun _ _ _ _ => False
theorem Gd.blk {P : Pm} {W : WX} {bi : List Nat} {n : Nat} {X : Cx} (g : Gd P W bi n X) (s : Shared) (H : Hp) (scope : Scope) (cenv : Env) (fp : List Addr) : Gd P Wno bi n (X.blk s H scope cenv fp) :=
  ⟨g.calm, g.nd, g.room, g.gu, fun σ pins H s e s' _ h => by
    obtain ⟨_, _, _, _, _, _, _, _, _, _, _, _, h⟩ := h
    exact h, PassesOwn.never, g.bi, fun u s' h => by
    obtain ⟨_, _, _, _, _, _, _, _, _, _, _, _, _, _, _, _, h⟩ := h
    exact h.elim⟩
def wipeS (S : Sl) : List Nat → Sl
  | [] => S
  | i :: r => (wipeS S r).set i none
section
variable {K : PySem.W.Frag} {P : Pm} {σ : L2.St} {H : Hp} {S : Sl} {tmp : Tm}
theorem Sim.wipes (s : Sim K P σ H S tmp) : ∀ (vs : List Nat), (∀ i ∈ vs, ∀ p ∈ P.B, p.1 ≠ i) → Sim K P (wipe σ vs) H (wipeS S vs) tmp
  | [], _ => s
  | i :: r, h => Sim.wipe1 (x := none) (Sim.wipes s r fun j hj => h j (List.mem_cons_of_mem _ hj)) (h i List.mem_cons_self)
theorem wipeS_len : ∀ {vs : List Nat}, (wipeS S vs).length = S.length
  | [] => rfl
  | i :: r => by unfold wipeS; rw [List.length_set]; exact wipeS_len
theorem wipe_len {σ : L2.St} : ∀ {vs : List Nat}, (wipe σ vs).length = σ.length
  | [] => rfl
  | i :: r => by show ((wipe σ r).set i none).length = _; rw [List.length_set]; exact wipe_len
theorem wipe_out {σ : L2.St} : ∀ {vs : List Nat} {i : Nat}, i ∉ vs → (wipe σ vs)[i]? = σ[i]?
  | [], i, _ => rfl
  | j :: r, i, h => by
    show ((wipe σ r).set j none)[i]? = _
    have hn : j ≠ i := fun z => h (by simp [z])
    rw [List.getElem?_set_ne hn]
    exact wipe_out fun z => h (List.mem_cons_of_mem _ z)
theorem wipeS_in : ∀ {vs : List Nat} {i : Nat} {t : OT}, i ∈ vs → (wipeS S vs)[i]? ≠ some (some t)
  | [], i, t, h => by simp at h
  | j :: r, i, t, h => by
    unfold wipeS
    by_cases e : j = i
    · subst e
      rw [List.getElem?_set]
      split
      · split
        · intro z; cases z
        · intro z; cases z
      · rename_i z; exact absurd rfl z
    · rw [List.getElem?_set_ne e]
      rcases List.mem_cons.mp h with z | z
      · exact absurd z.symm e
      · exact wipeS_in z
theorem wipe_in {i : Nat} : ∀ {ws : List Nat} {τ : L2.St}, i ∈ ws → (wipe τ ws)[i]? = if i < τ.length then some none else none
  | [], τ, h => by simp at h
  | j :: r, τ, h => by
    show ((wipe τ r).set j none)[i]? = _
    rw [List.getElem?_set]
    split
    · rename_i e
      subst e
      rw [wipe_len]
    · rename_i e
      rcases List.mem_cons.mp h with z | z
      · exact absurd z.symm e
      · exact wipe_in z
theorem wipe_idem {σ : L2.St} {vs : List Nat} : wipe (wipe σ vs) vs = wipe σ vs := by
  refine List.ext_getElem? fun i => ?_
  by_cases h : i ∈ vs
  · rw [wipe_in h, wipe_in h, wipe_len]
  · rw [wipe_out h]
theorem wipe_off {σ σ' : L2.St} {gs vs : List Nat} (o : Off gs (wipe σ vs) σ') (h : ∀ j ∈ gs, j ∈ vs) : wipe σ' vs = wipe σ vs := by
  refine List.ext_getElem? fun i => ?_
  by_cases hi : i ∈ vs
  · rw [wipe_in hi, wipe_in hi, o.1, wipe_len]
  · rw [wipe_out hi, o.2 i fun z => hi (h i z), wipe_out hi]
theorem Rsl.alter {G : Hp} : ∀ {S : Sl} {σ σ' : L2.St} {A : List Addr}, Rsl K G H S σ A → σ'.length = σ.length → (∀ (i : Nat) (t : OT), S[i]? = some (some t) → σ'[i]? = σ[i]?) → Rsl K G H S σ' A
  | _, _, [], _, .nil, _, _ => .nil
  | _, _, _ :: _, _, .nil, h, _ => by simp at h
  | _, _, [], _, .off _, h, _ => by simp at h
  | _, _, [], _, .on _ _, h, _ => by simp at h
  | _, _, y :: τ, _, .off q, h, e => .off (Rsl.alter q (by simpa using h) fun i t z => e (i + 1) t z)
  | _, _, y :: τ, _, @Rsl.on _ _ _ S σ t v A B r q, h, e => by
    have z : some y = some (some v) := e 0 t rfl
    cases z
    exact .on r (Rsl.alter q (by simpa using h) fun i t z => e (i + 1) t z)
theorem Sim.unwipe {σ : L2.St} {vs : List Nat} (s : Sim K P (wipe σ vs) H (wipeS S vs) tmp) (hb : ∀ i ∈ vs, ∀ p ∈ P.B, p.1 ≠ i) : Sim K P σ H (wipeS S vs) tmp := by
  obtain ⟨⟨G, A, B, e0, e1, r1, r2, nd, fr⟩, kp, tb, by_⟩ := s
  refine ⟨⟨G, A, B, e0, e1, r1.alter wipe_len.symm fun i t h => ?_, r2, nd, fr⟩, kp, tb, fun p hp => ?_⟩
  · by_cases hi : i ∈ vs
    · exact absurd h (wipeS_in hi)
    · exact (wipe_out hi).symm
  · have z := by_ p hp
    by_cases hi : p.1 ∈ vs
    · exact absurd rfl (hb _ hi p hp)
    · rw [wipe_out hi] at z
      exact z
end
/-- the turns of a comprehension: nothing is raised in it -/
def lcM (mg : MG) (mt : MT) (me : ME) (vs : List Nat) : List PV → List OT → Sl → Out (List OT)
  | [], acc, S => .ok acc S
  | x :: xs, acc, S => match mg x S with
    | none => .stuck
    | some S1 => match mt S1 with
      | .ok true S2 => (match me S2 with
        | .ok t S3 => if acc.length < sizeLine then lcM mg mt me vs xs (acc ++ [t]) (wipeS S3 vs) else .stuck
        | _ => .stuck)
      | .ok false S2 => lcM mg mt me vs xs acc (wipeS S2 vs)
      | _ => .stuck
def eLc (mi : MI) (mg : MG) (mt : MT) (me : ME) (vs : List Nat) : ME := fun S => (mi S).bind fun xs S1 => match lcM mg mt me vs xs [] (wipeS S1 vs) with
  | .ok ts S2 => .ok (.node ts) (wipeS S2 vs)
  | _ => .stuck
def mYes : MT := fun S => .ok true S
abbrev TsM (X : Cx) (P : Pm) (W : WX) (ifs : List Expr) (m : MT) : Prop := PTs X ifs (tT X.K P W m)
section
variable {X : Cx} {P : Pm} {W : WX} {bi : List Nat} {n : Nat}
theorem tsm_n : TsM X P W [] mYes := ⟨fun pins s σ H Q I ⟨S, tmp, sm, h⟩ => pts_nil.run pins s σ H Q I (h H sm)⟩
theorem tsm_1 {c : Expr} {m : MT} (h : TM X P W c m) : TsM X P W [c] m := pts_one h
theorem t_lc {K : PySem.W.Frag} {mi : MI} {mg : MG} {mt : MT} {me : ME} {gs vs : List Nat} {wi : TI} (hw : ∀ σ H R, tI K P W mi σ H R → wi σ H R) (hb : ∀ i ∈ vs, ∀ p ∈ P.B, p.1 ≠ i) (hv : ∀ j ∈ gs, j ∈ vs) (σ : L2.St) (H : Hp) (Q : VK) (h : tE K P W (eLc mi mg mt me vs) σ H Q) :
    tLc wi (tG K P gs mg) (tT K P Wno mt) (tE K P Wno me) vs σ H Q := by
  obtain ⟨S, tmp, s, h⟩ := h
  refine hw σ H _ ⟨S, tmp, s, ?_⟩
  unfold eLc at h
  cases hm : mi S with
  | stuck => rw [hm] at h; exact h
  | err x S1 => rw [hm] at h; exact h
  | ok xs S1 =>
    rw [hm] at h
    have h : PoE K P W σ tmp Q (match lcM mg mt me vs xs [] (wipeS S1 vs) with | .ok ts S2 => .ok (.node ts) (wipeS S2 vs) | _ => .stuck) := h
    intro J H1 tm s1 wk D hD
    have wk2 : ∀ ts, Wk K P J xs (tm ++ (.node ts, .ref D) :: tmp) := fun ts => wk _
    have W' : Walk J xs.length (fun H => ∃ σ S ts, Sim K P σ H S (tm ++ (.node ts, .ref D) :: tmp)) (fun i H x H' => J.yld i H x H') :=
      ⟨fun i H hi ⟨σ, S, ts, q⟩ => (wk2 ts).go i σ H S hi q, fun H ⟨σ, S, ts, q⟩ => (wk2 ts).stop σ H S q, fun _ _ _ _ _ _ y => y⟩
    refine lc_it W' (fun i H => ∃ S acc, Sim K P (wipe σ vs) H S (tm ++ (.node acc, .ref D) :: tmp) ∧ (match lcM mg mt me vs (xs.drop i) acc S with | .ok ts S2 => ∀ H', Sim K P (wipe σ vs) H' S2 (tm ++ (.node ts, .ref D) :: tmp) → Q (.ref D) H' | _ => False)) ?_ (fun i H _ ⟨S, acc, q, _⟩ => ⟨_, S, acc, q⟩) (fun i x H2 H3 hi ⟨S2, acc, s2, r⟩ y => ?_) (fun H ⟨S, acc, q, r⟩ => ?_)
    · refine ⟨wipeS S1 vs, [], ?_, ?_⟩
      · obtain ⟨G, _, l⟩ := Sim.openN (ps := []) (vs := []) rfl (show Sim K P σ H1 S1 (lf [] [] ++ (tm ++ tmp)) from s1)
        exact Sim.wipes ((l.own D [] [] hD (Nat.zero_le _) .nil).perm List.perm_middle.symm) vs hb
      · show (match lcM mg mt me vs xs [] (wipeS S1 vs) with | .ok ts S2 => ∀ H', Sim K P (wipe σ vs) H' S2 (tm ++ (.node ts, .ref D) :: tmp) → Q (.ref D) H' | _ => False)
        cases hl : lcM mg mt me vs xs [] (wipeS S1 vs) with
        | stuck => rw [hl] at h; exact h
        | err z S3 => rw [hl] at h; exact h
        | ok ts S3 =>
          rw [hl] at h
          intro H' s3
          have s4 := Sim.wipes s3 vs hb
          rw [wipe_idem] at s4
          exact h _ H' (s4.unwipe hb).drops
    · have ed : xs.drop i = xs[i] :: xs.drop (i + 1) := List.drop_eq_getElem_cons hi
      rw [ed] at r
      unfold lcM at r
      have s4 := (wk2 acc).yld i _ H2 S2 x H3 xs[i] (List.getElem?_eq_getElem hi) s2 y
      cases e1 : mg xs[i] S2 with
      | none => simp only [e1] at r
      | some S3 =>
        simp only [e1] at r
        refine ⟨S2, _, xs[i], S3, s4, e1, fun σ3 H4 o3 s5 => ?_⟩
        have ew := wipe_off o3 hv
        refine ⟨ew, S3, _, s5, ?_⟩
        cases e2 : mt S3 with
        | stuck => simp only [e2] at r
        | err z S4 => simp only [e2] at r
        | ok b S4 =>
          cases b with
          | false =>
            simp only [e2] at r
            intro H5 s6
            have s7 := Sim.wipes s6 vs hb
            rw [ew] at s7
            rw [if_neg (by decide)]
            exact ⟨_, acc, s7, r⟩
          | true =>
            simp only [e2] at r
            intro H5 s6
            rw [if_pos rfl]
            refine ⟨S4, _, s6, ?_⟩
            cases e3 : me S4 with
            | stuck => simp only [e3] at r
            | err z S5 => simp only [e3] at r
            | ok t S5 =>
              simp only [e3] at r
              intro w H6 s7
              have s8 : Sim K P σ3 H6 S5 ((t, w) :: (.node acc, .ref D) :: (tm ++ tmp)) := s7.perm (List.Perm.cons _ List.perm_middle)
              obtain ⟨a, ac, ea, ha, hl, f⟩ := s8.push
              cases ea
              by_cases hlt : acc.length < sizeLine
              · rw [if_pos hlt] at r
                refine ⟨ac, ha, by rw [hl]; exact hlt, wipeS S5 vs, acc ++ [t], ?_, r⟩
                have s9 := Sim.wipes ((f hlt).perm List.perm_middle.symm) vs hb
                rw [ew] at s9
                exact s9
              · rw [if_neg hlt] at r
                exact r.elim
    · rw [List.drop_length] at r
      exact r H q
section
variable {elt tg iter : Expr} {ifs : List Expr} {scope : Scope} {own : List (Str × Nat)} {pos : Pos} {mi : MI} {mg : MG} {mt : MT} {me : ME} {gs : List Nat}
theorem own_nb (g : Gd P W bi n X) {vs : List Nat} (h : (vs.all fun i => !bi.contains i) = true) : ∀ i ∈ vs, ∀ p ∈ P.B, p.1 ≠ i := fun i hi => g.nb (by simpa using List.all_eq_true.mp h i hi)
theorem em_lc (g : Gd P W bi n X) (own : List (Str × Nat)) (hi : IM X P W tg iter mi)
    (hg : ∀ s H C cl fp, Gd P Wno bi n (X.blk s H scope (compEnvC scope cl C X.env) fp) → GM (X.blk s H scope (compEnvC scope cl C X.env) fp) P gs tg mg)
    (ht : ∀ s H C cl fp, Gd P Wno bi n (X.blk s H scope (compEnvC scope cl C X.env) fp) → TsM (X.blk s H scope (compEnvC scope cl C X.env) fp) P Wno ifs mt)
    (he : ∀ s H C cl fp, Gd P Wno bi n (X.blk s H scope (compEnvC scope cl C X.env) fp) → EM (X.blk s H scope (compEnvC scope cl C X.env) fp) P Wno elt me)
    (ok : blkC X.N X.env.scope scope own = true := by rfl) (hb : ((own.map (·.2)).all fun i => !bi.contains i) = true := by rfl) (hv : (gs.all fun j => (own.map (·.2)).contains j) = true := by rfl) (hs : ∀ x, foldedSetIterable iter X.env x = pure x := by intro _; rfl) :
    EM X P W (.ListComp elt [⟨tg, iter, ifs, 0⟩] scope pos) (eLc mi mg mt me (own.map (·.2))) := by
  obtain ⟨wi, hw, iw⟩ := hi.ex
  exact weakE (pe_lc g.calm g.nd hw (blkOk_by ok) (fun s H C cl fp => hg s H C cl fp (g.blk ..)) (fun s H C cl fp => ht s H C cl fp (g.blk ..)) (fun s H C cl fp => he s H C cl fp (g.blk ..)) hs)
    (t_lc iw (own_nb g hb) fun j hj => by simpa using List.all_eq_true.mp hv j hj)
theorem sm_lc (g : Gd P W bi n X) {i : Nat} {y : Str} {py spos : Pos} (own : List (Str × Nat)) (hy : X.N[i]? = some y) (hyl : X.env.scope.names.lookup y = some .local) (hi : IM X P W tg iter mi)
    (hg : ∀ s H C cl fp, Gd P Wno bi n (X.blk s H scope (compEnvC scope cl C X.env) fp) → GM (X.blk s H scope (compEnvC scope cl C X.env) fp) P gs tg mg)
    (ht : ∀ s H C cl fp, Gd P Wno bi n (X.blk s H scope (compEnvC scope cl C X.env) fp) → TsM (X.blk s H scope (compEnvC scope cl C X.env) fp) P Wno ifs mt)
    (he : ∀ s H C cl fp, Gd P Wno bi n (X.blk s H scope (compEnvC scope cl C X.env) fp) → EM (X.blk s H scope (compEnvC scope cl C X.env) fp) P Wno elt me)
    (hsw : swapsWith (.ListComp elt [⟨tg, iter, ifs, 0⟩] scope pos) (some (.Name y py)) spos.line X.env = pure true)
    (ok : blkC X.N X.env.scope scope own = true := by rfl) (hb : ((own.map (·.2)).all fun i => !bi.contains i) = true := by rfl) (hv : (gs.all fun j => (own.map (·.2)).contains j) = true := by rfl) (hbi : bi.contains i = false := by rfl) (hs : ∀ x, foldedSetIterable iter X.env x = pure x := by intro _; rfl) :
    SM X P W (.Assign [.Name y py] (.ListComp elt [⟨tg, iter, ifs, 0⟩] scope pos) spos) (sA i (eLc mi mg mt me (own.map (·.2)))) := by
  obtain ⟨wi, hw, iw⟩ := hi.ex
  exact weakS (ps_setLc g.calm g.nd hy hyl hsw hw (blkOk_by ok) (fun s H C cl fp => hg s H C cl fp (g.blk ..)) (fun s H C cl fp => ht s H C cl fp (g.blk ..)) (fun s H C cl fp => he s H C cl fp (g.blk ..)) hs)
    (t_asg (g.nb hbi) (t_lc iw (own_nb g hb) fun j hj => by simpa using List.all_eq_true.mp hv j hj))
end
end
end Fy

namespace Fy
open PySem PySem.Spec PyProof.Rows L2

/-! ### choices between rules -/
def OrR (r1 r2 : R2) : R2 := fun x y H Q => r1 x y H Q ∨ r2 x y H Q
theorem op_or {X : Cx} {f : Value → Value → Sem Value} {r1 r2 : R2} (h1 : OpR X f r1) (h2 : OpR X f r2) : OpR X f (OrR r1 r2) := fun pins s σ H x y v u Q I rx ry h => h.elim (h1 pins s σ H x y v u Q I rx ry) (h2 pins s σ H x y v u Q I rx ry)
def orF {α β : Type} (f g : α → Option β) : α → Option β := fun a => match f a with
  | some t => some t
  | none => g a
def orF2 {α β γ : Type} (f g : α → β → Option γ) : α → β → Option γ := fun a b => match f a b with
  | some t => some t
  | none => g a b
section
variable {K : PySem.W.Frag}
theorem o_or {r1 r2 : R2} {f1 f2 : PV → PV → Option OT} (h1 : Op2 K r1 f1) (h2 : Op2 K r2 f2) : Op2 K (OrR r1 r2) (orF2 f1 f2) := fun P G σ H S tmp Q p q v w t e rp rq l k => by
  unfold orF2 at e
  split at e
  · rename_i u eu
    cases e
    exact .inl (h1 P G σ H S tmp Q p q v w _ eu rp rq l k)
  · exact .inr (h2 P G σ H S tmp Q p q v w _ e rp rq l k)
def OrN (r1 r2 : List V → Hp → VK → Prop) : List V → Hp → VK → Prop := fun x H Q => r1 x H Q ∨ r2 x H Q
theorem call_or {X : Cx} {f : Value} {r1 r2 : List V → Hp → VK → Prop} (h1 : CallR X f r1) (h2 : CallR X f r2) : CallR X f (OrN r1 r2) := fun pins s σ H xs us Q I r h => h.elim (h1 pins s σ H xs us Q I r) (h2 pins s σ H xs us Q I r)
theorem oN_or {r1 r2 : List V → Hp → VK → Prop} {f1 f2 : List PV → Option OT} (h1 : OpN K r1 f1) (h2 : OpN K r2 f2) : OpN K (OrN r1 r2) (orF f1 f2) := fun P G σ H S tmp Q ps vs t e r l k => by
  unfold orF at e
  split at e
  · rename_i u eu
    cases e
    exact .inl (h1 P G σ H S tmp Q ps vs _ eu r l k)
  · exact .inr (h2 P G σ H S tmp Q ps vs _ e r l k)

/-! ### whole numbers -/
def fI0 (g : Int → Int → PV) : PV → PV → Option OT
  | .int i, .int j => some (.leaf (g i j))
  | _, _ => none
def fI (C : Int → Int → Bool) (g : Int → Int → PV) : PV → PV → Option OT
  | .int i, .int j => if C i j = true then some (.leaf (g i j)) else none
  | _, _ => none
theorem o_int0 {g : Int → Int → PV} {gv : Int → Int → V} (hg : ∀ G i j, Rp K G (g i j) (gv i j)) : Op2 K (rI0 gv) (fI0 g) := fun P G σ H S tmp Q p q v w t e rp rq l k => by
  unfold fI0 at e
  split at e
  · cases e
    cases rp
    cases rq
    exact ⟨_, _, rfl, rfl, k _ _ (l.val _ _ (hg G _ _))⟩
  · cases e
theorem o_int {C : Int → Int → Bool} {Cp : Int → Int → Prop} {g : Int → Int → PV} {gv : Int → Int → V} (hC : ∀ i j, C i j = true → Cp i j) (hg : ∀ G i j, Rp K G (g i j) (gv i j)) : Op2 K (rI Cp gv) (fI C g) := fun P G σ H S tmp Q p q v w t e rp rq l k => by
  unfold fI at e
  split at e
  · split at e
    · rename_i hc
      cases e
      cases rp
      cases rq
      exact ⟨_, _, rfl, rfl, hC _ _ hc, k _ _ (l.val _ _ (hg G _ _))⟩
    · cases e
  · cases e
def fStr (C : Str → Str → Bool) (g : Str → Str → PV) : PV → PV → Option OT
  | .str i, .str j => if C i j = true then some (.leaf (g i j)) else none
  | _, _ => none
theorem o_addS : Op2 K (fun x y H Q => ∃ i j, x = V.str i ∧ y = V.str j ∧ i.length + j.length ≤ sizeLine ∧ Q (V.str (i ++ j)) H) (fStr (fun i j => decide (i.length + j.length ≤ sizeLine)) fun i j => .str (i ++ j)) := fun P G σ H S tmp Q p q v w t e rp rq l k => by
  unfold fStr at e
  split at e
  · split at e
    · rename_i hc
      cases e
      cases rp
      cases rq
      exact ⟨_, _, rfl, rfl, of_decide_eq_true hc, k _ _ (l.val _ _ (.str _))⟩
    · cases e
  · cases e
def fCat : PV → PV → Option OT
  | .lst xs, .lst ys => if xs.length + ys.length ≤ sizeLine then some (.node ((xs ++ ys).map .leaf)) else none
  | _, _ => none
theorem o_cat : Op2 K rCat fCat := fun P G σ H S tmp Q p q v w t e rp rq l k => by
  unfold fCat at e
  split at e
  · split at e
    · rename_i hc
      cases e
      cases rp with
      | lst h1 h2 h3 =>
        cases rq with
        | lst h4 h5 h6 =>
          have hz := hc
          rw [h3.len, h6.len] at hz
          exact ⟨_, _, _, _, rfl, rfl, l.le _ _ h1, l.le _ _ h4, hz, fun p hp => k _ _ (l.own p _ _ hp (by simpa using hz) (h3.app h6))⟩
    · cases e
  · cases e
def fCatT : PV → PV → Option OT
  | .tup xs, .tup ys => if xs.length + ys.length ≤ sizeLine then some (.leaf (.tup (xs ++ ys))) else none
  | _, _ => none
theorem o_catT : Op2 K (rCatA K) fCatT := fun P G σ H S tmp Q p q v w t e rp rq l k => by
  unfold fCatT at e
  split at e
  · rename_i xs ys
    split at e
    · rename_i hc
      cases e
      cases id rp with
      | @tup a vs _ h1 h2 h3 =>
        cases id rq with
        | @tup b ws _ h4 h5 h6 =>
          have hz := hc
          rw [h3.len, h6.len] at hz
          refine ⟨_, _, _, _, rfl, rfl, same_t l.le h1, same_t l.le h4, hz, fun e => ?_, fun n e => ?_, fun n n2 p hp => ?_⟩
          · have : xs = [] := by
              have := h3.len
              rw [e] at this
              simpa using this
            subst this
            exact k _ _ (l.val _ _ (by simpa using rq))
          · have : ys = [] := by
              have := h6.len
              rw [e] at this
              simpa using this
            subst this
            exact k _ _ (l.val _ _ (by simpa using rp))
          · have eG : Same G (upd G p (.tup (vs ++ ws))) := same_new (Same.free l.le hp)
            exact k _ _ (l.new p _ _ hp (fun _ z => by cases z) (.tup (.inl (.inl upd_same)) (by simpa using hz) (Rps.mono eG _ _ (h3.app h6))))
    · cases e
  · cases e
def pAdd : PV → PV → Option OT := orF2 (fI0 fun i j => .int (i + j)) (orF2 fCat (orF2 fCatT (fStr (fun i j => decide (i.length + j.length ≤ sizeLine)) fun i j => .str (i ++ j))))
def pSub : PV → PV → Option OT := fI0 fun i j => .int (i - j)
theorem Rps.rep {G : Hp} {xs : List PV} {vs : List V} (h : Rps K G xs vs) : ∀ k : Nat, Rps K G (List.replicate k xs).flatten (List.replicate k vs).flatten
  | 0 => .nil
  | k + 1 => by
    rw [List.replicate_succ, List.replicate_succ, List.flatten_cons, List.flatten_cons]
    exact h.app (Rps.rep h k)
theorem rep_len {α : Type} {xs : List α} {k : Nat} : (List.replicate k xs).flatten.length = xs.length * k := by
  rw [List.length_flatten, List.map_replicate, List.sum_replicate_nat]
  exact Nat.mul_comm ..
def fRep : PV → PV → Option OT
  | .lst xs, .int k => if -(2 ^ 63) ≤ k ∧ k < 2 ^ 63 ∧ xs.length * k.toNat ≤ sizeLine then some (.node ((List.replicate k.toNat xs).flatten.map .leaf)) else none
  | _, _ => none
theorem o_rep : Op2 K rRep fRep := fun P G σ H S tmp Q p q v w t e rp rq l k => by
  unfold fRep at e
  split at e
  · split at e
    · rename_i hc
      cases e
      cases rp with
      | lst h1 h2 h3 =>
        cases rq
        have hz := hc.2.2
        rw [h3.len] at hz
        exact ⟨_, _, _, rfl, rfl, l.le _ _ h1, hc.1, hc.2.1, hz, fun p hp => k _ _ (l.own p _ _ hp (by rw [rep_len]; exact hz) (h3.rep _))⟩
    · cases e
  · cases e
def fRepT : PV → PV → Option OT
  | .tup xs, .int k => if xs ≠ [] ∧ 2 ≤ k ∧ k ≤ 1000 ∧ xs.length ≤ 1000 then some (.leaf (.tup (List.replicate k.toNat xs).flatten)) else none
  | _, _ => none
theorem o_repT : Op2 K (rRepT K) fRepT := fun P G σ H S tmp Q p q v w t e rp rq l k => by
  unfold fRepT at e
  split at e
  · rename_i xs j
    split at e
    · rename_i hc
      cases e
      cases rp with
      | @tup a vs _ h1 h2 h3 =>
        cases rq
        have hl := hc.2.2.2
        rw [h3.len] at hl
        have hn : vs ≠ [] := fun z => hc.1 (by have := h3.len; rw [z] at this; simpa using this)
        refine ⟨_, _, _, rfl, rfl, same_t l.le h1, hn, hc.2.1, hc.2.2.1, hl, fun p hp => ?_⟩
        have eG : Same G (upd G p (.tup (List.replicate j.toNat vs).flatten)) := same_new (Same.free l.le hp)
        refine k _ _ (l.new p _ _ hp (fun _ z => by cases z) (.tup (.inl (.inl upd_same)) ?_ (Rps.mono eG _ _ (h3.rep _))))
        rw [rep_len]
        have h1 := hc.2.2.1
        have : j.toNat ≤ 1000 := by omega
        calc vs.length * j.toNat ≤ 1000 * 1000 := Nat.mul_le_mul hl this
          _ ≤ sizeLine := by show 1000 * 1000 ≤ 2 ^ 24; decide
    · cases e
  · cases e
def pMul : PV → PV → Option OT := orF2 (fI (fun i j => decide (i.natAbs.log2 + j.natAbs.log2 < 1000000)) fun i j => .int (i * j)) (orF2 fRep fRepT)
def pMod : PV → PV → Option OT := fI (fun _ j => decide (j ≠ 0)) fun i j => .int (i.fmod j)
def pDiv : PV → PV → Option OT := fI (fun _ j => decide (j ≠ 0) && decide (j.natAbs < 1073741824)) fun i j => .int (i.fdiv j)
def pPow : PV → PV → Option OT := fI (fun i j => decide (0 ≤ j) && (decide (j ≤ 1000000) && decide (i.natAbs < 2 ^ 64))) fun i j => .int (i ^ j.toNat)
def pLt : PV → PV → Option OT := fI0 fun i j => .bl (decide (i < j))
def pLe : PV → PV → Option OT := fI0 fun i j => .bl (decide (i ≤ j))
def pGt : PV → PV → Option OT := fI0 fun i j => .bl (decide (i > j))
def pGe : PV → PV → Option OT := fI0 fun i j => .bl (decide (i ≥ j))

/-! ### data -/
mutual
def pd : PV → Option PyData
  | .non => some .none
  | .bl b => some (.bool b)
  | .int i => some (.int i)
  | .str x => some (.str x)
  | .tup xs => (pds xs).map .tuple
  | .lst xs => (pds xs).map .list
  | .rls xs => (pds xs).map .list
  | _ => none
def pds : List PV → Option (List PyData)
  | [] => some []
  | x :: xs => (pd x).bind fun d => (pds xs).map fun ds => d :: ds
end
mutual
theorem rp_dp {G : Hp} : ∀ {p : PV} {v : V} {d : PyData}, Rp K G p v → pd p = some d → Dp K G v d
  | .non, _, _, r, e => by cases r; cases e; exact .non
  | .bl _, _, _, r, e => by cases r; cases e; exact .bl _
  | .int _, _, _, r, e => by cases r; cases e; exact .int _
  | .str _, _, _, r, e => by cases r; cases e; exact .str _
  | .ty _, _, _, r, e => by cases e
  | .glo _, _, _, r, e => by cases e
  | .obj _ _ _, _, _, r, e => by cases e
  | .tup xs, _, _, r, e => by
    cases r with
    | tup h1 h2 h3 =>
      unfold pd at e
      cases e1 : pds xs with
      | none => rw [e1] at e; cases e
      | some ds => rw [e1] at e; cases e; exact .tup h1 (rps_dp h3 e1)
  | .lst xs, _, _, r, e => by
    cases r with
    | lst h1 h2 h3 =>
      unfold pd at e
      cases e1 : pds xs with
      | none => rw [e1] at e; cases e
      | some ds => rw [e1] at e; cases e; exact .lst (.inl (.inl h1)) (rps_dp h3 e1)
  | .rls xs, _, _, r, e => by
    cases r with
    | rls h1 h2 h3 =>
      unfold pd at e
      cases e1 : pds xs with
      | none => rw [e1] at e; cases e
      | some ds => rw [e1] at e; cases e; exact .lst h1 (rps_dp h3 e1)
theorem rps_dp {G : Hp} : ∀ {xs : List PV} {vs : List V} {ds : List PyData}, Rps K G xs vs → pds xs = some ds → DpAll K G vs ds
  | [], _, _, r, e => by cases r; cases e; exact .nil
  | x :: xs, _, _, r, e => by
    cases r with
    | cons r1 r2 =>
      unfold pds at e
      cases e1 : pd x with
      | none => rw [e1] at e; cases e
      | some d =>
        rw [e1] at e
        cases e2 : pds xs with
        | none => rw [e2] at e; cases e
        | some ds => rw [e2] at e; cases e; exact .cons (rp_dp r1 e1) (rps_dp r2 e2)
end
mutual
theorem pd_plain : ∀ {p : PV} {d : PyData}, pd p = some d → d.plain = true
  | .non, _, e => by cases e; rfl
  | .bl _, _, e => by cases e; rfl
  | .int _, _, e => by cases e; rfl
  | .str _, _, e => by cases e; rfl
  | .ty _, _, e => by cases e
  | .glo _, _, e => by cases e
  | .obj _ _ _, _, e => by cases e
  | .tup xs, _, e => by
    unfold pd at e
    cases e1 : pds xs with
    | none => rw [e1] at e; cases e
    | some ds => rw [e1] at e; cases e; exact pds_plain e1
  | .lst xs, _, e => by
    unfold pd at e
    cases e1 : pds xs with
    | none => rw [e1] at e; cases e
    | some ds => rw [e1] at e; cases e; exact pds_plain e1
  | .rls xs, _, e => by
    unfold pd at e
    cases e1 : pds xs with
    | none => rw [e1] at e; cases e
    | some ds => rw [e1] at e; cases e; exact pds_plain e1
theorem pds_plain : ∀ {xs : List PV} {ds : List PyData}, pds xs = some ds → PyData.plainAll ds = true
  | [], _, e => by cases e; rfl
  | x :: xs, _, e => by
    unfold pds at e
    cases e1 : pd x with
    | none => rw [e1] at e; cases e
    | some d =>
      rw [e1] at e
      cases e2 : pds xs with
      | none => rw [e2] at e; cases e
      | some ds =>
        rw [e2] at e; cases e
        show (d.plain && PyData.plainAll ds) = true
        rw [pd_plain e1, pds_plain e2]
        rfl
end
def shp (d : PyData) : Bool := decide (d.depth ≤ 64)
theorem shp_le {d : PyData} (h : shp d = true) : d.depth ≤ 64 := of_decide_eq_true h
def rEqP (K : PySem.W.Frag) : R2 := fun x y H Q => ∃ d e, Dp K H x d ∧ Dp K H y e ∧ d.plain = true ∧ e.plain = true ∧ min d.depth e.depth ≤ 64 ∧ Q (.bl (PyData.eqv d e)) H
def rNeP (K : PySem.W.Frag) : R2 := fun x y H Q => ∃ d e, Dp K H x d ∧ Dp K H y e ∧ d.plain = true ∧ e.plain = true ∧ min d.depth e.depth ≤ 64 ∧ Q (.bl (!PyData.eqv d e)) H
theorem op_eqP {X : Cx} (hu : X.A.units + 64 < cLine) : OpR X (compareOp .Eq) (rEqP X.K) := by
  intro pins s σ H x y v u Q I rx ry h
  obtain ⟨d, e, hd, he, sd, se, hm, q⟩ := h
  obtain ⟨as, r1⟩ := Dp.reads I d x v hd rx
  obtain ⟨bs, r2⟩ := Dp.reads I e y u he ry
  exact SeqAt.eq_plain r1 r2 sd se (by omega) ⟨.bl _, H, I, rfl, q⟩
theorem op_neP {X : Cx} (hu : X.A.units + 64 < cLine) : OpR X (compareOp .NotEq) (rNeP X.K) := by
  intro pins s σ H x y v u Q I rx ry h
  obtain ⟨d, e, hd, he, sd, se, hm, q⟩ := h
  obtain ⟨as, r1⟩ := Dp.reads I d x v hd rx
  obtain ⟨bs, r2⟩ := Dp.reads I e y u he ry
  exact SeqAt.ne_plain r1 r2 sd se (by omega) ⟨.bl _, H, I, rfl, q⟩
def pEqB (g : Bool → Bool) (p q : PV) : Option OT := match pd p, pd q with
  | some d, some e => if (shp d || shp e) = true then some (.leaf (.bl (g (d.eqv e)))) else none
  | _, _ => none
def pEq : PV → PV → Option OT := pEqB id
def pNe : PV → PV → Option OT := pEqB not
theorem shp_min {d e : PyData} (h : (shp d || shp e) = true) : min d.depth e.depth ≤ 64 := by
  rcases Bool.or_eq_true_iff.mp h with z | z
  · have := shp_le z
    omega
  · have := shp_le z
    omega
theorem eqB_of {g : Bool → Bool} {p q : PV} {t : OT} (h : pEqB g p q = some t) : ∃ d e, pd p = some d ∧ pd q = some e ∧ min d.depth e.depth ≤ 64 ∧ t = .leaf (.bl (g (d.eqv e))) := by
  unfold pEqB at h
  split at h
  · rename_i d e h1 h2
    split at h
    · rename_i hs
      cases h
      exact ⟨d, e, h1, h2, shp_min hs, rfl⟩
    · cases h
  · cases h
theorem o_eq : Op2 K (rEqP K) pEq := fun P G σ H S tmp Q p q v w t e rp rq l k => by
  obtain ⟨d, f, h1, h2, h3, rfl⟩ := eqB_of e
  exact ⟨d, f, rp_dp (Rp.mono l.le _ _ rp) h1, rp_dp (Rp.mono l.le _ _ rq) h2, pd_plain h1, pd_plain h2, h3, k _ _ (l.val _ _ (.bl _))⟩
theorem o_ne : Op2 K (rNeP K) pNe := fun P G σ H S tmp Q p q v w t e rp rq l k => by
  obtain ⟨d, f, h1, h2, h3, rfl⟩ := eqB_of e
  exact ⟨d, f, rp_dp (Rp.mono l.le _ _ rp) h1, rp_dp (Rp.mono l.le _ _ rq) h2, pd_plain h1, pd_plain h2, h3, k _ _ (l.val _ _ (.bl _))⟩
/-! is -/
def isNon : PV → Bool
  | .non => true
  | _ => false
theorem rp_non {G : Hp} {p : PV} {v : V} (r : Rp K G p v) : decide (v = V.non) = isNon p := by
  cases r <;> first | rfl | exact decide_eq_false (fun z => by cases z)
def fIsN (g : Bool → Bool) : PV → PV → Option OT
  | p, .non => some (.leaf (.bl (g (isNon p))))
  | _, _ => none
def fIsB (g : Bool → Bool) : PV → PV → Option OT
  | .bl a, .bl b => some (.leaf (.bl (g (decide (a = b)))))
  | _, _ => none
def pIs : PV → PV → Option OT := orF2 (fIsN id) (fIsB id)
def pIsNot : PV → PV → Option OT := orF2 (fIsN not) (fIsB not)
theorem o_isN : Op2 K (fun x y H Q => y = V.non ∧ Q (V.bl (decide (x = V.non))) H) (fIsN id) := fun P G σ H S tmp Q p q v w t e rp rq l k => by
  unfold fIsN at e
  split at e
  · cases e
    cases rq
    exact ⟨rfl, k _ _ (l.val _ _ (by rw [rp_non rp]; exact .bl _))⟩
  · cases e
theorem o_notN : Op2 K (fun x y H Q => y = V.non ∧ Q (V.bl !decide (x = V.non)) H) (fIsN not) := fun P G σ H S tmp Q p q v w t e rp rq l k => by
  unfold fIsN at e
  split at e
  · cases e
    cases rq
    exact ⟨rfl, k _ _ (l.val _ _ (by rw [rp_non rp]; exact .bl _))⟩
  · cases e
theorem o_isB : Op2 K rIsB (fIsB id) := fun P G σ H S tmp Q p q v w t e rp rq l k => by
  unfold fIsB at e
  split at e
  · cases e
    cases rp
    cases rq
    exact ⟨_, _, rfl, rfl, k _ _ (l.val _ _ (.bl _))⟩
  · cases e
theorem o_notB : Op2 K rNotB (fIsB not) := fun P G σ H S tmp Q p q v w t e rp rq l k => by
  unfold fIsB at e
  split at e
  · cases e
    cases rp
    cases rq
    exact ⟨_, _, rfl, rfl, k _ _ (l.val _ _ (.bl _))⟩
  · cases e
/-! in -/
def rInP (K : PySem.W.Frag) (g : Bool → Bool) : R2 := fun x y H Q => ∃ d ds, Dp K H x d ∧ (Dp K H y (.list ds) ∨ Dp K H y (.tuple ds)) ∧ d.plain = true ∧ PyData.plainAll ds = true ∧ d.depth ≤ 64 ∧ Q (.bl (g (ds.any fun z => PyData.eqv z d))) H
theorem op_inP {X : Cx} (hu : X.A.units + 65 < cLine) : OpR X (compareOp .In) (rInP X.K id) := by
  intro pins s σ H x y v u Q I rx ry h
  obtain ⟨d, ds, hd, he, sd, se, hm, q⟩ := h
  obtain ⟨as, r1⟩ := Dp.reads I d x v hd rx
  rcases he with he | he
  · obtain ⟨bs, r2⟩ := Dp.reads I (.list ds) y u he ry
    exact SeqAt.in_list_data r2 r1 se sd (by omega) ⟨.bl _, H, I, rfl, q⟩
  · obtain ⟨bs, r2⟩ := Dp.reads I (.tuple ds) y u he ry
    exact SeqAt.in_tuple_data r2 r1 se sd (by omega) ⟨.bl _, H, I, rfl, q⟩
theorem op_notInP {X : Cx} (hu : X.A.units + 65 < cLine) : OpR X (compareOp .NotIn) (rInP X.K not) := by
  intro pins s σ H x y v u Q I rx ry h
  obtain ⟨d, ds, hd, he, sd, se, hm, q⟩ := h
  obtain ⟨as, r1⟩ := Dp.reads I d x v hd rx
  rcases he with he | he
  · obtain ⟨bs, r2⟩ := Dp.reads I (.list ds) y u he ry
    exact SeqAt.notIn_list_data r2 r1 se sd (by omega) ⟨.bl _, H, I, rfl, q⟩
  · obtain ⟨bs, r2⟩ := Dp.reads I (.tuple ds) y u he ry
    exact SeqAt.notIn_tuple_data r2 r1 se sd (by omega) ⟨.bl _, H, I, rfl, q⟩
def fInD (g : Bool → Bool) (p q : PV) : Option OT := match pd p, (seqOf q).bind pds with
  | some d, some ds => if shp d = true then some (.leaf (.bl (g (ds.any fun z => PyData.eqv z d)))) else none
  | _, _ => none
theorem seq_dp {G : Hp} {q : PV} {w : V} {ds : List PyData} (r : Rp K G q w) (h : (seqOf q).bind pds = some ds) : Dp K G w (.list ds) ∨ Dp K G w (.tuple ds) := by
  unfold seqOf at h
  split at h
  · exact .inl (rp_dp r (by unfold pd; rw [show pds _ = some ds from h]; rfl))
  · exact .inl (rp_dp r (by unfold pd; rw [show pds _ = some ds from h]; rfl))
  · exact .inr (rp_dp r (by unfold pd; rw [show pds _ = some ds from h]; rfl))
  · cases h
theorem inD_of {g : Bool → Bool} {G : Hp} {p q : PV} {w : V} {t : OT} (h : fInD g p q = some t) (r : Rp K G q w) : ∃ d ds, pd p = some d ∧ (Dp K G w (.list ds) ∨ Dp K G w (.tuple ds)) ∧ PyData.plainAll ds = true ∧ d.depth ≤ 64 ∧ t = .leaf (.bl (g (ds.any fun z => PyData.eqv z d))) := by
  unfold fInD at h
  split at h
  · rename_i d ds h1 h2
    split at h
    · rename_i hs
      cases h
      obtain ⟨xs, _, hx⟩ := Option.bind_eq_some_iff.mp h2
      exact ⟨d, ds, h1, seq_dp r h2, pds_plain hx, shp_le hs, rfl⟩
    · cases h
  · cases h
theorem o_inD (g : Bool → Bool) : Op2 K (rInP K g) (fInD g) := fun P G σ H S tmp Q p q v w t e rp rq l k => by
  obtain ⟨d, ds, h1, h2, h3, h4, rfl⟩ := inD_of e (Rp.mono l.le _ _ rq)
  exact ⟨d, ds, rp_dp (Rp.mono l.le _ _ rp) h1, h2, pd_plain h1, h3, h4, k _ _ (l.val _ _ (.bl _))⟩
def eqF : PV → PV → Bool
  | .non, .non => true
  | .bl a, .bl b => a == b
  | .bl a, .int b => (if a = true then 1 else 0) == b
  | .int a, .bl b => a == if b = true then 1 else 0
  | .int a, .int b => a == b
  | .str a, .str b => a == b
  | _, _ => false
def flatP : PV → Bool
  | .non => true
  | .bl _ => true
  | .int _ => true
  | .str _ => true
  | _ => false
theorem rp_flat {G : Hp} {p : PV} {v : V} (r : Rp K G p v) (h : flatP p = true) : flatV v = true := by
  cases r <;> first | rfl | cases h
theorem rp_eqF {G : Hp} {p q : PV} {v w : V} (r : Rp K G p v) (r2 : Rp K G q w) (h : flatP p = true) (h2 : flatP q = true) : eqV v w = eqF p q := by
  cases r <;> cases r2 <;> first | rfl | cases h | cases h2
theorem rps_flat {G : Hp} : ∀ {ps : List PV} {vs : List V}, Rps K G ps vs → ps.all flatP = true → vs.all flatV = true
  | [], _, r, _ => by cases r; rfl
  | p :: ps, _, r, h => by
    cases r with
    | cons r1 r2 =>
      rw [List.all_cons, Bool.and_eq_true_iff] at h ⊢
      exact ⟨rp_flat r1 h.1, rps_flat r2 h.2⟩
theorem rps_in {G : Hp} {q : PV} {w : V} (r2 : Rp K G q w) (h2 : flatP q = true) : ∀ {ps : List PV} {vs : List V}, Rps K G ps vs → ps.all flatP = true → inV w vs = ps.any fun z => eqF z q
  | [], _, r, _ => by cases r; rfl
  | p :: ps, _, r, h => by
    cases r with
    | cons r1 r3 =>
      rw [List.all_cons, Bool.and_eq_true_iff] at h
      unfold inV
      rw [List.any_cons, List.any_cons, rp_eqF r1 r2 h.1 h2]
      have := rps_in r2 h2 r3 h.2
      unfold inV at this
      rw [this]
def fInF (g : Bool → Bool) (p q : PV) : Option OT := match seqOf q with
  | some ys => if (flatP p && ys.all flatP) = true then some (.leaf (.bl (g (ys.any fun z => eqF z p)))) else none
  | none => none
theorem inF_of {neg : Bool} {g : Bool → Bool} (hg : ∀ b, (if neg = true then !b else b) = g b) : Op2 K (rIn K neg) (fInF g) := fun P G σ H S tmp Q p q v w t e rp rq l k => by
  unfold fInF at e
  split at e
  · rename_i ys es
    split at e
    · rename_i hf
      cases e
      obtain ⟨f1, f2⟩ := Bool.and_eq_true_iff.mp hf
      obtain ⟨a, vs, ev, h1, h2, _⟩ := seq_sq (Rp.mono l.le _ _ rq) es
      subst ev
      refine ⟨a, vs, rfl, h1, rp_flat rp f1, rps_flat h2 f2, ?_⟩
      have z := rps_in (Rp.mono l.le _ _ rp) f1 h2 f2
      have z2 := hg (inV v vs)
      rw [z] at z2
      rw [z, z2]
      exact k _ _ (l.val _ _ (.bl _))
    · cases e
  · cases e
def pIn : PV → PV → Option OT := orF2 (fInF id) (fInD id)
def pNotIn : PV → PV → Option OT := orF2 (fInF not) (fInD not)
end

section
variable {X : Cx} {P : Pm} {W : WX} {bi : List Nat} {n : Nat} {m m1 m2 m3 : ME} {e a b c : Expr} {pos : Pos}
theorem Gd.hu (g : Gd P W bi n X) : X.A.units + 65 < cLine := by
  have := g.room.un
  omega
theorem em_add (ha : EM X P W a m1) (hb : EM X P W b m2) : EM X P W (.BinOp a .Add b pos) (e2 pAdd m1 m2) := em_op (op_or op_add (op_or op_cat (op_or op_catA op_add_str))) (o_or (o_int0 fun _ _ _ => .int _) (o_or o_cat (o_or o_catT o_addS))) ha hb
theorem em_sub (ha : EM X P W a m1) (hb : EM X P W b m2) : EM X P W (.BinOp a .Sub b pos) (e2 pSub m1 m2) := em_op op_sub (o_int0 fun _ _ _ => .int _) ha hb
theorem em_mul (ha : EM X P W a m1) (hb : EM X P W b m2) : EM X P W (.BinOp a .Mult b pos) (e2 pMul m1 m2) := em_op (op_or op_mulW (op_or op_rep op_repT)) (o_or (o_int (fun i j h => show i.natAbs.log2 + j.natAbs.log2 < 1000000 from of_decide_eq_true h) fun _ _ _ => .int _) (o_or o_rep o_repT)) ha hb
theorem em_mod (ha : EM X P W a m1) (hb : EM X P W b m2) : EM X P W (.BinOp a .Mod b pos) (e2 pMod m1 m2) := em_op op_modN (o_int (fun _ _ h => of_decide_eq_true h) fun _ _ _ => .int _) ha hb
theorem em_div (ha : EM X P W a m1) (hb : EM X P W b m2) : EM X P W (.BinOp a .FloorDiv b pos) (e2 pDiv m1 m2) := em_op op_fdivN (o_int (fun _ _ h => by simpa [CDivN] using h) fun _ _ _ => .int _) ha hb
theorem em_pow (ha : EM X P W a m1) (hb : EM X P W b m2) : EM X P W (.BinOp a .Pow b pos) (e2 pPow m1 m2) := em_op op_pow (o_int (fun _ _ h => by simpa [CPow] using h) fun _ _ _ => .int _) ha hb
theorem em_neg (ha : EM X P W a m) : EM X P W (.UnaryOp .USub a pos) (e1 (fun p => match p with | .int i => some (.leaf (.int (-i))) | _ => none) m) := em_un un_neg (fun P G σ H S tmp Q p v t e rp l k => by
  split at e
  · cases e
    cases rp
    exact ⟨_, rfl, k _ _ (l.val _ _ (.int _))⟩
  · cases e) ha
theorem em_lt (ha : EM X P W a m1) (hb : EM X P W b m2) : EM X P W (.Compare a [.Lt] [b] pos) (e2 pLt m1 m2) := em_cmp op_lt (o_int0 fun _ _ _ => .bl _) ha hb (nomark _)
theorem tm_lt (ha : EM X P W a m1) (hb : EM X P W b m2) : TM X P W (.Compare a [.Lt] [b] pos) (tV (e2 pLt m1 m2)) := tm_cmp op_lt (o_int0 fun _ _ _ => .bl _) ha hb (nomark _)
theorem tm_le (ha : EM X P W a m1) (hb : EM X P W b m2) : TM X P W (.Compare a [.LtE] [b] pos) (tV (e2 pLe m1 m2)) := tm_cmp op_le (o_int0 fun _ _ _ => .bl _) ha hb (nomark _)
theorem tm_gt (ha : EM X P W a m1) (hb : EM X P W b m2) : TM X P W (.Compare a [.Gt] [b] pos) (tV (e2 pGt m1 m2)) := tm_cmp op_gt (o_int0 fun _ _ _ => .bl _) ha hb (nomark _)
theorem tm_ge (ha : EM X P W a m1) (hb : EM X P W b m2) : TM X P W (.Compare a [.GtE] [b] pos) (tV (e2 pGe m1 m2)) := tm_cmp op_ge (o_int0 fun _ _ _ => .bl _) ha hb (nomark _)
theorem em_ge (ha : EM X P W a m1) (hb : EM X P W b m2) : EM X P W (.Compare a [.GtE] [b] pos) (e2 pGe m1 m2) := em_cmp op_ge (o_int0 fun _ _ _ => .bl _) ha hb (nomark _)
theorem em_eq (g : Gd P W bi n X) (ha : EM X P W a m1) (hb : EM X P W b m2) : EM X P W (.Compare a [.Eq] [b] pos) (e2 pEq m1 m2) := em_cmp (op_eqP (Nat.lt_of_succ_lt g.hu)) o_eq ha hb (nomark _)
theorem tm_eq (g : Gd P W bi n X) (ha : EM X P W a m1) (hb : EM X P W b m2) : TM X P W (.Compare a [.Eq] [b] pos) (tV (e2 pEq m1 m2)) := tm_cmp (op_eqP (Nat.lt_of_succ_lt g.hu)) o_eq ha hb (nomark _)
theorem em_ne (g : Gd P W bi n X) (ha : EM X P W a m1) (hb : EM X P W b m2) : EM X P W (.Compare a [.NotEq] [b] pos) (e2 pNe m1 m2) := em_cmp (op_neP (Nat.lt_of_succ_lt g.hu)) o_ne ha hb (nomark _)
theorem tm_ne (g : Gd P W bi n X) (ha : EM X P W a m1) (hb : EM X P W b m2) : TM X P W (.Compare a [.NotEq] [b] pos) (tV (e2 pNe m1 m2)) := tm_cmp (op_neP (Nat.lt_of_succ_lt g.hu)) o_ne ha hb (nomark _)
theorem em_is (ha : EM X P W a m1) (hb : EM X P W b m2) : EM X P W (.Compare a [.Is] [b] pos) (e2 pIs m1 m2) := em_cmp (op_or op_isN op_isBl) (o_or o_isN o_isB) ha hb (nomark _)
theorem tm_is (ha : EM X P W a m1) (hb : EM X P W b m2) : TM X P W (.Compare a [.Is] [b] pos) (tV (e2 pIs m1 m2)) := tm_cmp (op_or op_isN op_isBl) (o_or o_isN o_isB) ha hb (nomark _)
theorem em_isnot (ha : EM X P W a m1) (hb : EM X P W b m2) : EM X P W (.Compare a [.IsNot] [b] pos) (e2 pIsNot m1 m2) := em_cmp (op_or op_notN op_notBl) (o_or o_notN o_notB) ha hb (nomark _)
theorem tm_isnot (ha : EM X P W a m1) (hb : EM X P W b m2) : TM X P W (.Compare a [.IsNot] [b] pos) (tV (e2 pIsNot m1 m2)) := tm_cmp (op_or op_notN op_notBl) (o_or o_notN o_notB) ha hb (nomark _)
theorem tm_in (g : Gd P W bi n X) (ha : EM X P W a m1) (hb : EM X P W b m2) (hm : behindInMarks .In b = false := by rfl) : TM X P W (.Compare a [.In] [b] pos) (tV (e2 pIn m1 m2)) := tm_cmp (op_or op_in_seq (op_inP g.hu)) (o_or (inF_of fun _ => rfl) (o_inD id)) ha hb hm
theorem tm_notin (g : Gd P W bi n X) (ha : EM X P W a m1) (hb : EM X P W b m2) (hm : behindInMarks .NotIn b = false := by rfl) : TM X P W (.Compare a [.NotIn] [b] pos) (tV (e2 pNotIn m1 m2)) := tm_cmp (op_or op_notIn_seq (op_notInP g.hu)) (o_or (inF_of fun _ => rfl) (o_inD not)) ha hb hm
end
end Fy

namespace Fy
open PySem PySem.Spec PyProof.Rows L2

/-! ### an expression worked out on frozen things, which stay one's own -/
def frS (S : Sl) : Sl := S.map fun o => o.map fun t => .leaf (fz t)
section
variable {K : PySem.W.Frag} {P : Pm} {σ : L2.St} {H : Hp} {S : Sl} {tmp : Tm}
theorem rsl_frS {G G1 : Hp} (e : Same G G1) : ∀ {S : Sl} {σ : L2.St} {A : List Addr}, Rsl K G H S σ A → (∀ a ∈ A, G1 a = H a) → Rsl K G1 H (frS S) σ []
  | _, _, _, .nil, _ => .nil
  | _, _, _, .off h, q => .off (rsl_frS e h q)
  | _, _, _, .on r h, q => .on (A := []) (B := []) (.leaf (Ro.frz e _ _ _ (fun a ha => q a (List.mem_append_left _ ha)) r)) (rsl_frS e h fun a ha => q a (List.mem_append_right _ ha))
/-- what the frozen side is: tables, nothing to be changed -/
def PmF (P : Pm) (G H : Hp) : Pm := ⟨P.T, [], H, G, P.B, P.rp⟩
theorem Sim.ice (s : Sim K P σ H S tmp) : ∃ G1, Sim K (PmF P G1 H) σ H (frS S) [] ∧ ∀ H2 S2 l, Sim K (PmF P G1 H) σ H2 S2 l → (∀ H3, Sim K P σ H3 S tmp → True) ∧
    ∀ ps vs, l = lf ps vs → ps.length = vs.length → noPs (okS S && okTs (tmp.map (·.1))) ps = true → Sim K P σ H2 S (lf ps vs ++ tmp) := by
  obtain ⟨⟨G, A, B, e0, e1, r1, r2, nd, fr⟩, kp, tb, by_⟩ := s
  have eG := frzG_same (A := A ++ B) e1
  refine ⟨frzG G H (A ++ B), ⟨⟨frzG G H (A ++ B), [], [], ⟨Same.refl _, fun _ _ h => .inl h, (e0.frz e1 (w := false) (fun a ha => (fr a ha).2) (fun a ha => by
    rcases List.mem_append.mp ha with z | z
    · obtain ⟨o, h, w⟩ := rsl_at r1 a z
      exact ⟨o, h, w.mono fun e => Bool.noConfusion e⟩
    · obtain ⟨o, h, w⟩ := ros_at _ _ _ r2 a z
      exact ⟨o, h, w.mono fun e => Bool.noConfusion e⟩)).3⟩, frzG_le e1, rsl_frS eG r1 (fun a ha => frzG_at (List.mem_append_left _ ha)), .nil, by simp, fun a ha => by simp at ha⟩, Kp.refl, tb, by_⟩, fun H2 S2 l s2 => ⟨fun _ _ => trivial, fun ps vs el hl hn => ?_⟩⟩
  subst el
  obtain ⟨⟨G2, A2, B2, f0, f1, q1, q2, _, _⟩, kp2, tb2, _⟩ := s2
  rw [zip_fst (by simp [hl]), zip_snd (by simp [hl])] at q2
  obtain ⟨rfl, rp⟩ := Ros.ofLeaves q2
  have own : ∀ a ∈ A ++ B, ∃ o, H a = some o ∧ Own (okS S && okTs (tmp.map (·.1))) o := fun a ha => by
    rcases List.mem_append.mp ha with z | z
    · obtain ⟨o, h, w⟩ := rsl_at r1 a z
      exact ⟨o, h, w.mono fun e => (Bool.and_eq_true_iff.mp e).1⟩
    · obtain ⟨o, h, w⟩ := ros_at _ _ _ r2 a z
      exact ⟨o, h, w.mono fun e => (Bool.and_eq_true_iff.mp e).2⟩
  have keep : ∀ a ∈ A ++ B, H2 a = H a := fun a ha => by
    obtain ⟨o, h, w⟩ := own a ha
    rw [h]
    exact kp2 a o h w.nt (by simp [PmF])
  let G3 : Hp := fun b => if b ∈ A ++ B then none else G2 b
  have g3 : Same G3 G2 := fun b o q => by
    have q' : (if b ∈ A ++ B then none else G2 b) = some o := q
    split at q'
    · cases q'
    · exact q'
  have gg3 : Same G G3 := fun b o q => by
    show (if b ∈ A ++ B then none else G2 b) = some o
    rw [if_neg (fun z => by rw [(fr b z).1] at q; cases q)]
    exact f0.1 b o (eG b o q)
  have less : ∀ b o, G2 b = some o → G3 b = some o ∨ Own (okS S && okTs (tmp.map (·.1))) o := fun b o q => by
    by_cases hb : b ∈ A ++ B
    · right
      obtain ⟨o', h, w⟩ := own b hb
      have := f1 b o q
      rw [keep b hb, h] at this
      rw [← Option.some.inj this]
      exact w
    · left
      show (if b ∈ A ++ B then none else G2 b) = some o
      rw [if_neg hb]
      exact q
  have mine : ∀ b, Mine (PmF P (frzG G H (A ++ B)) H) b → Mine P b := fun b m => by
    rcases m with m | m
    · simp [PmF] at m
    · by_cases hm : b ∈ P.M
      · exact .inl hm
      · refine .inr fun o q => ?_
        by_cases ht : ∃ ps, o = .tbl ps
        · exact ht
        · exact m o (kp b o q (fun ps z => ht ⟨ps, z⟩) hm)
  refine ⟨⟨G3, A, B, ⟨e0.1.trans gg3, fun b o q => ?_, fun b ps q => f0.3 b ps (g3 b _ q)⟩, g3.trans f1, r1.mono gg3 (fun a ha => keep a (List.mem_append_left _ ha)), ?_, nd, fun a ha => ⟨if_pos ha, (fr a ha).2⟩⟩, fun b o q nt nm => ?_, tb2, by_⟩
  · have hb : b ∉ A ++ B := fun hb => by
      have q' : (if b ∈ A ++ B then none else G2 b) = some o := q
      rw [if_pos hb] at q'
      cases q'
    rcases f0.2 b o (g3 b o q) with z | z
    · have z' : frzG G H (A ++ B) b = some o := z
      rw [frzG_out hb] at z'
      exact e0.2 b o z'
    · exact .inr (mine b z)
  · refine ros_join (B1 := []) ?_ (Ros.mono gg3 _ _ _ (fun a ha => keep a (List.mem_append_right _ ha)) r2)
    rw [zip_fst (by simp [hl]), zip_snd (by simp [hl])]
    exact Ros.leaves (Rps.less less _ _ hn rp)
  · exact kp2 b o (kp b o q nt nm) nt (by simp [PmF])
end
/-- nothing that is listed goes out of it: the slots are as they were -/
def eThaw (m : ME) : ME := fun S => match m (frS S) with
  | .ok (.leaf p) _ => if noP false p = true then .ok (.leaf p) S else .stuck
  | _ => .stuck
def tThaw (m : MT) : MT := fun S => match m (frS S) with
  | .ok b _ => .ok b S
  | _ => .stuck
mutual
theorem noP_mono {b : Bool} : ∀ p : PV, noP false p = true → noP b p = true
  | .non, _ => rfl
  | .bl _, _ => rfl
  | .int _, _ => rfl
  | .str _, _ => rfl
  | .ty _, _ => rfl
  | .glo _, _ => rfl
  | .tup xs, h => by
    have h' : noPs false xs = true := by simpa [noP] using h
    show noPs b xs = true
    exact noPs_mono xs h'
  | .lst xs, h => by simp [noP] at h
  | .rls xs, h => by simp [noP] at h
  | .obj _ _ xs, h => by simp [noP] at h
theorem noPs_mono {b : Bool} : ∀ p : List PV, noPs false p = true → noPs b p = true
  | [], _ => rfl
  | x :: xs, h => by
    have h' : noP false x = true ∧ noPs false xs = true := by simpa [noPs] using h
    show (noP b x && noPs b xs) = true
    rw [noP_mono x h'.1, noPs_mono xs h'.2]
    rfl
end
section
variable {X : Cx} {P : Pm} {W : WX} {e : Expr} {m : ME} {mt : MT} {bi : List Nat} {n : Nat}
theorem Gd.ice (g : Gd P W bi n X) (G H : Hp) : Gd (PmF P G H) Wno bi n X := ⟨g.calm, g.nd, g.room, g.gu, fun σ pins H s e s' _ h => by
    obtain ⟨_, _, _, _, _, _, _, _, _, _, _, _, h⟩ := h
    exact h.elim, g.own, g.bi, fun u s' h => by
    obtain ⟨_, _, _, _, _, _, _, _, _, _, _, _, _, _, _, _, h⟩ := h
    exact h.elim⟩
theorem em_thaw (g : Gd P W bi n X) (hm : ∀ P', Gd P' Wno bi n X → P'.T = P.T → P'.rp = P.rp → EM X P' Wno e m) : EM X P W e (eThaw m) := ⟨fun pins s σ H Q I ⟨S, tmp, sm, h⟩ => by
  obtain ⟨G1, s1, f⟩ := sm.ice
  refine (hm _ (g.ice G1 H) rfl rfl).run pins s σ H Q I ⟨_, [], s1, ?_⟩
  unfold eThaw at h
  cases em : m (frS S) with
  | stuck => simp only [em] at h; exact h
  | err x S1 => simp only [em] at h; exact h.elim
  | ok t S1 =>
    cases t with
    | node ts => simp only [em] at h; exact h.elim
    | ins c ns ts => simp only [em] at h; exact h.elim
    | leaf p =>
      simp only [em] at h
      intro v H2 s2
      by_cases hn : noP false p = true
      · rw [if_pos hn] at h
        refine h v H2 ((f H2 S1 _ s2).2 [p] [v] rfl rfl ?_)
        show (noP _ p && true) = true
        rw [noP_mono p hn]
        rfl
      · rw [if_neg hn] at h
        exact h.elim⟩
theorem tm_thaw (g : Gd P W bi n X) (hm : ∀ P', Gd P' Wno bi n X → P'.T = P.T → P'.rp = P.rp → TM X P' Wno e mt) : TM X P W e (tThaw mt) := ⟨fun pins s σ H Q I ⟨S, tmp, sm, h⟩ => by
  obtain ⟨G1, s1, f⟩ := sm.ice
  refine (hm _ (g.ice G1 H) rfl rfl).run pins s σ H Q I ⟨_, [], s1, ?_⟩
  unfold tThaw at h
  cases em : mt (frS S) with
  | stuck => simp only [em] at h; exact h
  | err x S1 => simp only [em] at h; exact h.elim
  | ok b S1 =>
    simp only [em] at h
    intro H2 s2
    exact h H2 ((f H2 S1 _ s2).2 [] [] rfl rfl rfl)⟩
end

/-! ### subscripts, slices -/
section
variable {K : PySem.W.Frag}
theorem ixN_lt {n : Nat} {i : Int} {j : Nat} (h : ixN n i = some j) : j < n := by
  unfold ixN at h
  split at h
  · split at h
    · cases h; omega
    · cases h
  · split at h
    · cases h; omega
    · cases h
theorem atI_rps {G : Hp} {xs : List PV} {vs : List V} {i : Int} {p : PV} (r : Rps K G xs vs) (h : atI xs i = some p) : ∃ v, atI vs i = some v ∧ Rp K G p v := by
  unfold atI at h ⊢
  rw [r.len] at h
  cases e : ixN vs.length i with
  | none => rw [e] at h; cases h
  | some j =>
    rw [e] at h
    exact Rps.get r h
def pIx : PV → PV → Option OT
  | .tup xs, .int i => (atI xs i).map .leaf
  | .lst xs, .int i => (atI xs i).map .leaf
  | .rls xs, .int i => (atI xs i).map .leaf
  | .str z, .int i => if z.length ≤ sizeLine then (atI z.cps.toList i).map fun c => .leaf (.str ⟨#[c]⟩) else none
  | _, _ => none
theorem o_ix : Op2 K (rIx K) pIx := fun P G σ H S tmp Q p q v w t e rp rq l k => by
  unfold pIx at e
  split at e
  · rename_i xs i
    cases e1 : atI xs i with
    | none => rw [e1] at e; cases e
    | some y =>
      rw [e1] at e
      cases e
      cases rq
      cases rp with
      | tup h1 h2 h3 =>
        obtain ⟨v, hv, rv⟩ := atI_rps h3 e1
        exact .inr (.inl ⟨_, _, i, v, rfl, rfl, same_t l.le h1, hv, k _ _ (l.val _ _ rv)⟩)
  · rename_i xs i
    cases e1 : atI xs i with
    | none => rw [e1] at e; cases e
    | some y =>
      rw [e1] at e
      cases e
      cases rq
      cases rp with
      | lst h1 h2 h3 =>
        obtain ⟨v, hv, rv⟩ := atI_rps h3 e1
        exact .inl ⟨_, _, i, v, rfl, rfl, .inl (.inl (l.le _ _ h1)), hv, k _ _ (l.val _ _ rv)⟩
  · rename_i xs i
    cases e1 : atI xs i with
    | none => rw [e1] at e; cases e
    | some y =>
      rw [e1] at e
      cases e
      cases rq
      cases rp with
      | rls h1 h2 h3 =>
        obtain ⟨v, hv, rv⟩ := atI_rps h3 e1
        exact .inl ⟨_, _, i, v, rfl, rfl, l.le.seq h1, hv, k _ _ (l.val _ _ rv)⟩
  · rename_i z i
    split at e
    · rename_i hz
      cases e1 : atI z.cps.toList i with
      | none => rw [e1] at e; cases e
      | some y =>
        rw [e1] at e
        cases e
        cases rq
        cases rp
        exact .inr (.inr ⟨z, i, y, rfl, rfl, hz, e1, k _ _ (l.val _ _ (.str _))⟩)
    · cases e
  · cases e
end
section
variable {X : Cx} {P : Pm} {W : WX} {bi : List Nat} {n : Nat} {m m1 m2 m3 : ME} {e a b c : Expr} {pos p2 : Pos}
theorem em_ix (ha : EM X P W a m1) (hb : EM X P W b m2) (hp : PlainIx b := by intro _ _; rfl) : EM X P W (.Subscript a b pos) (e2 pIx m1 m2) := weakE (pe_ix ix_seq ha hb hp) (t_e2 o_ix)
/-! slices -/
abbrev MO := Sl → Out (Option Int)
def PoO (K : PySem.W.Frag) (P : Pm) (W : WX) (σ : L2.St) (tmp : Tm) (Q : Option Int → Hp → Prop) : Out (Option Int) → Prop
  | .ok o S => ∀ H, Sim K P σ H S tmp → Q o H
  | .err x S => PoX K P W σ x S
  | .stuck => False
def tO (K : PySem.W.Frag) (P : Pm) (W : WX) (m : MO) : TO := fun σ H Q => ∃ S tmp, Sim K P σ H S tmp ∧ PoO K P W σ tmp Q (m S)
abbrev OM (X : Cx) (P : Pm) (W : WX) (e : Option Expr) (m : MO) : Prop := PO X e (tO X.K P W m)
def oN : MO := fun S => .ok none S
def oS (m : ME) : MO := fun S => (m S).bind fun t S1 => match t with
  | .leaf (.int i) => .ok (some i) S1
  | _ => .stuck
theorem weakO {e : Option Expr} {t t' : TO} (h : PO X e t) (i : ∀ σ H Q, t' σ H Q → t σ H Q) : PO X e t' := ⟨fun pins s σ H Q I q => h.run pins s σ H Q I (i σ H Q q)⟩
theorem om_n : OM X P W none oN := weakO po_none fun σ H Q ⟨S, tmp, s, h⟩ => h H s
theorem om_s (he : EM X P W e m) : OM X P W (some e) (oS m) := weakO (po_some he) fun σ H Q ⟨S, tmp, s, h⟩ => by
  refine ⟨S, tmp, s, ?_⟩
  unfold oS at h
  cases hm : m S with
  | stuck => rw [hm] at h; exact h
  | err x S1 => rw [hm] at h; exact h
  | ok t S1 =>
    rw [hm] at h
    intro v H1 s1
    cases t with
    | node ts => exact h.elim
    | ins c ns ts => exact h.elim
    | leaf p =>
      cases p <;> first
        | exact h.elim
        | (obtain ⟨G, rp, l⟩ := s1.open1
           cases rp
           exact ⟨_, rfl, h H1 s1.drop⟩)
def cutP (xs : List PV) (lo hi : Option Int) : List PV := (xs.drop (HT.sIx xs.length 0 lo)).take (HT.sIx xs.length xs.length hi - HT.sIx xs.length 0 lo)
theorem cut_rps {K : PySem.W.Frag} {G : Hp} {xs : List PV} {vs : List V} (r : Rps K G xs vs) (lo hi : Option Int) : Rps K G (cutP xs lo hi) (cutV vs lo hi) := by
  unfold cutP cutV
  rw [r.len]
  exact (r.drop _).take _
theorem cutV_len {vs : List V} {lo hi : Option Int} : (cutV vs lo hi).length ≤ vs.length := by
  unfold cutV
  rw [List.length_take, List.length_drop]
  omega
def pSl : PV → Option Int → Option Int → Option OT
  | .lst xs, lo, hi => some (.node ((cutP xs lo hi).map .leaf))
  | .rls xs, lo, hi => some (.node ((cutP xs lo hi).map .leaf))
  | .tup xs, lo, hi => some (.leaf (.tup (cutP xs lo hi)))
  | .str z, lo, hi => if z.length ≤ sizeLine then some (.leaf (.str (cutS z lo hi))) else none
  | _, _, _ => none
def eSl (m : ME) (ml mh : MO) : ME := fun S => (m S).bind fun t S1 => (ml S1).bind fun lo S2 => (mh S2).bind fun hi S3 => lift (pSl (fz t) lo hi) S3
def rSl3 (K : PySem.W.Frag) : V → Option Int → Option Int → Hp → VK → Prop := fun x lo hi H Q => rSlL K x lo hi H Q ∨ rSlA K x lo hi H Q ∨ rSlS x lo hi H Q
theorem sl_3 : SlR X (rSl3 X.K) := fun pins s σ H x v vl vu lo hi sl Q I r i1 i2 i3 h => by
  rcases h with h | h | h
  · exact sl_list pins s σ H x v vl vu lo hi sl Q I r i1 i2 i3 h
  · exact sl_tupA pins s σ H x v vl vu lo hi sl Q I r i1 i2 i3 h
  · exact sl_str pins s σ H x v vl vu lo hi sl Q I r i1 i2 i3 h
theorem sl_of {K : PySem.W.Frag} {G : Hp} {σ : L2.St} {H : Hp} {S : Sl} {tmp : Tm} {Q : VK} {p : PV} {v : V} {lo hi : Option Int} {t : OT} (e : pSl p lo hi = some t) (r : Rp K G p v) (l : Left K P G σ H S tmp) (k : ∀ v' H', Sim K P σ H' S ((t, v') :: tmp) → Q v' H') : rSl3 K v lo hi H Q := by
  unfold pSl at e
  split at e
  · cases e
    cases r with
    | lst h1 h2 h3 => exact .inl ⟨_, _, rfl, .inl (.inl (l.le _ _ h1)), fun p hp => k _ _ (l.own p _ _ hp (Nat.le_trans cutV_len h2) (cut_rps h3 _ _))⟩
  · cases e
    cases r with
    | rls h1 h2 h3 => exact .inl ⟨_, _, rfl, l.le.seq h1, fun p hp => k _ _ (l.own p _ _ hp (Nat.le_trans cutV_len h2) (cut_rps h3 _ _))⟩
  · rename_i xs
    cases e
    cases id r with
    | @tup a vs _ h1 h2 h3 =>
      refine .inr (.inl ⟨_, _, rfl, same_t l.le h1, fun w => k _ _ (l.val _ _ ?_), fun _ p hp => ?_⟩)
      · have z : cutP xs lo hi = xs := by
          unfold cutP
          rw [h3.len, w.1, w.2, List.drop_zero, Nat.sub_zero, ← h3.len, List.take_length]
        rw [z]
        exact r
      · have eG : Same G (upd G p (.tup (cutV vs lo hi))) := same_new (Same.free l.le hp)
        exact k _ _ (l.new p _ _ hp (fun _ z => by cases z) (.tup (.inl (.inl upd_same)) (Nat.le_trans cutV_len h2) (Rps.mono eG _ _ (cut_rps h3 _ _))))
  · split at e
    · rename_i hz
      cases e
      cases r
      exact .inr (.inr ⟨_, rfl, hz, k _ _ (l.val _ _ (.str _))⟩)
    · cases e
  · cases e
theorem em_sl {lo hi : Option Expr} {ml mh : MO} (ha : EM X P W a m) (hl : OM X P W lo ml) (hh : OM X P W hi mh) : EM X P W (.Subscript a (.Slice lo hi none p2) pos) (eSl m ml mh) := weakE (pe_slice sl_3 ha hl hh) fun σ H Q ⟨S, tmp, s, h⟩ => by
  refine ⟨S, tmp, s, ?_⟩
  unfold eSl at h
  cases hm : m S with
  | stuck => rw [hm] at h; exact h
  | err x S1 => rw [hm] at h; exact h
  | ok t S1 =>
    rw [hm] at h
    intro v H1 s1
    refine ⟨S1, _, s1, ?_⟩
    have h : PoE X.K P W σ tmp Q ((ml S1).bind fun lo S2 => (mh S2).bind fun hi S3 => lift (pSl (fz t) lo hi) S3) := h
    cases hm2 : ml S1 with
    | stuck => rw [hm2] at h; exact h
    | err x S2 => rw [hm2] at h; exact h
    | ok lo S2 =>
      rw [hm2] at h
      intro H2 s2
      refine ⟨S2, _, s2, ?_⟩
      have h : PoE X.K P W σ tmp Q ((mh S2).bind fun hi S3 => lift (pSl (fz t) lo hi) S3) := h
      cases hm3 : mh S2 with
      | stuck => rw [hm3] at h; exact h
      | err x S3 => rw [hm3] at h; exact h
      | ok hi S3 =>
        rw [hm3] at h
        intro H3 s3
        obtain ⟨G, rp, l⟩ := s3.frz1.open1
        have h : PoE X.K P W σ tmp Q (lift (pSl (fz t) lo hi) S3) := h
        cases e : pSl (fz t) lo hi with
        | none => rw [e] at h; exact h.elim
        | some u => rw [e] at h; exact sl_of e rp l h
end
/-! ### two comparisons -/
def eCh (f f' : PV → PV → Option OT) (m1 m2 m3 : ME) : ME := fun S => (m1 S).bind fun t S1 => (m2 S1).bind fun u S2 => match f (fz t) (fz u) with
  | some (.leaf (.bl true)) => (m3 S2).bind fun w S3 => lift (f' (fz u) (fz w)) S3
  | some (.leaf (.bl false)) => .ok (.leaf (.bl false)) S2
  | _ => .stuck
section
variable {X : Cx} {P : Pm} {W : WX} {bi : List Nat} {n : Nat} {m m1 m2 m3 : ME} {e a b c : Expr} {pos p2 : Pos}
/-- a comparison that leaves the heap as it is -/
def CmpI (K : PySem.W.Frag) (r : R2) (f : PV → PV → Option OT) : Prop := ∀ (G : Hp) (H : Hp) (Q : VK) (p q : PV) (v w : V) (b : Bool), f p q = some (.leaf (.bl b)) → Rp K G p v → Rp K G q w → Same G H → Q (.bl b) H → r v w H Q
theorem em_ch {op op' : CmpOp} {r r' : R2} {f f' : PV → PV → Option OT} (ho : OpR X (compareOp op) r) (ho' : OpR X (compareOp op') r') (hf : CmpI X.K r f) (hf' : Op2 X.K r' f') (ha : EM X P W a m1) (hb : EM X P W b m2) (hc : EM X P W c m3) (hm : lastMarks [op, op'] [b, c] = false) :
    EM X P W (.Compare a [op, op'] [b, c] pos) (eCh f f' m1 m2 m3) := weakE (pe_chain ho ho' ha hb hc hm) fun σ H Q ⟨S, tmp, s, h⟩ => by
  refine ⟨S, tmp, s, ?_⟩
  unfold eCh at h
  cases hm : m1 S with
  | stuck => rw [hm] at h; exact h
  | err x S1 => rw [hm] at h; exact h
  | ok t S1 =>
    rw [hm] at h
    intro v H1 s1
    refine ⟨S1, _, s1, ?_⟩
    have h : PoE X.K P W σ tmp Q ((m2 S1).bind fun u S2 => match f (fz t) (fz u) with
      | some (.leaf (.bl true)) => (m3 S2).bind fun w S3 => lift (f' (fz u) (fz w)) S3
      | some (.leaf (.bl false)) => .ok (.leaf (.bl false)) S2
      | _ => .stuck) := h
    cases hm2 : m2 S1 with
    | stuck => rw [hm2] at h; exact h
    | err x S2 => rw [hm2] at h; exact h
    | ok u S2 =>
      rw [hm2] at h
      intro w H2 s2
      have s3 := Sim.frzs (ts := [u, t]) (vs := [w, v]) rfl s2
      obtain ⟨G, eG, rp, rq, l⟩ := Sim.peek2 s3
      have h : PoE X.K P W σ tmp Q (match f (fz t) (fz u) with
        | some (.leaf (.bl true)) => (m3 S2).bind fun w S3 => lift (f' (fz u) (fz w)) S3
        | some (.leaf (.bl false)) => .ok (.leaf (.bl false)) S2
        | _ => .stuck) := h
      split at h
      · rename_i e1
        refine hf G H2 _ _ _ v w true e1 rp rq eG ⟨true, rfl, ?_⟩
        rw [if_pos rfl]
        have s4 : Sim X.K P σ H2 S2 ((.leaf (fz u), w) :: tmp) := Sim.drop (s3.perm (List.Perm.swap _ _ _))
        refine ⟨S2, _, s4, ?_⟩
        cases hm3 : m3 S2 with
        | stuck => rw [hm3] at h; exact h
        | err x S3 => rw [hm3] at h; exact h
        | ok y S3 =>
          rw [hm3] at h
          intro z H3 s5
          have s6 : Sim X.K P σ H3 S3 ((.leaf (fz y), z) :: (.leaf (fz u), w) :: tmp) := Sim.frz1 s5
          obtain ⟨G2, rp2, rq2, l2⟩ := Sim.open2 s6
          have h : PoE X.K P W σ tmp Q (lift (f' (fz u) (fz y)) S3) := h
          cases e2 : f' (fz u) (fz y) with
          | none => rw [e2] at h; exact h.elim
          | some o => rw [e2] at h; exact hf' P G2 σ H3 S3 tmp Q _ _ w z o e2 rp2 rq2 l2 h
      · rename_i e1
        refine hf G H2 _ _ _ v w false e1 rp rq eG ⟨false, rfl, ?_⟩
        rw [if_neg (by decide)]
        exact h _ H2 ((Sim.drops (l := [_, _]) s3 |> fun q => simC q fun _ => .bl _))
      · exact h.elim
theorem cmpI_int {K : PySem.W.Frag} {g : Int → Int → Bool} : CmpI K (rI0 fun i j => V.bl (g i j)) (fI0 fun i j => .bl (g i j)) := fun G H Q p q v w b e rp rq eG h => by
  unfold fI0 at e
  split at e
  · cases e
    cases rp
    cases rq
    exact ⟨_, _, rfl, rfl, h⟩
  · cases e
theorem em_lele (ha : EM X P W a m1) (hb : EM X P W b m2) (hc : EM X P W c m3) (hm : lastMarks [.LtE, .LtE] [b, c] = false := by rfl) : EM X P W (.Compare a [.LtE, .LtE] [b, c] pos) (eCh pLe pLe m1 m2 m3) := em_ch op_le op_le (cmpI_int (g := fun i j => decide (i ≤ j))) (o_int0 fun _ _ _ => .bl _) ha hb hc hm
theorem em_lelt (ha : EM X P W a m1) (hb : EM X P W b m2) (hc : EM X P W c m3) (hm : lastMarks [.LtE, .Lt] [b, c] = false := by rfl) : EM X P W (.Compare a [.LtE, .Lt] [b, c] pos) (eCh pLe pLt m1 m2 m3) := em_ch op_le op_lt (cmpI_int (g := fun i j => decide (i ≤ j))) (o_int0 fun _ _ _ => .bl _) ha hb hc hm
end
end Fy

namespace Fy
open PySem PySem.Spec PyProof.Rows L2

section
variable {K : PySem.W.Frag}
/-! ### built-ins by values -/
def fLen : List PV → Option OT
  | [.str z] => if z.length ≤ sizeLine then some (.leaf (.int (z.length : Nat))) else none
  | [p] => (seqOf p).map fun xs => .leaf (.int (xs.length : Nat))
  | _ => none
theorem oN_len : OpN K (fun xs H Q => ∃ x n, xs = [x] ∧ LenV K x H n ∧ Q (V.int (n : Nat)) H) fLen := fun P G σ H S tmp Q ps vs t e r l k => by
  unfold fLen at e
  split at e
  · split at e
    · rename_i hz
      cases e
      cases r with
      | cons r1 r2 =>
        cases r2
        cases r1
        exact ⟨_, _, rfl, ⟨hz, rfl⟩, k _ _ (l.val _ _ (.int _))⟩
    · cases e
  · rename_i p _
    cases r with
    | cons r1 r2 =>
      cases r2
      cases es : seqOf p with
      | none => rw [es] at e; cases e
      | some xs =>
        rw [es] at e
        cases e
        obtain ⟨a, ws, ev, h1, h2, _⟩ := seq_sq (Rp.mono l.le _ _ r1) es
        subst ev
        refine ⟨_, ws.length, rfl, ?_, ?_⟩
        · rcases h1 with h1 | h1
          · exact .inl ⟨ws, h1, rfl⟩
          · exact .inr ⟨ws, h1, rfl⟩
        · rw [← h2.len]
          exact k _ _ (l.val _ _ (.int _))
  · cases e
def fList : List PV → Option OT
  | [p] => (seqOf p).map fun xs => .node (xs.map .leaf)
  | _ => none
theorem oN_list : OpN K (fun xs H Q => ∃ p ys, xs = [V.ref p] ∧ (SqL K H p ys ∨ SqT K H p ys) ∧ ∀ (l : Addr), H l = none → Q (V.ref l) (upd H l (HO.lst ys))) fList := fun P G σ H S tmp Q ps vs t e r l k => by
  unfold fList at e
  split at e
  · rename_i p
    cases r with
    | cons r1 r2 =>
      cases r2
      cases es : seqOf p with
      | none => rw [es] at e; cases e
      | some xs =>
        rw [es] at e
        cases e
        obtain ⟨a, ws, ev, h1, h2, h3⟩ := seq_sq r1 es
        subst ev
        refine ⟨a, ws, rfl, ?_, fun p hp => k _ _ (l.own p ws xs hp h3 h2)⟩
        rcases h1 with h1 | h1
        · exact .inl (l.le.seq h1)
        · exact .inr (same_t l.le h1)
  · cases e
def fTup : List PV → Option OT
  | [p] => (seqOf p).map fun xs => .leaf (.tup xs)
  | _ => none
theorem oN_tup : OpN K (fun xs H Q => ∃ p ys, xs = [V.ref p] ∧ ((SqL K H p ys ∧ ∀ (l : Addr), H l = none → Q (V.ref l) (upd H l (HO.tup ys))) ∨ SqT K H p ys ∧ Q (V.ref p) H)) fTup := fun P G σ H S tmp Q ps vs t e r l k => by
  unfold fTup at e
  split at e
  · rename_i p
    cases r with
    | cons r1 r2 =>
      cases r2
      cases es : seqOf p with
      | none => rw [es] at e; cases e
      | some xs =>
        rw [es] at e
        cases e
        obtain ⟨a, ws, ev, h1, h2, h3⟩ := seq_sq r1 es
        subst ev
        refine ⟨a, ws, rfl, ?_⟩
        rcases h1 with h1 | h1
        · refine .inl ⟨l.le.seq h1, fun p hp => ?_⟩
          have eG : Same G (upd G p (.tup ws)) := same_new (Same.free l.le hp)
          exact k _ _ (l.new p _ _ hp (fun _ z => by cases z) (.tup (.inl (.inl upd_same)) h3 (Rps.mono eG _ _ h2)))
        · exact .inr ⟨same_t l.le h1, k _ _ (l.val _ _ (.tup h1 h3 h2))⟩
  · cases e
def fInt : List PV → Option OT
  | [.int i] => some (.leaf (.int i))
  | [.bl b] => some (.leaf (.int (if b = true then 1 else 0)))
  | _ => none
theorem oN_int : OpN K (fun xs H Q => (∃ i, xs = [V.int i] ∧ Q (V.int i) H) ∨ ∃ k, xs = [V.bl k] ∧ Q (V.int (if k = true then 1 else 0)) H) fInt := fun P G σ H S tmp Q ps vs t e r l k => by
  unfold fInt at e
  split at e
  · cases e
    cases r with
    | cons r1 r2 =>
      cases r2
      cases r1
      exact .inl ⟨_, rfl, k _ _ (l.val _ _ (.int _))⟩
  · cases e
    cases r with
    | cons r1 r2 =>
      cases r2
      cases r1
      exact .inr ⟨_, rfl, k _ _ (l.val _ _ (.int _))⟩
  · cases e
def fAbs : List PV → Option OT
  | [.int i] => some (.leaf (.int (if i < 0 then -i else i)))
  | _ => none
theorem oN_abs : OpN K (fun xs H Q => ∃ i, xs = [V.int i] ∧ Q (V.int (if i < 0 then -i else i)) H) fAbs := fun P G σ H S tmp Q ps vs t e r l k => by
  unfold fAbs at e
  split at e
  · cases e
    cases r with
    | cons r1 r2 =>
      cases r2
      cases r1
      exact ⟨_, rfl, k _ _ (l.val _ _ (.int _))⟩
  · cases e
def blsOf : List PV → Option (List Bool)
  | [] => some []
  | .bl b :: xs => (blsOf xs).map fun bs => b :: bs
  | _ => none
theorem rps_bls {G : Hp} : ∀ {xs : List PV} {vs : List V} {bs : List Bool}, Rps K G xs vs → blsOf xs = some bs → vs = bs.map V.bl
  | [], _, _, r, e => by cases r; cases e; rfl
  | x :: xs, _, _, r, e => by
    cases r with
    | cons r1 r2 =>
      unfold blsOf at e
      split at e
      · rename_i h; cases h
      · rename_i h
        cases h
        cases e1 : blsOf xs with
        | none => rw [e1] at e; cases e
        | some bs =>
          rw [e1] at e
          cases e
          cases r1
          rw [rps_bls r2 e1]
          rfl
      · cases e
def fAll (g : List Bool → Bool) : List PV → Option OT
  | [.lst xs] => (blsOf xs).map fun bs => .leaf (.bl (g bs))
  | [.rls xs] => (blsOf xs).map fun bs => .leaf (.bl (g bs))
  | _ => none
theorem oN_all {g : List Bool → Bool} : OpN K (fun vs H Q => ∃ a bs, vs = [V.ref a] ∧ SqL K H a (List.map V.bl bs) ∧ Q (V.bl (g bs)) H) (fAll g) := fun P G σ H S tmp Q ps vs t e r l k => by
  unfold fAll at e
  split at e
  · rename_i xs
    cases e1 : blsOf xs with
    | none => rw [e1] at e; cases e
    | some bs =>
      rw [e1] at e
      cases e
      cases r with
      | cons r1 r2 =>
        cases r2
        cases r1 with
        | lst h1 h2 h3 =>
          rw [rps_bls h3 e1] at h1
          exact ⟨_, bs, rfl, .inl (.inl (l.le _ _ h1)), k _ _ (l.val _ _ (.bl _))⟩
  · rename_i xs
    cases e1 : blsOf xs with
    | none => rw [e1] at e; cases e
    | some bs =>
      rw [e1] at e
      cases e
      cases r with
      | cons r1 r2 =>
        cases r2
        cases r1 with
        | rls h1 h2 h3 =>
          rw [rps_bls h3 e1] at h1
          exact ⟨_, bs, rfl, l.le.seq h1, k _ _ (l.val _ _ (.bl _))⟩
  · cases e

/-! ### repr -/
mutual
theorem pd_noDict : ∀ {p : PV} {d : PyData}, pd p = some d → d.hasDict = false
  | .non, _, e => by cases e; rfl
  | .bl _, _, e => by cases e; rfl
  | .int _, _, e => by cases e; rfl
  | .str _, _, e => by cases e; rfl
  | .ty _, _, e => by cases e
  | .glo _, _, e => by cases e
  | .obj _ _ _, _, e => by cases e
  | .tup xs, _, e => by
    unfold pd at e
    cases e1 : pds xs with
    | none => rw [e1] at e; cases e
    | some ds => rw [e1] at e; cases e; simpa [PyData.hasDict] using pds_noDict e1
  | .lst xs, _, e => by
    unfold pd at e
    cases e1 : pds xs with
    | none => rw [e1] at e; cases e
    | some ds => rw [e1] at e; cases e; simpa [PyData.hasDict] using pds_noDict e1
  | .rls xs, _, e => by
    unfold pd at e
    cases e1 : pds xs with
    | none => rw [e1] at e; cases e
    | some ds => rw [e1] at e; cases e; simpa [PyData.hasDict] using pds_noDict e1
theorem pds_noDict : ∀ {xs : List PV} {ds : List PyData}, pds xs = some ds → PyData.hasDictAll ds = false
  | [], _, e => by cases e; rfl
  | x :: xs, _, e => by
    unfold pds at e
    cases e1 : pd x with
    | none => rw [e1] at e; cases e
    | some d =>
      rw [e1] at e
      cases e2 : pds xs with
      | none => rw [e2] at e; cases e
      | some ds => rw [e2] at e; cases e; simp [PyData.hasDictAll, pd_noDict e1, pds_noDict e2]
end
def rRepr (K : PySem.W.Frag) : List V → Hp → VK → Prop := fun xs H Q => ∃ x d, xs = [x] ∧ Dp K H x d ∧ d.hasDict = false ∧ d.showable = true ∧ d.depth ≤ 64 ∧ d.shown.length ≤ sizeLine ∧ Q (.str d.shown) H
theorem call_reprD {X : Cx} (hg : X.A.guards = some []) (hu : X.A.units + 65 < cLine) : CallR X (.builtin "repr") (rRepr X.K) := fun pins s σ H xs us Q I r ⟨x, d, ex, dp, hd, hs, hde, hl, q⟩ => by
  subst ex
  cases r with
  | cons r rr =>
    cases rr
    obtain ⟨as, rd⟩ := Dp.reads I d x _ dp r
    cases dp with
    | non =>
      have r : _ = Value.none := r
      subst r
      refine call_repr_gives (T := "NoneType") rfl F.slot_NoneType_repr F.entry_NoneType_repr (F.args_NoneType_repr_1 _) gives_none_repr ?_
      exact ⟨_, H, I.kept (t' := s.toks + 1) fun _ _ h => h, (show L2.RelV (.str _) _ from ⟨_, rfl⟩), q⟩
    | bl b =>
      have r : _ = Value.bool b := r
      subst r
      refine call_repr_gives (T := "bool") rfl F.slot_bool_repr F.entry_bool_repr (F.args_bool_repr_1 _) (gives_bool_repr b) ?_ rfl (by cases b <;> decide)
      exact ⟨_, H, I.kept (t' := s.toks + 1) fun _ _ h => h, (show L2.RelV (.str _) _ from ⟨_, rfl⟩), q⟩
    | int i =>
      obtain ⟨t, r⟩ : ∃ t, _ = Value.int i t := r
      subst r
      refine call_repr_gives (T := "int") rfl F.slot_int_repr F.entry_int_repr (F.args_int_repr_1 _) (gives_int_repr i t (by simpa [PyData.showable] using hs)) ?_ rfl hl
      exact ⟨_, H, I.kept (t' := s.toks + 1) fun _ _ h => h, (show L2.RelV (.str _) _ from ⟨_, rfl⟩), q⟩
    | str z =>
      obtain ⟨t, r⟩ : ∃ t, _ = Value.str z t := r
      subst r
      refine call_repr_gives (T := "str") rfl F.slot_str_repr F.entry_str_repr (F.args_str_repr_1 _) (gives_str_repr z t) ?_ rfl hl
      exact ⟨_, H, I.kept (t' := s.toks + 1) fun _ _ h => h, (show L2.RelV (.str _) _ from ⟨_, rfl⟩), q⟩
    | lst h1 h2 =>
      cases r
      refine repr_of_reads' rd hs (fun z => by rw [hd] at z; cases z) hg (by omega) (fun _ _ h => h) (fun h' u tk hk => ?_) hl
      exact ⟨_, H, I.kept hk, (show L2.RelV (.str _) _ from ⟨_, rfl⟩), q⟩
    | tup h1 h2 =>
      cases r
      refine repr_of_reads' rd hs (fun z => by rw [hd] at z; cases z) hg (by omega) (fun _ _ h => h) (fun h' u tk hk => ?_) hl
      exact ⟨_, H, I.kept hk, (show L2.RelV (.str _) _ from ⟨_, rfl⟩), q⟩
def fRepr : List PV → Option OT
  | [p] => (pd p).bind fun d => if d.showable = true ∧ d.depth ≤ 64 ∧ d.shown.length ≤ sizeLine then some (.leaf (.str d.shown)) else none
  | _ => none
theorem oN_repr : OpN K (rRepr K) fRepr := fun P G σ H S tmp Q ps vs t e r l k => by
  unfold fRepr at e
  split at e
  · rename_i p
    cases r with
    | cons r1 r2 =>
      cases r2
      cases ed : pd p with
      | none => rw [ed] at e; cases e
      | some d =>
        rw [ed] at e
        have e : (if d.showable = true ∧ d.depth ≤ 64 ∧ d.shown.length ≤ sizeLine then some (OT.leaf (.str d.shown)) else none) = some t := e
        split at e
        · rename_i hc
          cases e
          exact ⟨_, d, rfl, rp_dp (Rp.mono l.le _ _ r1) ed, pd_noDict ed, hc.1, hc.2.1, hc.2.2, k _ _ (l.val _ _ (.str _))⟩
        · cases e
  · cases e
end
section
variable {X : Cx} {P : Pm} {W : WX} {bi : List Nat} {n : Nat} {m m1 m2 m3 : ME} {e a b c : Expr} {pos p2 p : Pos} {ma : MA}
theorem em_len (hg : Gl X "len") (hm : X.mg "len" = none) (ha : AM X P W [e] ma) (he : starEach [e] X.env = (false, eval e X.env) :: starEach [] X.env := by rfl) (hpl : (backTo pos (starEach [] X.env)).any (·.1) = false := by rfl) : EM X P W (.Call (.Name "len" p) [e] [] pos) (eN fLen ma) := em_bi call_len oN_len hg hm (by decide +kernel) ha (he := he) (hpl := hpl)
theorem em_abs (hg : Gl X "abs") (hm : X.mg "abs" = none) (ha : AM X P W [e] ma) (he : starEach [e] X.env = (false, eval e X.env) :: starEach [] X.env := by rfl) (hpl : (backTo pos (starEach [] X.env)).any (·.1) = false := by rfl) : EM X P W (.Call (.Name "abs" p) [e] [] pos) (eN fAbs ma) := em_bi call_abs oN_abs hg hm (by decide +kernel) ha (he := he) (hpl := hpl)
theorem em_all (g : Gd P W bi n X) (hg : Gl X "all") (hm : X.mg "all" = none) (ha : AM X P W [e] ma) (he : starEach [e] X.env = (false, eval e X.env) :: starEach [] X.env := by rfl) (hpl : (backTo pos (starEach [] X.env)).any (·.1) = false := by rfl) : EM X P W (.Call (.Name "all" p) [e] [] pos) (eN (fAll fun bs => bs.all id) ma) := em_bi (cr_all g.calm) oN_all hg hm (by decide +kernel) ha (he := he) (hpl := hpl)
theorem em_any (g : Gd P W bi n X) (hg : Gl X "any") (hm : X.mg "any" = none) (ha : AM X P W [e] ma) (he : starEach [e] X.env = (false, eval e X.env) :: starEach [] X.env := by rfl) (hpl : (backTo pos (starEach [] X.env)).any (·.1) = false := by rfl) : EM X P W (.Call (.Name "any" p) [e] [] pos) (eN (fAll fun bs => bs.any id) ma) := em_bi (cr_any g.calm) oN_all hg hm (by decide +kernel) ha (he := he) (hpl := hpl)
theorem em_repr (g : Gd P W bi n X) (hrp : P.rp = true) (hg : Gl X "repr") (hm : X.mg "repr" = none) (ha : AM X P W [e] ma) (he : starEach [e] X.env = (false, eval e X.env) :: starEach [] X.env := by rfl) (hpl : (backTo pos (starEach [] X.env)).any (·.1) = false := by rfl) : EM X P W (.Call (.Name "repr" p) [e] [] pos) (eN fRepr ma) := em_bi (call_reprD (g.gu hrp) g.hu) oN_repr hg hm (by decide +kernel) ha (he := he) (hpl := hpl)
theorem em_list (hg : Gl X "list") (hm : X.mg "list" = none) (ha : AM X P W [e] ma) (he : starEach [e] X.env = (false, eval e X.env) :: starEach [] X.env := by rfl) (hpl : (backTo pos (starEach [] X.env)).any (·.1) = false := by rfl) : EM X P W (.Call (.Name "list" p) [e] [] pos) (eN fList ma) := em_ty call_list_of oN_list hg hm (by decide +kernel) ha (he := he) (hpl := hpl)
theorem em_tuple (hg : Gl X "tuple") (hm : X.mg "tuple" = none) (ha : AM X P W [e] ma) (he : starEach [e] X.env = (false, eval e X.env) :: starEach [] X.env := by rfl) (hpl : (backTo pos (starEach [] X.env)).any (·.1) = false := by rfl) : EM X P W (.Call (.Name "tuple" p) [e] [] pos) (eN fTup ma) := em_ty call_tuple_of oN_tup hg hm (by decide +kernel) ha (he := he) (hpl := hpl)
theorem em_cint (hg : Gl X "int") (hm : X.mg "int" = none) (ha : AM X P W [e] ma) (he : starEach [e] X.env = (false, eval e X.env) :: starEach [] X.env := by rfl) (hpl : (backTo pos (starEach [] X.env)).any (·.1) = false := by rfl) : EM X P W (.Call (.Name "int" p) [e] [] pos) (eN fInt ma) := em_ty call_int1 oN_int hg hm (by decide +kernel) ha (he := he) (hpl := hpl)
end
end Fy

namespace Fy
open PySem PySem.Spec PyProof.Rows L2

/-! ### isinstance -/
inductive Ty where
  | b (n : String) | o (c : Str)
deriving DecidableEq
def tyVal (K : PySem.W.Frag) : Ty → Value
  | .b n => .type n
  | .o c => .ref (He.ga K c)
def tyV1 (K : PySem.W.Frag) : Ty → V
  | .b n => .ty n
  | .o c => .ref (He.ga K c)
def tyP : PV → Option Ty
  | .non => some (.b "NoneType")
  | .bl _ => some (.b "bool")
  | .int _ => some (.b "int")
  | .str _ => some (.b "str")
  | .tup _ => some (.b "tuple")
  | .lst _ => some (.b "list")
  | .rls _ => some (.b "list")
  | .obj c _ _ => some (.o c)
  | _ => none
/-- what is to be known of a class whose instances are asked for their type -/
structure InsC (K : PySem.W.Frag) (c : Str) : Prop where
  cls : Cls K (He.ga K c)
  ha : PySem.W.findIn K (.ref (He.ga K c)) "__class__" = some (some (.builtin "object.__class__"))
  hn : PySem.W.specialIn K (.builtin "object.__class__") "__get__" = some (some (.builtin "getset_descriptor.__get__"))
  ht : PySem.W.takesIn K (.builtin "object.__class__") = some true
  hm : PySem.W.mroIn K (He.ga K c) (.type "object") = some true
structure TabI (K : PySem.W.Frag) (tab : List (Ty × Ty × Bool)) : Prop where
  kit : ∀ x ∈ tab, PySem.W.kitOne K (tyVal K x.1) (tyVal K x.2.1) = some x.2.2
  ins : ∀ x ∈ tab, ∀ c, x.1 = .o c → InsC K c
def askI : List (Ty × Ty × Bool) → Ty → Ty → Option Bool
  | [], _, _ => none
  | x :: r, t, c => if x.1 = t ∧ x.2.1 = c then some x.2.2 else askI r t c
theorem askI_mem : ∀ {tab : List (Ty × Ty × Bool)} {t c : Ty} {b : Bool}, askI tab t c = some b → (t, c, b) ∈ tab
  | [], _, _, _, h => by cases h
  | x :: r, t, c, b, h => by
    unfold askI at h
    split at h
    · rename_i e
      cases h
      obtain ⟨rfl, rfl⟩ := e
      exact List.mem_cons_self
    · exact List.mem_cons_of_mem _ (askI_mem h)
def anyI (tab : List (Ty × Ty × Bool)) (t : Ty) : List Ty → Option Bool
  | [] => some false
  | c :: r => match askI tab t c with
    | some true => some true
    | some false => anyI tab t r
    | none => none
section
variable {K : PySem.W.Frag}
theorem rp_ty {G : Hp} {tab : List (Ty × Ty × Bool)} (T : TabI K tab) {p : PV} {v : V} {t c : Ty} {b : Bool} (h : tyP p = some t) (ha : askI tab t c = some b) (r : Rp K G p v) : TyX K G v (tyVal K t) := by
  cases r with
  | non => cases h; exact .base .non
  | bl _ => cases h; exact .base (.bl _)
  | int _ => cases h; exact .base (.int _)
  | str _ => cases h; exact .base (.str _)
  | ty _ => cases h
  | glo _ => cases h
  | tup h1 h2 h3 =>
    cases h
    rcases h1 with (z | ⟨o, z⟩) | ⟨o, its, n, z1, z2, _⟩
    · exact .base (.tup z)
    · exact .fTuple z
    · exact .kTuple z1 z2
  | lst h1 h2 h3 => cases h; exact .base (.lst h1)
  | rls h1 h2 h3 =>
    cases h
    rcases h1 with (z | ⟨o, z⟩) | ⟨o, its, n, z1, z2, _⟩
    · exact .base (.lst z)
    · exact .base (.frz z)
    · exact .kList z1 z2
  | obj h1 h2 h3 =>
    cases h
    obtain ⟨c1, c2, c3, c4, c5⟩ := T.ins _ (askI_mem ha) _ rfl
    exact .base (.ins h1 c1 c2 c3 c4 c5)
theorem clsV {t : Ty} : ClsV (tyV1 K t) (tyVal K t) := by
  cases t with
  | b n => exact .ty n
  | o c => exact .own _
end
/-- isinstance(e, C) -/
def fIsi (tab : List (Ty × Ty × Bool)) (c : Ty) : PV → Option OT := fun p => (tyP p).bind fun t => (askI tab t c).map fun b => .leaf (.bl b)
def fIsiT (tab : List (Ty × Ty × Bool)) (cs : List Ty) : PV → Option OT := fun p => (tyP p).bind fun t => match cs with
  | [] => none
  | c :: _ => (askI tab t c).bind fun _ => (anyI tab t cs).map fun b => .leaf (.bl b)
section
variable {X : Cx} {P : Pm} {W : WX} {bi : List Nat} {n : Nat} {m m1 m2 m3 : ME} {e a b c : Expr} {pos p2 p p3 : Pos} {ma : MA}
theorem em_isi {tab : List (Ty × Ty × Bool)} (T : TabI X.K tab) (t : Ty) (hg : Gl X "isinstance") (hm : X.mg "isinstance" = none) (he : EM X P W e m) (hc : PE X c (tC (tyV1 X.K t)))
    (h1 : starEach [e, c] X.env = (false, eval e X.env) :: starEach [c] X.env := by rfl) (h2 : starEach [c] X.env = (false, eval c X.env) :: starEach [] X.env := by rfl) (hpl : (backTo pos (starEach [c] X.env)).any (·.1) = false := by rfl) :
    EM X P W (.Call (.Name "isinstance" p) [e, c] [] pos) (e1 (fIsi tab t) m) := weakE (pe_callB call_isi hg hm (by decide +kernel) (pa_cons he (pa_cons hc pa_nil h2) h1) (by decide) (by decide) h1 hpl) fun σ H Q ⟨S, tmp, s, h⟩ => by
  refine ⟨S, tmp, s, ?_⟩
  unfold e1 at h
  cases hm : m S with
  | stuck => rw [hm] at h; exact h
  | err x S1 => rw [hm] at h; exact h
  | ok u S1 =>
    rw [hm] at h
    intro v H1 s1
    obtain ⟨G, rp, l⟩ := s1.frz1.open1
    have h : PoE X.K P W σ tmp Q (lift (fIsi tab t (fz u)) S1) := h
    unfold fIsi at h
    cases et : tyP (fz u) with
    | none => rw [et] at h; exact h.elim
    | some ty =>
      rw [et] at h
      cases ea : askI tab ty t with
      | none => simp only [Option.bind, ea] at h; exact h.elim
      | some b =>
        simp only [Option.bind, ea] at h
        exact ⟨v, _, tyVal X.K ty, tyVal X.K t, b, rfl, clsV, rp_ty T et ea (Rp.mono l.le _ _ rp), T.kit _ (askI_mem ea), h _ H1 (l.val _ _ (.bl _))⟩
/-- the classes of a written tuple -/
inductive ClL (X : Cx) : List Expr → List Ty → Prop
  | nil : ClL X [] []
  | cons {c : Expr} {cs : List Expr} {t : Ty} {ts : List Ty} : PE X c (tC (tyV1 X.K t)) → ClL X cs ts → starEach (c :: cs) X.env = (false, eval c X.env) :: starEach cs X.env → ClL X (c :: cs) (t :: ts)
theorem ClL.pa {cs : List Expr} {ts : List Ty} (h : ClL X cs ts) : PA X cs fun _ H Q => Q (ts.map (tyV1 X.K)) H := by
  induction h with
  | nil => exact pa_nil
  | cons h1 _ h3 ih => exact weakA (pa_cons h1 ih h3) fun σ H Q q => q
theorem em_isiT {tab : List (Ty × Ty × Bool)} (T : TabI X.K tab) {cs : List Expr} {ts : List Ty} {x1 : Nat} (hg : Gl X "isinstance") (hm : X.mg "isinstance" = none) (he : EM X P W e m) (hc : ClL X cs ts) (hz : ts.length ≤ 1000)
    (h1 : starEach [e, .Tuple cs x1 p3] X.env = (false, eval e X.env) :: starEach [.Tuple cs x1 p3] X.env := by rfl) (h2 : starEach [.Tuple cs x1 p3] X.env = (false, eval (.Tuple cs x1 p3) X.env) :: starEach [] X.env := by rfl) (hpl : (backTo pos (starEach [.Tuple cs x1 p3] X.env)).any (·.1) = false := by rfl) :
    EM X P W (.Call (.Name "isinstance" p) [e, .Tuple cs x1 p3] [] pos) (e1 (fIsiT tab ts) m) := weakE (pe_callB call_isiT hg hm (by decide +kernel) (pa_cons he (pa_cons (pe_tup hc.pa) pa_nil h2) h1) (by decide) (by decide) h1 hpl) fun σ H Q ⟨S, tmp, s, h⟩ => by
  refine ⟨S, tmp, s, ?_⟩
  unfold e1 at h
  cases hm : m S with
  | stuck => rw [hm] at h; exact h
  | err x S1 => rw [hm] at h; exact h
  | ok u S1 =>
    rw [hm] at h
    intro v H1 s1
    obtain ⟨G, rp, l⟩ := s1.frz1.open1
    have h : PoE X.K P W σ tmp Q (lift (fIsiT tab ts (fz u)) S1) := h
    unfold fIsiT at h
    cases et : tyP (fz u) with
    | none => rw [et] at h; exact h.elim
    | some ty =>
      rw [et] at h
      cases ts with
      | nil => exact h.elim
      | cons t ts =>
        cases ea : askI tab ty t with
        | none => simp only [Option.bind, ea] at h; exact h.elim
        | some b0 =>
          simp only [Option.bind, ea] at h
          cases eb : anyI tab ty (t :: ts) with
          | none => rw [eb] at h; exact h.elim
          | some b =>
            rw [eb] at h
            refine ⟨Nat.le_trans (show ((t :: ts).map (tyV1 X.K)).length ≤ 1000 by simpa using hz) (by show 1000 ≤ 2 ^ 24; decide), fun p hp => ?_⟩
            have key : ∀ ls : List Ty, Paired ClsV (ls.map (tyV1 X.K)) (ls.map (tyVal X.K)) := fun ls => by
              induction ls with
              | nil => exact .nil
              | cons x r ih => exact .cons clsV ih
            have kit : ∀ (ls : List Ty) (b : Bool), anyI tab ty ls = some b → PySem.W.kitAny X.K (tyVal X.K ty) (ls.map (tyVal X.K)) = some b := fun ls => by
              induction ls with
              | nil => intro b e; cases e; exact PySem.W.kitAny.eq_1 ..
              | cons x r ih =>
                intro b e
                unfold anyI at e
                rw [List.map_cons, PySem.W.kitAny.eq_2]
                cases ex : askI tab ty x with
                | none => rw [ex] at e; cases e
                | some bx =>
                  rw [ex] at e
                  rw [T.kit _ (askI_mem ex)]
                  cases bx with
                  | true => exact e
                  | false => exact ih b e
            have eH : Same H1 (upd H1 p (.tup ((t :: ts).map (tyV1 X.K)))) := same_new hp
            have rp' := Rp.mono (l.le.trans eH) _ _ rp
            have l2 : Sim X.K P σ (upd H1 p (.tup ((t :: ts).map (tyV1 X.K)))) S1 tmp := (l.rest).ext eH (tabs_new hp l.rest.tabs)
            exact ⟨v, p, _, tyVal X.K ty, _, b, rfl, upd_same, key _, rp_ty T et ea rp', kit _ b eb, h _ _ (simC l2 fun _ => .bl _)⟩
end

/-! ### attributes -/
def fFld (cs : List Str) (f : Str) : PV → Option OT
  | .obj c ns xs => if cs.contains c = true then ((ns.zip xs).lookup f).map .leaf else none
  | _ => none
theorem zip_lookup {K : PySem.W.Frag} {G : Hp} {f : Str} {p : PV} : ∀ {ns : List Str} {xs : List PV} {vs : List V}, Rps K G xs vs → (ns.zip xs).lookup f = some p → ∃ v, (ns.zip vs).lookup f = some v ∧ Rp K G p v
  | [], xs, vs, _, e => by cases e
  | n :: ns, [], vs, _, e => by cases e
  | n :: ns, x :: xs, _, r, e => by
    cases r with
    | @cons _ v _ vs r1 r2 =>
      show ∃ w, List.lookup f ((n, v) :: ns.zip vs) = some w ∧ _
      have e : List.lookup f ((n, x) :: ns.zip xs) = some p := e
      rw [List.lookup_cons] at e ⊢
      cases hb : f == n with
      | true => rw [hb] at e; cases e; exact ⟨v, rfl, r1⟩
      | false => rw [hb] at e; exact zip_lookup r2 e
section
variable {X : Cx} {P : Pm} {W : WX} {bi : List Nat} {n : Nat} {m m1 m2 m3 : ME} {e a b c : Expr} {pos p2 p p3 : Pos} {ma : MA}
theorem em_fld {cs : List Str} {f : Str} (hc : ∀ c ∈ cs, Cls X.K (He.ga X.K c) ∧ NoAttr X.K (He.ga X.K c) f) (he : EM X P W e m) (hb : attributeBase e f X.env (eval e X.env) = eval e X.env := by rfl) : EM X P W (.Attribute e f pos) (e1 (fFld cs f) m) := weakE (pe_fld he hb) fun σ H Q ⟨S, tmp, s, h⟩ => by
  refine ⟨S, tmp, s, ?_⟩
  unfold e1 at h
  cases hm : m S with
  | stuck => rw [hm] at h; exact h
  | err x S1 => rw [hm] at h; exact h
  | ok u S1 =>
    rw [hm] at h
    intro v H1 s1
    obtain ⟨G, rp, l⟩ := s1.frz1.open1
    have h : PoE X.K P W σ tmp Q (lift (fFld cs f (fz u)) S1) := h
    unfold fFld at h
    split at h
    · rename_i c ns xs eu
      rw [eu] at rp
      cases rp with
      | obj h1 h2 h3 =>
        split at h
        · rename_i hcc
          have hmem : c ∈ cs := by simpa using hcc
          cases el : (ns.zip xs).lookup f with
          | none => rw [el] at h; exact h.elim
          | some y =>
            rw [el] at h
            obtain ⟨w, hw, rw_⟩ := zip_lookup h3 el
            exact ⟨_, _, _, _, w, rfl, l.le _ _ h1, (hc c hmem).1, (hc c hmem).2, hw, h _ H1 (l.val _ _ rw_)⟩
        · exact h.elim
    · exact h.elim
end
end Fy

namespace Fy
open PySem PySem.Spec PyProof.Rows L2

/-! ### lists of one's own -/
def sApp (i : Nat) (m : ME) : MS := fun S => match S[i]? with
  | some (some (.node _)) => (m S).bind fun t S1 => (match S1[i]? with
    | some (some (.node ts)) => if ts.length < sizeLine then .ok .nx (S1.set i (some (.node (ts ++ [t])))) else .stuck
    | _ => .stuck)
  | _ => .stuck
def setF (i : Nat) (t u : OT) (S : Sl) : Out Fl := match u with
  | .leaf (.int k) => (match S[i]? with
    | some (some (.node ts)) => (match ixN ts.length k with
      | some j => .ok .nx (S.set i (some (.node (ts.set j t))))
      | none => .stuck)
    | _ => .stuck)
  | _ => .stuck
def sSet (i : Nat) (mv mi : ME) : MS := fun S => (mv S).bind fun t S1 => match S1[i]? with
  | some (some (.node _)) => (mi S1).bind fun u S2 => setF i t u S2
  | _ => .stuck
def sPar (is : List Nat) (ma : MA) : MS := fun S => (ma S).bind fun ts S1 => if ts.length = is.length ∧ is.all (fun i => decide (i < S1.length)) = true then .ok .nx ((is.zip ts).foldl (fun S p => S.set p.1 (some p.2)) S1) else .stuck
section
variable {K : PySem.W.Frag} {P : Pm} {σ : L2.St} {H : Hp} {S : Sl} {tmp : Tm}
theorem set_same {α : Type} {l : List α} {i : Nat} {x : α} (h : l[i]? = some x) : l.set i x = l := List.ext_getElem? fun j => by
  rw [List.getElem?_set]
  split
  · rename_i e
    subst e
    obtain ⟨hi, _⟩ := List.getElem?_eq_some_iff.mp h
    rw [if_pos hi, h]
  · rfl
theorem Sim.takeN {i : Nat} {ts : List OT} {t : OT} {w : V} (s : Sim K P σ H S ((t, w) :: tmp)) (h : S[i]? = some (some (.node ts))) : ∃ v, σ[i]? = some (some v) ∧ Sim K P σ H (S.set i none) ((t, w) :: (.node ts, v) :: tmp) := by
  obtain ⟨v, ev, s1⟩ := s.take h
  exact ⟨v, ev, s1.perm (List.Perm.swap _ _ _)⟩
end
section
variable {X : Cx} {P : Pm} {W : WX} {bi : List Nat} {n : Nat} {m m1 m2 m3 : ME} {e a b c : Expr} {pos p2 p p3 apos cpos : Pos} {ma : MA}
theorem sm_app (i : Nat) {x : Str} (hN : X.N[i]? = some x) (hv : Vis X.env.scope x) (he : EM X P W e m) (hd : (x == ("__debug__" : Str)) = false := by decide) (hcd : (x == ("__classdict__" : Str)) = false := by decide)
    (h0 : attributeBase (.Name x p) "append" X.env (eval (.Name x p) X.env) = eval (.Name x p) X.env := by rfl)
    (h1 : ((((backTo cpos (starEach [e] X.env)).all fun x => !x.1) && (backToKw cpos (keywordEach [] X.env)).all fun x => x.1.isSome) && decide (([e].length + ([] : List Keyword).length + if ([] : List Keyword).isEmpty = true then 0 else 1) < 30)) = true := by rfl)
    (h2 : (apos.endLine == cpos.line) = true := by rfl) (h3 : starEach [e] X.env = (false, eval e X.env) :: starEach [] X.env := by rfl) (h4 : (backTo cpos (starEach [] X.env)).any (·.1) = false := by rfl)
    (hs : swapsWith (.Call (.Attribute (.Name x p) "append" apos) [e] [] cpos) none pos.line X.env = pure false := by rfl) :
    SM X P W (.Expr (.Call (.Attribute (.Name x p) "append" apos) [e] [] cpos) pos) (sApp i m) :=
  weakS (ps_expr (pe_bm PySem.F.plainAttrs_list PySem.F.slot_list_append PySem.F.type_list_append mt_append (pe_var hN hv hd hcd) (pa_cons he pa_nil h3) h0 h1 h2 h3 h4) hs) fun D σ H ⟨S, tmp, s, h⟩ => by
    unfold sApp at h
    split at h
    · rename_i ts0 e0
      obtain ⟨v, ev, rv⟩ := s.rdH e0
      refine ⟨v, ev, ?_, S, tmp, s, ?_⟩
      · cases rv with
        | lst h1 _ _ => exact .inl ⟨rfl, _, .inl (.inl h1)⟩
      · cases hm : m S with
        | stuck => rw [hm] at h; exact h
        | err x S1 => rw [hm] at h; exact h σ
        | ok t S1 =>
          rw [hm] at h
          intro y H1 s1
          have h : PoS X.K P W tmp D (match S1[i]? with
            | some (some (.node ts)) => if ts.length < sizeLine then .ok .nx (S1.set i (some (.node (ts ++ [t])))) else .stuck
            | _ => .stuck) := h
          split at h
          · rename_i ts e1
            split at h
            · rename_i hl
              have hi := (List.getElem?_eq_some_iff.mp e1).1
              obtain ⟨v', ev', s2⟩ := s1.takeN e1
              rw [ev] at ev'
              cases ev'
              obtain ⟨l, acc, el, hl1, hl2, f⟩ := s2.push
              subst el
              refine ⟨l, acc, y, rfl, rfl, hl1, by rw [hl2]; exact hl, ?_⟩
              have s3 := (f hl).back (i := i) (by simpa using hi) ev
              rw [List.set_set] at s3
              exact h σ _ s3
            · exact h.elim
          · exact h.elim
    · exact h.elim
theorem sm_set (i : Nat) {x : Str} (hN : X.N[i]? = some x) (hv : Vis X.env.scope x) (he : EM X P W e m1) (hi : EM X P W a m2) (hd : (x == ("__debug__" : Str)) = false := by decide) (hcd : (x == ("__classdict__" : Str)) = false := by decide)
    (hg : ∀ (v : Value), assign (.Subscript (.Name x p) a p2) X.env v = (do
                let ov ← holding [v] (eval (.Name x p) X.env)
                let iv ← holding [v, ov] (eval a X.env)
                standAt p2
                holding [v, ov, iv] (setItem ov iv v)
                release [v, ov, iv] []) := by intro _; rfl)
    (hs : swapsWithSole [.Subscript (.Name x p) a p2] e pos.line X.env = pure false := by rfl) (hw : swappedStores [.Subscript (.Name x p) a p2] e X.env = pure none := by rfl) (h1 : (assignEach [.Subscript (.Name x p) a p2] X.env).map (·.2) = [assign (.Subscript (.Name x p) a p2) X.env] := by rfl) :
    SM X P W (.Assign [.Subscript (.Name x p) a p2] e pos) (sSet i m1 m2) := weakS (ps_asg he (pg_sub (pe_var hN hv hd hcd) hi set_list hg) hs hw h1) fun D σ H ⟨S, tmp, s, h⟩ => by
  refine ⟨S, tmp, s, ?_⟩
  unfold sSet at h
  cases hm : m1 S with
  | stuck => rw [hm] at h; exact h
  | err x S1 => rw [hm] at h; exact h σ
  | ok t S1 =>
    rw [hm] at h
    intro y H1 s1
    have h : PoS X.K P W tmp D (match S1[i]? with
      | some (some (.node _)) => (m2 S1).bind fun u S2 => setF i t u S2
      | _ => .stuck) := h
    split at h
    · rename_i ts0 e0
      obtain ⟨v, ev, rv⟩ := s1.rdH e0
      refine ⟨v, ev, S1, _, s1, ?_⟩
      cases hm2 : m2 S1 with
      | stuck => rw [hm2] at h; exact h
      | err x S2 => rw [hm2] at h; exact h σ
      | ok u S2 =>
        rw [hm2] at h
        intro w H2 s2
        replace h : PoS X.K P W tmp D (setF i t u S2) := h
        unfold setF at h
        split at h
        · rename_i k
          split at h
          rotate_left
          · exact h.elim
          rename_i ts e1
          split at h
          · rename_i j ej
            have hlt := (List.getElem?_eq_some_iff.mp e1).1
            obtain ⟨G, rp, l⟩ := s2.open1
            cases rp
            obtain ⟨v', ev', s3⟩ := Sim.takeN (t := t) (w := y) (l.rest) e1
            rw [ev] at ev'
            cases ev'
            obtain ⟨l', acc, el, hl1, hl2, f⟩ := s3.setAt
            subst el
            refine ⟨l', acc, _, j, rfl, rfl, hl1, by rw [hl2]; exact ej, ?_⟩
            have s4 := (f j (ixN_lt ej)).back (i := i) (by simpa using hlt) ev
            rw [List.set_set] at s4
            exact h σ _ s4
          · exact h.elim
        · exact h.elim
    · exact h.elim
theorem sm_par (g : Gd P W bi n X) {i j : Nat} {x y : Str} {px py pt pt2 : Pos} {kt k2 : Nat} (hi : X.N[i]? = some x) (hj : X.N[j]? = some y) (hij : i ≠ j) (hx : X.env.scope.names.lookup x = some .local) (hy : X.env.scope.names.lookup y = some .local) (ha : AM X P W [a, b] ma)
    (hw : swappedStores [.Tuple [.Name x px, .Name y py] kt pt] (.Tuple [a, b] k2 pt2) X.env = pure (some [x, y])) (hb1 : bi.contains i = false := by rfl) (hb2 : bi.contains j = false := by rfl)
    (hs : swapsWithSole [.Tuple [.Name x px, .Name y py] kt pt] (.Tuple [a, b] k2 pt2) pos.line X.env = pure false := by rfl) :
    SM X P W (.Assign [.Tuple [.Name x px, .Name y py] kt pt] (.Tuple [a, b] k2 pt2) pos) (sPar [i, j] ma) := weakS (ps_par g.calm g.nd hi hj hij hx hy ha hw hs) fun D σ H ⟨S, tmp, s, h⟩ => by
  refine ⟨S, tmp, s, ?_⟩
  unfold sPar at h
  cases hm : ma S with
  | stuck => rw [hm] at h; exact h
  | err x S1 => rw [hm] at h; exact h σ
  | ok ts S1 =>
    rw [hm] at h
    intro vs H1 hl s1
    have h : PoS X.K P W tmp D (if ts.length = [i, j].length ∧ [i, j].all (fun i => decide (i < S1.length)) = true then .ok .nx (([i, j].zip ts).foldl (fun S p => S.set p.1 (some p.2)) S1) else .stuck) := h
    split at h
    · rename_i hc
      obtain ⟨h1, h2⟩ := hc
      simp at h2
      match ts, vs, h1, hl with
      | [t, u], [v, w], _, _ =>
        refine ⟨v, w, rfl, ?_⟩
        have s2 := s1.put h2.1 (g.nb hb1)
        have s3 := s2.put (by simpa using h2.2) (g.nb hb2)
        exact h _ H1 s3
    · exact h.elim
theorem sm_par3 (g : Gd P W bi n X) {i j k : Nat} {x y z : Str} {px py pz pt pt2 : Pos} {kt k2 : Nat} (hi : X.N[i]? = some x) (hj : X.N[j]? = some y) (hk : X.N[k]? = some z) (hij : i ≠ j) (hik : i ≠ k) (hjk : j ≠ k) (hx : X.env.scope.names.lookup x = some .local) (hy : X.env.scope.names.lookup y = some .local) (hz : X.env.scope.names.lookup z = some .local) (ha : AM X P W [a, b, c] ma)
    (hw : swappedStores [.Tuple [.Name x px, .Name y py, .Name z pz] kt pt] (.Tuple [a, b, c] k2 pt2) X.env = pure (some [x, y, z])) (hb1 : bi.contains i = false := by rfl) (hb2 : bi.contains j = false := by rfl) (hb3 : bi.contains k = false := by rfl)
    (hs : swapsWithSole [.Tuple [.Name x px, .Name y py, .Name z pz] kt pt] (.Tuple [a, b, c] k2 pt2) pos.line X.env = pure false := by rfl) :
    SM X P W (.Assign [.Tuple [.Name x px, .Name y py, .Name z pz] kt pt] (.Tuple [a, b, c] k2 pt2) pos) (sPar [i, j, k] ma) := weakS (ps_par3 g.calm g.nd hi hj hk hij hik hjk hx hy hz ha hw hs) fun D σ H ⟨S, tmp, s, h⟩ => by
  refine ⟨S, tmp, s, ?_⟩
  unfold sPar at h
  cases hm : ma S with
  | stuck => rw [hm] at h; exact h
  | err x S1 => rw [hm] at h; exact h σ
  | ok ts S1 =>
    rw [hm] at h
    intro vs H1 hl s1
    have h : PoS X.K P W tmp D (if ts.length = [i, j, k].length ∧ [i, j, k].all (fun i => decide (i < S1.length)) = true then .ok .nx (([i, j, k].zip ts).foldl (fun S p => S.set p.1 (some p.2)) S1) else .stuck) := h
    split at h
    · rename_i hc
      obtain ⟨h1, h2⟩ := hc
      simp at h2
      match ts, vs, h1, hl with
      | [t, u, r], [v, w, q], _, _ =>
        refine ⟨v, w, q, rfl, ?_⟩
        have s2 := s1.put h2.1 (g.nb hb1)
        have s3 := s2.put (by simpa using h2.2.1) (g.nb hb2)
        have s4 := s3.put (by simpa using h2.2.2) (g.nb hb3)
        exact h _ H1 s4
    · exact h.elim
theorem sm_never {st : Stmt} : SM X P W st (fun _ => .stuck) := weakS ps_never fun D σ H ⟨S, tmp, s, h⟩ => h.elim

/-! ### raise -/
/-- a class of errors whose __init__ lays its arguments down under these names -/
def Mk1 (X : Cx) (c : Str) (ns : List Str) : Prop := ∀ {e : Expr} {es : List Expr} {ta : TA} {p pos : Pos}, PA X (e :: es) ta → starEach (e :: es) X.env = (false, eval e X.env) :: starEach es X.env → (backTo pos (starEach es X.env)).any (·.1) = false →
  PMk X (.Call (.Name c p) (e :: es) [] pos) fun σ H Q => ta σ H fun vs H1 => vs.length = ns.length ∧ ∀ d, H1 d = none → Q (.ref (He.ga X.K c)) (some d) (upd H1 d (.xd (ns.zip vs)))
def sRaise (c : Str) (ns : List Str) (ma : MA) : MS := fun S => (ma S).bind fun ts S1 => if ts.length = ns.length then .err ⟨c, ns, ts.map fz⟩ S1 else .stuck
theorem sm_raise (g : Gd P W bi n X) {c : Str} {ns : List Str} {es : List Expr} (M : Mk1 X c ns) (ha : AM X P W (e :: es) ma) (h1 : starEach (e :: es) X.env = (false, eval e X.env) :: starEach es X.env := by rfl) (h2 : (backTo p2 (starEach es X.env)).any (·.1) = false := by rfl) :
    SM X P W (.Raise (some (.Call (.Name c p) (e :: es) [] p2)) none pos) (sRaise c ns ma) := weakS (ps_raise g.calm g.tk (M ha h1 h2)) fun D σ H ⟨S, tmp, s, h⟩ => by
  refine ⟨S, tmp, s, ?_⟩
  unfold sRaise at h
  cases hm : ma S with
  | stuck => rw [hm] at h; exact h
  | err x S1 => rw [hm] at h; exact h σ
  | ok ts S1 =>
    rw [hm] at h
    intro vs H1 hl s1
    have h : PoS X.K P W tmp D (if ts.length = ns.length then .err ⟨c, ns, ts.map fz⟩ S1 else .stuck) := h
    split at h
    · rename_i hn
      refine ⟨by rw [← hl]; exact hn, fun d hd => ?_⟩
      have s2 := s1.frzs hl
      have s3 : Sim X.K P σ H1 S1 (lf (ts.map fz) vs) := Sim.drops (l := tmp) (s2.perm List.perm_append_comm)
      have hv : ns.length = vs.length := by rw [← hn]; exact hl
      refine h σ vs _ (some d) _ ⟨rfl, hv, by simp [hl], d, rfl, upd_same⟩ (s3.ext (same_new hd) (tabs_new hd s3.tabs))
    · exact h.elim
end

/-! ### a call all of whose arguments are named -/
def pick {α : Type} (pm : List Nat) (xs : List α) : List α := pm.filterMap fun i => xs[i]?
theorem pick_rps {K : PySem.W.Frag} {G : Hp} {xs : List PV} {vs : List V} (r : Rps K G xs vs) : ∀ pm : List Nat, Rps K G (pick pm xs) (pick pm vs)
  | [] => .nil
  | i :: pm => by
    unfold pick
    rw [List.filterMap_cons, List.filterMap_cons]
    cases e : xs[i]? with
    | some x =>
      obtain ⟨v, ev, rv⟩ := Rps.get r e
      rw [ev]
      exact .cons rv (pick_rps r pm)
    | none =>
      have : vs[i]? = none := by
        rw [List.getElem?_eq_none_iff] at e ⊢
        rw [← r.len]
        exact e
      rw [this]
      exact pick_rps r pm
theorem pick_vals {vs : List V} {us : List Value} (r : Vals vs us) : ∀ pm : List Nat, Vals (pick pm vs) (pick pm us)
  | [] => .nil
  | i :: pm => by
    unfold pick
    rw [List.filterMap_cons, List.filterMap_cons]
    cases e : vs[i]? with
    | some x =>
      obtain ⟨v, ev, rv⟩ := r.get e
      rw [ev]
      exact .cons rv (pick_vals r pm)
    | none =>
      have : us[i]? = none := by
        rw [List.getElem?_eq_none_iff] at e ⊢
        rw [← r.length]
        exact e
      rw [this]
      exact pick_vals r pm
def eCallK (n kn : Nat) (run : List OT → FR) (pm : List Nat) (mk : MA) : ME := fun S => (mk S).bind fun ts S1 => if ts.length = kn then callM n [] run ((pick pm (ts.map fz)).map fun p => .vl (.leaf p)) S1 else .stuck
theorem refOk_vl {σ : L2.St} : ∀ {ps : List PV} {vs : List V}, ps.length = vs.length → RefOk σ (ps.map fun p => .vl (.leaf p)) vs
  | [], [], _ => .nil
  | p :: ps, v :: vs, h => .vl (refOk_vl (by simpa using h))
  | [], _ :: _, h => by simp at h
  | _ :: _, [], h => by simp at h
theorem tms_vl : ∀ {ps : List PV} {vs : List V}, ps.length = vs.length → tms (ps.map fun p => .vl (.leaf p)) vs = lf ps vs
  | [], [], _ => rfl
  | p :: ps, v :: vs, h => by
    show (OT.leaf p, v) :: tms (ps.map fun p => .vl (.leaf p)) vs = _
    rw [tms_vl (by simpa using h)]
    rfl
  | [], _ :: _, h => by simp at h
  | _ :: _, [], h => by simp at h
section
variable {X : Cx} {P : Pm} {W : WX} {bi : List Nat} {nn k : Nat} {e : Expr} {pos p2 p p3 : Pos} {mk : MA} {f : Addr} {fd : FuncData} {ps ks : List Str} {run : List OT → FR} {kws : List Keyword}
abbrev KM (X : Cx) (P : Pm) (W : WX) (kws : List Keyword) (m : MA) : Prop := PK X kws (tA X.K P W m)
theorem km_n : KM X P W [] aN := ⟨fun pos pins s σ H Q I ⟨S, tmp, sm, h⟩ => pk_nil.run pos pins s σ H Q I (h [] H rfl sm)⟩
theorem km_c {m : ME} {nm : Option Str} (ha : EM X P W e m) (hr : KM X P W kws mk) : KM X P W (⟨nm, e, p⟩ :: kws) (aC m mk) := ⟨fun pos pins s σ H Q I ⟨S, tmp, sm, h⟩ => (pk_cons ha hr).run pos pins s σ H Q I (by
  refine ⟨S, tmp, sm, ?_⟩
  unfold aC at h
  cases hm : m S with
  | stuck => rw [hm] at h; exact h
  | err x S1 => rw [hm] at h; exact h
  | ok t S1 =>
    rw [hm] at h
    intro v H1 s1
    refine ⟨S1, _, s1, ?_⟩
    have h : PoA X.K P W σ tmp Q ((mk S1).bind fun ts S2 => .ok (t :: ts) S2) := h
    cases hm2 : mk S1 with
    | stuck => rw [hm2] at h; exact h
    | err x S2 => rw [hm2] at h; exact h
    | ok ts S2 =>
      rw [hm2] at h
      intro vs H2 hl s2
      exact h (v :: vs) H2 (by simp [hl]) (s2.perm List.perm_middle))⟩
theorem em_callK {rp : Bool} (g : Gd P W bi nn X) {x : Str} {T : List (Addr × Str)} (pm : List Nat) (F : FnG rp X.prog X.w X.K X.mg X.base k f fd ps (spM X.K T ps.length [] run)) (hrp : rp = true → P.rp = true) (hT : P.T = T) (hk : k ≤ nn) (hg : Gl X x) (hm : X.mg x = some (.ref f)) (kp : PySem.W.keepIn X.K (.ref f) = true)
    (hb : ∀ (s : Shared) (us : List Value), X.K.In s.heap → us.length = ks.length → BindsTo s fd ⟨[], ks.zip us⟩ (ps.zip (pick pm us)))
    (hpm : ∀ (us : List Value), us.length = ks.length → (pick pm us).length = ps.length)
    (ha : KM X P W kws mk) (h1 : (backToKw pos (keywordEach kws X.env)).all (·.1.isSome) = true := by rfl) (h2 : (backToKw pos (keywordEach kws X.env)).filterMap (·.1) = ks := by rfl) (hdb : (x == ("__debug__" : Str)) = false := by decide)
    (hpl : ((backTo pos (starEach [] X.env)).any (·.1) || (backToKw pos (keywordEach kws X.env)).any (·.1.isNone)) = false := by rfl) (hkl : ks.length = kws.length := by rfl) :
    EM X P W (.Call (.Name x p) [] kws pos) (eCallK ps.length ks.length run pm mk) := by
  refine ⟨fun pins s σ H Q I h => ?_⟩
  obtain ⟨S, tmp, sm, h⟩ := h
  refine wpAny_Call_Name_kw (ld_glob I hg hm ?_ hdb)
  refine PySem.W.callWith_KW0 (h₀ := X.base) I.ok.mod.kin kp h1 (thn (ha.run pos pins s σ H (fun vs H1 => vs.length = ks.length ∧ spM X.K P.T ps.length [] run (pick pm vs) H1 Q (WE W σ)) I ⟨S, tmp, sm, ?_⟩) fun us s1 hz => ?_) hpl
  · unfold eCallK at h
    cases hm2 : mk S with
    | stuck => rw [hm2] at h; exact h
    | err z S1 => rw [hm2] at h; exact h
    | ok ts S1 =>
      rw [hm2] at h
      intro vs H1 hl s1
      obtain ⟨G, r, l⟩ := Sim.openN (by simp [hl]) (s1.frzs hl)
      have rp2 := pick_rps r pm
      have hl2 := rp2.len
      have s2 := l.vals _ _ rp2
      rw [← tms_vl hl2] at s2
      have h : PoE X.K P W σ tmp Q (if ts.length = ks.length then callM ps.length [] run ((pick pm (ts.map fz)).map fun p => .vl (.leaf p)) S1 else .stuck) := h
      split at h
      · rename_i hn
        exact ⟨by rw [← hl]; exact hn, call_sp (refOk_vl hl2) s2 h⟩
      · exact h.elim
  · obtain ⟨vs, H1, I1, r, hlv, q⟩ := hz
    refine ⟨I1.kIn, ?_⟩
    rw [hT] at q
    have hlu : us.length = ks.length := by rw [← r.length]; exact hlv
    have bd := hb s1 us I1.kIn hlu
    rw [h2]
    have rv : Vals (pick pm vs) (pick pm us) := pick_vals r pm
    exact run_g F hrp g hk bd I1 rv q [] _ rfl
end
end Fy

namespace Fy
open PySem PySem.Spec PyProof.Rows L2

/-! ### an instance of one's own -/
section
variable {K : PySem.W.Frag} {P : Pm} {σ : L2.St} {H : Hp} {S : Sl} {tmp : Tm}
theorem tabs_ins {T : List (Addr × Str)} {a : Addr} {o : HO} {C dx : Addr} {fs : List (Str × V)} (h : H a = some (.ins C dx fs)) (t : LamX.Tabs T H) : LamX.Tabs T (upd H a o) := fun p hp => by
  obtain ⟨ps, h1, h2, h3⟩ := t p hp
  refine ⟨ps, ?_, h2, fun pos cv hc => ?_⟩
  · rw [upd_ne (ne_of h1 h (by intro z; cases z))]
    exact h1
  · obtain ⟨c, e1, e2⟩ := h3 pos cv hc
    refine ⟨c, e1, ?_⟩
    rw [upd_ne (ne_of e2 h (by intro z; unfold LamX.CodeO at z; cases z))]
    exact e2
/-- a field of an instance is set -/
theorem Sim.fldI {c : Str} {ns : List Str} {ts : List OT} {t : OT} {x w : V} (s : Sim K P σ H S ((t, w) :: (.ins c ns ts, x) :: tmp)) : ∃ a dx vs, x = .ref a ∧ H a = some (.ins (He.ga K c) dx (ns.zip vs)) ∧ ns.length = vs.length ∧
    ∀ f, Sim K P σ (upd H a (.ins (He.ga K c) dx ((ns ++ [f]).zip (vs ++ [w])))) S ((.ins c (ns ++ [f]) (ts ++ [t]), .ref a) :: tmp) := by
  obtain ⟨⟨G, A, B, e0, e1, r1, r2, nd, fr⟩, kp, tb, by_⟩ := s
  cases r2 with
  | @cons _ _ _ _ Aw B2 hw r2 =>
    cases r2 with
    | @cons _ _ _ _ Aa Bt h1 h2 =>
      cases h1 with
      | @ins a dx _ _ vs _ At ha hz hr =>
        refine ⟨a, dx, vs, rfl, ha, hz, fun f => ?_⟩
        have nd1 : (A ++ (Aw ++ (a :: At ++ Bt))).Nodup := nd
        have fa : G a = none ∧ Mine P a := fr a (by simp)
        have pm : (A ++ (Aw ++ (a :: At ++ Bt))).Perm (a :: (A ++ (Aw ++ (At ++ Bt)))) := by
          refine List.Perm.trans (List.Perm.append_left A ?_) List.perm_middle
          exact List.perm_middle
        obtain ⟨na, nd3⟩ := List.nodup_cons.mp (pm.nodup nd1)
        have ne : ∀ b ∈ A ++ (Aw ++ (At ++ Bt)), ∀ o, upd H a o b = H b := fun b hb o => upd_ne (fun z => na (z ▸ hb))
        have pm2 : (A ++ (a :: (At ++ Aw) ++ Bt)).Perm (a :: (A ++ (Aw ++ (At ++ Bt)))) := by
          refine List.Perm.trans (List.perm_middle (l₂ := At ++ Aw ++ Bt)) (List.Perm.cons a (List.Perm.append_left A ?_))
          rw [← List.append_assoc Aw]
          exact List.perm_append_comm.append_right Bt
        refine ⟨⟨G, A, a :: (At ++ Aw) ++ Bt, e0, ?_, ?_, ?_, ?_, ?_⟩, ?_, tabs_ins ha tb, by_⟩
        · intro b o hb
          rw [upd_ne (fun z => by rw [z, fa.1] at hb; cases hb)]
          exact e1 b o hb
        · exact r1.mono (Same.refl _) fun b hb => ne b (by simp [hb]) _
        · refine .cons (.ins upd_same (by simp [hz]) ?_) (Ros.mono (Same.refl _) _ _ _ (fun b hb => ne b (by simp [hb]) _) h2)
          exact ros_snoc (Ros.mono (Same.refl _) _ _ _ (fun b hb => ne b (by simp [hb]) _) hr) (Ro.mono (Same.refl _) _ _ _ (fun b hb => ne b (by simp [hb]) _) hw)
        · exact pm2.symm.nodup (List.nodup_cons.mpr ⟨na, nd3⟩)
        · intro b hb
          rcases List.mem_cons.mp (pm2.mem_iff.mp hb) with z | z
          · rw [z]; exact fa
          · exact fr b (pm.mem_iff.mpr (List.mem_cons_of_mem _ z))
        · intro b o hb hn hm
          by_cases hba : b = a
          · subst hba
            rcases fa.2 with z | z
            · exact absurd z hm
            · obtain ⟨ps, e⟩ := z o hb
              exact absurd e (hn ps)
          · rw [upd_ne hba]
            exact kp b o hb hn hm
/-- a new instance -/
theorem Sim.born {c : Str} {x dx : Addr} (s : Sim K P σ H S tmp) (hx : H x = none) (hd : H dx = none) (ne : dx ≠ x) : Sim K P σ (upd (upd H dx (.own x)) x (.ins (He.ga K c) dx [])) S ((.ins c [] [], .ref x) :: tmp) := by
  have s1 := s.ext (same_new (o := .own x) hd) (tabs_new hd s.tabs)
  have hx1 : upd H dx (.own x) x = none := by rw [upd_ne (Ne.symm ne)]; exact hx
  obtain ⟨⟨G, A, B, e0, e1, r1, r2, nd, fr⟩, kp, tb, by_⟩ := s1
  have ga : G x = none := Same.free e1 hx1
  have eH : Same (upd H dx (.own x)) (upd (upd H dx (.own x)) x (.ins (He.ga K c) dx [])) := same_new hx1
  have na : ∀ b ∈ A ++ B, b ≠ x := fun b hb z => by
    subst z
    rcases List.mem_append.mp hb with q | q
    · obtain ⟨_, h, _⟩ := rsl_at r1 _ q
      rw [hx1] at h; cases h
    · obtain ⟨_, h, _⟩ := ros_at _ _ _ r2 _ q
      rw [hx1] at h; cases h
  have pm : (A ++ x :: B).Perm (x :: (A ++ B)) := List.perm_middle
  refine ⟨⟨G, A, x :: B, e0, e1.trans eH, r1.mono (Same.refl _) (fun b hb => upd_ne (na b (List.mem_append_left _ hb))), .cons (A := [x]) (.ins (vs := []) upd_same rfl .nil) (Ros.mono (Same.refl _) _ _ _ (fun b hb => upd_ne (na b (List.mem_append_right _ hb))) r2), pm.symm.nodup (List.nodup_cons.mpr ⟨fun z => na x z rfl, nd⟩), fun b hb => ?_⟩, kp.ext eH, tabs_new hx1 tb, by_⟩
  rcases List.mem_cons.mp (pm.mem_iff.mp hb) with z | z
  · subst z
    exact ⟨ga, mine_new kp hx1⟩
  · exact fr b z
end
theorem putF_new {f : Str} {v : V} : ∀ {ns : List Str} {vs : List V}, ns.length = vs.length → f ∉ ns → putF f v (ns.zip vs) = (ns ++ [f]).zip (vs ++ [v])
  | [], [], _, _ => rfl
  | [], _ :: _, h, _ => by simp at h
  | _ :: _, [], h, _ => by simp at h
  | n :: ns, w :: vs, h, hf => by
    have h1 : n ≠ f := fun z => hf (by simp [z])
    have ih := putF_new (f := f) (v := v) (ns := ns) (vs := vs) (by simpa using h) (fun z => hf (by simp [z]))
    show putF f v ((n, w) :: ns.zip vs) = (n, w) :: (ns ++ [f]).zip (vs ++ [v])
    rw [← ih]
    simp [putF, h1]
def sFldS (i : Nat) (cs : List Str) (f : Str) (m : ME) : MS := fun S => (m S).bind fun t S1 => match S1[i]? with
  | some (some (.ins c ns ts)) => if cs.contains c = true ∧ ns.contains f = false ∧ ns.length < 1000 then .ok .nx (S1.set i (some (.ins c (ns ++ [f]) (ts ++ [t])))) else .stuck
  | _ => .stuck
section
variable {X : Cx} {P : Pm} {W : WX} {bi : List Nat} {n : Nat} {m m1 m2 m3 : ME} {e a b c : Expr} {pos p2 p p3 apos cpos : Pos} {ma : MA}
theorem sm_fld (i : Nat) {x : Str} {cs : List Str} {f : Str} (hc : ∀ c ∈ cs, Cls X.K (He.ga X.K c) ∧ NoAttr X.K (He.ga X.K c) f) (hN : X.N[i]? = some x) (hv : Vis X.env.scope x) (he : EM X P W e m) (hd : (x == ("__debug__" : Str)) = false := by decide) (hcd : (x == ("__classdict__" : Str)) = false := by decide)
    (hs : swapsWith e (some (.Attribute (.Name x p) f p2)) pos.line X.env = pure false := by rfl) : SM X P W (.Assign [.Attribute (.Name x p) f p2] e pos) (sFldS i cs f m) := weakS (ps_fld (pe_var hN hv hd hcd) he hs) fun D σ H ⟨S, tmp, s, h⟩ => by
  refine ⟨S, tmp, s, ?_⟩
  unfold sFldS at h
  cases hm : m S with
  | stuck => rw [hm] at h; exact h
  | err x S1 => rw [hm] at h; exact h σ
  | ok t S1 =>
    rw [hm] at h
    intro y H1 s1
    have h : PoS X.K P W tmp D (match S1[i]? with
      | some (some (.ins c ns ts)) => if cs.contains c = true ∧ ns.contains f = false ∧ ns.length < 1000 then .ok .nx (S1.set i (some (.ins c (ns ++ [f]) (ts ++ [t])))) else .stuck
      | _ => .stuck) := h
    split at h
    · rename_i c ns ts e1
      split at h
      · rename_i hcc
        obtain ⟨h1, h2, h3⟩ := hcc
        have hlt := (List.getElem?_eq_some_iff.mp e1).1
        obtain ⟨v, ev, s2⟩ := s1.take e1
        obtain ⟨a, dx, vs, ea, ha, hl, k⟩ := Sim.fldI (s2.perm (List.Perm.swap _ _ _))
        subst ea
        have hmem : c ∈ cs := by simpa using h1
        refine ⟨.ref a, ev, a, _, dx, _, rfl, ha, (hc c hmem).1, (hc c hmem).2, ?_, ?_⟩
        · rw [List.length_zip, ← hl]
          omega
        · rw [putF_new hl (by simpa using h2)]
          have s3 := (k f).back (i := i) (by simpa using hlt) ev
          rw [List.set_set] at s3
          exact h σ _ s3
      · exact h.elim
    · exact h.elim
end
end Fy

namespace Fy
open PySem PySem.Spec PyProof.Rows L2

/-! ### C(e, ..): a new instance, by the class's __init__ -/
def makeM (c : Str) (n : Nat) (run : List OT → FR) (as : List Ar) (S : Sl) : Out OT :=
  if as.length + 1 = n ∧ refPos 0 as = [] then
    match resolve as S with
    | none => .stuck
    | some (ts, S1) => match run (.ins c [] [] :: ts) with
      | .ok (.leaf .non) [o] => if (!hasBo as || noT (okS S1) o) = true then .ok o S1 else .stuck
      | .err x [o] => if (!hasBo as || (noPs (okS S1) x.xs && noT (okS S1) o)) = true then .err x S1 else .stuck
      | _ => .stuck
  else .stuck
def eMake (c : Str) (n : Nat) (run : List OT → FR) (mr : MR) : ME := fun S => (mr S).bind fun as S1 => makeM c n run as S1
theorem refs_none : ∀ {as : List Ar} {k : Nat}, refPos k as = [] → refIx as = []
  | [], _, _ => rfl
  | .vl _ :: r, k, h => refs_none (as := r) (k := k + 1) h
  | .bo _ :: r, k, h => refs_none (as := r) (k := k + 1) h
  | .rf _ :: r, k, h => by simp [refPos] at h
theorem make_sp {K : PySem.W.Frag} {P : Pm} {E : XK} {σ : L2.St} {H : Hp} {S : Sl} {tmp : Tm} {Q : VK} {n : Nat} {c : Str} {x dx : Addr} {run : List OT → FR} {as : List Ar} {vs : List V} (ro : RefOk σ as vs) (s0 : Sim K P σ H S (tms as vs ++ tmp)) (hx : H x = none) (hdx : H dx = none) (hne : dx ≠ x)
    (h : PoE K P (fun cls d _ H => E cls d H) σ tmp Q (makeM c n run as S)) :
    spM K P.T n [0] run (.ref x :: vs) (upd (upd H dx (.own x)) x (.ins (He.ga K c) dx [])) (fun v H2 => v = .non ∧ Q (.ref x) H2) E := by
  unfold makeM at h
  split at h
  · rename_i hn
    obtain ⟨hn, hbi⟩ := hn
    cases e1 : resolve as S with
    | none => rw [e1] at h; exact h.elim
    | some z =>
      obtain ⟨ts, S1⟩ := z
      rw [e1] at h
      have s := (s0.born hx hdx hne (c := c)).perm (List.perm_middle (l₁ := tms as vs) (a := (OT.ins c [] [], V.ref x)) (l₂ := tmp)).symm
      obtain ⟨tm, ar, s1'⟩ := resolve_ok ro e1 s
      have s1 : Sim K P σ (upd (upd H dx (.own x)) x (.ins (He.ga K c) dx [])) S1 (((OT.ins c [] [], V.ref x) :: tm) ++ tmp) := s1'.perm List.perm_middle
      clear s s1'
      generalize upd (upd H dx (.own x)) x (.ins (He.ga K c) dx []) = H0 at *
      obtain ⟨⟨G, A, B, g0, le, rs, rB, nd, fr⟩, kp, tb, by_⟩ := id s1
      obtain ⟨B1, B2, rfl, q1, q2⟩ := ros_app rB
      have hsel : sel [0] (V.ref x :: vs) = [V.ref x] := rfl
      obtain ⟨Fz, Gc, hF, hbo⟩ : ∃ Fz Gc, (Fz = [] ∧ Gc = G ∨ Fz = A ∧ Gc = frzG G H0 A) ∧ (hasBo as = true → Fz = A ∧ Gc = frzG G H0 A) ∧ (hasBo as = false → Fz = [] ∧ Gc = G) := by
        cases hb : hasBo as with
        | true => exact ⟨A, frzG G H0 A, .inr ⟨rfl, rfl⟩, (fun _ => ⟨rfl, rfl⟩), (fun z => Bool.noConfusion z)⟩
        | false => exact ⟨[], G, .inl ⟨rfl, rfl⟩, (fun z => Bool.noConfusion z), (fun _ => ⟨rfl, rfl⟩)⟩
      have hG : Same G Gc := by
        rcases hF with ⟨_, e⟩ | ⟨_, e⟩
        · rw [e]; exact Same.refl _
        · rw [e]; exact frzG_same le
      have hGH : Same Gc H0 := by
        rcases hF with ⟨_, e⟩ | ⟨_, e⟩
        · rw [e]; exact le
        · rw [e]; exact frzG_le le
      have rts : Ros K Gc H0 (OT.ins c [] [] :: ts) (V.ref x :: vs) B1 := by
        cases q1 with
        | cons r1 r2 =>
          exact .cons (Ro.mono hG _ _ _ (fun _ _ => rfl) r1) (argr_ros hG rs ar (fun hb a ha => by
            rw [(hbo.1 hb).2]
            exact frzG_at ha) r2)
      have ndB1 : B1.Nodup := (List.nodup_append.mp (List.nodup_append.mp nd).2.1).1
      have noG : ∀ a ∈ B1, Gc a = none := fun a ha => by
        have hn := (fr a (by simp [ha])).1
        rcases hF with ⟨_, e⟩ | ⟨_, e⟩
        · rw [e]; exact hn
        · rw [e, frzG_out (fun z => (List.nodup_append.mp nd).2.2 a z a (by simp [ha]) rfl)]
          exact hn
      have hntc : NT Gc := by
        rcases hF with ⟨_, e⟩ | ⟨_, e⟩
        · rw [e]; exact g0.3
        · rw [e]; exact (g0.frz le (fun a ha => (fr a (by simp [ha])).2) (rsl_at rs)).3
      refine ⟨Gc, OT.ins c [] [] :: ts, B1, by rw [List.length_cons, ← ro.len]; exact hn, hntc, hGH, rts, ndB1, noG, tb, ?_⟩
      dsimp only at h
      rw [hsel]
      cases er : run (OT.ins c [] [] :: ts) with
      | stuck => rw [er] at h; exact h
      | ok r os =>
        rw [er] at h
        dsimp only at h ⊢
        intro v H' G' A' Ar R rr
        split at h
        · rename_i o er2
          cases er2
          split at h
          · rename_i hno
            cases rr with
            | leaf rn =>
              cases rn
              refine ⟨rfl, ?_⟩
              have z := call_back (l := []) kp by_ g0 le rs q2 nd fr hF R rfl (fun G2 hg2 => by
                cases hb : hasBo as with
                | false =>
                  obtain ⟨eF, _⟩ := hbo.2 hb
                  have e2 : Same G' G2 := fun b o q => by
                    rcases hg2 b o q with y | ⟨y, _⟩
                    · exact y
                    · rw [eF] at y; simp at y
                  exact ⟨Ros.mono e2 _ _ _ (fun _ _ => rfl) R.out, .nil⟩
                | true =>
                  have hno' : noT (okS S1) o = true := by simpa [hb] using hno
                  have e2 : ∀ b o, G' b = some o → G2 b = some o ∨ Own (okS S1) o := fun b o q => (hg2 b o q).imp id fun y => y.2
                  exact ⟨Ros.less e2 _ _ _ (by show (noT _ o && true) = true; rw [hno']; rfl) R.out, .nil⟩)
              exact h (.ref x) H' z
          · exact h.elim
        · rename_i er2; cases er2
        · exact h.elim
      | err y os =>
        rw [er] at h
        dsimp only at h ⊢
        intro ws cls d H' G' A' R rx xa
        split at h
        · rename_i er2; cases er2
        · rename_i o er2
          cases er2
          split at h
          · rename_i hno
            have z := call_back (l := lf y.xs ws) kp by_ g0 le rs q2 nd fr hF R rfl (fun G2 hg2 => by
              rw [zip_fst (by simp [rx.len]), zip_snd (by simp [rx.len])]
              cases hb : hasBo as with
              | false =>
                obtain ⟨eF, _⟩ := hbo.2 hb
                have e2 : Same G' G2 := fun b o q => by
                  rcases hg2 b o q with y | ⟨y, _⟩
                  · exact y
                  · rw [eF] at y; simp at y
                exact ⟨Ros.mono e2 _ _ _ (fun _ _ => rfl) R.out, Ros.leaves (Rps.mono e2 _ _ rx)⟩
              | true =>
                have hno' : noPs (okS S1) y.xs = true ∧ noT (okS S1) o = true := by simpa [hb] using hno
                have e2 : ∀ b o, G' b = some o → G2 b = some o ∨ Own (okS S1) o := fun b o q => (hg2 b o q).imp id fun y => y.2
                exact ⟨Ros.less e2 _ _ _ (by show (noT _ o && true) = true; rw [hno'.2]; rfl) R.out, Ros.leaves (Rps.less e2 _ _ hno'.1 rx)⟩)
            have z3 : Sim K P σ H' S1 (lf y.xs ws) := Sim.drops (l := tmp) (Sim.perm (tmp := lf y.xs ws ++ tmp) (Sim.drop z) List.perm_append_comm)
            exact h ws cls d H' xa z3
          · exact h.elim
        · exact h.elim
  · exact h.elim
section
variable {X : Cx} {P : Pm} {E : XK} {bi : List Nat} {k nn : Nat} {f : Addr} {fd : FuncData} {ps : List Str} {run : List OT → FR} {mr : MR} {e : Expr} {es : List Expr} {pos p : Pos}
theorem em_make (g : Gd P (fun cls d _ H => E cls d H) bi nn X) {x c : Str} {T : List (Addr × Str)} (M : Mk X.K (He.ga X.K c) f) (F : FnG false X.prog X.w X.K X.mg X.base k f fd ps (spM X.K T ps.length [0] run)) (hT : P.T = T) (hk : k + 1 ≤ nn) (hg : Gl X x) (hm : X.mg x = some (.ref (He.ga X.K c))) (hb : L2.Binds X.K fd ps [])
    (ha : RM X P (fun cls d _ H => E cls d H) (e :: es) mr) (hdb : (x == ("__debug__" : Str)) = false := by decide) (he : starEach (e :: es) X.env = (false, eval e X.env) :: starEach es X.env := by rfl) (hpl : (backTo pos (starEach es X.env)).any (·.1) = false := by rfl) :
    EM X P (fun cls d _ H => E cls d H) (.Call (.Name x p) (e :: es) [] pos) (eMake c ps.length run mr) :=
  weakE (pe_make (dvs := []) (E := E) M F.ok (g.room.mono hk) hg hm hb .nil (fun pins σ H s e s' I h => g.pass σ pins H s e s' I h) ha hdb he hpl) fun σ H Q ⟨S, tmp, s, h⟩ => by
    refine ⟨S, tmp, s, ?_⟩
    unfold eMake at h
    cases hm : mr S with
    | stuck => rw [hm] at h; exact h
    | err x S1 => rw [hm] at h; exact h
    | ok as S1 =>
      rw [hm] at h
      intro vs H1 ro s1 x dx hx hd hne
      rw [List.append_nil, ← hT]
      exact make_sp ro s1 hx hd hne h
end
/-! ### a name that holds one of the module's defs, called -/
def eCallV (i n : Nat) (sl : Str → Option (List OT → FR)) (mr : MR) : ME := fun S => match S[i]? with
  | some (some (.leaf (.glo f))) => (match sl f with
    | some run => (mr S).bind fun as S1 => callM n [] run as S1
    | none => .stuck)
  | _ => .stuck
section
variable {X : Cx} {P : Pm} {W : WX} {bi : List Nat} {k nn : Nat} {n : Nat} {mr : MR} {e : Expr} {es : List Expr} {pos p : Pos}
/-- what is to be known of a def that a name holds -/
structure HeldG (X : Cx) (T : List (Addr × Str)) (rp : Bool) (n k : Nat) (f : Str) (run : List OT → FR) : Prop where
  ex : ∃ fd ps, ps.length = n ∧ FnG rp X.prog X.w X.K X.mg X.base k (He.ga X.K f) fd ps (spM X.K T ps.length [] run) ∧ PySem.W.keepIn X.K (.ref (He.ga X.K f)) = true ∧ L2.Binds X.K fd ps []
theorem em_callV (g : Gd P W bi nn X) (i : Nat) {x : Str} {T : List (Addr × Str)} {rp : Bool} {sl : Str → Option (List OT → FR)} (F : ∀ f run, sl f = some run → HeldG X T rp n k f run) (hrp : rp = true → P.rp = true) (hT : P.T = T) (hk : k ≤ nn) (hN : X.N[i]? = some x) (hv : Vis X.env.scope x)
    (ha : RM X P W (e :: es) mr) (hd : (x == ("__debug__" : Str)) = false := by decide) (hcd : (x == ("__classdict__" : Str)) = false := by decide) (he : starEach (e :: es) X.env = (false, eval e X.env) :: starEach es X.env := by rfl) (hpl : (backTo pos (starEach es X.env)).any (·.1) = false := by rfl) :
    EM X P W (.Call (.Name x p) (e :: es) [] pos) (eCallV i n sl mr) := by
  refine ⟨fun pins s σ H Q I h => ?_⟩
  obtain ⟨S, tmp, sm, h⟩ := h
  unfold eCallV at h
  split at h
  · rename_i f ef
    cases es1 : sl f with
    | none => rw [es1] at h; exact h.elim
    | some run =>
      rw [es1] at h
      obtain ⟨fd, ps, hps, F, kp, hb⟩ := (F f run es1).ex
      obtain ⟨v, ev, rv⟩ := sm.rdH ef
      cases rv
      refine wpAny_Call_Name_kw (thn ((pe_var hN hv hd hcd).run pins s σ H (fun v H1 => v = .ref (He.ga X.K f) ∧ H1 = H) I ⟨_, ev, rfl, rfl⟩) fun u s0 hz => ?_)
      obtain ⟨v, H0, I0, r0, e1, e2⟩ := hz
      subst e1; subst e2
      cases r0
      refine PySem.W.callWith_K (h₀ := X.base) I0.ok.mod.kin kp (thn (ha.run pos pins s0 σ _ (fun vs H1 => spM X.K P.T ps.length [] run vs H1 Q (WE W σ)) I0 ⟨S, tmp, sm, ?_⟩) fun us s1 hz => ?_) he hpl
      · rw [hps]
        cases hm2 : mr S with
        | stuck => rw [hm2] at h; exact h
        | err z S1 => rw [hm2] at h; exact h
        | ok as S1 =>
          rw [hm2] at h
          exact fun vs H1 ro s1 => call_sp ro s1 h
      · obtain ⟨vs, H1, I1, r, q⟩ := hz
        refine ⟨I1.kIn, ?_⟩
        rw [hT] at q
        have hl : us.length = ps.length := by rw [← r.length]; exact F.len _ _ _ _ q
        have bd := hb s1 us I1.kIn (by rw [List.append_nil]; exact hl)
        rw [List.append_nil] at bd
        exact run_g F hrp g hk bd I1 r q us [] rfl
  · exact h.elim
end
end Fy

namespace Fy
open PySem PySem.Spec PyProof.Rows L2

/-! ### a lambda handed to a def that calls it within a try -/
section
variable {K : PySem.W.Frag} {P : Pm} {σ : L2.St} {H H' : Hp} {S : Sl} {tmp : Tm}
/-- the heap has grown, tables too -/
theorem Sim.extN (s : Sim K P σ H S tmp) (e : LamX.ExtN H H') (t : LamX.Tabs P.T H') : Sim K P σ H' S tmp := by
  obtain ⟨⟨G, A, B, e0, e1, r1, r2, nd, fr⟩, kp, tb, by_⟩ := s
  have ra : ∀ a ∈ A, H' a = H a := fun a ha => by
    obtain ⟨o, h, w⟩ := rsl_at r1 a ha
    rw [h, e a _ h w.nt]
  have rb : ∀ a ∈ B, H' a = H a := fun a ha => by
    obtain ⟨o, h, w⟩ := ros_at _ _ _ r2 a ha
    rw [h, e a _ h w.nt]
  refine ⟨⟨G, A, B, e0, fun b o q => e b o (e1 b o q) fun ps z => ?_, r1.mono (Same.refl _) ra, Ros.mono (Same.refl _) _ _ _ rb r2, nd, fr⟩, fun b o q nt nm => e b o (kp b o q nt nm) nt, t, by_⟩
  subst z
  exact e0.3 b ps q
theorem Sim.rpTo (s : Sim K P σ H S tmp) (P' : Pm) (h1 : P'.T = P.T) (h2 : P'.M = P.M) (h3 : P'.H0 = P.H0) (h4 : P'.G0 = P.G0) (h5 : P'.B = P.B) : Sim K P' σ H S tmp := by
  cases P
  cases P'
  dsimp only at h1 h2 h3 h4 h5
  subst h1; subst h2; subst h3; subst h4; subst h5
  obtain ⟨⟨G, A, B, e0, e1, r1, r2, nd, fr⟩, kp, tb, by_⟩ := s
  exact ⟨⟨G, A, B, ⟨e0.1, e0.2, e0.3⟩, e1, r1, r2, nd, fr⟩, kp, tb, by_⟩
end
def TTh (okR : V → Hp → VK → Prop) (exR : Value → Option Addr → Hp → VK → Prop) : (XK → Hp → VK → Prop) → Hp → VK → Prop := fun tl H Q => tl (fun cls d H' => exR cls d H' Q) H fun v H' => okR v H' Q
/-- what an except suite gives of an error -/
def OpX (K : PySem.W.Frag) (exR : Value → Option Addr → Hp → VK → Prop) (hd : Exn → Option OT) : Prop := ∀ (P : Pm) (G : Hp) (σ : L2.St) (H : Hp) (S : Sl) (tmp : Tm) (Q : VK) (x : Exn) (vs : List V) (cls : Value) (d : Option Addr) (t : OT), hd x = some t → XAt K x vs cls d H → Rps K G x.xs vs → Left K P G σ H S tmp → (∀ v' H', Sim K P σ H' S ((t, v') :: tmp) → Q v' H') → exR cls d H Q
def eHeard (mm : ME) (okF : PV → Option OT) (hd : Exn → Option OT) : ME := fun S => match mm (frS S) with
  | .ok t _ => if noP false (fz t) = true then lift (okF (fz t)) S else .stuck
  | .err x _ => if noPs false x.xs = true then lift (hd x) S else .stuck
  | .stuck => .stuck
section
variable {X : Cx} {P : Pm} {W : WX} {bi : List Nat} {nn k : Nat} {x a : Str} {gA c Pt : Addr} {pg : Arguments} {bg : List Stmt} {sg : Scope} {dV kV doc pm cdv ct oc : Value} {an od : Option Addr} {osl : Array (Option Value)} {Ng : List Str} {params : Arguments} {body : Expr} {scope : Scope} {p lpos pos : Pos} {mm : ME} {okF : PV → Option OT} {hd : Exn → Option OT}
  {okR : V → Hp → VK → Prop} {exR : Value → Option Addr → Hp → VK → Prop}
theorem em_heard (g : Gd P W bi nn X) (hg : Gl X x) (hm : X.mg x = some (.ref gA)) (kp : PySem.W.keepIn X.K (.ref gA) = true) (lk : X.K.lookup gA = some ⟨oc, od, .func (PySem.W.fnOf x x pg bg sg dV kV doc pm an cdv ct), osl⟩) (hcg : PySem.W.codeIn X.K cdv x = true) (hb : L2.Binds X.K (PySem.W.fnOf x x pg bg sg dV kV doc pm an cdv ct) [a] [])
    (Sg : FnScope Ng [a] sg) (hNg : Ng[0]? = some a) (hva : Vis sg a) (hG : LamX.GivesTo X Ng x sg gA cdv bg a (X.env.qual ++ "<lambda>") (TTh okR exR)) (TB : LamX.TabB X.base X.mg c Pt) (hcode : X.env.code = .ref c) (hmT : (Pt, X.env.qual ++ "<lambda>") ∈ P.T) (hu : ∀ p ∈ P.T, p.1 = Pt → p.2 = X.env.qual ++ "<lambda>") (hk : k + 2 ≤ nn)
    (L : LamX.LamS X.env.scope scope) (hdef : defaultsOf params X.env = ([], [])) (hbind : ∀ (q : Str) (cl : List (Str × Addr)) (pm cv ctv : Value), bindArgs (PySem.W.kla_fn "<lambda>" q params body scope cl pm cv ctv) {} = pure [])
    (hbody : ∀ (A : Around) (outer : List Env) (s : Shared) (H : Hp) (E : XK) (f c' : Addr) (P' : Pm), P'.T = P.T → P'.rp = false → Gd P' (fun cls d _ H => E cls d H) bi k (LamX.lamCx X A outer s H E scope f c') → EM (LamX.lamCx X A outer s H E scope f c') P' (fun cls d _ H => E cls d H) body mm)
    (hok : Op1 X.K okR okF) (hex : OpX X.K exR hd) (hd1 : (x == ("__debug__" : Str)) = false := by decide) (hd2 : (a == ("__debug__" : Str)) = false := by decide) (hd3 : (a == ("__classdict__" : Str)) = false := by decide) :
    EM X P W (.Call (.Name x p) [.Lambda params body scope lpos] [] pos) (eHeard mm okF hd) :=
  weakE (LamX.pe_lamcall (T := P.T) (TT := TTh okR exR) (k := k) (t := fun E σ H Q => ∃ P' : Pm, P'.T = P.T ∧ P'.rp = false ∧ P'.B = P.B ∧ tE X.K P' (fun cls d _ H => E cls d H) mm σ H Q) hg hm kp lk hcg hb Sg hNg hva hG TB hcode hmT hu (g.room.mono hk) L hdef hbind
      (fun A outer s H E f c' hr => ⟨fun pins s1 σ H1 Q I ⟨P', h1, h2, h3, h4⟩ => (hbody A outer s H E f c' P' h1 h2 ⟨rfl, g.nd, hr, (fun z => by rw [h2] at z; cases z), fun σ => passAt (takes_of rfl rfl rfl rfl) σ, passes_of rfl, by rw [h3]; exact g.bi, takes_of rfl rfl rfl rfl⟩).run pins s1 σ H1 Q I h4⟩) hd1 hd2 hd3)
    fun σ H Q ⟨S, tmp, s, h⟩ => by
      refine ⟨s.tabs, fun H1 e1 t1 => ?_⟩
      have s1 := s.extN e1 t1
      obtain ⟨G1, s2, f⟩ := s1.ice
      refine ⟨⟨P.T, [], H1, G1, P.B, false⟩, rfl, rfl, rfl, frS S, [], s2.rpTo _ rfl rfl rfl rfl rfl, ?_⟩
      unfold eHeard at h
      cases em : mm (frS S) with
      | stuck => rw [em] at h; exact h.elim
      | ok t S1 =>
        rw [em] at h
        intro v H2 s3
        have s3' := (s3.rpTo (PmF P G1 H1) rfl rfl rfl rfl rfl).frz1
        dsimp only at h
        split at h
        · rename_i hn
          have s4 := (f H2 S1 _ s3').2 [fz t] [v] rfl rfl (by show (noP _ (fz t) && true) = true; rw [noP_mono _ hn]; rfl)
          obtain ⟨G, r, l⟩ := Sim.open1 s4
          cases eo : okF (fz t) with
          | none => rw [eo] at h; exact h.elim
          | some u =>
            rw [eo] at h
            exact hok P G σ H2 S tmp Q _ v u eo r l h
        · exact h.elim
      | err x S1 =>
        rw [em] at h
        intro vs cls d H2 xa s3
        have s3' := s3.rpTo (PmF P G1 H1) rfl rfl rfl rfl rfl
        dsimp only at h
        split at h
        · rename_i hn
          have hl : x.xs.length = vs.length := xa.2.2.1
          have s4 := (f H2 S1 _ s3').2 x.xs vs rfl hl (noPs_mono _ hn)
          obtain ⟨G, r, l⟩ := Sim.openN hl s4
          cases eo : hd x with
          | none => rw [eo] at h; exact h.elim
          | some u =>
            rw [eo] at h
            exact hex P G σ H2 S tmp Q x vs cls d u eo xa r l h
        · exact h.elim
end
end Fy

namespace Fy
open PySem PySem.Spec PyProof.Rows L2

/-! ### what is known of a def of the module, once its body is read -/
structure Cal (rp : Bool) (Pr : Program) (w : World) (K : PySem.W.Frag) (mg : Str → Option Value) (base : Heap) (T : List (Addr × Str)) (x : Str) (params : Arguments) (ps : List Str) (k : Nat) (bi : List Nat) (run : List OT → FR) : Prop where
  ex : ∃ fd body scope, FunD K x x params body scope [] [] (He.ga K x) fd ∧ FnG rp Pr w K mg base k (He.ga K x) fd ps (spM K T ps.length bi run) ∧ L2.Binds K fd ps []
  mg : mg x = some (.ref (He.ga K x))
section
variable {X : Cx} {P : Pm} {W : WX} {bi b2 : List Nat} {k nn : Nat} {e : Expr} {es : List Expr} {p pos : Pos} {mr : MR} {mk : MA} {x : Str} {params : Arguments} {ps ks : List Str} {run : List OT → FR} {kws : List Keyword} {rp : Bool}
theorem Cal.up {Pr : Program} {w : World} {K : PySem.W.Frag} {mg : Str → Option Value} {base : Heap} {T : List (Addr × Str)} (C : Cal false Pr w K mg base T x params ps k bi run) (rp : Bool) : Cal rp Pr w K mg base T x params ps k bi run := by
  obtain ⟨⟨fd, body, scope, F, G, b⟩, m⟩ := C
  exact ⟨⟨fd, body, scope, F, G.up rp, b⟩, m⟩
theorem em_cal (g : Gd P W bi nn X) {T : List (Addr × Str)} (C : Cal rp X.prog X.w X.K X.mg X.base T x params ps k b2 run) (hT : P.T = T) (hrp : rp = true → P.rp = true) (hg : Gl X x) (ha : RM X P W (e :: es) mr) (hk : k ≤ nn := by decide) (hdb : (x == ("__debug__" : Str)) = false := by decide) (he : starEach (e :: es) X.env = (false, eval e X.env) :: starEach es X.env := by rfl) (hpl : (backTo pos (starEach es X.env)).any (·.1) = false := by rfl) :
    EM X P W (.Call (.Name x p) (e :: es) [] pos) (eCall ps.length b2 run mr) := by
  obtain ⟨⟨fd, body, scope, F, G, b⟩, m⟩ := C
  exact em_call g G hrp hT hk hg m F.kp b ha hdb he hpl
theorem em_calk (g : Gd P W bi nn X) {T : List (Addr × Str)} (pm : List Nat) (C : Cal rp X.prog X.w X.K X.mg X.base T x params ps k [] run) (hT : P.T = T) (hrp : rp = true → P.rp = true) (hg : Gl X x) (ha : KM X P W kws mk)
    (hb : ∀ (body : List Stmt) (scope : Scope) (kV doc pmv : Value) (an : Option Addr) (cdv ct : Value) (us : List Value), us.length = ks.length → bindArgs (PySem.W.fnOf x x params body scope .none kV doc pmv an cdv ct) ⟨[], ks.zip us⟩ = pure (ps.zip (pick pm us)))
    (hpm : ∀ (us : List Value), us.length = ks.length → (pick pm us).length = ps.length) (hk : k ≤ nn := by decide) (h1 : (backToKw pos (keywordEach kws X.env)).all (·.1.isSome) = true := by rfl) (h2 : (backToKw pos (keywordEach kws X.env)).filterMap (·.1) = ks := by rfl) (hdb : (x == ("__debug__" : Str)) = false := by decide)
    (hpl : ((backTo pos (starEach [] X.env)).any (·.1) || (backToKw pos (keywordEach kws X.env)).any (·.1.isNone)) = false := by rfl) (hkl : ks.length = kws.length := by rfl) :
    EM X P W (.Call (.Name x p) [] kws pos) (eCallK ps.length ks.length run pm mk) := by
  obtain ⟨⟨fd, body, scope, F, G, b⟩, m⟩ := C
  refine em_callK g pm G hrp hT hk hg m F.kp (fun s us hin hl => ?_) hpm ha h1 h2 hdb hpl hkl
  obtain ⟨oc, od, dV, kV, doc, pmv, an, cdv, ct, osl, rfl, lk, hcd, hd, _⟩ := F.ex
  have hd : dV = .none := by
    rcases hd with ⟨_, h⟩ | ⟨h, _⟩
    · exact h
    · exact absurd rfl h
  subst hd
  exact BindsTo.of_eq (hb _ _ _ _ _ _ _ _ us hl)
end
/-- a def by its body -/
theorem cal_m {rp : Bool} {Pr : Program} {w : World} {K : PySem.W.Frag} {mg : Str → Option Value} {base : Heap} {T : List (Addr × Str)} {x : Str} {params : Arguments} {body : List Stmt} {scope : Scope} {N ps : List Str} {k : Nat} {bi : List Nat} {m : MS}
    (D : ∃ fd, FunD K x x params body scope [] [] (He.ga K x) fd ∧ mg x = some (.ref (He.ga K x))) (S : FnScope N ps scope) (hbi : ∀ i ∈ bi, i < ps.length)
    (hb : ∀ (kV doc pm : Value) (an : Option Addr) (cdv ct : Value) (us : List Value), us.length = ps.length → bindArgs (PySem.W.fnOf x x params body scope .none kV doc pm an cdv ct) ⟨us, []⟩ = pure (ps.zip us))
    (hbody : ∀ (f : Addr) (cdv : Value) (A : Around) (outer : List Env) (s : Shared) (H : Hp) (E : XK) (P : Pm), P.T = T → P.rp = rp → Gd P (fun cls d _ H => E cls d H) bi k (cxOf (L2.CX Pr w) Pr w K mg base N x scope f cdv A outer s H E) →
      BM (cxOf (L2.CX Pr w) Pr w K mg base N x scope f cdv A outer s H E) P (fun cls d _ H => E cls d H) body m) :
    Cal rp Pr w K mg base T x params ps (k + 1) bi (runB N.length bi m) := by
  obtain ⟨fd, F, hm⟩ := D
  exact ⟨⟨fd, body, scope, F, fn_m F S hbi (fun cdv A outer s H E P _ => hbody _ cdv A outer s H E P), FunD.bindsN F hb⟩, hm⟩
/-- facts by defaults -/
theorem scope_of {N ps : List Str} {sc : Scope} (h1 : sc.kind = .function) (h2 : sc.isCoroutine = false) (h3 : sc.isGenerator = false) (h4 : N.Nodup) (h5 : N.take ps.length = ps) (h6 : (ps.all fun x => sc.names.lookup x == some .local || sc.names.lookup x == some .cell) = true) (h7 : (sc.names.all fun y => y.2 != .free) = true) : FnScope N ps sc :=
  ⟨h1, h2, h3, h4, h5, fun x hx => by
    have := List.all_eq_true.mp h6 x hx
    simpa using this, fun y hy => by
    have := List.all_eq_true.mp h7 y hy
    simpa using this⟩
end Fy

namespace Fy
open PySem PySem.Spec PyProof.Rows L2

def pNeg : PV → Option OT
  | .int i => some (.leaf (.int (-i)))
  | _ => none
/-! ### list(range(..)), tuple(range(..)) -/
def eRgW (f : List PV → OT) (m : ME) : ME := fun S => (m S).bind fun t S1 => match t with
  | .leaf (.int n) => if 0 ≤ n ∧ n ≤ 100000 then .ok (f (rng 0 n.toNat)) S1 else .stuck
  | _ => .stuck
def eTupR : ME → ME := eRgW fun xs => .leaf (.tup xs)
def eLstR : ME → ME := eRgW fun xs => .node (xs.map .leaf)
theorem rng_rps {K : PySem.W.Frag} {G : Hp} {n : Int} : Rps K G (rng 0 n.toNat) (rgV 0 n) := by
  unfold rng rgV
  rw [show (n - 0).toNat = n.toNat by omega]
  generalize List.range n.toNat = l
  induction l with
  | nil => exact .nil
  | cons x r ih => exact .cons (.int _) ih
theorem rgV_len {n : Int} (h : n ≤ 100000) : (rgV 0 n).length ≤ sizeLine := by
  unfold rgV
  rw [List.length_map, List.length_range]
  show _ ≤ 2 ^ 24
  omega
section
variable {X : Cx} {P : Pm} {W : WX} {bi : List Nat} {nn : Nat} {m m1 m2 : ME} {e a b : Expr} {pos p p2 pos2 apos cpos : Pos} {ma : MA}
theorem em_tupR (g : Gd P W bi nn X) (hg : Gl X "tuple") (hm : X.mg "tuple" = none) (hg2 : Gl X "range") (hm2 : X.mg "range" = none) (he : EM X P W a m) (h1 : starEach [a] X.env = (false, eval a X.env) :: starEach [] X.env := by rfl) (h2 : starEach [.Call (.Name "range" p2) [a] [] pos2] X.env = (false, eval (.Call (.Name "range" p2) [a] [] pos2) X.env) :: starEach [] X.env := by rfl) :
    EM X P W (.Call (.Name "tuple" p) [.Call (.Name "range" p2) [a] [] pos2] [] pos) (eTupR m) := weakE (pe_tupRg g.calm hg hm (prg_1 hg2 hm2 he h1) h2) fun σ H Q ⟨S, tmp, s, h⟩ => by
  refine ⟨S, tmp, s, ?_⟩
  unfold eTupR eRgW at h
  cases hm : m S with
  | stuck => rw [hm] at h; exact h
  | err x S1 => rw [hm] at h; exact h
  | ok t S1 =>
    rw [hm] at h
    intro v H1 s1
    dsimp only [Out.bind] at h
    split at h
    · rename_i n
      split at h
      · rename_i hc
        obtain ⟨G, r, l⟩ := s1.open1
        cases r
        refine ⟨n, rfl, ⟨by omega, by omega, by omega, by omega, by omega⟩, fun q hq => ?_⟩
        have eG : Same G (upd G q (.tup (rgV 0 n))) := same_new (Same.free l.le hq)
        exact h _ _ (l.new q _ _ hq (fun _ z => by cases z) (.tup (.inl (.inl upd_same)) (rgV_len hc.2) rng_rps))
      · exact h.elim
    · exact h.elim
theorem em_lstR (g : Gd P W bi nn X) (hg : Gl X "list") (hm : X.mg "list" = none) (hg2 : Gl X "range") (hm2 : X.mg "range" = none) (he : EM X P W a m) (h1 : starEach [a] X.env = (false, eval a X.env) :: starEach [] X.env := by rfl) (h2 : starEach [.Call (.Name "range" p2) [a] [] pos2] X.env = (false, eval (.Call (.Name "range" p2) [a] [] pos2) X.env) :: starEach [] X.env := by rfl) :
    EM X P W (.Call (.Name "list" p) [.Call (.Name "range" p2) [a] [] pos2] [] pos) (eLstR m) := weakE (pe_listRg g.calm hg hm (prg_1 hg2 hm2 he h1) h2) fun σ H Q ⟨S, tmp, s, h⟩ => by
  refine ⟨S, tmp, s, ?_⟩
  unfold eLstR eRgW at h
  cases hm : m S with
  | stuck => rw [hm] at h; exact h
  | err x S1 => rw [hm] at h; exact h
  | ok t S1 =>
    rw [hm] at h
    intro v H1 s1
    dsimp only [Out.bind] at h
    split at h
    · rename_i n
      split at h
      · rename_i hc
        obtain ⟨G, r, l⟩ := s1.open1
        cases r
        refine ⟨n, rfl, ⟨by omega, by omega, by omega, by omega, by omega⟩, fun q hq => ?_⟩
        exact h _ _ (l.own q _ _ hq (rgV_len hc.2) rng_rps)
      · exact h.elim
    · exact h.elim
/-! ### xs.index(y) -/
def datL : PV → Option (List PyData)
  | .lst xs => pds xs
  | .rls xs => pds xs
  | _ => none
theorem datL_pd {p : PV} {ds : List PyData} (h : datL p = some ds) : pd p = some (.list ds) := by
  unfold datL at h
  split at h
  · unfold pd; rw [h]; rfl
  · unfold pd; rw [h]; rfl
  · cases h
def fIdx (p q : PV) : Option OT := match datL p, pd q with
  | some ds, some d => if (SeqAt.shaped (.list ds) && SeqAt.shaped d) = true then (ds.findIdx? fun z => z.eqv d).map fun j => .leaf (.int (j : Nat)) else none
  | _, _ => none
def eIdx (m1 m2 : ME) : ME := fun S => (m1 S).bind fun t S1 => match datL (fz t) with
  | some _ => (m2 S1).bind fun u S2 => lift (fIdx (fz t) (fz u)) S2
  | none => .stuck
theorem em_idx (g : Gd P W bi nn X) (ha : EM X P W a m1) (hb : EM X P W b m2) (h0 : attributeBase a "index" X.env (eval a X.env) = eval a X.env := by rfl)
    (h1 : ((((backTo cpos (starEach [b] X.env)).all fun x => !x.1) && (backToKw cpos (keywordEach [] X.env)).all fun x => x.1.isSome) && decide (([b].length + ([] : List Keyword).length + if ([] : List Keyword).isEmpty = true then 0 else 1) < 30)) = true := by rfl)
    (h2 : (apos.endLine == cpos.line) = true := by rfl) (h3 : starEach [b] X.env = (false, eval b X.env) :: starEach [] X.env := by rfl) (h4 : (backTo cpos (starEach [] X.env)).any (·.1) = false := by rfl) :
    EM X P W (.Call (.Attribute a "index" apos) [b] [] cpos) (eIdx m1 m2) := weakE (pe_bm PySem.F.plainAttrs_list PySem.F.slot_list_index PySem.F.type_list_index (mt_indexD g.hu) ha (pa_cons hb pa_nil h3) h0 h1 h2 h3 h4) fun σ H Q ⟨S, tmp, s, h⟩ => by
  refine ⟨S, tmp, s, ?_⟩
  unfold eIdx at h
  cases hm : m1 S with
  | stuck => rw [hm] at h; exact h
  | err x S1 => rw [hm] at h; exact h
  | ok t S1 =>
    rw [hm] at h
    intro v H1 s1
    have s2 := s1.frz1
    obtain ⟨G, eH, r, l⟩ := s2.peek
    dsimp only [Out.bind] at h
    cases ed : datL (fz t) with
    | none => rw [ed] at h; exact h.elim
    | some ds =>
      rw [ed] at h
      have dp : Dp X.K H1 v (.list ds) := rp_dp (Rp.mono eH _ _ r) (datL_pd ed)
      refine ⟨?_, S1, _, s2, ?_⟩
      · cases dp with
        | lst q1 q2 => exact .inl ⟨rfl, _, q1⟩
      · have h : PoE X.K P W σ tmp Q ((m2 S1).bind fun u S2 => lift (fIdx (fz t) (fz u)) S2) := h
        cases hm2 : m2 S1 with
        | stuck => rw [hm2] at h; exact h
        | err x S2 => rw [hm2] at h; exact h
        | ok u S2 =>
          rw [hm2] at h
          intro w H2 s3
          obtain ⟨G2, rp, rq, l2⟩ := Sim.open2 s3.frz1
          have h : PoE X.K P W σ tmp Q (lift (fIdx (fz t) (fz u)) S2) := h
          unfold fIdx at h
          rw [ed] at h
          cases eu : pd (fz u) with
          | none => rw [eu] at h; exact h.elim
          | some d =>
            rw [eu] at h
            dsimp only at h
            split at h
            · rename_i hs
              obtain ⟨z1, z2⟩ := Bool.and_eq_true_iff.mp hs
              cases ej : ds.findIdx? (fun z => z.eqv d) with
              | none => rw [ej] at h; exact h.elim
              | some j =>
                rw [ej] at h
                obtain ⟨hlt, hj, hb'⟩ := List.findIdx?_eq_some_iff_getElem.mp ej
                have dp2 : Dp X.K H2 v (.list ds) := rp_dp (Rp.mono l2.le _ _ rp) (datL_pd ed)
                have dq : Dp X.K H2 w d := rp_dp (Rp.mono l2.le _ _ rq) eu
                cases id dp2 with
                | lst q1 q2 =>
                  refine ⟨_, w, d, ds, j, _, rfl, rfl, dp2, dq, z1, z2, List.getElem?_eq_getElem hlt, hj, fun m z' hm hz => ?_, h _ H2 (l2.val _ _ (.int _))⟩
                  obtain ⟨hml, hz⟩ := List.getElem?_eq_some_iff.mp hz
                  have := hb' m hm
                  rw [hz] at this
                  simpa using this
            · exact h.elim
end
end Fy
namespace Fy
open PySem PySem.Spec PyProof.Rows L2
theorem em_nint {X : Cx} {P : Pm} {W : WX} {i : Int} {j : Nat} {p pos : Pos} : EM X P W (.UnaryOp .USub (.Constant (.int i) j p) pos) (eC (.int (-i))) := em_neg (m := eC (.int i)) em_int
theorem em_gint {X : Cx} {P : Pm} {W : WX} {x : Str} {i : Int} {pos : Pos} (hg : Gl X x) (h : ∃ t, X.mg x = some (.int i t)) (hd : (x == ("__debug__" : Str)) = false := by rfl) : EM X P W (.Name x pos) (eC (.int i)) := by
  obtain ⟨t, h⟩ := h
  exact em_c (v := .int i) (pe_glob hg h ⟨_, rfl⟩ hd) fun _ => .int _
end Fy

namespace Fy
open PySem PySem.Spec PyProof.Rows L2

/-! ### errors over ValueError whose __init__ lays one thing down -/
def oexD (K : PySem.W.Frag) (C : Addr) : Bool := match K.lookup C with
  | some o => (match o.cls, o.data, o.slots.toList with
    | .type "type", .cls cd, [_, _, _, _, some (.builtin n), _] => (match cd.mro with
      | .ref C' :: bm => decide (C' = C) && (decide (n = "ValueError.__new__") && (!cd.hasDel && (cd.hasDict && HandSPX.refsVE bm)))
      | _ => false)
    | _, _, _ => false)
  | none => false
theorem oexD_ok {K : PySem.W.Frag} {C : Addr} (h : oexD K C = true) : ∃ nm q N bs bm sn sub ab col dd k0 k1 k2 k3 k5, K.lookup C = some (excClassObj nm q C N bs bm true sn sub ab col dd k0 k1 k2 k3 k5 "ValueError.__new__") ∧ HandSPX.refsVE bm = true := by
  unfold oexD at h
  split at h
  · rename_i o ho
    split at h
    · rename_i cd k0 k1 k2 k3 n k5 e1 e2 e3
      split at h
      · rename_i C' bm em
        simp only [Bool.and_eq_true, decide_eq_true_eq] at h
        obtain ⟨h1, h2, h3, h4, h5⟩ := h
        obtain ⟨nm, bs, mro, N, q, hd, sn, sub, ab, col, del⟩ := cd
        obtain ⟨c, dd, da, sl⟩ := o
        dsimp only at e1 e2 e3 em h3 h4
        subst h1; subst h2; subst em; subst h4; subst e1; subst e2
        have hdel : del = false := by simpa using h3
        subst hdel
        have hsl : sl = #[k0, k1, k2, k3, some (.builtin "ValueError.__new__"), k5] := Array.toList_inj.mp e3
        subst hsl
        exact ⟨nm, q, N, bs, bm, sn, sub, ab, col, dd, k0, k1, k2, k3, k5, ho, h5⟩
      · cases h
    · cases h
  · cases h
def oexB (K : PySem.W.Frag) (c f : Str) : Bool := oexD K (He.ga K c) && (decide (PySem.W.findIn K (.ref (He.ga K c)) "__setattr__" = some (some (.builtin "object.__setattr__"))) && (decide (PySem.W.subIn K (.ref (He.ga K c)) (.type "BaseException") = some true) && (decide (PySem.W.typeIn K (.ref (He.ga K c)) = some (.type "type")) && (PySem.W.keepIn K (.ref (He.ga K c)) &&
  (decide (PySem.W.findIn K (.ref (He.ga K c)) "__init__" = some (some (.ref (He.ma K (He.ga K c) "__init__")))) && (decide (PySem.W.typeIn K (.ref (He.ma K (He.ga K c) "__init__")) = some (.type "function")) && decide (PySem.W.findIn K (.ref (He.ga K c)) f = some none)))))))
structure OexE (K : PySem.W.Frag) (c f : Str) : Prop where
  oex : OexC K (He.ga K c)
  ini : PySem.W.findIn K (.ref (He.ga K c)) "__init__" = some (some (.ref (He.ma K (He.ga K c) "__init__")))
  tyI : PySem.W.typeIn K (.ref (He.ma K (He.ga K c) "__init__")) = some (.type "function")
  no : PySem.W.findIn K (.ref (He.ga K c)) f = some none
theorem oexB_ok {K : PySem.W.Frag} {c f : Str} (h : oexB K c f = true) : OexE K c f := by
  unfold oexB at h
  simp only [Bool.and_eq_true, decide_eq_true_eq] at h
  obtain ⟨h1, h2, h3, h4, h5, h6, h7, h8⟩ := h
  exact ⟨⟨oexD_ok h1, h2, h3, h4, h5⟩, h6, h7, h8⟩
/-- __init__(self, f): self.f = f -/
def spI (K : PySem.W.Frag) (f : Str) : Sp := fun vs H Q _ => ∃ a C v, vs = [.ref a, v] ∧ OexC K C ∧ PySem.W.findIn K (.ref C) f = some none ∧ H a = some (exo a C none) ∧ ∀ dx, H dx = none → dx ≠ a → Q .non (upd (upd H dx (exd dx [(f, v)])) a (exo a C (some dx)))
theorem ok_init {Pr : Program} {w : World} {K : PySem.W.Frag} {mg : Str → Option Value} {base : Heap} {qual f : Str} {params : Arguments} {body : List Stmt} {scope : Scope} {fI : Addr} {fd : FuncData} {p1 p2 p3 p4 : Pos}
    (F : FunD K "__init__" qual params body scope [] [] fI fd) (S : FnScope ["self", f] ["self", f] scope) (hb : body = [.Assign [.Attribute (.Name "self" p1) f p2] (.Name f p3) p4]) (hv0 : Vis scope "self") (hv1 : Vis scope f) (hd : (f == ("__debug__" : Str)) = false) (hcd : (f == ("__classdict__" : Str)) = false)
    (hs : ∀ env, swapsWith (.Name f p3) (some (.Attribute (.Name "self" p1) f p2)) p4.line env = pure false) : FnOk Pr w K mg base (L2.CX Pr w) 1 fI fd ["self", f] (spI K f) := by
  subst hb
  refine F.ok S (fun vs H Q E h => ?_) (fun cdv A outer s H vs Q E hr h => ⟨_, pss_one (ps_ost (pe_var (i := 0) rfl hv0) (pe_var (i := 1) rfl hv1 hd hcd) (hs _)), ?_⟩)
  · obtain ⟨a, C, v, rfl, _⟩ := h
    rfl
  · obtain ⟨a, C, v, rfl, h1, h2, h3, h4⟩ := h
    exact ⟨v, rfl, .ref a, rfl, a, C, rfl, h1, h2, .inl ⟨h3, fun dx d1 d2 => h4 dx d1 d2⟩⟩
theorem pa_mono {X : Cx} {es : List Expr} {ta : TA} (h : PA X es ta) : PA X es fun σ H R => ∃ R0, ta σ H R0 ∧ ∀ vs H1, R0 vs H1 → R vs H1 := ⟨fun pos pins s σ H R I ⟨R0, h0, hi⟩ => thn (h.run pos pins s σ H R0 I h0) fun us s1 ⟨vs, H1, I1, r, q⟩ => ⟨vs, H1, I1, r, hi vs H1 q⟩⟩
structure ExE (Pr : Program) (w : World) (K : PySem.W.Frag) (mg : Str → Option Value) (base : Heap) (c : Str) (ns : List Str) : Prop where
  how : ∀ X : Cx, X.prog = Pr → X.w = w → X.K = K → X.mg = mg → X.base = base → Room 2 X.A → Gl X c → Mk1 X c ns
theorem exE_1 {Pr : Program} {w : World} {K : PySem.W.Frag} {mg : Str → Option Value} {base : Heap} {c f : Str} {fd : FuncData} (O : OexE K c f) (F : FnOk Pr w K mg base (L2.CX Pr w) 1 (He.ma K (He.ga K c) "__init__") fd ["self", f] (spI K f)) (hb : L2.Binds K fd ["self", f] []) (hm : mg c = some (.ref (He.ga K c))) (hdb : (c == ("__debug__" : Str)) = false) : ExE Pr w K mg base c [f] := by
  refine ⟨fun X e1 e2 e3 e4 e5 hr hg e es ta p pos ha h1 h2 pins s σ H Q I h => ?_⟩
  subst e1; subst e2; subst e3; subst e4; subst e5
  refine pmk_oex (CX := L2.CX X.prog X.w) O.oex O.ini O.tyI F hr hb .nil (fun pins σ H s e s' I h => ?_) hg hm (pa_mono ha) hdb h1 h2 pins s σ H Q I ?_
  · obtain ⟨_, _, _, _, _, _, _, _, _, _, _, _, h⟩ := h
    exact h.elim
  · -- what __init__ is asked
    have key : ∀ vs H1, (vs.length = [f].length ∧ ∀ d, H1 d = none → Q (.ref (He.ga X.K c)) (some d) (upd H1 d (.xd ([f].zip vs)))) → vs.length ≤ 1000 ∧ ∀ a, H1 a = none → spI X.K f (V.ref a :: (vs ++ [])) (upd H1 a (exo a (He.ga X.K c) none)) (fun v H2 => v = V.non ∧ ∃ d fs, H2 a = some (exo a (He.ga X.K c) (some d)) ∧ H2 d = some (exd d fs) ∧ H1 d = none ∧ Q (.ref (He.ga X.K c)) (some d) (upd (del H2 a) d (HO.xd fs))) (fun _ _ _ => False) := by
      intro vs H1 ⟨hl, k⟩
      match vs, hl with
      | [v], _ =>
        refine ⟨(by show 1 ≤ 1000; decide), fun a ha => ⟨a, _, v, rfl, O.oex, O.no, upd_same, fun dx d1 d2 => ⟨rfl, dx, [(f, v)], upd_same, ?_, ?_, ?_⟩⟩⟩
        · rw [upd_ne d2, upd_same]
        · rw [upd_ne d2] at d1; exact d1
        · have hd1 : H1 dx = none := by rw [upd_ne d2] at d1; exact d1
          have z := k dx hd1
          have e : upd (del (upd (upd (upd H1 a (exo a (He.ga X.K c) none)) dx (exd dx [(f, v)])) a (exo a (He.ga X.K c) (some dx))) a) dx (HO.xd [(f, v)]) = upd H1 dx (HO.xd [(f, v)]) := by
            funext b
            by_cases hb : b = dx
            · subst hb; rw [upd_same, upd_same]
            · rw [upd_ne hb, upd_ne hb]
              show (if b = a then none else _) = _
              split
              · rename_i hba; rw [hba, ha]
              · rename_i hba
                rw [upd_ne hba, upd_ne hb, upd_ne hba]
          rw [e]
          exact z
    exact ⟨_, h, key⟩
section
variable {X : Cx} {P : Pm} {W : WX} {bi : List Nat} {nn : Nat} {c : Str} {ns : List Str}
theorem ExE.of (E : ExE X.prog X.w X.K X.mg X.base c ns) (g : Gd P W bi nn X) (h : 2 ≤ nn) (hg : Gl X c) : Mk1 X c ns := E.how X rfl rfl rfl rfl rfl (g.room.mono h) hg
end
end Fy

namespace Fy
open PySem PySem.Spec PyProof.Rows L2

/-! ### what is known of a class of the module that is called -/
structure CalC (Pr : Program) (w : World) (K : PySem.W.Frag) (mg : Str → Option Value) (base : Heap) (T : List (Addr × Str)) (c : Str) (params : Arguments) (ps : List Str) (k : Nat) (run : List OT → FR) : Prop where
  ex : ∃ fd qual body scope, FunD K "__init__" qual params body scope [] [] (He.ma K (He.ga K c) "__init__") fd ∧ FnG false Pr w K mg base k (He.ma K (He.ga K c) "__init__") fd ps (spM K T ps.length [0] run) ∧ L2.Binds K fd ps []
  made : Mk K (He.ga K c) (He.ma K (He.ga K c) "__init__")
  mg : mg c = some (.ref (He.ga K c))
theorem calc_m {Pr : Program} {w : World} {K : PySem.W.Frag} {mg : Str → Option Value} {base : Heap} {T : List (Addr × Str)} {c qual : Str} {params : Arguments} {body : List Stmt} {scope : Scope} {N ps : List Str} {k : Nat} {m : MS}
    (D : ∃ fd, FunD K "__init__" qual params body scope [] [] (He.ma K (He.ga K c) "__init__") fd) (M : Mk K (He.ga K c) (He.ma K (He.ga K c) "__init__")) (hm : mg c = some (.ref (He.ga K c))) (S : FnScope N ps scope) (hbi : 0 < ps.length)
    (hb : ∀ (kV doc pm : Value) (an : Option Addr) (cdv ct : Value) (us : List Value), us.length = ps.length → bindArgs (PySem.W.fnOf "__init__" qual params body scope .none kV doc pm an cdv ct) ⟨us, []⟩ = pure (ps.zip us))
    (hbody : ∀ (f : Addr) (cdv : Value) (A : Around) (outer : List Env) (s : Shared) (H : Hp) (E : XK) (P : Pm), P.T = T → P.rp = false → Gd P (fun cls d _ H => E cls d H) [0] k (cxOf (L2.CX Pr w) Pr w K mg base N qual scope f cdv A outer s H E) →
      BM (cxOf (L2.CX Pr w) Pr w K mg base N qual scope f cdv A outer s H E) P (fun cls d _ H => E cls d H) body m) :
    CalC Pr w K mg base T c params ps (k + 1) (runB N.length [0] m) := by
  obtain ⟨fd, F⟩ := D
  exact ⟨⟨fd, qual, body, scope, F, fn_m F S (fun i hi => by have : i = 0 := by simpa using hi
                                                             rw [this]; exact hbi) (fun cdv A outer s H E P _ => hbody _ cdv A outer s H E P), FunD.bindsN F hb⟩, M, hm⟩
section
variable {X : Cx} {P : Pm} {E : XK} {bi b2 : List Nat} {k nn : Nat} {e : Expr} {es : List Expr} {p pos : Pos} {mr : MR} {mk : MA} {c : Str} {params : Arguments} {ps ks : List Str} {run : List OT → FR} {kws : List Keyword}
theorem em_mk (g : Gd P (fun cls d _ H => E cls d H) bi nn X) {T : List (Addr × Str)} (C : CalC X.prog X.w X.K X.mg X.base T c params ps k run) (hT : P.T = T) (hg : Gl X c) (ha : RM X P (fun cls d _ H => E cls d H) (e :: es) mr) (hk : k + 1 ≤ nn := by decide) (hdb : (c == ("__debug__" : Str)) = false := by decide) (he : starEach (e :: es) X.env = (false, eval e X.env) :: starEach es X.env := by rfl) (hpl : (backTo pos (starEach es X.env)).any (·.1) = false := by rfl) :
    EM X P (fun cls d _ H => E cls d H) (.Call (.Name c p) (e :: es) [] pos) (eMake c ps.length run mr) := by
  obtain ⟨⟨fd, qual, body, scope, F, G, b⟩, M, hm⟩ := C
  exact em_make g M G hT hk hg hm b ha hdb he hpl
/-- C(a=e, ..) -/
def eMakeK (c : Str) (n kn : Nat) (run : List OT → FR) (pm : List Nat) (mk : MA) : ME := fun S => (mk S).bind fun ts S1 => if ts.length = kn then makeM c n run ((pick pm (ts.map fz)).map fun p => .vl (.leaf p)) S1 else .stuck
theorem em_mkk (g : Gd P (fun cls d _ H => E cls d H) bi nn X) {T : List (Addr × Str)} (pm : List Nat) (C : CalC X.prog X.w X.K X.mg X.base T c params ps k run) (hT : P.T = T) (hg : Gl X c) (ha : KM X P (fun cls d _ H => E cls d H) kws mk)
    (hb : ∀ (qual : Str) (body : List Stmt) (scope : Scope) (kV doc pmv : Value) (an : Option Addr) (cdv ct self : Value) (us : List Value), us.length = ks.length → bindArgs (PySem.W.fnOf "__init__" qual params body scope .none kV doc pmv an cdv ct) ⟨[self], ks.zip us⟩ = pure (ps.zip (self :: pick pm us)))
    (hk : k + 1 ≤ nn := by decide) (h1 : (backToKw pos (keywordEach kws X.env)).all (·.1.isSome) = true := by rfl) (h2 : (backToKw pos (keywordEach kws X.env)).filterMap (·.1) = ks := by rfl) (hdb : (c == ("__debug__" : Str)) = false := by decide)
    (hpl : ((backTo pos (starEach [] X.env)).any (·.1) || (backToKw pos (keywordEach kws X.env)).any (·.1.isNone)) = false := by rfl) :
    EM X P (fun cls d _ H => E cls d H) (.Call (.Name c p) [] kws pos) (eMakeK c ps.length ks.length run pm mk) := by
  obtain ⟨⟨fd, qual, body, scope, F, G, b⟩, M, hm⟩ := C
  have kb : KBn X.K fd ps 1 ks (fun us ws => us ++ pick pm ws) (fun vs zs => vs ++ pick pm zs) := by
    refine ⟨fun s us ws hin hu hw => ?_, fun r1 r2 => ?_⟩
    · obtain ⟨oc, od, dV, kV, doc, pmv, an, cdv, ct, osl, rfl, lk, hcd, hd, _⟩ := F.ex
      have hd : dV = .none := by
        rcases hd with ⟨_, h⟩ | ⟨h, _⟩
        · exact h
        · exact absurd rfl h
      subst hd
      match us, hu with
      | [self], _ => exact BindsTo.of_eq (hb _ _ _ _ _ _ _ _ _ self ws hw)
    · exact Vals.append r1 (pick_vals r2 pm)
  refine weakE (pe_makeK0 (E := E) M G.ok (g.room.mono hk) hg hm kb (fun pins σ H s e s' I h => g.pass σ pins H s e s' I h) ha h1 h2 hdb hpl) fun σ H Q ⟨S, tmp, s, h⟩ => ?_
  show tA X.K P (fun cls d _ H => E cls d H) mk σ H fun zs H2 => ([] : List V).length = 0 ∧ zs.length = ks.length ∧ ∀ (x dx : Addr), H2 x = none → H2 dx = none → dx ≠ x → spM X.K T ps.length [0] run ([V.ref x] ++ pick pm zs) (upd (upd H2 dx (HO.own x)) x (HO.ins (He.ga X.K c) dx [])) (fun v H3 => v = V.non ∧ Q (V.ref x) H3) E
  refine ⟨S, tmp, s, ?_⟩
  unfold eMakeK at h
  cases hm : mk S with
  | stuck => rw [hm] at h; exact h
  | err x S1 => rw [hm] at h; exact h
  | ok ts S1 =>
    rw [hm] at h
    intro vs H1 hl s1
    obtain ⟨G', r, l⟩ := Sim.openN (by simp [hl]) (s1.frzs hl)
    have rp2 := pick_rps r pm
    have hl2 := rp2.len
    have s2 := l.vals _ _ rp2
    rw [← tms_vl hl2] at s2
    have h : PoE X.K P (fun cls d _ H => E cls d H) σ tmp Q (if ts.length = ks.length then makeM c ps.length run ((pick pm (ts.map fz)).map fun p => .vl (.leaf p)) S1 else .stuck) := h
    split at h
    · rename_i hn
      refine ⟨rfl, by rw [← hl]; exact hn, fun x dx hx hd hne => ?_⟩
      rw [← hT]
      exact make_sp (refOk_vl hl2) s2 hx hd hne h
    · exact h.elim
end
end Fy
namespace Fy
open PySem PySem.Spec PyProof.Rows L2
theorem sm_rz {X : Cx} {P : Pm} {W : WX} {bi : List Nat} {nn : Nat} {c : Str} {ns : List Str} {e : Expr} {es : List Expr} {ma : MA} {p p2 pos : Pos} (g : Gd P W bi nn X) (E : ExE X.prog X.w X.K X.mg X.base c ns) (hg : Gl X c) (ha : AM X P W (e :: es) ma) (h : 2 ≤ nn := by decide) (h1 : starEach (e :: es) X.env = (false, eval e X.env) :: starEach es X.env := by rfl) (h2 : (backTo p2 (starEach es X.env)).any (·.1) = false := by rfl) :
    SM X P W (.Raise (some (.Call (.Name c p) (e :: es) [] p2)) none pos) (sRaise c ns ma) := sm_raise g (E.of g h hg) ha h1 h2
end Fy

namespace Fy
open PySem PySem.Spec PyProof.Rows L2

/-! ### try with several clauses, each with a name for what it caught -/
def goneD (i : Nat) (D : Ends) : Ends := { nx := fun τ K' => D.nx (τ.set i none) K', rt := D.rt, bk := fun τ K' => D.bk (τ.set i none) K', ct := fun τ K' => D.ct (τ.set i none) K' }
abbrev Suite := Addr → Value → Option Addr → TS
def wAsN (K : PySem.W.Frag) (i : Nat) (Wo : WX) (D : Ends) : List (Value × Suite) → WX
  | [] => Wo
  | p :: r => fun cls d σ H => ∃ yes, PySem.W.exmOne K cls p.1 = some yes ∧ (yes = true → ∀ a, H a = none → p.2 a cls d (goneD i D) (σ.set i (some (.ref a))) H) ∧ (yes = false → wAsN K i Wo D r cls d σ H)
inductive ClAs (X : Cx) (n : Str) : List ExceptHandler → List (Value × Suite) → Prop
  | nil : ClAs X n [] []
  | cons {x : Str} {c : Value} {ts : Suite} {b0 : Stmt} {su : List Stmt} {q1 q2 : Pos} {hs : List ExceptHandler} {l : List (Value × Suite)} (hc : Names X x c)
      (hb : ∀ (a : Addr) (oe : Obj) (cls : Value) (d : Option Addr) (pn : List (Addr × Obj)), Zc cls d oe → (∃ vs, oe.data = .fields vs) → PSs (X.suite a ((a, oe) :: pn)) (b0 :: su) (ts a cls d)) (r : ClAs X n hs l) : ClAs X n (.ExceptHandler (some (.Name x q1)) (some n) (b0 :: su) q2 :: hs) ((c, ts) :: l)
section
variable {X : Cx} {n : Str} {i : Nat} {body : List Stmt} {h0 : ExceptHandler} {hs : List ExceptHandler} {l : List (Value × Suite)} {pos : Pos} {tb : WX → TS} {Wo : WX}
theorem ps_tryN (stk : X.stack = X.env :: X.outer) (frm : X.env.frame = some X.env.locals) (nd : X.N.Nodup) (at_ : X.N[i]? = some n) (kd : X.env.kindOf n = some .local) (tk : Takes X Wo)
    (bd : ∀ (W : WX) (pn : List (Addr × Obj)) (xe : Value → Shared → Prop), Takes (X.tr pn xe) W → PassesOwn (model X.prog X.w) X.A X.env xe → PSs (X.tr pn xe) body (tb W)) (cl : ClAs X n (h0 :: hs) l) :
    PS X (.Try body (h0 :: hs) [] [] pos) (fun D σ H => tb (wAsN X.K i Wo D l) D σ H) := by
  refine ⟨fun pins s σ H D I h => ?_⟩
  have okX := I.ok
  have frX : X.A.frames = some (X.env :: X.outer) := by rw [okX.frames, stk]
  have locX : Loc X.env.scope n := .inl kd
  refine wpAny_Try_except (wpAny_mono ((bd (wAsN X.K i Wo D l) (X.pn ++ pins) (fun e z1 => wpAny (model X.prog X.w) X.A (noteFrame e X.env) (fun _ z2 => wpAny (model X.prog X.w) X.A (setFlight e none) (fun _ z3 => wpAny (model X.prog X.w) X.A (handleBy e X.env (h0 :: hs)) (SP X pins D) X.xe z3) X.xe z2) X.xe z1) (fun u s' xx => ?_) PassesOwn.looking).run [] s σ H D (I.toTry _) h) (fun f z1 q => ?_) (fun e z1 he => he))
  · obtain ⟨a, B, sI, pins', σ', H', cls, d, rfl, J0, nb, up, sky, na, os, ag, w⟩ := xx
    have J : Inv X pins σ' H' sI := J0.ofTry okX
    have sky1 : Sky B (X.env :: X.outer) a (Zc cls d) X.env.locals s'.heap := by rw [← stk]; exact sky
    show wpAny (model X.prog X.w) X.A (noteFrame (.ref a) X.env) _ _ _
    refine Sky.land Zc.steady frX frm sky1 fun g3 fl up3 => ?_
    have J3 : Inv X pins σ' H' { s' with heap := g3 } := J.landed nb fl.1 (up.trans up3) os ag
    obtain ⟨o3, w3, e3, z3, d3⟩ := fl.there
    have outFr : a ∉ frs (X.env :: X.outer) := fun hm => by
      obtain ⟨_, o', e', hnf⟩ := fl.2.2.1.mem hm
      rw [e3] at e'
      cases e'
      exact hnf _ d3
    have nL : a ≠ X.env.locals := fun z => outFr (List.mem_filterMap.mpr ⟨X.env, List.mem_cons_self, by rw [frm, z]⟩)
    have nF : a ∉ X.fs := fun hm => by
      obtain ⟨e, he, q⟩ := List.mem_filterMap.mp hm
      exact outFr (List.mem_filterMap.mpr ⟨e, List.mem_cons_of_mem _ he, q⟩)
    have S3 := J3.suite e3 d3 na nL nF
    have go : ∀ {hs' : List ExceptHandler} {l' : List (Value × Suite)}, ClAs X n hs' l' → wAsN X.K i Wo D l' cls d σ' H' → wpAny (model X.prog X.w) X.A (handleBy (.ref a) X.env hs') (SP X pins D) X.xe { s' with heap := g3 } := by
      intro hs' l' hk
      induction hk with
      | nil =>
        intro w
        refine wpAny_handleBy_nil ?_
        obtain ⟨_, _, _, oe, vs, T, oT, ts', he, hz, hd, h1, _⟩ := id fl
        unfold PySem.passOn
        refine wpAny_bind (wpAny_field he hd h1 ?_)
        rw [if_neg (show ¬ ((Value.ref T == Value.none) = true) by simp)]
        have fin : wpAny (model X.prog X.w) X.A (setFlight (.ref a) X.env.frame) (fun _ s4 => wpAny (model X.prog X.w) X.A (throw (.ref a) : Sem Flow) (SP X pins D) X.xe s4) X.xe { s' with heap := g3 } := by
          rw [frm]
          exact HandSPX.setFlight_upZ fl fun h4 hh4 up4 => wpAny_throw (tk _ _ ⟨a, B, sI, pins, σ', H', cls, d, rfl, J, nb, (up.trans up3).trans up4, .inr (.inr (by rw [stk]; exact hh4)), na, os, ag, w⟩)
        first | exact wpAny_bind (wpAny_pure (wpAny_bind fin)) | exact wpAny_bind fin
      | @cons x c ts b0 su q1 q2 hs2 l2 hc hb r ih =>
        rintro ⟨yes, hy, h1, h2⟩
        have LT : PySem.W.Looks (model X.prog X.w) g3 (typeOf (.ref a)) cls := fun A Q E s k q => wpAny_typeOf_ref (k _ _ e3) (by rw [z3.1]; exact q)
        have test : ∀ {Q E : Value → Shared → Prop}, Q c { s' with heap := g3 } → wpAny (model X.prog X.w) (X.A.mark (some (.ref a))) (eval (.Name x q1) X.env) Q E { s' with heap := g3 } := fun {Q E} q => by
          obtain ⟨hg, hdb, hm | ⟨hm, hv, hn⟩⟩ := hc
          · exact ld_glob (X := X.suite a ((a, o3) :: (X.pn ++ pins))) S3 hg hm q hdb
          · exact ld_blt (X := X.suite a ((a, o3) :: (X.pn ++ pins))) S3 hg hm hv q hn hdb
        refine wpAny_handleBy_cons (codeAny_handlers_test (test ((PySem.W.exm_one (M := model X.prog X.w) (J3.kIn) LT hy).here ?_))) (by intro q; cases q)
        cases yes with
        | false => exact ih (h2 rfl)
        | true =>
          refine codeAny_handlers_suite_as (HandSPX.lands_againZ fl fun g4 fl4 up4 => ?_)
          have J4 : Inv X pins σ' H' { s' with heap := g4 } := J.landed nb fl4.1 ((up.trans up3).trans up4) os ag
          obtain ⟨o4, w4, e4, z4, d4⟩ := fl4.there
          refine store_ok (X := X.suite a ((a, o4) :: (X.pn ++ pins))) (v := .ref a) (J4.suite e4 d4 na nL nF) nd at_ locX rfl (fun s5 S5 => ?_) (.inr kd)
          refine wpAny_mono ((hb a o4 cls d (X.pn ++ pins) z4 ⟨_, d4⟩).run [] s5 _ H' _ S5 (h1 rfl a na)) (fun f s6 q => ?_) (fun _ _ z => z.elim)
          have gone : ∀ {τ : L2.St} {H6 : Hp} {Q : Shared → Prop}, Inv (X.suite a ((a, o4) :: (X.pn ++ pins))) [] τ H6 s6 → (∀ s7, Inv X pins (τ.set i none) H6 s7 → Q s7) → wpAny (model X.prog X.w) X.A (do bindName X.env n .none; unbindBehindTheSuite X.env n q2) (fun _ s7 => Q s7) X.xe s6 := fun S6 hq => gone_ok (S6.unsuite okX) nd at_ kd hq
          cases f with
          | ret u =>
            obtain ⟨v6, τ, H6, S6, r6, q6⟩ := q
            exact gone S6 fun s7 J7 => ⟨_, _, _, J7, r6, q6⟩
          | _ =>
            obtain ⟨τ, H6, S6, q6⟩ := q
            exact gone S6 fun s7 J7 => ⟨_, _, J7, q6⟩
    exact go cl w
  · cases f with
    | next =>
      obtain ⟨τ, H6, S6, q6⟩ := q
      exact wpAny_execs_nil ⟨τ, H6, S6.ofTry okX, q6⟩
    | ret u =>
      obtain ⟨v6, τ, H6, S6, r6, q6⟩ := q
      exact ⟨v6, τ, H6, S6.ofTry okX, r6, q6⟩
    | _ =>
      obtain ⟨τ, H6, S6, q6⟩ := q
      exact ⟨τ, H6, S6.ofTry okX, q6⟩
end
end Fy

namespace Fy
open PySem PySem.Spec PyProof.Rows L2

/-! ### isinstance of a caught error that has fields -/
structure ExcD (K : PySem.W.Frag) (D : Addr) : Prop where
  c : ExcC K D
  x : XfC K D
section
variable {prog : Program} {w : World} {A : Around} {E : Value → Shared → Prop} {s : Shared} {K : PySem.W.Frag} {x D : Addr} {ox : Obj} {od : Option Obj}
open PySem.W PySem.Calls in
theorem excD_class {Q : Option Value → Shared → Prop} (Z : ExcC K D) (KI : K.In s.heap) (I : InstAt s.heap x ox D od) (h : Q (some (.ref D)) { s with toks := s.toks + 1 }) : wpAny (model prog w) A (getAttr? (.ref x) "__class__") Q E s := by
  have fd : findObj K D od "__class__" = some (.bind (.builtin "getset_descriptor.__get__") (.builtin "object.__class__")) := by
    obtain ⟨cd, hc, _⟩ := any_some Z.hd
    unfold findObj
    rw [hc, Option.bind_some, Z.ha, Option.bind_some]
    simp [Z.hn, Z.ht]
  obtain ⟨hp, g, d, t, os⟩ := s
  have l0 := I.type (M := model prog w); have l1 := looks_findIn (M := model prog w) KI Z.hg
  have l2 := looks_findIn (M := model prog w) KI Z.hk; have l3 := looks_find (M := model prog w) KI I fd
  have lb : Looks (model prog w) hp (isInstance (.ref x) (.type "BaseException")) true := l0.andThen (looks_subIn KI Z.hs)
  have ne : (Value.builtin "BaseException.__getattribute__" == Value.builtin "object.__getattribute__") = false := by decide +kernel
  have ne1 : (onTheHeap (Value.ref D) && Value.builtin "BaseException.__getattribute__" == Value.builtin "object.__getattribute__") = false := by rw [ne]; rfl
  unfold getAttr? getAttrBy? getAttrBy
  refine wpAny_bind (wpAny_mkText (wpAny_bind (wpAny_attempt (wpAny_holding (wpAny_bind (l0.at (wpAny_bind (l1.at ?_))))))))
  show wpAny _ _ (if (onTheHeap (Value.ref D) && Value.builtin "BaseException.__getattribute__" == Value.builtin "object.__getattribute__") = true then _ else _) _ _ _
  rw [ne1, if_neg Bool.false_ne_true]
  unfold getAttrByItsOwn hookBefore
  refine wpAny_bind ?_; rw [if_pos (show onTheHeap (Value.ref D) = true from rfl)]
  refine l2.at (wpAny_bind (wpAny_attempt (wpAny_holding ?_)))
  unfold callGetattribute
  rw [show (false && onTheHeap (Value.builtin "BaseException.__getattribute__")) = false from rfl, if_neg Bool.false_ne_true]
  unfold boundAndCalled
  rw [PySem.F.excAttr_ValueError.ga.bind (.ref x)]
  refine wpAny_bind (wpAny_pure ?_)
  show wpAny _ _ (call (.builtin "BaseException.__getattribute__") [.ref x, .str "__class__" t]) _ _ _
  refine wpAny_call (codeAny_call_builtin PySem.F.excAttr_ValueError.ga.plain PySem.F.entry_bexc_ga (@check_slot (model prog w) _ _ ⟨hp, g, d, t + 1, os⟩ "BaseException.__getattribute__" "BaseException" "__getattribute__" (.ref x) [.str "__class__" t] [] _ (by decide +kernel) (by decide +kernel) lb (PySem.F.args_bexc_ga (.ref x) (.str "__class__" t)) ?_))
  unfold Builtin.«object.__getattribute__»
  refine wpAny_bind (wpAny_of_eq (a := ((Value.ref x : Value), [Value.str "__class__" t])) (by first | rfl | (simp only [slotArgs]; rfl)) (wpAny_bind (wpAny_pure (wpAny_bind (l0.at (wpAny_bind (l3.at ?_)))))))
  show wpAny _ _ (holding [Value.builtin "object.__class__"] (call (.builtin "getset_descriptor.__get__") [.builtin "object.__class__", .ref x, .ref D]) >>= ret) _ _ _
  refine wpAny_bind (wpAny_holding (wpAny_call (class_get (s := ⟨hp, g, d, t + 1, os⟩) (ox := ox) (od := od) KI I Z.hm (wpAny_pure ?_))))
  show wpAny _ _ (handedOut (.ref D)) _ _ _
  rw [handedOut_of (v := .ref D) rfl]
  first | exact wpAny_pure (wpAny_pure h) | exact wpAny_pure h | exact wpAny_pure (wpAny_bind (wpAny_pure (wpAny_pure h)))
theorem excD_kit (Z : ExcC K D) : PySem.W.KitX K (.ref x) (.ref D) fun h => ∃ od, PySem.W.InstAt h x ox D od where
  ty := fun _ _ _ ⟨_, I⟩ => I.type
  it := fun M h X _ => by
    obtain ⟨cdD, hcD, _⟩ := PySem.W.any_some Z.hd
    unfold PySem.W.clsIn at hcD
    split at hcD
    · rename_i c' d' cd' sl' ho
      intro A' Q' E' s' kk q; unfold isType loadHead
      exact wpAny_bind (wpAny_loadPart (kk _ _ (X _ _ ho)) (wpAny_pure q))
    · cases hcD
  ne := fun h tp dd its n sl X htp => (PySem.W.handS_kitx_exc (x := x) (ox := ox) Z.hg Z.hk Z.hs Z.hd Z.ha Z.hn Z.ht Z.hm).ne h tp dd its n sl X htp
  ca := fun X ⟨_, I⟩ k => excD_class Z X I k
end
/-- isinstance(e, c), e the error that a suite holds, with its fields -/
def rIsD (K : PySem.W.Frag) (a D dd : Addr) : List V → Hp → VK → Prop := fun xs H Q => ∃ (c : V) (cv : Value) (b : Bool) (fs : List (Str × V)), xs = [.ref a, c] ∧ H dd = some (.xd fs) ∧ (∀ u, RelV c u → u = cv) ∧ PySem.W.kitOne K (.ref D) cv = some b ∧ Q (.bl b) H
theorem call_isD {X : Cx} {a D dd : Addr} {oe : Obj} {pn : List (Addr × Obj)} (C : ExcC X.K D) (hz : Zc (.ref D) (some dd) oe) (hf : ∃ vs, oe.data = .fields vs) : CallR (X.suite a ((a, oe) :: pn)) (.builtin "isinstance") (rIsD X.K a D dd) := by
  intro pins s σ H xs us Q I r h
  obtain ⟨c, cv, b, fs, rfl, hx, hcv, e, q⟩ := h
  cases r with
  | cons rx rr =>
    cases rr with
    | cons rt rr =>
      cases rr; cases rx
      have ec := hcv _ rt; subst ec
      obtain ⟨hget, _⟩ := I.pin (a, oe) (List.mem_append.mpr (.inl List.mem_cons_self))
      obtain ⟨vs, hv⟩ := hf
      obtain ⟨mA, hns, _⟩ := (I.hok dd _ hx : ObjOk X.prog X.w H s.heap dd (.xd fs))
      obtain ⟨od, ho, _⟩ := lookIn_ns hns
      have J : PySem.W.InstAt s.heap a oe D (some od) := ⟨hget, hz.1, by unfold PySem.W.notCls; rw [hv] <;> rfl, by rw [hz.2]; exact ho⟩
      exact PySem.W.kia_one (excD_kit C) I.kIn ⟨_, J⟩ e (fun z => nomatch z) fun tk => ⟨.bl b, H, I.kept (t' := tk) fun _ _ z => z, rfl, q⟩
end Fy

namespace Fy
open PySem PySem.Spec PyProof.Rows L2

section
variable {K : PySem.W.Frag} {P P' : Pm} {G : Hp} {σ σ' : L2.St} {H H' : Hp} {S S' : Sl} {tmp : Tm} {A B : List Addr}
/-- what a frame that changes nothing of this one has made is kept -/
theorem Sim.inner (s : Sim K P σ H S tmp) (h : SimG K P G σ H S tmp A B) (hT : P'.T = P.T) (hM : P'.M = []) (hH : P'.H0 = H) (hG : P'.G0 = G) {p : PV} {v : V} (s' : Sim K P' σ' H' S' [(.leaf p, v)]) : Sim K P σ H' S ((.leaf p, v) :: tmp) := by
  obtain ⟨_, kp, tb, by_⟩ := s
  obtain ⟨e0, e1, r1, r2, nd, fr⟩ := h
  obtain ⟨⟨G2, A2, B2, f0, f1, _, q2, _, _⟩, kp2, tb2, _⟩ := s'
  rw [hT] at tb2
  rw [hM, hH] at kp2
  cases q2 with
  | @cons _ _ _ _ X1 X2 q q' =>
  cases q with
  | leaf rp =>
  have gg : Same G G2 := by have := f0.1; rw [hG] at this; exact this
  have own : ∀ a ∈ A ++ B, ∃ o, H a = some o ∧ ∀ ps, o ≠ .tbl ps := fun a ha => by
    rcases List.mem_append.mp ha with z | z
    · obtain ⟨o, h, w⟩ := rsl_at r1 a z
      exact ⟨o, h, w.nt⟩
    · obtain ⟨o, h, w⟩ := ros_at _ _ _ r2 a z
      exact ⟨o, h, w.nt⟩
  have keep : ∀ a ∈ A ++ B, H' a = H a := fun a ha => by
    obtain ⟨o, h, w⟩ := own a ha
    rw [h]
    exact kp2 a o h w (by simp)
  have mine : ∀ b, Mine P' b → Mine P b := fun b m => by
    rcases m with m | m
    · rw [hM] at m; cases m
    · rw [hH] at m
      by_cases hm : b ∈ P.M
      · exact .inl hm
      · refine .inr fun o q => ?_
        by_cases ht : ∃ ps, o = .tbl ps
        · exact ht
        · exact m o (kp b o q (fun ps z => ht ⟨ps, z⟩) hm)
  refine ⟨⟨G2, A, B, ⟨e0.1.trans gg, fun b o q => ?_, f0.3⟩, f1, r1.mono gg (fun a ha => keep a (List.mem_append_left _ ha)), .cons (A := []) (.leaf rp) (Ros.mono gg _ _ _ (fun a ha => keep a (List.mem_append_right _ ha)) r2), nd, fun a ha => ⟨?_, (fr a ha).2⟩⟩, fun b o q nt nm => ?_, tb2, by_⟩
  · rcases f0.2 b o q with z | z
    · rw [hG] at z; exact e0.2 b o z
    · exact .inr (mine b z)
  · cases hg : G2 a with
    | none => rfl
    | some o =>
      obtain ⟨o', h, w⟩ := own a ha
      rcases f0.2 a o hg with z | z
      · rw [hG, (fr a ha).1] at z; cases z
      · rcases z with z | z
        · rw [hM] at z; cases z
        · rw [hH] at z
          obtain ⟨ps, e⟩ := z o' h
          exact absurd e (w ps)
  · exact kp2 b o (kp b o q nt nm) nt (by simp)
end

/-! ### the error that a suite has caught -/
structure TabX (K : PySem.W.Frag) (exs fs : List Str) (tx : List (Str × Ty × Bool)) : Prop where
  d : ∀ c ∈ exs, ExcD K (He.ga K c)
  n : ∀ c ∈ exs, ∀ f ∈ fs, PySem.W.findIn K (.ref (He.ga K c)) f = some none
  m : ∀ p ∈ tx, PySem.W.exmOne K (.ref (He.ga K p.1)) (tyVal K p.2.1) = some p.2.2 ∧ PySem.W.kitOne K (.ref (He.ga K p.1)) (tyVal K p.2.1) = some p.2.2
def askX (tx : List (Str × Ty × Bool)) (c : Str) (t : Ty) : Option Bool := (tx.find? fun p => p.1 == c && p.2.1 == t).map (·.2.2)
theorem askX_mem {tx : List (Str × Ty × Bool)} {c : Str} {t : Ty} {b : Bool} (h : askX tx c t = some b) : (c, t, b) ∈ tx := by
  unfold askX at h
  cases e : tx.find? fun p => p.1 == c && p.2.1 == t with
  | none => rw [e] at h; cases h
  | some p =>
    rw [e] at h
    obtain ⟨p1, p2, p3⟩ := p
    have h3 : p3 = b := Option.some.inj h
    have hp := List.find?_some e
    obtain ⟨h1, h2⟩ := Bool.and_eq_true_iff.mp hp
    have h1 : p1 = c := eq_of_beq h1
    have h2 : p2 = t := eq_of_beq h2
    subst h1; subst h2; subst h3
    exact List.mem_of_find?_eq_some e
def eStuck : ME := fun _ => .stuck
def hF (exs fs : List Str) (x : Exn) (f : Str) : ME := if x.c ∈ exs ∧ f ∈ fs then (match (x.ns.zip x.xs).lookup f with | some p => eC p | none => eStuck) else eStuck
def hI (exs : List Str) (tx : List (Str × Ty × Bool)) (x : Exn) (t : Ty) : ME := if x.c ∈ exs then (match askX tx x.c t with | some b => eC (.bl b) | none => eStuck) else eStuck
/-- a frame in which an error is looked at -/
structure HdF (K : PySem.W.Frag) (P : Pm) (j : Nat) (a : Addr) (cls : Value) (d : Option Addr) (x : Exn) : Prop where
  M : P.M = []
  B : (j, V.ref a) ∈ P.B
  cls : cls = .ref (He.ga K x.c)
  dd : ∃ dd vs, d = some dd ∧ P.H0 dd = some (.xd (x.ns.zip vs)) ∧ x.ns.length = vs.length ∧ Rps K P.G0 x.xs vs
theorem em_stuck {X : Cx} {P : Pm} {W : WX} {e : Expr} {t : TE} (h : PE X e t) : EM X P W e eStuck := weakE h fun σ H Q ⟨S, tmp, s, q⟩ => q.elim
section
variable {X : Cx} {P : Pm} {W : WX} {j : Nat} {a : Addr} {oe : Obj} {pn : List (Addr × Obj)} {cls : Value} {d : Option Addr} {x : Exn} {n : Str} {exs fs : List Str} {tx : List (Str × Ty × Bool)} {p1 p2 p3 : Pos}
theorem em_hF (Tx : TabX X.K exs fs tx) (h : HdF X.K P j a cls d x) (hz : Zc cls d oe) (hf : ∃ vs, oe.data = .fields vs) (f : Str) (hN : X.N[j]? = some n) (hv : Vis X.env.scope n) (hd : (n == ("__debug__" : Str)) = false) (hcd : (n == ("__classdict__" : Str)) = false) : EM (X.suite a ((a, oe) :: pn)) P W (.Attribute (.Name n p1) f p2) (hF exs fs x f) := by
  have nv : PE (X.suite a ((a, oe) :: pn)) (.Name n p1) (tVar j) := pe_var hN hv hd hcd
  unfold hF
  split
  · rename_i hc
    obtain ⟨dd, vs, ed, hx, hl, rp⟩ := h.dd
    have hz' : Zc (.ref (He.ga X.K x.c)) d oe := by rw [← h.cls]; exact hz
    refine weakE (pe_xf (Tx.d _ hc.1).x (Tx.n _ hc.1 _ hc.2) hz' hf nv rfl) fun σ H Q ⟨S, tmp, s, q⟩ => ?_
    cases el : (x.ns.zip x.xs).lookup f with
    | none => rw [el] at q; exact q.elim
    | some p =>
      rw [el] at q
      obtain ⟨v, ev, rv⟩ := zip_lookup rp el
      refine ⟨.ref a, s.byr _ h.B, rfl, rfl, dd, _, v, ed, ?_, ev, q v H ?_⟩
      · exact s.kp dd _ hx (fun ps z => by cases z) (by rw [h.M]; simp)
      · obtain ⟨⟨G, A, B, e0, e1, r1, r2, nd, fr⟩, kp, tb, by_⟩ := s
        exact ⟨⟨G, A, B, e0, e1, r1, .cons (A := []) (.leaf (Rp.mono e0.1 _ _ rv)) r2, nd, fr⟩, kp, tb, by_⟩
  · exact ⟨fun pins s σ H Q I ⟨S, tmp, sm, q⟩ => q.elim⟩
theorem tyV1_only {K : PySem.W.Frag} {t : Ty} : ∀ u, RelV (tyV1 K t) u → u = tyVal K t := fun u r => by
  cases t <;> exact r
theorem em_hI (Tx : TabX X.K exs fs tx) (h : HdF X.K P j a cls d x) (hz : Zc cls d oe) (hf : ∃ vs, oe.data = .fields vs) (t : Ty) (hN : X.N[j]? = some n) (hv : Vis X.env.scope n) (hd : (n == ("__debug__" : Str)) = false) (hcd : (n == ("__classdict__" : Str)) = false)
    (hg : Gl X "isinstance") (hm : X.mg "isinstance" = none) {c : Expr} {q : Pos} (hc : PE (X.suite a ((a, oe) :: pn)) c (tC (tyV1 X.K t))) (h1 : starEach [.Name n p1, c] X.env = (false, eval (.Name n p1) X.env) :: starEach [c] X.env := by rfl) (h2 : starEach [c] X.env = (false, eval c X.env) :: starEach [] X.env := by rfl) (hpl : (backTo p2 (starEach [c] X.env)).any (·.1) = false := by rfl) :
    EM (X.suite a ((a, oe) :: pn)) P W (.Call (.Name "isinstance" p3) [.Name n p1, c] [] p2) (hI exs tx x t) := by
  have nv : PE (X.suite a ((a, oe) :: pn)) (.Name n p1) (tVar j) := pe_var hN hv hd hcd
  obtain ⟨dd, vs, ed, hx, hl, rp⟩ := h.dd
  by_cases hin : x.c ∈ exs
  · refine weakE (pe_callB (call_isD (D := He.ga X.K x.c) (dd := dd) (Tx.d _ hin).c (by rw [← h.cls, ← ed]; exact hz) hf) hg hm (by decide +kernel) (pa_cons nv (pa_cons hc pa_nil (hs := h2)) (hs := h1)) (he := h1) (hpl := hpl)) fun σ H Q ⟨S, tmp, s, q⟩ => ?_
    unfold hI at q
    rw [if_pos hin] at q
    cases ea : askX tx x.c t with
    | none => rw [ea] at q; exact q.elim
    | some b =>
      rw [ea] at q
      refine ⟨.ref a, s.byr _ h.B, ?_⟩
      refine ⟨_, _, b, _, rfl, s.kp dd _ hx (fun ps z => by cases z) (by rw [h.M]; simp), tyV1_only, (Tx.m _ (askX_mem ea)).2, q _ H (simC s fun _ => .bl _)⟩
  · unfold hI
    rw [if_neg hin]
    exact ⟨fun pins s σ H Q I ⟨S, tmp, sm, q⟩ => q.elim⟩
end
end Fy

namespace Fy
open PySem PySem.Spec PyProof.Rows L2

/-! ### def heard(ask): try: ask() / except C as e: return .. / .. / return None -/
abbrev Clause := Ty × (Exn → ME)
def suTS (K : PySem.W.Frag) (T : List (Addr × Str)) (N j : Nat) (mh : Exn → ME) : Suite := fun a cls d D σ H => σ.length = N → σ[j]? = some (some (.ref a)) ∧ ∃ (P : Pm) (x : Exn), P.T = T ∧ P.rp = true ∧ HdF K P j a cls d x ∧ ∃ S, Sim K P σ H S [] ∧ PoE K P Wno σ [] D.rt (mh x S)
def hdOf (tx : List (Str × Ty × Bool)) (N : Nat) : List Clause → Exn → Option PV
  | [], _ => none
  | c :: r, x => match askX tx x.c c.1 with
    | some true => (match c.2 x (List.replicate N none) with
      | .ok (.leaf p) _ => some p
      | _ => none)
    | some false => hdOf tx N r x
    | none => none
def exOf (K : PySem.W.Frag) (T : List (Addr × Str)) (hd : Exn → Option PV) : Value → Option Addr → Hp → VK → Prop := fun cls d H Q => ∃ (x : Exn) (vs : List V) (G : Hp) (p : PV), hd x = some p ∧ XAt K x vs cls d H ∧ Rps K G x.xs vs ∧ Same G H ∧ NT G ∧ LamX.Tabs T H ∧
  ∀ (P : Pm) (σ : L2.St) (v : V) (H' : Hp) (S' : Sl), P.T = T → P.M = [] → P.H0 = H → P.G0 = G → Sim K P σ H' S' [(.leaf p, v)] → Q v H'
theorem rsl_off {K : PySem.W.Frag} {G H : Hp} : ∀ {σ : L2.St}, Rsl K G H (List.replicate σ.length none) σ []
  | [] => .nil
  | _ :: σ => .off rsl_off
theorem clauses_w {K : PySem.W.Frag} {T : List (Addr × Str)} {exs fs : List Str} {tx : List (Str × Ty × Bool)} (Tx : TabX K exs fs tx) {N j : Nat} {Wo : WX} {D : Ends} {Q : VK} (hD : D.rt = Q) (hjN : j < N) : ∀ (cs : List Clause) (cls : Value) (d : Option Addr) (σ : L2.St) (H : Hp), exOf K T (hdOf tx N cs) cls d H Q →
    wAsN K j Wo D (cs.map fun c => (tyVal K c.1, suTS K T N j c.2)) cls d σ H
  | [], _, _, _, _, ⟨x, vs, G, p, e, _⟩ => by cases e
  | c :: r, cls, d, σ, H, ⟨x, vs, G, p, e, xa, rp, le, nt, tb, k⟩ => by
    obtain ⟨ec, hl1, hl2, dd, ed, hx⟩ := id xa
    unfold hdOf at e
    cases ea : askX tx x.c c.1 with
    | none => rw [ea] at e; cases e
    | some b =>
      rw [ea] at e
      refine ⟨b, by rw [ec]; exact (Tx.m _ (askX_mem ea)).1, fun hb a ha hl => ?_, fun hb => ?_⟩
      · subst hb
        dsimp only at e
        have hl' : σ.length = N := by rw [List.length_set] at hl; exact hl
        split at e
        · rename_i p' S1 em
          have e := Option.some.inj e
          subst e
          have hj : j < σ.length := by omega
          · have at_ : (σ.set j (some (V.ref a)))[j]? = some (some (.ref a)) := List.getElem?_set_self hj
            refine ⟨at_, ⟨T, [], H, G, [(j, .ref a)], true⟩, x, rfl, rfl, ⟨rfl, List.mem_singleton.mpr rfl, ec, dd, vs, ed, hx, hl1, rp⟩, List.replicate N none, ⟨⟨G, [], [], ⟨Same.refl _, fun _ _ h => .inl h, nt⟩, le, ?_, .nil, by simp, fun a ha => by simp at ha⟩, Kp.refl, tb, fun p hp => ?_⟩, ?_⟩
            · rw [show N = (σ.set j (some (V.ref a))).length by rw [List.length_set, hl']]
              exact rsl_off
            · rw [List.mem_singleton.mp hp]
              exact at_
            · show PoE K _ Wno _ [] (goneD j D).rt (c.2 x (List.replicate N none))
              rw [em]
              intro v H' s'
              show D.rt v H'
              rw [hD]
              exact k _ _ v H' S1 rfl rfl rfl rfl s'
        · cases e
      · subst hb
        exact clauses_w Tx hD hjN r cls d σ H ⟨x, vs, G, p, e, xa, rp, le, nt, tb, k⟩
abbrev hdCx (X : Cx) (Ng : List Str) (x : Str) (sg : Scope) (g : Addr) (cdg : Value) (s : Shared) (H : Hp) : Cx := (cxOf C8.CX0 X.prog X.w X.K X.mg X.base Ng x sg g cdg X.A X.stack s H C8.E0).nox
theorem heard_gives {X : Cx} {Ng : List Str} {x a n q : Str} {sg : Scope} {g : Addr} {cdg : Value} {T : List (Addr × Str)} {exs fs : List Str} {tx : List (Str × Ty × Bool)} (Tx : TabX X.K exs fs tx) {cs : List Clause} {h0 : ExceptHandler} {hs : List ExceptHandler} {p1 p2 p3 p4 p5 p6 : Pos} {j : Nat}
    (nd : Ng.Nodup) (at_ : Ng[1]? = some n) (kd : sg.names.lookup n = some .local) (h0' : ∀ f : Addr, (L2.start Ng [V.ref f])[0]? = some (some (V.ref f)))
    (cl : ∀ (s : Shared) (H : Hp), ClAs (hdCx X Ng x sg g cdg s H) n (h0 :: hs) (cs.map fun c => (tyVal X.K c.1, suTS X.K T Ng.length 1 c.2))) :
    LamX.GivesTo X Ng x sg g cdg [.Try [.Expr (.Call (.Name a p1) [] [] p2) p3] (h0 :: hs) [] [] p4, .Return (some (.Constant .none j p5)) p6] a q (TTh (fun _ H Q => Q .non H) (exOf X.K T (hdOf tx Ng.length cs))) := by
  intro f c' s H Q tl act hc h
  have hlt : 1 < Ng.length := (List.getElem?_eq_some_iff.mp at_).1
  refine ⟨_, pss_cons (ps_tryN (X := hdCx X Ng x sg g cdg s H) (i := 1) (Wo := fun _ _ _ _ => False) (tb := fun W D σ H => ∃ Ech : XK, (∀ cls d σ' H', Ech cls d H' → W cls d σ' H') ∧ σ[0]? = some (some (.ref f)) ∧ H c' = some (LamX.CodeO c' q) ∧ tl Ech H fun _ H' => D.nx σ H') rfl rfl nd at_ kd LamX.takes0 (fun W pn xe tk _ => ?_) (cl s H)) (pss_one (ps_ret pe_non)), ?_⟩
  · refine ⟨fun pins s' σ H' D I h' => ?_⟩
    obtain ⟨Ech, hW, h1, h2, h3⟩ := h'
    exact (pss_one (ps_expr (pos := p3) (act W pn xe Ech p1 p2 tk hW))).run pins s' σ H' D I ⟨h1, h2, h3⟩
  · exact ⟨fun cls d H' => exOf X.K T (hdOf tx Ng.length cs) cls d H' Q, fun cls d σ' H' e => clauses_w Tx rfl hlt cs cls d σ' H' e, h0' f, hc, h⟩
theorem su_ret {X : Cx} {T : List (Addr × Str)} {j : Nat} {mh : Exn → ME} {e : Expr} {p : Pos} {a : Addr} {oe : Obj} {cls : Value} {d : Option Addr} {pn : List (Addr × Obj)}
    (hE : ∀ (P : Pm) (x : Exn), P.T = T → P.rp = true → HdF X.K P j a cls d x → EM (X.suite a ((a, oe) :: pn)) P Wno e (mh x)) : PSs (X.suite a ((a, oe) :: pn)) [.Return (some e) p] (suTS X.K T X.N.length j mh a cls d) := ⟨fun pins s σ H D I h => by
  obtain ⟨_, P, x, hT, hrp, hf, S, sim, po⟩ := h I.len
  exact (pss_one (ps_ret (pos := p) (hE P x hT hrp hf))).run pins s σ H D I ⟨S, [], sim, po⟩⟩

def eHeard2 (mm : ME) (hd : Exn → Option PV) : ME := fun S => match mm (frS S) with
  | .ok _ _ => .ok (.leaf .non) S
  | .err x _ => (match hd x with
    | some p => if noP false p = true then .ok (.leaf p) S else .stuck
    | none => .stuck)
  | .stuck => .stuck
section
variable {X : Cx} {P : Pm} {W : WX} {bi : List Nat} {nn k : Nat} {x a : Str} {gA c Pt : Addr} {pg : Arguments} {bg : List Stmt} {sg : Scope} {dV kV doc pm cdv ct oc : Value} {an od : Option Addr} {osl : Array (Option Value)} {Ng : List Str} {params : Arguments} {body : Expr} {scope : Scope} {p lpos pos : Pos} {mm : ME} {hd : Exn → Option PV}
theorem em_heard2 (g : Gd P W bi nn X) (hg : Gl X x) (hm : X.mg x = some (.ref gA)) (kp : PySem.W.keepIn X.K (.ref gA) = true) (lk : X.K.lookup gA = some ⟨oc, od, .func (PySem.W.fnOf x x pg bg sg dV kV doc pm an cdv ct), osl⟩) (hcg : PySem.W.codeIn X.K cdv x = true) (hb : L2.Binds X.K (PySem.W.fnOf x x pg bg sg dV kV doc pm an cdv ct) [a] [])
    (Sg : FnScope Ng [a] sg) (hNg : Ng[0]? = some a) (hva : Vis sg a) (hG : LamX.GivesTo X Ng x sg gA cdv bg a (X.env.qual ++ "<lambda>") (TTh (fun _ H Q => Q .non H) (exOf X.K P.T hd))) (TB : LamX.TabB X.base X.mg c Pt) (hcode : X.env.code = .ref c) (hmT : (Pt, X.env.qual ++ "<lambda>") ∈ P.T) (hu : ∀ p ∈ P.T, p.1 = Pt → p.2 = X.env.qual ++ "<lambda>") (hk : k + 2 ≤ nn)
    (L : LamX.LamS X.env.scope scope) (hdef : defaultsOf params X.env = ([], [])) (hbind : ∀ (q : Str) (cl : List (Str × Addr)) (pm cv ctv : Value), bindArgs (PySem.W.kla_fn "<lambda>" q params body scope cl pm cv ctv) {} = pure [])
    (hbody : ∀ (A : Around) (outer : List Env) (s : Shared) (H : Hp) (E : XK) (f c' : Addr) (P' : Pm), P'.T = P.T → P'.rp = false → Gd P' (fun cls d _ H => E cls d H) bi k (LamX.lamCx X A outer s H E scope f c') → EM (LamX.lamCx X A outer s H E scope f c') P' (fun cls d _ H => E cls d H) body mm)
    (hd1 : (x == ("__debug__" : Str)) = false := by decide) (hd2 : (a == ("__debug__" : Str)) = false := by decide) (hd3 : (a == ("__classdict__" : Str)) = false := by decide) :
    EM X P W (.Call (.Name x p) [.Lambda params body scope lpos] [] pos) (eHeard2 mm hd) :=
  weakE (LamX.pe_lamcall (T := P.T) (TT := TTh (fun _ H Q => Q .non H) (exOf X.K P.T hd)) (k := k) (t := fun E σ H Q => ∃ P' : Pm, P'.T = P.T ∧ P'.rp = false ∧ P'.B = P.B ∧ tE X.K P' (fun cls d _ H => E cls d H) mm σ H Q) hg hm kp lk hcg hb Sg hNg hva hG TB hcode hmT hu (g.room.mono hk) L hdef hbind
      (fun A outer s H E f c' hr => ⟨fun pins s1 σ H1 Q I ⟨P', h1, h2, h3, h4⟩ => (hbody A outer s H E f c' P' h1 h2 ⟨rfl, g.nd, hr, (fun z => by rw [h2] at z; cases z), fun σ => passAt (takes_of rfl rfl rfl rfl) σ, passes_of rfl, by rw [h3]; exact g.bi, takes_of rfl rfl rfl rfl⟩).run pins s1 σ H1 Q I h4⟩) hd1 hd2 hd3)
    fun σ H Q ⟨S, tmp, s, h⟩ => by
      refine ⟨s.tabs, fun H1 e1 t1 => ?_⟩
      have s1 := s.extN e1 t1
      obtain ⟨G1, s2, f⟩ := s1.ice
      refine ⟨⟨P.T, [], H1, G1, P.B, false⟩, rfl, rfl, rfl, frS S, [], s2.rpTo _ rfl rfl rfl rfl rfl, ?_⟩
      unfold eHeard2 at h
      cases em : mm (frS S) with
      | stuck => rw [em] at h; exact h.elim
      | ok t S1 =>
        rw [em] at h
        intro v H2 s3
        have s3' := (s3.rpTo (PmF P G1 H1) rfl rfl rfl rfl rfl).drop
        have s4 := (f H2 S1 _ s3').2 [] [] rfl rfl rfl
        exact h .non H2 (simC s4 fun _ => .non)
      | err x S1 =>
        rw [em] at h
        intro vs cls d H2 xa s3
        have s3' := s3.rpTo (PmF P G1 H1) rfl rfl rfl rfl rfl
        have hl : x.xs.length = vs.length := xa.2.2.1
        obtain ⟨⟨G2, A2, B2, f0, f1, r1, r2, nd, fr⟩, kp2, tb2, by2⟩ := id s3'
        have r2' := r2
        rw [zip_fst (by simp [hl]), zip_snd (by simp [hl])] at r2'
        obtain ⟨eB, rp⟩ := Ros.ofLeaves r2'
        subst eB
        dsimp only at h
        cases eh : hd x with
        | none => rw [eh] at h; exact h.elim
        | some p =>
          rw [eh] at h
          dsimp only at h
          split at h
          · rename_i hn
            refine ⟨x, vs, G2, p, eh, xa, rp, f1, f0.3, tb2, fun P' σ' v H' S' hT hM hH hG s' => ?_⟩
            have s0 : Sim X.K (PmF P G1 H1) σ H2 S1 [] := ⟨⟨G2, A2, [], f0, f1, r1, .nil, nd, fr⟩, kp2, tb2, by2⟩
            have s5 := s0.inner ⟨f0, f1, r1, .nil, nd, fr⟩ hT hM hH hG s'
            have s6 := (f H' S1 _ s5).2 [p] [v] rfl rfl (by show (noP _ p && true) = true; rw [noP_mono _ hn]; rfl)
            exact h v H' s6
          · exact h.elim
end
/-- repr(e.f) in a suite -/
theorem em_hR {X : Cx} {P : Pm} {W : WX} {a : Addr} {pn : List (Addr × Obj)} {e : Expr} {m : ME} {p pos : Pos} (hgu : X.A.guards = some []) (hu : X.A.units + 65 < cLine) (hg : Gl X "repr") (hm : X.mg "repr" = none) (he : EM (X.suite a pn) P W e m) (h1 : starEach [e] X.env = (false, eval e X.env) :: starEach [] X.env := by rfl) (h2 : (backTo pos (starEach [] X.env)).any (·.1) = false := by rfl) :
    EM (X.suite a pn) P W (.Call (.Name "repr" p) [e] [] pos) (eN fRepr (aC m aN)) := em_bi (X := X.suite a pn) (call_reprD (X := X.suite a pn) hgu hu) oN_repr hg hm (by decide +kernel) (am_c he am_n h1) (he := h1) (hpl := h2)
end Fy

namespace Fy
open PySem PySem.Spec

/-! ### errors over KeyError whose __init__ lays one thing down -/
abbrev keyTail : List PySem.Value := [.type "KeyError", .type "LookupError", .type "Exception", .type "BaseException", .type "object"]
section
open Builtin Builtin.ObjectAttr
theorem key_pass (self : Value) (C : Addr) : refuseLoop self "__setattr__" (.ref C :: keyTail) = pure () := by
  rw [refuseLoop_ref]
  kernel_rfl
end
section
variable {M : Model} {prog : Program} {w : World} {A : Around} {E : Value → Shared → Prop} {R : Result → Shared → Prop} {h : Heap} {g : Array GenState} {d : Drawn} {t : Nat} {os : OsState}
variable {nm q : Str} {C N : Addr} {bs : List Value} {hdct : Bool} {sn : List Str} {sub : List Value} {ab : Bool} {col : Option Bool} {dd : Option Addr} {k0 k1 k2 k3 k5 : Option Value} {rest : List Value}
abbrev keyObj (nm q : Str) (C N : Addr) (bs : List Value) (hdct : Bool) (sn : List Str) (sub : List Value) (ab : Bool) (col : Option Bool) (dd : Option Addr) (k0 k1 k2 k3 k5 : Option Value) : Obj := excClassObj nm q C N bs keyTail hdct sn sub ab col dd k0 k1 k2 k3 k5 "LookupError.__new__"
theorem key_in (s : String) (hs : keyTail.contains (.type s) = true) : (Value.ref C :: keyTail).contains (.type s) = true := by rw [List.contains_cons, hs, Bool.or_true]
theorem key_out (s : String) (hs : keyTail.contains (.type s) = false) : (Value.ref C :: keyTail).contains (.type s) = false := by rw [List.contains_cons, hs]; rfl
theorem key_checkNew {Q : Unit → Shared → Prop} (hC : h.get? C = some (keyObj nm q C N bs hdct sn sub ab col dd k0 k1 k2 k3 k5)) (hq : Q () ⟨h, g, d, t, os⟩) : wpAny M A (checkBuiltinCall "LookupError.__new__" ⟨.ref C :: rest, []⟩) Q E ⟨h, g, d, t, os⟩ := by
  have F := F.excBase_LookupError
  have c1 := key_in (C := C) "LookupError" (by decide +kernel)
  have st := F.noStar
  simp only [checkBuiltinCall, F.newKind, F.newSplit, F.newRow]
  repeat (first
    | refine wpAny_loadPart_at hC ?_
    | (refine wpAny_isSubtype_exc hC ?_; rw [c1])
    | refine wpAny_staticBase_exc hC ?_
    | refine wpAny_madeBy_exc hC ?_
    | simp only [bne_self_eq_false, Bool.false_eq_true, if_false]
    | wp_step)
  exact hq
theorem key_new (hC : h.get? C = some (keyObj nm q C N bs hdct sn sub ab col dd k0 k1 k2 k3 k5)) (hl : rest.length ≤ sizeLine)
    (hq : R (.ok (.ret (.ref (h.objs.size + 1)))) ⟨(h.push (PySem.W.kdv_tup rest)).push (HandSPX.excO C h.objs.size), g, d, t, os⟩) : codeAny (model prog w) A (.builtin "LookupError.__new__" ⟨.ref C :: rest, []⟩) R ⟨h, g, d, t, os⟩ := by
  have F := F.excBase_LookupError
  have en := F.ends
  have c1 := key_in (C := C) "LookupError" (by decide +kernel)
  have c2 := key_out (C := C) "AttributeError" (by decide +kernel)
  have c3 := key_out (C := C) "NameError" (by decide +kernel)
  refine codeAny_builtinAt F.entry ?_
  unfold Builtin.«BaseException.__new__»
  refine wpAt_bind ?_
  show wpAt _ _ _ (stack >>= _) _ _ _
  refine wpAt_bind (wpAt_stack fun p below => wpAt_of_wpAny ?_)
  wp_walk
  refine wpAt_of_wpAny ?_
  rw [F.owner]
  repeat (first
    | with_reducible refine wpAny_madeHere_exc F.canon hC ?_
    | with_reducible refine wpAny_loadPart_at hC ?_
    | (with_reducible refine wpAny_isSubtype_exc hC ?_; first | rw [c1] | rw [c2] | rw [c3])
    | wp_step)
  show R _ _; rw [Heap.size_push]
  exact hq
theorem key_type {fI : Addr} {Q : Fin → Shared → Prop} (hC : h.get? C = some (keyObj nm q C N bs hdct sn sub ab col dd k0 k1 k2 k3 k5))
    (hi : PySem.W.Looks (model prog w) h (typeLookup (.ref C) "__init__") (some (.ref fI))) (hb : ∀ self, PySem.W.Looks (model prog w) h (bindSpecial (.ref fI) self) (.ref fI, [self])) (hl : rest.length ≤ sizeLine)
    (hq : codeAny (model prog w) A (.call (.ref fI) ⟨.ref (h.objs.size + 1) :: rest, []⟩) (fun r s' => match r with | .ok (.ret v) => v = .none ∧ Q (.done (.ret (.ref (h.objs.size + 1)))) s' | .ok _ => False | .error e => E e s') ⟨(h.push (PySem.W.kdv_tup rest)).push (HandSPX.excO C h.objs.size), g, d, t, os⟩) :
    wpAny (model prog w) A (Builtin.«type.__call__» ⟨.ref C :: rest, []⟩) Q E ⟨h, g, d, t, os⟩ := by
  have F := F.excBase_LookupError
  repeat (first
    | with_reducible refine wpAny_loadPart_at hC ?_
    | with_reducible refine wpAny_madeBy_exc hC ?_
    | wp_step)
  refine codeAny_call_builtin_code (Code.quiet_builtin _ F.quiet) (key_checkNew hC (key_new hC hl ?_))
  show wpAny _ _ _ _ _ _
  have kk : ∀ b o, h.get? b = some o → ((h.push (PySem.W.kdv_tup rest)).push (HandSPX.excO C h.objs.size)).get? b = some o := fun b o e => Heap.get?_push_of_some _ (Heap.get?_push_of_some _ e)
  have hC1 := kk _ _ hC
  have he : ((h.push (PySem.W.kdv_tup rest)).push (HandSPX.excO C h.objs.size)).get? (h.objs.size + 1) = some (HandSPX.excO C h.objs.size) := by heap_get
  have cC : (Value.ref C :: keyTail).contains (.ref C) = true := by simp
  have i1 := hi.keeps kk; have b1 := (hb (.ref (h.objs.size + 1))).keeps kk
  unfold isInstance
  repeat (first
    | with_reducible refine wpAny_loadPart_at he ?_
    | (with_reducible refine wpAny_isSubtype_exc hC1 ?_; rw [cC])
    | wp_step)
  show wpAny _ _ (typeLookup (.ref C) _) _ _ _
  refine i1.at (wpAny_holding (wpAny_bind (b1.at (wpAny_bind (wpAny_call (codeAny_mono hq fun r s' z => ?_))))))
  rcases r with e | (v | _ | _ | _) <;> first | exact z | exact z.elim | skip
  obtain ⟨rfl, z⟩ := z
  first | exact wpAny_pure (wpAny_pure z) | (wp_walk; exact z)
theorem key_call {fI : Addr} (hC : h.get? C = some (keyObj nm q C N bs hdct sn sub ab col dd k0 k1 k2 k3 k5)) (hi : PySem.W.Looks (model prog w) h (typeLookup (.ref C) "__init__") (some (.ref fI))) (hb : ∀ self, PySem.W.Looks (model prog w) h (bindSpecial (.ref fI) self) (.ref fI, [self])) (hl : rest.length ≤ sizeLine)
    (hq : codeAny (model prog w) (A.under (.builtin "type.__call__" ⟨.ref C :: rest, []⟩)) (.call (.ref fI) ⟨.ref (h.objs.size + 1) :: rest, []⟩) (PySem.W.InitBack (h.objs.size + 1) R) ⟨(h.push (PySem.W.kdv_tup rest)).push (HandSPX.excO C h.objs.size), g, d, t, os⟩) : codeAny (model prog w) A (.call (.ref C) ⟨rest, []⟩) R ⟨h, g, d, t, os⟩ := by
  have f1 := tc_lookup; have f2 := tc_bind (.ref C)
  have hTy : (⟨h, g, d, t, os⟩ : Shared).TypeIs (.ref C) "type" := ⟨_, hC, rfl⟩
  refine codeAny_of_tree ?_; show wpAny _ _ (callAny (.ref C) _) _ _ _
  repeat (any_goals (first | assumption | with_reducible refine wpAny_loadPart_at hC ?_ | wp_step))
  refine ⟨rfl, codeAny_call_builtin_at (Code.quiet_builtin _ (by decide +kernel)) entry_typeCall (wpAny_check_type_call_sub hC (key_type hC hi hb hl (codeAny_mono hq fun r s' z => ?_)))⟩
  rcases r with e | (v | _ | _ | _) <;> exact z
end
end Fy

namespace Fy
open PySem PySem.Spec
section
open Builtin Builtin.ObjectAttr
variable {prog : Program} {w : World} {A : Around} {E : Value → Shared → Prop} {R : Result → Shared → Prop} {hp : Heap} {g : Array GenState} {d : Drawn} {t : Nat} {os : OsState}
theorem key_put {M : Model} {dx : Addr} {name : Str} {tk : Tok} {v : Value} {Q : Fin → Shared → Prop} (hn0 : hp.Ns dx (fun _ => none)) (hq : ∀ g1 tk', g1.Ns1 dx (fun y => if y = name then some v else none) → Heap.SameBut dx hp g1 → Q (.done (.ret .none)) ⟨g1, g, d, tk', os⟩) :
    wpAny M A (storeInDict dx (.str name tk) name v) Q E ⟨hp, g, d, t, os⟩ := by
  unfold storeInDict newKeyGuard
  refine wpAny_bind (wpAny_pure (wpAny_bind (wpAny_nsSet1 (Heap.Ns1.of_empty hn0) fun g1 n1 sb => ?_)))
  obtain ⟨oD, _, _, eD, dD, cD⟩ := n1.count (Within.cons name v Within.nil)
  refine wpAny_bind (wpAny_lookBehind eD (by rw [dD]; exact pastItsLine_dict (Nat.le_trans cD (by rw [List.length_cons, List.length_nil, sizeLine_eq]; omega))) ?_); wp_walk
  exact hq g1 _ n1 sb
theorem key_set {K : PySem.W.Frag} {name : Str} {tk : Tok} {v : Value} {x C : Addr} {fv : Array Value} {cd : ClassData} (KI : K.In hp) (hx : hp.get? x = some { cls := .ref C, data := .fields fv }) (hcd : PySem.W.clsIn K C = some cd) (hm : cd.mro = .ref C :: keyTail) (hh : cd.hasDict = true) (ha : PySem.W.findIn K (.ref C) name = some none)
    (hq : ∀ g1 tk' dx, (∀ b o, b ≠ x → hp.get? b = some o → g1.get? b = some o) → hp.objs.size ≤ dx → dx ≠ x → g1.get? x = some { cls := .ref C, dict := some dx, data := .fields fv } → g1.Ns1 dx (fun y => if y = name then some v else none) → R (.ok (.ret .none)) ⟨g1, g, d, tk', os⟩) :
    codeAny (model prog w) A (.call (.builtin "object.__setattr__") ⟨[.ref x, .str name tk, v], []⟩) R ⟨hp, g, d, t, os⟩ := by
  have I : PySem.W.InstAt hp x { cls := .ref C, data := .fields fv } C none := ⟨hx, rfl, rfl, trivial⟩
  have SF := F.store_object; have xs : x ≠ hp.objs.size := Nat.ne_of_lt (Heap.lt_size hx)
  have hob : cd.mro.contains (.type "object") = true := by rw [hm]; exact key_in "object" (by decide +kernel)
  have ne : cd.mro.isEmpty = false := by rw [hm]; rfl
  have sub : PySem.W.Looks (model prog w) hp (isInstance (.ref x) (.type "object")) true := I.type.andThen (PySem.W.looks_mroIn KI (by unfold PySem.W.mroIn; rw [hcd, Option.bind_some, if_neg (by rw [ne]; decide), hob]))
  refine codeAny_call_builtin SF.slot.plain SF.entry (@PySem.W.check_slot (model prog w) _ _ ⟨hp, g, d, t, os⟩ "object.__setattr__" "object" "__setattr__" (.ref x) [.str name tk, v] [] _ SF.kind SF.split sub (SF.args (.ref x) (.str name tk) v) ?_)
  have hmr : PySem.W.Looks (model prog w) hp (mroOf (.ref C)) cd.mro := (PySem.W.looks_clsIn KI hcd).andThen .now
  have l3 : PySem.W.Looks (model prog w) hp (storeTaker? none) none := .now
  have hcls : PySem.W.Looks (model prog w) hp (classData C) cd := PySem.W.looks_clsIn KI hcd
  rw [PySem.W.osa_eq, refuse_eq]
  refine wpAny_bind (wpAny_bind (I.type.at (wpAny_bind (hmr.at ?_))))
  rw [hm, key_pass]
  refine wpAny_pure (wpAny_bind (I.type.at (wpAny_bind ((PySem.W.looks_findIn KI ha).at (wpAny_bind (l3.at ?_))))))
  show wpAny _ _ (storeInOwnDict (.ref x) (.ref C) (.str name tk) name v false) _ _ _
  obtain ⟨nm, bs, mro, ns, qn, hd, sn, sb, ab, col, del⟩ := cd
  dsimp only at hh; subst hh
  unfold storeInOwnDict ownDictForStores
  repeat (first
    | with_reducible refine key_put ?_ ?_
    | with_reducible refine wpAny_loadPart_at hx ?_
    | with_reducible refine hcls.at ?_
    | wp_step)
  · exact ⟨_, #[], _, (Heap.get?_update_ne _ _ _ _ xs.symm).trans (Heap.get?_push_at rfl rfl), rfl, fun e he => absurd he (by simp), fun _ => rfl⟩
  · intro g1 tk' n1 sb1
    have hx1 : (hp.push { cls := .type "dict", data := .dict #[] }).get? x = some { cls := .ref C, data := .fields fv } := Heap.get?_push_of_some _ hx
    exact hq g1 tk' hp.objs.size (fun b o hb ho => (sb1.2 b (Nat.ne_of_lt (Heap.lt_size ho))).trans ((Heap.get?_update_ne _ _ _ _ hb).trans (Heap.get?_push_of_some _ ho))) (Nat.le_refl _) xs.symm ((sb1.2 x xs).trans (Heap.get?_update_self _ hx1 rfl)) n1
end
end Fy
namespace Fy
open PySem PySem.Spec PyProof.Rows L2
/-- what the written part says of a class over KeyError -/
structure KexC (K : PySem.W.Frag) (C : Addr) : Prop where
  cls : ∃ nm q N bs sn sub ab col dd k0 k1 k2 k3 k5, K.lookup C = some (keyObj nm q C N bs true sn sub ab col dd k0 k1 k2 k3 k5)
  sa : PySem.W.findIn K (.ref C) "__setattr__" = some (some (.builtin "object.__setattr__"))
  exC : PySem.W.subIn K (.ref C) (.type "BaseException") = some true
  tyC : PySem.W.typeIn K (.ref C) = some (.type "type")
  kC : PySem.W.keepIn K (.ref C) = true
def tOstK (K : PySem.W.Frag) (f : Str) (to te : TE) : TS := fun D σ H => te σ H fun y H1 => to σ H1 fun x H2 => ∃ a C : Addr, x = .ref a ∧ KexC K C ∧ PySem.W.findIn K (.ref C) f = some none ∧ H2 a = some (exo a C none) ∧ ∀ dx, H2 dx = none → dx ≠ a → D.nx σ (upd (upd H2 dx (exd dx [(f, y)])) a (exo a C (some dx)))
section
variable {X : Cx} {pins : List (Addr × Obj)} {σ : L2.St} {H : Hp} {s : Shared} {a C dx : Addr} {f : Str} {y : V} {u : Value} {Q : Unit → Shared → Prop} {E : Value → Shared → Prop} {A : Around}
theorem key_ost (T : KexC X.K C) (I : Inv X pins σ H s) (e : H a = some (exo a C none)) (hno : PySem.W.findIn X.K (.ref C) f = some none) (ry : RelV y u) (h : ∀ dx s', H dx = none → dx ≠ a → Inv X pins σ (upd (upd H dx (exd dx [(f, y)])) a (exo a C (some dx))) s' → Q () s') : wpAny (model X.prog X.w) A (setAttr (.ref a) f u) Q E s := by
  obtain ⟨nm, q, N, bs, sn, sub, ab, col, dd, k0, k1, k2, k3, k5, hC⟩ := T.cls
  have hcl : PySem.W.clsIn X.K C = some { name := nm, bases := bs, mro := .ref C :: keyTail, ns := N, qualname := q, hasDict := true, slotNames := sn, subclasses := sub, abstract := ab, collection := col, hasDel := false } := by
    unfold PySem.W.clsIn
    rw [hC] <;> rfl
  obtain ⟨t1, ho⟩ := exo_at I.hok e
  obtain ⟨hp, g, d, t, os⟩ := s
  refine PySem.W.set_plain I.kIn (ox := { cls := .ref C, dict := none, data := .fields #[.ref t1, .none, .none, .none, .bool false, .none] }) (od := none) ⟨ho, rfl, rfl, trivial⟩ T.sa (key_set I.kIn ho hcl rfl rfl hno (fun g1 tk' dx k dn dne hx hn => ?_))
  have hnd : H dx = none := I.hok.fresh dn
  have nd : ∀ {b : Addr} {o : Obj}, hp.get? b = some o → b ≠ dx := fun {b o} q => Nat.ne_of_lt (Nat.lt_of_lt_of_le (Heap.lt_size q) dn)
  have na : ∀ {b : Addr}, H b = none → b ≠ a := fun {b} n z => by rw [z, e] at n; cases n
  have un : Un X.fs [] H (upd (upd H dx (exd dx [(f, y)])) a (exo a C (some dx))) hp g1 := ⟨fun b o q n _ _ => k b o (na n) q, fun b o q n _ _ => ⟨o.slots, k b o (na n) q⟩, fun b o q n _ => by rw [upd_ne (na n), upd_ne (nd q)]; exact n,
    fun b o q _ => (by
      by_cases hb : b = a
      · exact ⟨_, by rw [hb]; exact hx⟩
      · exact ⟨o, k b o hb q⟩),
    fun b xs q => (by rw [upd_ne (at_ne e q exo_tup), upd_ne (ne_of_none q hnd)]; exact q), fun b o v q => (by rw [upd_ne (at_ne e q exo_frz), upd_ne (ne_of_none q hnd)]; exact q), fun b ps q => ⟨#[], by rw [upd_ne (at_ne e q exo_tbl), upd_ne (ne_of_none q hnd), q]; simp⟩⟩
  refine h dx _ hnd dne (I.un (t' := tk') un fun b o q => ?_)
  by_cases hb : b = a
  · subst hb; rw [upd_same] at q; cases q; exact exo_ok hx
  · rw [upd_ne hb] at q
    by_cases hd : b = dx
    · subst hd; rw [upd_same] at q; cases q
      exact exd_ok hn (relO_put (fs := []) ry fun g => True.intro)
    · rw [upd_ne hd] at q
      exact (I.hok b o q).stay (fun c v hc z => k c v (hc.elim (fun hc => hc ▸ hb) (fun hc => at_ne e hc exo_own)) z) (fun c hc => by rw [upd_ne (at_ne e hc exo_own), upd_ne (ne_of_none hc hnd)]; exact hc) (fun c xs hc => by rw [upd_ne (at_ne e hc exo_tup), upd_ne (ne_of_none hc hnd)]; exact hc)
theorem ps_ostK {o e : Expr} {to te : TE} {p' pos : Pos} (ho : PE X o to) (he : PE X e te) (hs : swapsWith e (some (.Attribute o f p')) pos.line X.env = pure false := by rfl) : PS X (.Assign [.Attribute o f p'] e pos) (tOstK X.K f to te) := ⟨fun pins s σ H D I h => by
  refine plainObj_wpAny_Assign_Attribute (thn (he.run pins s σ H _ I h) fun v s1 ⟨y, H1, I1, r1, q1⟩ => thn (ho.run pins s1 σ H1 _ I1 q1) fun u s2 ⟨x, H2, I2, r2, a, C, ex, T, hno, ea, q⟩ => ?_) hs
  subst ex
  obtain rfl : u = Value.ref a := r2
  exact key_ost T I2 ea hno r1 fun dx s' n ne J => ⟨σ, _, J, q dx n ne⟩⟩
end
/-- __init__(self, f): self.f = f -/
def spIK (K : PySem.W.Frag) (f : Str) : Sp := fun vs H Q _ => ∃ a C v, vs = [.ref a, v] ∧ KexC K C ∧ PySem.W.findIn K (.ref C) f = some none ∧ H a = some (exo a C none) ∧ ∀ dx, H dx = none → dx ≠ a → Q .non (upd (upd H dx (exd dx [(f, v)])) a (exo a C (some dx)))
theorem ok_initK {Pr : Program} {w : World} {K : PySem.W.Frag} {mg : Str → Option Value} {base : Heap} {qual f : Str} {params : Arguments} {body : List Stmt} {scope : Scope} {fI : Addr} {fd : FuncData} {p1 p2 p3 p4 : Pos} (F : FunD K "__init__" qual params body scope [] [] fI fd) (S : FnScope ["self", f] ["self", f] scope) (hb : body = [.Assign [.Attribute (.Name "self" p1) f p2] (.Name f p3) p4]) (hv0 : Vis scope "self") (hv1 : Vis scope f) (hd : (f == ("__debug__" : Str)) = false) (hcd : (f == ("__classdict__" : Str)) = false)
    (hs : ∀ env, swapsWith (.Name f p3) (some (.Attribute (.Name "self" p1) f p2)) p4.line env = pure false) : FnOk Pr w K mg base (L2.CX Pr w) 1 fI fd ["self", f] (spIK K f) := by
  subst hb
  refine F.ok S (fun vs H Q E h => ?_) (fun cdv A outer s H vs Q E hr h => ⟨_, pss_one (ps_ostK (pe_var (i := 0) rfl hv0) (pe_var (i := 1) rfl hv1 hd hcd) (hs _)), ?_⟩)
  · obtain ⟨a, C, v, rfl, _⟩ := h; rfl
  · obtain ⟨a, C, v, rfl, h1, h2, h3, h4⟩ := h; exact ⟨v, rfl, .ref a, rfl, a, C, rfl, h1, h2, h3, fun dx d1 d2 => h4 dx d1 d2⟩
section
variable {X : Cx} {e : Expr} {es : List Expr} {ta : TA} {p pos : Pos}
theorem pmk_key {CX : CXT} {x : Str} {C fI : Addr} {k : Nat} {fd : FuncData} {ps : List Str} {sp : Sp} {ds : List Value} {dvs : List V} (T : KexC X.K C) (iC : PySem.W.findIn X.K (.ref C) "__init__" = some (some (.ref fI))) (tI : PySem.W.typeIn X.K (.ref fI) = some (.type "function")) (F1 : FnOk X.prog X.w X.K X.mg X.base CX k fI fd ps sp) (hr : Room (k + 1) X.A) (hb : Binds X.K fd ps ds) (hd : Vals dvs ds) (hx : Passes CX X (fun _ _ _ => False)) (hg : Gl X x) (hm : X.mg x = some (.ref C)) (ha : PA X (e :: es) ta)
    (hdb : (x == ("__debug__" : Str)) = false) (he : starEach (e :: es) X.env = (false, eval e X.env) :: starEach es X.env) (hpl : (backTo pos (starEach es X.env)).any (·.1) = false) : PMk X (.Call (.Name x p) (e :: es) [] pos) (tMkO C sp dvs ta) := by
  intro pins s σ H Q I h
  obtain ⟨nm, q, N, bs, sn, sub, ab, col, dd, k0, k1, k2, k3, k5, hC⟩ := T.cls
  refine wpAny_Call_Name_kw (ld_glob I hg hm (PySem.W.callWith_K (h₀ := X.base) I.ok.mod.kin T.kC (thn (ha.run pos pins s σ H _ I h) fun us s1 ⟨vs, H1, I1, r1, hz, q1⟩ => ⟨I1.kIn, ?_⟩) he hpl) hdb)
  show wpAny _ _ (call (.ref C) us) _ _ _
  obtain ⟨hp, g, dr, tk, os⟩ := s1
  have hn : H1 (hp.objs.size + 1) = none := I1.hok.fresh (Nat.le_succ _)
  have hq := q1 (hp.objs.size + 1) hn
  have kk : ∀ b o, hp.get? b = some o → ((hp.push (PySem.W.kdv_tup us)).push (PySem.HandSPX.excO C hp.objs.size)).get? b = some o := fun b o z => Heap.get?_push_of_some _ (Heap.get?_push_of_some _ z)
  have eo : ((hp.push (PySem.W.kdv_tup us)).push (PySem.HandSPX.excO C hp.objs.size)).get? (hp.objs.size + 1) = some (PySem.HandSPX.excO C hp.objs.size) := by heap_get
  have I2 : Inv X pins σ (upd H1 (hp.objs.size + 1) (exo (hp.objs.size + 1) C none)) ⟨(hp.push (PySem.W.kdv_tup us)).push (PySem.HandSPX.excO C hp.objs.size), g, dr, tk, os⟩ := I1.laid (t' := tk) (a := hp.objs.size + 1) (o := exo (hp.objs.size + 1) C none) (h' := (hp.push (PySem.W.kdv_tup us)).push (PySem.HandSPX.excO C hp.objs.size)) kk (Nat.le_succ _) (exo_ok eo)
  have r2 : Vals (V.ref (hp.objs.size + 1) :: (vs ++ dvs)) (Value.ref (hp.objs.size + 1) :: (us ++ ds)) := .cons rfl (r1.append hd)
  have hl : (Value.ref (hp.objs.size + 1) :: us ++ ds).length = ps.length := (r2.length.symm.trans (F1.len _ _ _ _ hq))
  have hus : us.length ≤ sizeLine := by rw [← Paired.length r1, sizeLine_eq]; omega
  refine wpAny_call (key_call (I1.kIn _ _ hC) (PySem.W.looks_findIn I1.kIn iC) (fun self => PySem.W.bind_fn I1.kIn self tI) hus (codeAny_mono (F1.run _ X.stack _ _ ⟨Value.ref (hp.objs.size + 1) :: us, []⟩ (Value.ref (hp.objs.size + 1) :: (us ++ ds)) _ _ (fun _ _ _ => False) (hr.make C us []) (I2.env0.make C us []) (hb _ (Value.ref (hp.objs.size + 1) :: us) I2.kIn hl) r2 hq) fun r s' z => ?_))
  cases r with
  | error er => exact hx pins σ _ _ er s' I2 z
  | ok fl =>
    cases fl with
    | ret u =>
      obtain ⟨v, H2, os2, bare2, un2, hok2, rv, ev, d, fs, ea, ed, hd1, q2⟩ := z
      subst ev
      obtain ⟨h2, g2, d2, t2, os'⟩ := s'
      exact ⟨rv, mk_end (raises_own T.exC T.tyC) I1 (Nat.le_succ _) kk un2 hok2 os2 bare2 ea ed hd1 q2⟩
    | _ => exact z.elim
end
/-- of the written part, as a computed fact -/
def kexD (K : PySem.W.Frag) (C : Addr) : Bool := match K.lookup C with
  | some o => (match o.cls, o.data, o.slots.toList with
    | .type "type", .cls cd, [_, _, _, _, some (.builtin n), _] => (match cd.mro with
      | .ref C' :: bm => decide (C' = C) && (decide (n = "LookupError.__new__") && (!cd.hasDel && (cd.hasDict && bm == keyTail)))
      | _ => false)
    | _, _, _ => false)
  | none => false
theorem kexD_ok {K : PySem.W.Frag} {C : Addr} (h : kexD K C = true) : ∃ nm q N bs sn sub ab col dd k0 k1 k2 k3 k5, K.lookup C = some (keyObj nm q C N bs true sn sub ab col dd k0 k1 k2 k3 k5) := by
  unfold kexD at h
  split at h
  · rename_i o ho
    split at h
    · rename_i cd k0 k1 k2 k3 n k5 e1 e2 e3
      split at h
      · rename_i C' bm em
        simp only [Bool.and_eq_true, decide_eq_true_eq] at h
        obtain ⟨h1, h2, h3, h4, h5⟩ := h
        have h5 := eq_of_beq h5
        obtain ⟨nm, bs, mro, N, q, hd, sn, sub, ab, col, del⟩ := cd
        obtain ⟨c, dd, da, sl⟩ := o
        dsimp only at e1 e2 e3 em h3 h4
        subst h1; subst h2; subst em; subst h4; subst e1; subst e2; subst h5
        have hdel : del = false := by simpa using h3
        subst hdel
        have hsl : sl = #[k0, k1, k2, k3, some (.builtin "LookupError.__new__"), k5] := Array.toList_inj.mp e3
        subst hsl
        exact ⟨nm, q, N, bs, sn, sub, ab, col, dd, k0, k1, k2, k3, k5, ho⟩
      · cases h
    · cases h
  · cases h
def kexB (K : PySem.W.Frag) (c f : Str) : Bool := kexD K (He.ga K c) && (decide (PySem.W.findIn K (.ref (He.ga K c)) "__setattr__" = some (some (.builtin "object.__setattr__"))) && (decide (PySem.W.subIn K (.ref (He.ga K c)) (.type "BaseException") = some true) && (decide (PySem.W.typeIn K (.ref (He.ga K c)) = some (.type "type")) && (PySem.W.keepIn K (.ref (He.ga K c)) &&
  (decide (PySem.W.findIn K (.ref (He.ga K c)) "__init__" = some (some (.ref (He.ma K (He.ga K c) "__init__")))) && (decide (PySem.W.typeIn K (.ref (He.ma K (He.ga K c) "__init__")) = some (.type "function")) && decide (PySem.W.findIn K (.ref (He.ga K c)) f = some none)))))))
structure KexE (K : PySem.W.Frag) (c f : Str) : Prop where
  oex : KexC K (He.ga K c)
  ini : PySem.W.findIn K (.ref (He.ga K c)) "__init__" = some (some (.ref (He.ma K (He.ga K c) "__init__")))
  tyI : PySem.W.typeIn K (.ref (He.ma K (He.ga K c) "__init__")) = some (.type "function")
  no : PySem.W.findIn K (.ref (He.ga K c)) f = some none
theorem kexB_ok {K : PySem.W.Frag} {c f : Str} (h : kexB K c f = true) : KexE K c f := by
  unfold kexB at h
  simp only [Bool.and_eq_true, decide_eq_true_eq] at h
  obtain ⟨h1, h2, h3, h4, h5, h6, h7, h8⟩ := h
  exact ⟨⟨kexD_ok h1, h2, h3, h4, h5⟩, h6, h7, h8⟩
theorem exE_k {Pr : Program} {w : World} {K : PySem.W.Frag} {mg : Str → Option Value} {base : Heap} {c f : Str} {fd : FuncData} (O : KexE K c f) (F : FnOk Pr w K mg base (L2.CX Pr w) 1 (He.ma K (He.ga K c) "__init__") fd ["self", f] (spIK K f)) (hb : L2.Binds K fd ["self", f] []) (hm : mg c = some (.ref (He.ga K c))) (hdb : (c == ("__debug__" : Str)) = false) : ExE Pr w K mg base c [f] := by
  refine ⟨fun X e1 e2 e3 e4 e5 hr hg e es ta p pos ha h1 h2 pins s σ H Q I h => ?_⟩
  subst e1; subst e2; subst e3; subst e4; subst e5
  refine pmk_key (CX := L2.CX X.prog X.w) O.oex O.ini O.tyI F hr hb .nil (fun pins σ H s e s' I h => ?_) hg hm (pa_mono ha) hdb h1 h2 pins s σ H Q I ⟨_, h, fun vs H1 ⟨hl, k⟩ => ?_⟩
  · obtain ⟨_, _, _, _, _, _, _, _, _, _, _, _, h⟩ := h
    exact h.elim
  · match vs, hl with
    | [v], _ =>
      refine ⟨(by show 1 ≤ 1000; decide), fun a ha => ⟨a, _, v, rfl, O.oex, O.no, upd_same, fun dx d1 d2 => ⟨rfl, dx, [(f, v)], upd_same, ?_, ?_, ?_⟩⟩⟩
      · rw [upd_ne d2, upd_same]
      · rw [upd_ne d2] at d1; exact d1
      · have hd1 : H1 dx = none := by rw [upd_ne d2] at d1; exact d1
        have e : upd (del (upd (upd (upd H1 a (exo a (He.ga X.K c) none)) dx (exd dx [(f, v)])) a (exo a (He.ga X.K c) (some dx))) a) dx (HO.xd [(f, v)]) = upd H1 dx (HO.xd [(f, v)]) := by
          funext b
          by_cases hb : b = dx
          · subst hb; rw [upd_same, upd_same]
          · rw [upd_ne hb, upd_ne hb]
            show (if b = a then none else _) = _
            split
            · rename_i hba; rw [hba, ha]
            · rename_i hba
              rw [upd_ne hba, upd_ne hb, upd_ne hba]
        rw [e]
        exact k dx hd1
end Fy

namespace Fy
open PySem
open PySem.Sem (wp)
/-! ### a zip whose pairs are kept -/
abbrev ZipOut (h : Heap) (z TI TO T : Addr) (f : Bool) : Prop := h.get? z = some { cls := .type "zip", dict := none, data := .fields #[rawInt T, .bool f, .bool false, .ref TI, .ref TO], slots := #[] }
section
variable {prog : Program} {w : World} {A : Around} {E : Value → Shared → Prop} {s : Shared} {z TI TO T i1 i2 : Addr} {f : Bool} {oT : Obj} {fp1 fp2 : List Addr} {n1 n2 i : Nat} {P1 P2 : Nat → Value → Prop} {St1 St2 : Nat → Heap → Prop}
theorem zout_next {Q : Fin → Shared → Prop} (S : ZipSep2 z TI TO i1 i2 fp1 fp2) (D1 : Draws prog w A i1 fp1 n1 P1 St1) (D2 : Draws prog w A i2 fp2 n2 P2 St2) (hz : ZipOut s.heap z TI TO T f) (hTI : IsTupOf2 s.heap TI (.ref i1) (.ref i2)) (hT : s.heap.get? T = some oT) (st1 : St1 i s.heap) (st2 : St2 i s.heap) (l1 : i ≤ n1) (l2 : i ≤ n2)
    (hQ : i < n1 → i < n2 → ∀ x1 x2 h' tk, P1 i x1 → P2 i x2 → ZipOut h' z TI TO T true → St1 (i + 1) h' → St2 (i + 1) h' → IsTupOf2 h' s.heap.objs.size x1 x2 → (∀ c o, c ≠ z → c ≠ i1 → c ≠ i2 → s.heap.get? c = some o → h'.get? c = some o) → Q (.done (.ret (.ref s.heap.objs.size))) { s with heap := h', toks := tk })
    (hE : i = n1 ∨ i = n2 → ∀ h' tk e, (∀ c o, c ≠ z → c ≠ i1 → c ≠ i2 → s.heap.get? c = some o → h'.get? c = some o) → (∃ o, h'.get? e = some o ∧ o.cls = .type "StopIteration") → E (.ref e) { s with heap := h', toks := tk }) :
    wpAny (model prog w) A (Builtin.«zip.__next__» ⟨[.ref z], []⟩) Q E s := by
  obtain ⟨hp, g, d, tk0, os⟩ := s
  show wpAny _ _ (field (.ref z) 2 >>= _) _ _ _
  refine wpAny_bind (wpAny_field hz rfl (x := .bool false) rfl ?_)
  show wpAny _ _ (field (.ref z) 3 >>= _) _ _ _
  refine wpAny_bind (wpAny_field hz rfl (x := .ref TI) rfl (wpAny_bind (wpAny_seqItems hTI rfl ?_)))
  show wpAny _ _ (Builtin.SmallTypes.ownedTupleIsFree (.ref z) >>= _) _ _ _
  refine wpAny_bind (wpAny_mono (Q := fun b s' => b = false ∧ ∃ g0, s' = ⟨g0, g, d, tk0, os⟩ ∧ ZipOut g0 z TI TO T true ∧ Heap.SameBut z hp g0) ?_ (fun b s' h => ?_) (fun _ _ h => h))
  · unfold Builtin.SmallTypes.ownedTupleIsFree
    refine wpAny_bind (wpAny_field hz rfl (x := rawInt T) rfl ?_)
    show wpAny _ _ (loadIfAlive ((T : Int).toNat) >>= _) _ _ _
    rw [Int.toNat_natCast]
    refine wpAny_bind (PySem.W.kdx_alive hT ?_)
    simp only [Option.isNone_some, Bool.false_eq_true, if_false]
    refine wpAny_bind (wpAny_field hz rfl (x := .bool f) rfl ?_)
    cases f with
    | true =>
      rw [if_neg (show ¬ ((Value.bool true != Value.bool true) = true) from Bool.false_ne_true)]
      exact wpAny_pure ⟨rfl, hp, rfl, hz, Heap.SameBut.refl _ _⟩
    | false =>
      rw [if_pos (show (Value.bool false != Value.bool true) = true from rfl)]
      exact wpAny_bind (wpAny_setField_rec hz (by simp) fun g0 hz0 hs0 => wpAny_pure ⟨rfl, g0, rfl, hz0, hs0⟩)
  · obtain ⟨rfl, g0, rfl, hz0, hs0⟩ := h
    simp only [Bool.false_eq_true, if_false, ← Array.forIn_toList, List.forIn_cons, List.forIn_nil]
    have b1 : St1 i g0 := D1.over st1 hs0 S.zf1
    refine wpAny_bind (wpAny_bind (wpAny_bind (wpAny_holding ?_)))
    show wpAny _ _ (Builtin.SmallTypes.nextOf (.ref i1) >>= _) _ _ _
    refine wpAny_bind ?_
    by_cases h1 : i < n1
    · refine D1.item i _ _ _ h1 b1 fun x1 p1 tk1 y1 sn1 hp1 => wpAny_pure (wpAny_pure (wpAny_bind (wpAny_bind (wpAny_holding ?_))))
      replace hp1 : Heap.SameBut i1 g0 p1 := hp1
      have b2 : St2 i p1 := D2.over (D2.over st2 hs0 S.zf2) hp1 S.sep1_2
      show wpAny _ _ (Builtin.SmallTypes.nextOf (.ref i2) >>= _) _ _ _
      refine wpAny_bind ?_
      by_cases h2 : i < n2
      · refine D2.item i _ _ _ h2 b2 fun x2 p2 tk2 y2 sn2 hp2 => wpAny_pure (wpAny_pure (wpAny_pure ?_))
        replace hp2 : Heap.SameBut i2 p1 p2 := hp2
        show wpAny _ _ (newTuple [x1, x2] >>= _) _ _ _
        refine wpAny_bind (wpAny_newTuple (wpAny_pure ?_))
        have sz : p2.objs.size = hp.objs.size := by rw [hp2.1, hp1.1, hs0.1]
        have kk : ∀ c o, p2.get? c = some o → (p2.push { cls := .type "tuple", data := .seq #[x1, x2] }).get? c = some o := fun c o e => Heap.get?_push_of_some _ e
        have nT : IsTupOf2 (p2.push { cls := .type "tuple", data := .seq #[x1, x2] }) hp.objs.size x1 x2 := by rw [← sz]; exact Heap.get?_push_size _ rfl
        show Q (.done (.ret (.ref p2.objs.size))) _
        rw [sz]
        exact hQ h1 h2 x1 x2 _ tk2 y1 y2 (kk _ _ (hp2.extBut _ _ S.zi2 (hp1.extBut _ _ S.zi1 hz0))) (D1.frame _ _ _ (D1.over sn1 hp2 S.sep2_1) fun b _ o e => kk b o e) (D2.frame _ _ _ sn2 fun b _ o e => kk b o e) nT fun c o cz c1 c2 e => kk c o (hp2.extBut _ _ c2 (hp1.extBut _ _ c1 (hs0.extBut _ _ cz e)))
      · refine D2.done ⟨p1, g, d, tk1, os⟩ _ _ (by rw [← show i = n2 by omega]; exact b2) fun q e hq he => ?_
        exact hE (.inr (by omega)) q tk1 e (fun c o cz c1 c2 x => hq _ _ c2 (hp1.extBut _ _ c1 (hs0.extBut _ _ cz x))) he
    · refine D1.done ⟨g0, g, d, tk0, os⟩ _ _ (by rw [← show i = n1 by omega]; exact b1) fun q e hq he => ?_
      exact hE (.inl (by omega)) q tk0 e (fun c o cz c1 c2 x => hq _ _ c1 (hs0.extBut _ _ cz x)) he
theorem zout_pyNext {Q : Option Value → Shared → Prop} (S : ZipSep2 z TI TO i1 i2 fp1 fp2) (D1 : Draws prog w A.in1 i1 fp1 n1 P1 St1) (D2 : Draws prog w A.in1 i2 fp2 n2 P2 St2) (hz : ZipOut s.heap z TI TO T f) (hTI : IsTupOf2 s.heap TI (.ref i1) (.ref i2)) (hT : s.heap.get? T = some oT) (st1 : St1 i s.heap) (st2 : St2 i s.heap) (l1 : i ≤ n1) (l2 : i ≤ n2)
    (hQ : i < n1 → i < n2 → ∀ x1 x2 h' tk, P1 i x1 → P2 i x2 → ZipOut h' z TI TO T true → St1 (i + 1) h' → St2 (i + 1) h' → IsTupOf2 h' s.heap.objs.size x1 x2 → (∀ c o, c ≠ z → c ≠ i1 → c ≠ i2 → s.heap.get? c = some o → h'.get? c = some o) → Q (some (.ref s.heap.objs.size)) { s with heap := h', toks := tk })
    (hE : i = n1 ∨ i = n2 → ∀ h' tk, (∀ c o, c ≠ z → c ≠ i1 → c ≠ i2 → s.heap.get? c = some o → h'.get? c = some o) → Q none { s with heap := h', toks := tk }) : wpAny (model prog w) A (pyNext (.ref z)) Q E s := by
  have ty : s.TypeIs (.ref z) "zip" := ⟨_, hz, rfl⟩
  unfold pyNext
  refine wpAny_bind (wpAny_attempt (wpAny_callSpecial?_slot (name := Str.ofString "__next__") ty F.slot_zip_next (wpAny_call_entry F.slot_zip_next ty F.entry_zip_next (zout_next S D1 D2 hz hTI hT st1 st2 l1 l2 (fun a b x1 x2 h' tk y1 y2 b1 d1 d2 b5 b6 => ⟨_, rfl, wpAny_pure (hQ a b x1 x2 h' tk y1 y2 b1 d1 d2 b5 b6)⟩) fun a h' tk e hk he => ?_) (F.args_zip_next_1 _))))
  obtain ⟨o, ho, hc⟩ := he
  exact wpAny_bind (wpAny_isInstance (T := "StopIteration") (b := true) ⟨o, ho, hc⟩ isSubtype_stop (wpAny_pure (hE a _ _ hk)))
/-- a zip on its way, its pairs kept; S: the list that grows -/
structure ZSt (St1 St2 : Nat → Heap → Prop) (z TI TO i1 i2 S : Addr) (i : Nat) (h : Heap) : Prop where
  zz : (IsZip h z TI TO .none ∧ ∃ a1 a2, IsTupOf2 h TO a1 a2) ∨ ∃ T f oT, ZipOut h z TI TO T f ∧ h.get? T = some oT ∧ T ≠ z ∧ T ≠ i1 ∧ T ≠ i2 ∧ T ≠ S
  ti : IsTupOf2 h TI (.ref i1) (.ref i2)
  s1 : St1 i h
  s2 : St2 i h
structure ZFar (z TI TO i1 i2 S : Addr) (fp1 fp2 : List Addr) : Prop where
  z : z ≠ S
  ti : TI ≠ S
  to : TO ≠ S
  f1 : S ∉ fp1
  f2 : S ∉ fp2
theorem ZSt.keep {S : Addr} {h h' : Heap} (Fr : ZFar z TI TO i1 i2 S fp1 fp2) (D1 : Draws prog w A i1 fp1 n1 P1 St1) (D2 : Draws prog w A i2 fp2 n2 P2 St2) (st : ZSt St1 St2 z TI TO i1 i2 S i h) (hk : ∀ b o, b ≠ S → h.get? b = some o → h'.get? b = some o) : ZSt St1 St2 z TI TO i1 i2 S i h' := by
  obtain ⟨zz, ti, s1, s2⟩ := st
  refine ⟨?_, hk _ _ Fr.ti ti, D1.frame _ _ _ s1 fun b hb o e => hk b o (fun q => Fr.f1 (q ▸ hb)) e, D2.frame _ _ _ s2 fun b hb o e => hk b o (fun q => Fr.f2 (q ▸ hb)) e⟩
  rcases zz with ⟨z1, a1, a2, z2⟩ | ⟨T, f, oT, z1, z2, z3, z4, z5, z6⟩
  · exact .inl ⟨hk _ _ Fr.z z1, a1, a2, hk _ _ Fr.to z2⟩
  · exact .inr ⟨T, f, oT, hk _ _ Fr.z z1, hk _ _ z6 z2, z3, z4, z5, z6⟩
theorem zst_next {S : Addr} {Q : Option Value → Shared → Prop} (Sp : ZipSep2 z TI TO i1 i2 fp1 fp2) (D1 : Draws prog w A.in1 i1 fp1 n1 P1 St1) (D2 : Draws prog w A.in1 i2 fp2 n2 P2 St2) (hS : S < s.heap.objs.size) (st : ZSt St1 St2 z TI TO i1 i2 S i s.heap) (l1 : i ≤ n1) (l2 : i ≤ n2)
    (hQ : i < n1 → i < n2 → ∀ x1 x2 h' tk, P1 i x1 → P2 i x2 → ZSt St1 St2 z TI TO i1 i2 S (i + 1) h' → IsTupOf2 h' s.heap.objs.size x1 x2 → (∀ c o, c ≠ z → c ≠ TO → c ≠ i1 → c ≠ i2 → s.heap.get? c = some o → h'.get? c = some o) → Q (some (.ref s.heap.objs.size)) { s with heap := h', toks := tk })
    (hE : i = n1 ∨ i = n2 → ∀ h' tk, (∀ c o, c ≠ z → c ≠ TO → c ≠ i1 → c ≠ i2 → s.heap.get? c = some o → h'.get? c = some o) → Q none { s with heap := h', toks := tk }) : wpAny (model prog w) A (pyNext (.ref z)) Q E s := by
  obtain ⟨zz, ti, s1, s2⟩ := st
  have lt : ∀ {c o}, s.heap.get? c = some o → s.heap.objs.size ≠ c := fun e => Nat.ne_of_gt (Heap.lt_size e)
  have n1' : s.heap.objs.size ≠ i1 := let ⟨_, e⟩ := D1.live _ _ s1; lt e
  have n2' : s.heap.objs.size ≠ i2 := let ⟨_, e⟩ := D2.live _ _ s2; lt e
  rcases zz with ⟨z1, a1, a2, z2⟩ | ⟨T, f, oT, z1, z2, z3, z4, z5, z6⟩
  · by_cases h1 : i < n1 ∧ i < n2
    · refine wpAny_pyNext_zipD2_item Sp D1 D2 z1 ti z2 s1 s2 h1.1 h1.2 fun x1 x2 h' tk y1 y2 b1 b2 d1 d2 b5 b6 hk => hQ h1.1 h1.2 x1 x2 h' tk y1 y2 ⟨.inr ⟨_, false, _, b1, b5, lt z1, n1', n2', Nat.ne_of_gt hS⟩, hk _ _ Sp.TIz Sp.TITO Sp.TIi1 Sp.TIi2 ti, d1, d2⟩ b5 hk
    · have he : i = n1 ∨ i = n2 := by omega
      exact wpAny_pyNext_zipD2_end Sp D1 D2 z1 ti z2 s1 s2 l1 l2 he fun h' tk hk => hE he h' tk hk
  · exact zout_pyNext Sp D1 D2 z1 ti z2 s1 s2 l1 l2 (fun h1 h2 x1 x2 h' tk y1 y2 b1 d1 d2 b5 hk => hQ h1 h2 x1 x2 h' tk y1 y2 ⟨.inr ⟨T, true, oT, b1, hk _ _ z3 z4 z5 z2, z3, z4, z5, z6⟩, hk _ _ Sp.TIz Sp.TIi1 Sp.TIi2 ti, d1, d2⟩ b5 fun c o c1 _ c3 c4 e => hk c o c1 c3 c4 e) fun he h' tk hk => hE he h' tk fun c o c1 _ c3 c4 e => hk c o c1 c3 c4 e
/-- the pairs that were made so far -/
structure ZG (P1 P2 : Nat → Value → Prop) (lo : Addr) (h : Heap) (as : List Addr) : Prop where
  rise : as.Pairwise (· < ·)
  above : ∀ a ∈ as, lo < a
  pairs : ∀ (j : Nat) (a : Addr), as[j]? = some a → ∃ x1 x2, P1 j x1 ∧ P2 j x2 ∧ IsTupOf2 h a x1 x2
end
section
variable {prog : Program} {w : World} {A : Around} {s : Shared} {R : Result → Shared → Prop} {z TI TO i1 i2 S : Addr} {fp1 fp2 : List Addr} {n1 n2 : Nat} {P1 P2 : Nat → Value → Prop} {St1 St2 : Nat → Heap → Prop}
theorem zl_loop (Sp : ZipSep2 z TI TO i1 i2 fp1 fp2) (Fr : ZFar z TI TO i1 i2 S fp1 fp2) (D1 : Draws prog w A.in1.in1 i1 fp1 n1 P1 St1) (D2 : Draws prog w A.in1.in1 i2 fp2 n2 P2 St2) (zS : z < S ∧ TO < S ∧ i1 < S ∧ i2 < S) (hn : min n1 n2 ≤ sizeLine) (res : Value) {g1 : Heap}
    (hR : ∀ h' tk acc c as, (∀ b o, b ≠ S → b ≠ z → b ≠ TO → b ≠ i1 → b ≠ i2 → g1.get? b = some o → h'.get? b = some o) → h'.get? S = some { cls := .type "list", dict := none, data := .seq acc c, slots := #[] } → as.length = min n1 n2 → ZG P1 P2 S h' as → acc.toList = as.map Value.ref → R (.ok (.ret res)) { s with heap := h', toks := tk }) :
    ∀ (k i : Nat) (h : Heap) (tk c : Nat) (acc : Array Value) (as : List Addr), min n1 n2 - i = k → i ≤ min n1 n2 → ZSt St1 St2 z TI TO i1 i2 S i h → (∀ b o, b ≠ S → b ≠ z → b ≠ TO → b ≠ i1 → b ≠ i2 → g1.get? b = some o → h.get? b = some o) →
      h.get? S = some { cls := .type "list", dict := none, data := .seq acc c, slots := #[] } → acc.toList = as.map Value.ref → as.length = i → ZG P1 P2 S h as → codeAny (model prog w) A (.builtin "list.extend.loop" ⟨[.ref S, .ref z, res], []⟩) R { s with heap := h, toks := tk } := by
  have sne : S ≠ z ∧ S ≠ TO ∧ S ≠ i1 ∧ S ≠ i2 := ⟨Nat.ne_of_gt zS.1, Nat.ne_of_gt zS.2.1, Nat.ne_of_gt zS.2.2.1, Nat.ne_of_gt zS.2.2.2⟩
  have far : ∀ {b : Addr}, S < b → b ≠ z ∧ b ≠ TO ∧ b ≠ i1 ∧ b ≠ i2 := fun {b} hb => ⟨Nat.ne_of_gt (Nat.lt_trans zS.1 hb), Nat.ne_of_gt (Nat.lt_trans zS.2.1 hb), Nat.ne_of_gt (Nat.lt_trans zS.2.2.1 hb), Nat.ne_of_gt (Nat.lt_trans zS.2.2.2 hb)⟩
  intro k
  induction k with
  | zero =>
    intro i h tk c acc as hk hi hst keep hS hacc hal hG
    refine codeAny_builtin PySem.F.entry_extend_loop ?_
    rw [Around.under_plainId PySem.F.plain_extend_loop _]
    show wpAny _ A.in1 (pyNext (.ref z) >>= _) _ _ _
    refine wpAny_bind (zst_next (s := { s with heap := h, toks := tk }) Sp D1 D2 (Heap.lt_size hS) hst (by omega) (by omega) (fun h1 h2 => by omega) fun he h' tk' hk' => wpAny_pure (hR h' tk' acc c as (fun b o a0 a1 a2 a3 a4 e => hk' b o a1 a2 a3 a4 (keep b o a0 a1 a2 a3 a4 e)) (hk' S _ sne.1 sne.2.1 sne.2.2.1 sne.2.2.2 hS) (by omega) ⟨hG.rise, hG.above, fun j a hj => ?_⟩ hacc))
    obtain ⟨x1, x2, e1, e2, e3⟩ := hG.pairs j a hj
    obtain ⟨a1, a2, a3, a4⟩ := far (hG.above a (List.mem_of_getElem? hj))
    exact ⟨x1, x2, e1, e2, hk' a _ a1 a2 a3 a4 e3⟩
  | succ k ih =>
    intro i h tk c acc as hk hi hst keep hS hacc hal hG
    have hsz : acc.size = i := by rw [← Array.length_toList, hacc, List.length_map, hal]
    have hSl : S < h.objs.size := Heap.lt_size hS
    refine codeAny_builtin PySem.F.entry_extend_loop ?_
    rw [Around.under_plainId PySem.F.plain_extend_loop _]
    show wpAny _ A.in1 (pyNext (.ref z) >>= _) _ _ _
    refine wpAny_bind (zst_next (s := { s with heap := h, toks := tk }) Sp D1 D2 hSl hst (by omega) (by omega) (fun l1 l2 x1 x2 h' tk' y1 y2 st' ht hkp => ?_) fun he => by omega)
    dsimp only at ht hkp ⊢
    have hS' := hkp S _ sne.1 sne.2.1 sne.2.2.1 sne.2.2.2 hS
    have up : ∀ b o, b ≠ S → h'.get? b = some o → (h'.update S (Obj.mapSeq (·.push (Value.ref h.objs.size)))).get? b = some o := fun b o hb e => (Heap.get?_update_other _ _ (Ne.symm hb)).trans e
    show wpAny _ A.in1 (updateSeq S (·.push (Value.ref h.objs.size)) >>= _) _ _ _
    refine wpAny_bind (wpAny_updateSeq hS' rfl (wpAny_pure ⟨plainId_quiet PySem.F.plain_extend_loop _, ih (i + 1) _ tk' _ (acc.push (Value.ref h.objs.size)) (as ++ [h.objs.size]) (by omega) (by omega) (st'.keep Fr D1 D2 up)
      (fun b o a0 a1 a2 a3 a4 e => up b o a0 (hkp b o a1 a2 a3 a4 (keep b o a0 a1 a2 a3 a4 e))) (Heap.get?_update_self _ hS' rfl) (by rw [Array.toList_push, hacc, List.map_append]; rfl) (by rw [List.length_append, hal]; rfl) ⟨?_, ?_, ?_⟩⟩) (by rw [hsz]; omega) (by show (acc.push (Value.ref h.objs.size)).size ≤ sizeLine + 1; rw [Array.size_push, hsz]; omega))
    · refine List.pairwise_append.mpr ⟨hG.rise, List.pairwise_singleton _ _, fun a ha b hb => ?_⟩
      rw [List.mem_singleton.mp hb]
      obtain ⟨j, hj⟩ := List.mem_iff_getElem?.mp ha
      obtain ⟨_, _, _, _, e⟩ := hG.pairs j a hj
      exact Heap.lt_size e
    · intro a ha
      rcases List.mem_append.mp ha with ha | ha
      · exact hG.above a ha
      · rw [List.mem_singleton.mp ha]; exact hSl
    · intro j b hj
      rcases Nat.lt_trichotomy j as.length with q | q | q
      · rw [List.getElem?_append_left q] at hj
        obtain ⟨x1', x2', e1, e2, e3⟩ := hG.pairs j b hj
        have hb := hG.above b (List.mem_of_getElem? hj)
        obtain ⟨a1, a2, a3, a4⟩ := far hb
        exact ⟨x1', x2', e1, e2, up b _ (Nat.ne_of_gt hb) (hkp b _ a1 a2 a3 a4 e3)⟩
      · subst q
        have hb : h.objs.size = b := by simpa using hj
        subst hb
        exact ⟨x1, x2, by rw [hal]; exact y1, by rw [hal]; exact y2, up _ _ (Nat.ne_of_gt hSl) ht⟩
      · rw [List.getElem?_eq_none (by rw [List.length_append, List.length_singleton]; omega)] at hj
        cases hj
end
theorem zip_no_len : typeLookup (.type "zip") "__len__" = pure none := by rw [typeLookup_type, builtinLookup_eq_fast]; kernel_rfl
theorem zip_no_hint : typeLookup (.type "zip") "__length_hint__" = pure none := by rw [typeLookup_type, builtinLookup_eq_fast]; kernel_rfl
section
variable {prog : Program} {w : World} {A : Around} {E : Value → Shared → Prop} {s : Shared} {R : Result → Shared → Prop} {z TI TO i1 i2 S : Addr} {fp1 fp2 : List Addr} {n1 n2 : Nat} {P1 P2 : Nat → Value → Prop} {St1 St2 : Nat → Heap → Prop}
theorem zl_init (Sp : ZipSep2 z TI TO i1 i2 fp1 fp2) (Fr : ZFar z TI TO i1 i2 S fp1 fp2) (D1 : Draws prog w A.in1.in1 i1 fp1 n1 P1 St1) (D2 : Draws prog w A.in1.in1 i2 fp2 n2 P2 St2) (zS : z < S ∧ TO < S ∧ i1 < S ∧ i2 < S) (hn : min n1 n2 ≤ sizeLine) (st : ZSt St1 St2 z TI TO i1 i2 S 0 s.heap) (hz0 : s.TypeIs (.ref z) "zip") (hself : ∀ {A' : Around} {s' : Shared} {Q : Value → Shared → Prop} {E' : Value → Shared → Prop}, ZSt St1 St2 z TI TO i1 i2 S 0 s'.heap → Q (.ref z) s' → wpAny (model prog w) A' (pyIter (.ref z)) Q E' s')
    (hS : s.heap.get? S = some { cls := .type "list", data := .seq #[] })
    (hR : ∀ h' tk acc c as, (∀ b o, b ≠ S → b ≠ z → b ≠ TO → b ≠ i1 → b ≠ i2 → s.heap.get? b = some o → h'.get? b = some o) → h'.get? S = some { cls := .type "list", dict := none, data := .seq acc c, slots := #[] } → as.length = min n1 n2 → ZG P1 P2 S h' as → acc.toList = as.map Value.ref → R (.ok (.ret .none)) { s with heap := h', toks := tk }) :
    wpAny (model prog w) A.in1 (Builtin.«list.__init__» ⟨[.ref S, .ref z], []⟩) (fun fin s' => match fin with | .done f => R (.ok f) s' | .again c' => c'.quiet = true ∧ codeAny (model prog w) A c' R s') (fun e s' => R (.error e) s') s := by
  have zne : S ≠ z := Ne.symm Fr.z
  show wpAny _ _ (do let old ← Builtin.List.listItems (.ref S); Builtin.List.listUpdate (.ref S) (fun _ => #[]); letGo old.toList.reverse; Builtin.List.listExtendWith (.ref S) (.ref z) .none) _ _ s
  refine wpAny_bind ?_
  unfold Builtin.List.listItems
  refine wpAny_bind (wpAny_seqItems hS rfl (wpAny_pure ?_))
  show wpAny _ _ (updateSeq S (fun _ => #[]) >>= fun _ => letGo (#[] : Array Value).toList.reverse >>= fun _ => Builtin.List.listExtendWith (.ref S) (.ref z) .none) _ _ s
  refine wpAny_bind (wpAny_updateSeq hS rfl (wpAny_bind (wpAny_letGo ?_)))
  have hS2 := Heap.get?_update_self (Obj.mapSeq (fun _ => (#[] : Array Value))) hS rfl
  have o1 : ∀ b o, b ≠ S → s.heap.get? b = some o → (s.heap.update S (Obj.mapSeq (fun _ => (#[] : Array Value)))).get? b = some o := fun b o hb e => (Heap.get?_update_other _ _ (Ne.symm hb)).trans e
  have st1 := st.keep Fr D1 D2 o1
  obtain ⟨oz, ez, cz⟩ := hz0
  have ty1 : ∀ (h : Heap), (∀ b o, b ≠ S → s.heap.get? b = some o → h.get? b = some o) → ∀ g d t os, Shared.TypeIs ⟨h, g, d, t, os⟩ (.ref z) "zip" := fun h k g d t os => ⟨oz, k z oz (Ne.symm zne) ez, cz⟩
  have key : ∀ (h : Heap) (c1 tk : Nat), (∀ b o, b ≠ S → s.heap.get? b = some o → h.get? b = some o) → h.get? S = some { cls := .type "list", data := .seq #[] c1 } → codeAny (model prog w) A (.builtin "list.extend.loop" ⟨[.ref S, .ref z, .none], []⟩) R { s with heap := h, toks := tk } := fun h c1 tk hk hS1 =>
    zl_loop (s := s) (g1 := s.heap) Sp Fr D1 D2 zS hn .none (fun h' tk' acc c as k' hS' hl hG ha => hR h' tk' acc c as k' hS' hl hG ha) (min n1 n2) 0 h tk c1 #[] [] (Nat.sub_zero _) (Nat.zero_le _) (st.keep Fr D1 D2 hk) (fun b o a0 _ _ _ _ e => hk b o a0 e) hS1 rfl rfl ⟨List.Pairwise.nil, (fun _ ha => nomatch ha), (fun j a hj => by simp at hj)⟩
  unfold Builtin.List.listExtendWith
  refine wpAny_bind (wpAny_typeOf (T := "zip") (ty1 _ o1 _ _ _ _) ?_)
  have q1 : Builtin.List.listSameRef (.ref S) (.ref z) = false := by simp [Builtin.List.listSameRef, zne]
  simp only [q1, show (Value.type "zip" == Value.type "list") = false by decide, show (Value.type "zip" == Value.type "tuple") = false by decide, Bool.or_false, Bool.false_eq_true, if_false]
  refine wpAny_bind (hself st1 (wpAny_bind (wpAny_holding ?_)))
  unfold Builtin.List.listLengthHint
  refine wpAny_bind (wpAny_specialOf (ty1 _ o1 _ _ _ _) zip_no_len ?_)
  show wpAny _ _ (specialOf (Value.ref z) (Str.ofString "__length_hint__") >>= _) _ _ _
  refine wpAny_bind (wpAny_specialOf (ty1 _ o1 _ _ _ _) zip_no_hint (wpAny_pure ?_))
  show wpAny _ _ (rule "list.extend.makes-room" >>= fun _ => Builtin.List.listTouch (.ref S) >>= fun _ => again (.builtin "list.extend.loop" ⟨[.ref S, .ref z, .none], []⟩)) _ _ _
  refine wpAny_bind (wpAny_rule (wpAny_bind ?_))
  show wpAny _ _ (updateSeq S (·.push .none) >>= fun _ => updateSeq S (·.pop)) _ _ _
  refine wpAny_bind (wpAny_updateSeq hS2 rfl ?_)
  have hS3 := Heap.get?_update_self (Obj.mapSeq (·.push Value.none)) hS2 rfl
  refine wpAny_updateSeq (hz := by seq_fits) hS3 rfl (wpAny_pure ⟨plainId_quiet PySem.F.plain_extend_loop _, key _ _ _ (fun b o hb e => ?_) (Heap.get?_update_self (Obj.mapSeq (·.pop)) hS3 rfl)⟩)
  exact (Heap.get?_update_other _ _ (Ne.symm hb)).trans ((Heap.get?_update_other _ _ (Ne.symm hb)).trans (o1 b o hb e))
end
theorem Draws.tuple {prog : Program} {w : World} {A : Around} (hh : A.handled = none) (it l : Addr) (hne : l ≠ it) (items : Array Value) : Draws prog w A it [it, l] items.size (fun i v => items[i]? = some v) (fun i h => h.IsTupleIter it l i ∧ h.IsTuple l items) where
  live := fun _ _ st => let ⟨o, ho, _⟩ := st.1; ⟨o, ho⟩
  frame := fun _ _ _ st hk => ⟨st.1.at fun o e => hk it (by simp) o e, st.2.at fun o e => hk l (by simp) o e⟩
  item := fun i s Q E hi st hQ => by
    refine RZ.nextOf_tuple_item st.1 st.2 (x := items[i]) (by simp [hi]) fun h' hit' hs' => ?_
    exact hQ _ h' s.toks (by simp [hi]) ⟨hit', st.2.extBut hs'.extBut hne⟩ hs'
  done := fun s Q E st hE => RZ.nextOf_tuple_end hh st.1 st.2 (by simp) hE
end Fy

namespace Fy
open PySem PySem.Spec PyProof.Rows L2

/-! ### list(zip(a, b)) -/
def putP : Hp → List Addr → List (V × V) → Hp
  | H, a :: as, p :: ps => putP (upd H a (.tup [p.1, p.2])) as ps
  | H, _, _ => H
theorem putP_off {b : Addr} : ∀ (as : List Addr) (ps : List (V × V)) (H : Hp), b ∉ as → putP H as ps b = H b
  | [], _, _, _ => rfl
  | _ :: _, [], _, _ => rfl
  | a :: as, p :: ps, H, h => by
    show putP (upd H a (.tup [p.1, p.2])) as ps b = H b
    rw [putP_off as ps _ (fun z => h (List.mem_cons_of_mem _ z)), upd_ne (fun z => h (by rw [z]; exact List.mem_cons_self))]
theorem putP_at : ∀ (as : List Addr) (ps : List (V × V)) (H : Hp), as.length = ps.length → as.Nodup → Paired (fun (t : Addr) (p : V × V) => putP H as ps t = some (.tup [p.1, p.2])) as ps
  | [], [], _, _, _ => .nil
  | [], _ :: _, _, h, _ => by cases h
  | _ :: _, [], _, h, _ => by cases h
  | a :: as, p :: ps, H, h, hn => by
    have hn' := List.nodup_cons.mp hn
    exact .cons (by show putP (upd H a (.tup [p.1, p.2])) as ps a = _; rw [putP_off as ps _ hn'.1, upd_same]) (putP_at as ps (upd H a (.tup [p.1, p.2])) (Nat.succ.inj h) hn'.2)
theorem pairs_laid {X : Cx} {pins : List (Addr × Obj)} {σ : L2.St} {H : Hp} {s : Shared} {h' : Heap} {tk : Nat} {xs ys : List V} {us ws : List Value} {acc : Array Value} {c : Nat} {as : List Addr} {S : Addr} (I : Inv X pins σ H s) (hz : (xs.zip ys).length ≤ sizeLine) (r1 : Vals xs us) (r2 : Vals ys ws) (lo : s.heap.objs.size ≤ S)
    (hk : ∀ b o, s.heap.get? b = some o → h'.get? b = some o) (hS : h'.get? S = some { cls := .type "list", dict := none, data := .seq acc c, slots := #[] }) (hl : as.length = min us.length ws.length) (hG : ZG (fun j v => us[j]? = some v) (fun j v => ws[j]? = some v) S h' as) (hacc : acc.toList = as.map Value.ref) :
    ∃ H' : Hp, Same H H' ∧ H S = none ∧ (∀ t ∈ as, H t = none) ∧ S ∉ as ∧ H' S = some (.lst (as.map V.ref)) ∧ Paired (fun (t : Addr) (q : V × V) => H' t = some (.tup [q.1, q.2])) as (xs.zip ys) ∧ (∀ b, b ∉ as → b ≠ S → H' b = H b) ∧ Inv X pins σ H' { s with heap := h', toks := tk } := by
  have lu : xs.length = us.length := Paired.length r1
  have lw : ys.length = ws.length := Paired.length r2
  have hSn : S ∉ as := fun z => Nat.lt_irrefl _ (hG.above _ z)
  have nd : as.Nodup := List.Pairwise.imp (fun {a b} (h : a < b) => Nat.ne_of_lt h) hG.rise
  have hi : ∀ t ∈ as, s.heap.objs.size ≤ t := fun t ht => Nat.le_trans lo (Nat.le_of_lt (hG.above t ht))
  have new : ∀ t ∈ as, H t = none := fun t ht => I.hok.fresh (hi t ht)
  have newS : H S = none := I.hok.fresh lo
  have ll : as.length = (xs.zip ys).length := by rw [hl, List.length_zip]; omega
  have atP := putP_at as (xs.zip ys) (upd H S (.lst (as.map V.ref))) ll nd
  have off : ∀ b, b ∉ as → b ≠ S → putP (upd H S (.lst (as.map V.ref))) as (xs.zip ys) b = H b := fun b h1 h2 => by rw [putP_off as _ _ h1, upd_ne h2]
  have kp : Same H (putP (upd H S (.lst (as.map V.ref))) as (xs.zip ys)) := fun b u e => by
    rw [off b (fun z => by rw [new b z] at e; cases e) (fun z => by rw [z, newS] at e; cases e)]
    exact e
  have eS : putP (upd H S (.lst (as.map V.ref))) as (xs.zip ys) S = some (.lst (as.map V.ref)) := by rw [putP_off as _ _ hSn, upd_same]
  refine ⟨putP (upd H S (.lst (as.map V.ref))) as (xs.zip ys), kp, newS, new, hSn, eS, atP, off, ?_⟩
  refine I.call' (ch := []) rfl ⟨fun b o q _ _ _ => hk b o q, fun b o q _ _ _ => ⟨o.slots, hk b o q⟩, fun b o q n _ => ?_, fun b o q _ => ⟨o, hk b o q⟩, fun b xs q => kp b _ q, fun b o u q => kp b _ q, fun b ps q => ⟨#[], by rw [kp b _ q]; simp⟩⟩ (fun b u q => ?_) I.bare fun b z => by simp at z
  · have hb := Heap.lt_size q
    rw [off b (fun z => Nat.lt_irrefl _ (Nat.lt_of_lt_of_le hb (hi b z))) (fun z => Nat.lt_irrefl _ (Nat.lt_of_lt_of_le hb (z ▸ lo)))]
    exact n
  · by_cases hb : b ∈ as
    · obtain ⟨j, pk, e1, e2, e3⟩ := LiI.paired_ix atP hb
      rw [e3] at q
      cases q
      obtain ⟨x1, x2, f1, f2, f3⟩ := hG.pairs j b e1
      obtain ⟨g1, g2⟩ := List.getElem?_zip_eq_some.mp e2
      obtain ⟨v1, a1, b1⟩ := LiI.paired_get r1 g1
      obtain ⟨v2, a2, b2⟩ := LiI.paired_get r2 g2
      rw [f1] at a1; cases a1
      rw [f2] at a2; cases a2
      exact ⟨by show 2 ≤ sizeLine; decide, [x1, x2], .cons b1 (.cons b2 .nil), ⟨_, f3, rfl, _, rfl⟩⟩
    · by_cases hb2 : b = S
      · subst hb2
        rw [eS] at q
        cases q
        refine ⟨by rw [List.length_map, ll]; exact hz, acc.toList, c, by rw [hacc]; exact LiI.vals_refs as, ?_⟩
        rw [Array.toArray_toList]
        exact hS
      · rw [off b hb hb2] at q
        exact (I.hok b u q).stay (fun d v _ y => hk d v y) (fun d y => kp d _ y) fun d xs y => kp d _ y
theorem no2 {x p q : Addr} (h1 : x ≠ p) (h2 : x ≠ q) : x ∉ [p, q] := fun z => by
  rcases List.mem_cons.mp z with z | z
  · exact h1 z
  · exact h2 (List.mem_singleton.mp z)
theorem zip_sep {n l1 l2 : Nat} (a : l1 < n) (b : l2 < n) : ZipSep2 (n + 4) (n + 2) (n + 3) n (n + 1) [n, l1] [n + 1, l2] :=
  have g : ∀ {x y : Nat}, x < y → (y ≠ x) := fun h => Nat.ne_of_gt h
  have l : ∀ {x y : Nat}, x < y → (x ≠ y) := fun h => Nat.ne_of_lt h
  ⟨l (by omega), l (by omega), l (by omega), g (by omega), List.mem_cons_self, no2 (g (by omega)) (g (by omega)), no2 (g (by omega)) (g (by omega)), g (by omega), List.mem_cons_self, no2 (g (by omega)) (g (by omega)), no2 (g (by omega)) (g (by omega)), no2 (l (by omega)) (g b), no2 (g (by omega)) (g (by omega))⟩
theorem zip_bound {n l1 l2 : Nat} (a : l1 < n) (b : l2 < n) : ∀ c ∈ [n, l1] ++ [n + 1, l2], c < n + 5 := fun c hc => by
  have e' : c = n ∨ c = l1 ∨ c = n + 1 ∨ c = l2 := by simpa using hc
  omega
theorem zip_far {n : Nat} {fp1 fp2 : List Nat} (f1 : n + 5 ∉ fp1) (f2 : n + 5 ∉ fp2) : ZFar (n + 4) (n + 2) (n + 3) n (n + 1) (n + 5) fp1 fp2 :=
  ⟨Nat.ne_of_lt (show n + 4 < n + 5 by omega), Nat.ne_of_lt (show n + 2 < n + 5 by omega), Nat.ne_of_lt (show n + 3 < n + 5 by omega), f1, f2⟩
theorem zip_under {n m : Nat} (e : m = n + 5) : n + 4 < m ∧ n + 3 < m ∧ n < m ∧ n + 1 < m := by omega
theorem zip_low {n b m : Nat} (h : b < n) (e : m = n + 5) : b ≠ m ∧ b ≠ n + 4 ∧ b ≠ n + 3 ∧ b ≠ n ∧ b ≠ n + 1 := by omega
theorem zout_iter {prog : Program} {w : World} {A : Around} {E : Value → Shared → Prop} {s : Shared} {z TI TO T : Addr} {f : Bool} {Q : Value → Shared → Prop} (hz : ZipOut s.heap z TI TO T f) (h : Q (.ref z) s) : wpAny (model prog w) A (pyIter (.ref z)) Q E s := by
  have ty : s.TypeIs (.ref z) "zip" := ⟨_, hz, rfl⟩
  refine wpAny_pyIter_slot ty PySem.F.slot_zip_iter (wpAny_call_entry PySem.F.slot_zip_iter ty PySem.F.entry_zip_iter ?_ (PySem.F.args_zip_iter_1 _))
  show wpAny _ _ (ret (.ref z)) _ _ s
  exact wpAny_pure ⟨_, rfl, "zip", _, ty, PySem.F.slot_zip_next.lookup, h⟩
def tLZ (K : PySem.W.Frag) (ta : TA) : TE := fun σ H Q => ta σ H fun vs H1 => ∃ a b xs ys, vs = [.ref a, .ref b] ∧ ((SqL K H1 a xs ∧ SqL K H1 b ys) ∨ (SqT K H1 a xs ∧ SqT K H1 b ys)) ∧
  ∀ (H' : Hp) (p : Addr) (ts : List Addr), Same H1 H' → H1 p = none → (∀ t ∈ ts, H1 t = none) → p ∉ ts → H' p = some (.lst (ts.map V.ref)) → Paired (fun (t : Addr) (q : V × V) => H' t = some (.tup [q.1, q.2])) ts (xs.zip ys) → (∀ b, b ∉ ts → b ≠ p → H' b = H1 b) → Q (.ref p) H'
section
variable {X : Cx} {e e2 : Expr} {ta : TA} {p p2 pos pos2 : Pos}
theorem pe_listZip (hc : X.calm = true) (hg : Gl X "list") (hm : X.mg "list" = none) (hg2 : Gl X "zip") (hm2 : X.mg "zip" = none) (ha : PA X [e, e2] ta) (h1 : starEach [.Call (.Name "zip" p2) [e, e2] [] pos2] X.env = (false, eval (.Call (.Name "zip" p2) [e, e2] [] pos2) X.env) :: starEach [] X.env := by rfl)
    (h2 : starEach [e, e2] X.env = (false, eval e X.env) :: starEach [e2] X.env := by rfl) (hpl : (backTo pos2 (starEach [e2] X.env)).any (·.1) = false := by rfl) : PE X (.Call (.Name "list" p) [.Call (.Name "zip" p2) [e, e2] [] pos2] [] pos) (tLZ X.K ta) := by
  refine ⟨fun pins s σ H Q I h => ?_⟩
  refine wpAny_Call_Name_kw (ld_blt I hg hm (show bootBuiltins "list" = some (.type "list") by decide +kernel) (PyProof.Rows.callWith_type1 ?_ h1 rfl))
  rw [h1]
  show wpAny _ _ (spliced ((false, eval (.Call (.Name "zip" p2) [e, e2] [] pos2) X.env) :: backTo pos (starEach [] X.env))) _ _ s
  refine Calls.spliced_cons (Call_ (ld_blt I hg2 hm2 PyProof.Rows.boot_zip (PyProof.Rows.callWith_type1 (thn (ha.run pos2 pins s σ H _ I h) fun us s1 ⟨vs, H1, I1, r1, q1⟩ => ?_) h2 hpl)))
  obtain ⟨a, b, xs, ys, ex, hq, q⟩ := q1
  subst ex
  cases r1 with
  | cons r rr =>
  cases rr with
  | cons r' rr =>
  cases rr
  cases r
  cases r'
  have hh : X.A.handled = none := I1.ok.hd hc
  have n0 := s1.heap.objs.size
  -- behind the making of the zip
  have go : ∀ (h0 : Heap) (us ws : List Value) (St1 St2 : Nat → Heap → Prop) (fp1 fp2 : List Addr), Vals xs us → Vals ys ws → (xs.zip ys).length ≤ sizeLine → (∀ c o, s1.heap.get? c = some o → h0.get? c = some o) → h0.objs.size = s1.heap.objs.size + 5 →
      ZipSep2 (s1.heap.objs.size + 4) (s1.heap.objs.size + 2) (s1.heap.objs.size + 3) s1.heap.objs.size (s1.heap.objs.size + 1) fp1 fp2 → (∀ c ∈ fp1 ++ fp2, c < s1.heap.objs.size + 5) →
      (∀ A' : Around, A'.handled = none → Draws X.prog X.w A' s1.heap.objs.size fp1 us.length (fun j v => us[j]? = some v) St1) → (∀ A' : Around, A'.handled = none → Draws X.prog X.w A' (s1.heap.objs.size + 1) fp2 ws.length (fun j v => ws[j]? = some v) St2) →
      IsZip h0 (s1.heap.objs.size + 4) (s1.heap.objs.size + 2) (s1.heap.objs.size + 3) .none → IsTupOf2 h0 (s1.heap.objs.size + 2) (.ref s1.heap.objs.size) (.ref (s1.heap.objs.size + 1)) → IsTupOf2 h0 (s1.heap.objs.size + 3) .none .none → St1 0 h0 → St2 0 h0 →
      wpAny (model X.prog X.w) X.A (call (.type "list") [.ref (s1.heap.objs.size + 4)]) (EP X pins σ Q) X.xe { s1 with heap := h0 } := by
    intro h0 us ws St1 St2 fp1 fp2 ru rw' hz hk hsz Sp hfp D1 D2 z1 z2 z3 st1 st2
    have fz : s1.heap.objs.size + 5 ∉ fp1 ++ fp2 := fun z => Nat.lt_irrefl _ (hfp _ z)
    have Fr := zip_far (n := s1.heap.objs.size) (fun z => fz (List.mem_append_left _ z)) (fun z => fz (List.mem_append_right _ z))
    refine callType_codes (Q₁ := fun obj s₁ => obj = .ref h0.objs.size ∧ s₁ = { s1 with heap := h0.push { cls := .type "list", data := .seq #[] } }) PySem.F.called_list (PySem.F.typeCall_list_1 _) PySem.F.entry_list_init (code_list_new _ ⟨rfl, rfl⟩) fun obj s₁ hs₁ => ?_
    obtain ⟨rfl, rfl⟩ := hs₁
    have hS : (h0.push { cls := .type "list", data := .seq #[] }).get? h0.objs.size = some { cls := .type "list", data := .seq #[] } := Heap.get?_push_size _ rfl
    have k1 : ∀ c o, h0.get? c = some o → (h0.push { cls := .type "list", data := .seq #[] }).get? c = some o := fun c o e => Heap.get?_push_of_some _ e
    have st0 : ZSt St1 St2 (s1.heap.objs.size + 4) (s1.heap.objs.size + 2) (s1.heap.objs.size + 3) s1.heap.objs.size (s1.heap.objs.size + 1) h0.objs.size 0 (h0.push { cls := .type "list", data := .seq #[] }) := ⟨.inl ⟨k1 _ _ z1, _, _, k1 _ _ z3⟩, k1 _ _ z2, (D1 X.A hh).frame _ _ _ st1 fun b _ o e => k1 b o e, (D2 X.A hh).frame _ _ _ st2 fun b _ o e => k1 b o e⟩
    have lu : xs.length = us.length := Paired.length ru
    have lw : ys.length = ws.length := Paired.length rw'
    refine ⟨⟨_, hS, rfl⟩, PySem.F.args_list_init_2 _ _, ?_⟩
    have hmin : min us.length ws.length ≤ sizeLine := by rw [List.length_zip, lu, lw] at hz; exact hz
    refine zl_init (A := X.A.in1) Sp (by rw [hsz]; exact Fr) (D1 _ hh) (D2 _ hh) (zip_under hsz) hmin st0 ⟨_, k1 _ _ z1, rfl⟩ (fun {A' s' Q' E'} st q => ?_) hS (fun h' tk acc c as hk' hS' hl hG hacc => ?_)
    · rcases st.zz with ⟨y, _⟩ | ⟨T, f, oT, y, _⟩
      · exact wpAny_pyIter_zip y q
      · exact zout_iter y q
    · refine ⟨rfl, ?_⟩
      have keep : ∀ b o, s1.heap.get? b = some o → h'.get? b = some o := fun b o e => by
        obtain ⟨e1, e2, e3, e4, e5⟩ := zip_low (Heap.lt_size e) hsz
        exact hk' b o e1 e2 e3 e4 e5 (k1 b o (hk b o e))
      obtain ⟨H', j1, j2, j3, j4, j5, j6, j7, J⟩ := pairs_laid (tk := tk) I1 hz ru rw' (by rw [hsz]; exact Nat.le_add_right _ _) keep hS' hl hG hacc
      exact ⟨.ref _, H', J, rfl, q H' _ as j1 j2 j3 j4 j5 j6 j7⟩
  have low : ∀ {c : Addr} {o : Obj}, s1.heap.get? c = some o → c < s1.heap.objs.size := fun e => Heap.lt_size e
  rcases hq with ⟨hx, hy⟩ | ⟨hx, hy⟩
  · obtain ⟨its, rv, p1, z1⟩ := I1.list hx
    obtain ⟨its2, rv2, p2', z2⟩ := I1.list hy
    refine call_zip_2 p1.isList p2'.isList fun h' hz hTI hTO g1 g2 hsz hk => ?_
    refine Calls.spliced_nil ?_
    exact go h' its its2 (fun i h => Heap.IsListIter h s1.heap.objs.size a i ∧ Heap.IsList h a its.toArray) (fun i h => Heap.IsListIter h (s1.heap.objs.size + 1) b i ∧ Heap.IsList h b its2.toArray) [s1.heap.objs.size, a] [s1.heap.objs.size + 1, b] rv rv2 (by rw [List.length_zip]; omega) hk hsz (zip_sep p1.lt p2'.lt) (zip_bound p1.lt p2'.lt) (fun A' hA => by simpa using Draws.list (prog := X.prog) (w := X.w) hA s1.heap.objs.size a (Nat.ne_of_lt p1.lt) its.toArray) (fun A' hA => by simpa using Draws.list (prog := X.prog) (w := X.w) hA (s1.heap.objs.size + 1) b (Nat.ne_of_lt (Nat.lt_succ_of_lt p2'.lt)) its2.toArray) hz hTI hTO (show h'.IsListIter _ _ _ ∧ _ from ⟨g1, p1.isList.at fun o e => hk _ o e⟩) (show h'.IsListIter _ _ _ ∧ _ from ⟨g2, p2'.isList.at fun o e => hk _ o e⟩)
  · obtain ⟨its, rv, p1, z1⟩ := I1.tuple hx
    obtain ⟨its2, rv2, p2', z2⟩ := I1.tuple hy
    have t1 : s1.heap.IsTuple a its.toArray := p1
    have t2 : s1.heap.IsTuple b its2.toArray := p2'
    obtain ⟨o1, ho1, _⟩ := id p1
    obtain ⟨o2, ho2, _⟩ := id p2'
    refine RZ.call_zipT t1 t2 fun h' hz hTI hTO g1 g2 hsz hk => ?_
    refine Calls.spliced_nil ?_
    exact go h' its its2 (fun i h => Heap.IsTupleIter h s1.heap.objs.size a i ∧ Heap.IsTuple h a its.toArray) (fun i h => Heap.IsTupleIter h (s1.heap.objs.size + 1) b i ∧ Heap.IsTuple h b its2.toArray) [s1.heap.objs.size, a] [s1.heap.objs.size + 1, b] rv rv2 (by rw [List.length_zip]; omega) hk hsz (zip_sep (low ho1) (low ho2)) (zip_bound (low ho1) (low ho2)) (fun A' hA => by simpa using Draws.tuple (prog := X.prog) (w := X.w) hA s1.heap.objs.size a (Nat.ne_of_lt (low ho1)) its.toArray) (fun A' hA => by simpa using Draws.tuple (prog := X.prog) (w := X.w) hA (s1.heap.objs.size + 1) b (Nat.ne_of_lt (Nat.lt_succ_of_lt (low ho2))) its2.toArray) hz hTI hTO (show h'.IsTupleIter _ _ _ ∧ _ from ⟨g1, t1.at fun o e => hk _ o e⟩) (show h'.IsTupleIter _ _ _ ∧ _ from ⟨g2, t2.at fun o e => hk _ o e⟩)
end
/-- many new pairs, frozen from their birth, and a new list of them -/
theorem Sim.pairs {K : PySem.W.Frag} {P : Pm} {σ : L2.St} {H H' : Hp} {S : Sl} {tmp : Tm} {ps qs : List PV} {xs ys : List V} {G : Hp} {A B : List Addr} {p : Addr} {ts : List Addr} (s : Sim K P σ H S tmp) (h : SimG K P G σ H S tmp A B) (r1 : Rps K G ps xs) (r2 : Rps K G qs ys) (hz : (xs.zip ys).length ≤ sizeLine)
    (e1 : Same H H') (n1 : H p = none) (n2 : ∀ t ∈ ts, H t = none) (np : p ∉ ts) (hp : H' p = some (.lst (ts.map V.ref))) (ht : Paired (fun (t : Addr) (q : V × V) => H' t = some (.tup [q.1, q.2])) ts (xs.zip ys)) : Sim K P σ H' S ((.node ((zp ps qs).map .leaf), .ref p) :: tmp) := by
  obtain ⟨_, kp, tb, by_⟩ := s
  obtain ⟨g0, g1, rs, rt, nd, fr⟩ := h
  have gn : ∀ t ∈ ts, G t = none := fun t h => Same.free g1 (n2 t h)
  have tup : ∀ t ∈ ts, ∃ v w, H' t = some (.tup [v, w]) := fun t h => by
    obtain ⟨j, q, _, _, e⟩ := LiI.paired_ix ht h
    exact ⟨_, _, e⟩
  have eG : Same G (frzG G H' ts) := fun b o q => by
    by_cases hb : b ∈ ts
    · rw [gn b hb] at q; cases q
    · rw [frzG_out hb]; exact q
  have dom : ∀ a ∈ A ++ B, ∃ o, H a = some o := fun a ha => by
    rcases List.mem_append.mp ha with z | z
    · obtain ⟨o, h, _⟩ := rsl_at rs a z; exact ⟨o, h⟩
    · obtain ⟨o, h, _⟩ := ros_at _ _ _ rt a z; exact ⟨o, h⟩
  have keep : ∀ a ∈ A ++ B, H' a = H a := fun a ha => by
    obtain ⟨o, h⟩ := dom a ha
    rw [h]; exact e1 _ _ h
  have pn : p ∉ A ++ B := fun z => by obtain ⟨o, h⟩ := dom p z; rw [n1] at h; cases h
  have tn : ∀ t ∈ ts, t ∉ A ++ B := fun t ht z => by obtain ⟨o, h⟩ := dom t z; rw [n2 t ht] at h; cases h
  have mk : ∀ {ps qs : List PV} {xs ys : List V} {us : List Addr}, Rps K G ps xs → Rps K G qs ys → (∀ u ∈ us, u ∈ ts) → Paired (fun (t : Addr) (q : V × V) => H' t = some (.tup [q.1, q.2])) us (xs.zip ys) → Rps K (frzG G H' ts) (zp ps qs) (us.map V.ref) := by
    intro ps
    induction ps with
    | nil =>
      intro qs xs ys us a b c d
      cases a
      cases d
      exact .nil
    | cons x ps ih =>
      intro qs xs ys us a b c d
      cases a with
      | cons a1 a2 =>
        cases b with
        | nil => cases d; exact .nil
        | cons b1 b2 =>
          cases d with
          | cons d1 d2 =>
            refine .cons (.tup (vs := [_, _]) (.inl (.inl ?_)) (by show 2 ≤ sizeLine; decide) (.cons (Rp.mono eG _ _ a1) (.cons (Rp.mono eG _ _ b1) .nil))) (ih a2 b2 (fun u h => c u (List.mem_cons_of_mem _ h)) d2)
            rw [frzG_at (c _ List.mem_cons_self)]
            exact d1
  have hl : (ts.map V.ref).length ≤ sizeLine := by
    rw [List.length_map, Paired.length ht]; exact hz
  refine ⟨⟨frzG G H' ts, A, p :: B, ⟨g0.1.trans eG, fun b o q => ?_, fun b ps q => ?_⟩, fun b o q => ?_, rs.mono eG (fun a ha => keep a (List.mem_append_left _ ha)), .cons (A := [p]) (.node hp hl (Ros.leaves (mk r1 r2 (fun _ h => h) ht))) (Ros.mono eG _ _ _ (fun a ha => keep a (List.mem_append_right _ ha)) rt), ?_, fun a ha => ?_⟩, kp.ext e1, tb.ext e1, by_⟩
  · by_cases hb : b ∈ ts
    · exact .inr (mine_new kp (n2 b hb))
    · rw [frzG_out hb] at q; exact g0.2 b o q
  · by_cases hb : b ∈ ts
    · rw [frzG_at hb] at q
      obtain ⟨v, w, e⟩ := tup b hb
      rw [e] at q; cases q
    · rw [frzG_out hb] at q; exact g0.3 b ps q
  · by_cases hb : b ∈ ts
    · rw [frzG_at hb] at q; exact q
    · rw [frzG_out hb] at q; exact e1 _ _ (g1 b o q)
  · have pm : (A ++ p :: B).Perm (p :: (A ++ B)) := List.perm_middle
    exact pm.symm.nodup (List.nodup_cons.mpr ⟨pn, nd⟩)
  · have pm : (A ++ p :: B).Perm (p :: (A ++ B)) := List.perm_middle
    rcases List.mem_cons.mp (pm.mem_iff.mp ha) with z | z
    · rw [z, frzG_out np]
      exact ⟨Same.free g1 n1, mine_new kp n1⟩
    · have hb : a ∉ ts := fun q => tn a q z
      rw [frzG_out hb]
      exact fr a z
def eLZ (ma : MA) : ME := fun S => (ma S).bind fun ts S1 => match ts with
  | [t, u] => (match seqOf (fz t), seqOf (fz u) with
    | some xs, some ys => if tpOf (fz t) = tpOf (fz u) then .ok (.node ((zp xs ys).map .leaf)) S1 else .stuck
    | _, _ => .stuck)
  | _ => .stuck
section
variable {X : Cx} {P : Pm} {W : WX} {bi : List Nat} {nn : Nat} {e e2 : Expr} {ma : MA} {p p2 pos pos2 : Pos}
theorem em_lz (g : Gd P W bi nn X) (hg : Gl X "list") (hm : X.mg "list" = none) (hg2 : Gl X "zip") (hm2 : X.mg "zip" = none) (ha : AM X P W [e, e2] ma) (h1 : starEach [.Call (.Name "zip" p2) [e, e2] [] pos2] X.env = (false, eval (.Call (.Name "zip" p2) [e, e2] [] pos2) X.env) :: starEach [] X.env := by rfl)
    (h2 : starEach [e, e2] X.env = (false, eval e X.env) :: starEach [e2] X.env := by rfl) (hpl : (backTo pos2 (starEach [e2] X.env)).any (·.1) = false := by rfl) : EM X P W (.Call (.Name "list" p) [.Call (.Name "zip" p2) [e, e2] [] pos2] [] pos) (eLZ ma) :=
  weakE (pe_listZip g.calm hg hm hg2 hm2 ha h1 h2 hpl) fun σ H Q ⟨S, tmp, s, h⟩ => by
    refine ⟨S, tmp, s, ?_⟩
    unfold eLZ at h
    cases em : ma S with
    | stuck => rw [em] at h; exact h
    | err x S1 => rw [em] at h; exact h
    | ok ts S1 =>
      rw [em] at h
      intro vs H1 hl s1
      dsimp only [Out.bind] at h
      split at h
      · rename_i t u
        match vs, hl with
        | [v, w], _ =>
        split at h
        · rename_i xs ys e1 e2
          split at h
          · rename_i et
            have s2 := s1.frzs (ts := [t, u]) (vs := [v, w]) rfl
            obtain ⟨⟨G, A, B, g0, g1, rs, rt, nd, fr⟩, kp, tb, by_⟩ := id s2
            obtain ⟨B1, B2, eB, q1, q2⟩ := ros_app (l1 := lf [fz t, fz u] [v, w]) rt
            obtain ⟨eB1, rp⟩ := Ros.ofLeaves (xs := [fz t, fz u]) (vs := [v, w]) q1
            subst eB1; subst eB
            cases rp with
            | cons rp1 rp2 =>
            cases rp2 with
            | cons rp2 _ =>
            obtain ⟨a, va, ea, sa, ra, za⟩ := rp_sq e1 rp1
            obtain ⟨b, vb, eb, sb, rb, zb⟩ := rp_sq e2 rp2
            subst ea; subst eb
            have s3 : Sim X.K P σ H1 S1 tmp := s2.drops (l := lf [fz t, fz u] [.ref a, .ref b])
            have hz : (va.zip vb).length ≤ sizeLine := by rw [List.length_zip]; omega
            refine ⟨a, b, va, vb, rfl, ?_, fun H' p ts k1 k2 k3 k4 k5 k6 k7 => h _ _ (s3.pairs ⟨g0, g1, rs, q2, by simpa using nd, by simpa using fr⟩ ra rb hz k1 k2 k3 k4 k5 k6)⟩
            have sa' := sa.mono g1
            have sb' := sb.mono g1
            rw [← et] at sb'
            unfold SqAt at sa' sb'
            split at sa'
            · rename_i z; rw [if_pos z] at sb'; exact .inr ⟨sa', sb'⟩
            · rename_i z; rw [if_neg z] at sb'; exact .inl ⟨sa', sb'⟩
          · exact h.elim
        · exact h.elim
      · exact h.elim
end
end Fy

namespace Fy
open PySem PySem.Spec PyProof.Rows L2

/-! ### methods of own classes; == of instances by the own __eq__ -/
structure CalM (rp : Bool) (Pr : Program) (w : World) (K : PySem.W.Frag) (mg : Str → Option Value) (base : Heap) (T : List (Addr × Str)) (c m : Str) (ps : List Str) (k : Nat) (bi : List Nat) (run : List OT → FR) : Prop where
  ex : ∃ fd qual params body scope, FunD K m qual params body scope [] [] (He.ma K (He.ga K c) m) fd ∧ FnG rp Pr w K mg base k (He.ma K (He.ga K c) m) fd ps (spM K T ps.length bi run) ∧ L2.Binds K fd ps []
theorem calm_m {rp : Bool} {Pr : Program} {w : World} {K : PySem.W.Frag} {mg : Str → Option Value} {base : Heap} {T : List (Addr × Str)} {c mn qual : Str} {params : Arguments} {body : List Stmt} {scope : Scope} {N ps : List Str} {k : Nat} {bi : List Nat} {m : MS}
    (D : ∃ fd, FunD K mn qual params body scope [] [] (He.ma K (He.ga K c) mn) fd) (S : FnScope N ps scope) (hbi : ∀ i ∈ bi, i < ps.length)
    (hb : ∀ (kV doc pm : Value) (an : Option Addr) (cdv ct : Value) (us : List Value), us.length = ps.length → bindArgs (PySem.W.fnOf mn qual params body scope .none kV doc pm an cdv ct) ⟨us, []⟩ = pure (ps.zip us))
    (hbody : ∀ (f : Addr) (cdv : Value) (A : Around) (outer : List Env) (s : Shared) (H : Hp) (E : XK) (P : Pm), P.T = T → P.rp = rp → Gd P (fun cls d _ H => E cls d H) bi k (cxOf (L2.CX Pr w) Pr w K mg base N qual scope f cdv A outer s H E) →
      BM (cxOf (L2.CX Pr w) Pr w K mg base N qual scope f cdv A outer s H E) P (fun cls d _ H => E cls d H) body m) :
    CalM rp Pr w K mg base T c mn ps (k + 1) bi (runB N.length bi m) := by
  obtain ⟨fd, F⟩ := D
  exact ⟨⟨fd, qual, params, body, scope, F, fn_m F S hbi (fun cdv A outer s H E P _ => hbody _ cdv A outer s H E P), FunD.bindsN F hb⟩⟩
structure EqF (K : PySem.W.Frag) (c : Str) (ts : List Ty) : Prop where
  hs : PySem.W.findIn K (.ref (He.ga K c)) "__eq__" = some (some (.ref (He.ma K (He.ga K c) "__eq__")))
  hf : PySem.W.isFn K (.ref (He.ma K (He.ga K c) "__eq__")) = true
  nf : ∀ t ∈ ts, PySem.W.notFirst K (He.ga K c) (tyVal K t) = true
def eqFB (K : PySem.W.Frag) (c : Str) (ts : List Ty) : Bool := decide (PySem.W.findIn K (.ref (He.ga K c)) "__eq__" = some (some (.ref (He.ma K (He.ga K c) "__eq__")))) && (PySem.W.isFn K (.ref (He.ma K (He.ga K c) "__eq__")) && ts.all fun t => PySem.W.notFirst K (He.ga K c) (tyVal K t))
theorem eqFB_ok {K : PySem.W.Frag} {c : Str} {ts : List Ty} (h : eqFB K c ts = true) : EqF K c ts := by
  unfold eqFB at h
  simp only [Bool.and_eq_true, decide_eq_true_eq, List.all_eq_true] at h
  exact ⟨h.1, h.2.1, h.2.2⟩
def rEqO (K : PySem.W.Frag) (c : Str) (T : List (Addr × Str)) (run : List OT → FR) : R2 := fun x y H Q => ∃ a dx fs t, x = .ref a ∧ H a = some (.ins (He.ga K c) dx fs) ∧ TyX K H y t ∧ PySem.W.notFirst K (He.ga K c) t = true ∧ spM K T 2 [] run [x, y] H (fun v H' => (∃ b, v = .bl b) ∧ Q v H') (fun _ _ _ => False)
theorem op_eqO {X : Cx} {c : Str} {T : List (Addr × Str)} {ps : List Str} {k : Nat} {run : List OT → FR} {ts : List Ty} (C : CalM false X.prog X.w X.K X.mg X.base T c "__eq__" ps k [] run) (hps : ps.length = 2) (F : EqF X.K c ts) (hr : Room k X.A) : OpR X (compareOp .Eq) (rEqO X.K c T run) := by
  intro pins s σ H x y v u Q I rx ry hq
  obtain ⟨a, dx, fs, t, rfl, ha, ty, nf, q⟩ := hq
  obtain rfl : v = Value.ref a := rx
  show wpAny (model X.prog X.w) X.A (richCompare .Eq (.ref a) u) (EP X pins σ Q) X.xe s
  obtain ⟨mA, J, _⟩ := ins_get I.hok ha
  obtain ⟨od, J, _⟩ := J.look
  obtain ⟨Pt, kx, pt, _⟩ := kit_of I ry ty
  obtain ⟨m, hF⟩ := I.fr
  obtain ⟨fd, qual, params, body, scope, FD, G, b⟩ := C.ex
  have hu : X.A.units < cLine := by have := hr.un; omega
  refine PySem.W.cmp_K (op := .Eq) (tb := t) hu hF I.ok.mod.kin J (kx.ty _ _ I.kIn pt) nf F.hs F.hf ?_
  have r2 : Vals [V.ref a, y] [Value.ref a, u] := .cons rfl (.cons ry .nil)
  rw [← hps] at q
  have bd := b s [.ref a, u] I.kIn (by rw [hps]; rfl)
  refine wpAny_call (codeAny_mono (G.run X.A X.stack s H ⟨[.ref a, u], []⟩ [.ref a, u] [.ref a, y] _ _ hr (fun z => Bool.noConfusion z) I.env0 (by simpa using bd) r2 q) fun z s2 hz => ?_)
  match z, hz with
  | .error er, hz =>
    obtain ⟨_, _, _, _, _, _, _, _, _, _, _, _, h⟩ := hz
    exact h.elim
  | .ok (.ret u'), hz =>
    obtain ⟨w', H', I', rw', ⟨b', eb⟩, q'⟩ := I.after hz
    subst eb
    cases rw'
    exact ⟨.bl b', H', I', rfl, q'⟩
  | .ok .next, hz => exact hz.elim
  | .ok .brk, hz => exact hz.elim
  | .ok .cont, hz => exact hz.elim
def fEqO (tab : List (Ty × Ty × Bool)) (c : Str) (ts : List Ty) (run : List OT → FR) (p q : PV) : Option OT := match p, tyP q with
  | .obj c' _ _, some t => if c' = c ∧ t ∈ ts ∧ (askI tab t (.o c)).isSome = true then (match run [.leaf p, .leaf q] with
    | .ok (.leaf (.bl b)) [] => some (.leaf (.bl b))
    | _ => none) else none
  | _, _ => none
theorem o_eqO {K : PySem.W.Frag} {tab : List (Ty × Ty × Bool)} (Tb : TabI K tab) {c : Str} {T : List (Addr × Str)} {run : List OT → FR} {ts : List Ty} (F : EqF K c ts) {P0 : Pm} (hT : P0.T = T) : ∀ (G : Hp) (σ : L2.St) (H : Hp) (S : Sl) (tmp : Tm) (Q : VK) (p q : PV) (v w : V) (t : OT), fEqO tab c ts run p q = some t → Rp K G p v → Rp K G q w → Left K P0 G σ H S tmp → (∀ v' H', Sim K P0 σ H' S ((t, v') :: tmp) → Q v' H') → rEqO K c T run v w H Q := fun G σ H S tmp Q p q v w t e rp rq l k => by
  unfold fEqO at e
  split at e
  · rename_i c' ns xs tq etq
    split at e
    · rename_i hc
      obtain ⟨rfl, ht, hk⟩ := hc
      obtain ⟨bk, hk⟩ := Option.isSome_iff_exists.mp hk
      have tyw := rp_ty Tb etq hk (Rp.mono l.le _ _ rq)
      have hl := l.vals [.obj c' ns xs, q] [v, w] (.cons rp (.cons rq .nil))
      cases er : run [.leaf (.obj c' ns xs), .leaf q] with
      | stuck => rw [er] at e; cases e
      | err x os => rw [er] at e; cases e
      | ok r os =>
        rw [er] at e
        split at e
        · rename_i b heq
          have e := Option.some.inj e
          subst e
          obtain ⟨rfl, rfl⟩ := FR.ok.inj heq
          have cm : callM 2 [] run [.vl (.leaf (.obj c' ns xs)), .vl (.leaf q)] S = .ok (.leaf (.bl b)) S := by
            unfold callM
            rw [if_pos ⟨rfl, rfl⟩]
            simp only [resolve, fz, er]
            rfl
          have sp := call_sp (W := fun _ _ _ _ => False) (n := 2) (bi := []) (run := run) (as := [.vl (.leaf (.obj c' ns xs)), .vl (.leaf q)]) (Q := fun v H' => (∃ b, v = .bl b) ∧ Q v H') (refOk_vl (σ := σ) (ps := [.obj c' ns xs, q]) (vs := [v, w]) rfl) (show Sim K P0 σ H S (tms [.vl (.leaf (.obj c' ns xs)), .vl (.leaf q)] [v, w] ++ tmp) from hl) (by
            rw [cm]
            intro v' H' s'
            refine ⟨?_, k v' H' s'⟩
            obtain ⟨G', r', _⟩ := s'.open1
            cases r'
            exact ⟨_, rfl⟩)
          rw [hT] at sp
          cases rp with
          | @obj a dx _ _ vs _ h1 h2 h3 =>
            exact ⟨a, dx, _, _, rfl, l.le _ _ h1, tyw, F.nf _ ht, sp⟩
        · cases e
    · cases e
  · cases e
section
variable {X : Cx} {P : Pm} {W : WX} {bi : List Nat} {nn k : Nat} {a b : Expr} {pos : Pos} {m1 m2 : ME} {c : Str} {T : List (Addr × Str)} {ps : List Str} {run : List OT → FR} {tab : List (Ty × Ty × Bool)} {ts : List Ty}
/-- a == b, where a may be an instance with its own __eq__ -/
theorem em_eqO (g : Gd P W bi nn X) (Tb : TabI X.K tab) (C : CalM false X.prog X.w X.K X.mg X.base T c "__eq__" ps k [] run) (hps : ps.length = 2) (F : EqF X.K c ts) (hT : P.T = T) (hk : k ≤ nn) (ha : EM X P W a m1) (hb : EM X P W b m2) : EM X P W (.Compare a [.Eq] [b] pos) (e2 (orF2 (fEqO tab c ts run) pEq) m1 m2) := by
  refine weakE (pe_cmpR (op_or (op_eqO C hps F (g.room.mono hk)) (op_eqP (Nat.lt_of_succ_lt g.hu))) ha hb (nomark _)) fun σ H Q h => ?_
  obtain ⟨S, tmp, s, h⟩ := h
  refine ⟨S, tmp, s, ?_⟩
  unfold e2 at h
  cases hm : m1 S with
  | stuck => rw [hm] at h; exact h
  | err x S1 => rw [hm] at h; exact h
  | ok t S1 =>
    rw [hm] at h
    intro v H1 s1
    refine ⟨S1, _, s1, ?_⟩
    have h : PoE X.K P W σ tmp Q ((m2 S1).bind fun u S2 => lift (orF2 (fEqO tab c ts run) pEq (fz t) (fz u)) S2) := h
    cases hm2 : m2 S1 with
    | stuck => rw [hm2] at h; exact h
    | err x S2 => rw [hm2] at h; exact h
    | ok u S2 =>
      rw [hm2] at h
      intro w H2 s2
      have s3 := Sim.frzs (ts := [u, t]) (vs := [w, v]) rfl s2
      obtain ⟨G, rp, rq, l⟩ := Sim.open2 s3
      have h : PoE X.K P W σ tmp Q (lift (orF2 (fEqO tab c ts run) pEq (fz t) (fz u)) S2) := h
      unfold orF2 at h
      split at h
      · rename_i z e
        exact .inl (o_eqO Tb F hT G σ H2 S2 tmp Q _ _ v w z e rp rq l h)
      · cases e : pEq (fz t) (fz u) with
        | none => rw [e] at h; exact h.elim
        | some z => rw [e] at h; exact .inr (o_eq P G σ H2 S2 tmp Q _ _ v w z e rp rq l h)
end
end Fy

namespace Fy
open PySem PySem.Spec PyProof.Rows L2

/-- a def by its body, its code object known: it makes lambdas -/
theorem cal_mL {rp : Bool} {Pr : Program} {w : World} {K : PySem.W.Frag} {mg : Str → Option Value} {base : Heap} {T : List (Addr × Str)} {x : Str} {params : Arguments} {body : List Stmt} {scope : Scope} {N ps : List Str} {k : Nat} {bi : List Nat} {m : MS}
    (D : ∃ fd, FunD K x x params body scope [] [] (He.ga K x) fd ∧ mg x = some (.ref (He.ga K x))) (S : FnScope N ps scope) (hbi : ∀ i ∈ bi, i < ps.length)
    (hb : ∀ (kV doc pm : Value) (an : Option Addr) (cdv ct : Value) (us : List Value), us.length = ps.length → bindArgs (PySem.W.fnOf x x params body scope .none kV doc pm an cdv ct) ⟨us, []⟩ = pure (ps.zip us))
    (hbody : ∀ (f : Addr) (A : Around) (outer : List Env) (s : Shared) (H : Hp) (E : XK) (P : Pm), P.T = T → P.rp = rp → Gd P (fun cls d _ H => E cls d H) bi k (cxOf (L2.CX Pr w) Pr w K mg base N x scope f (.ref (He.codeOf K (x, none))) A outer s H E) →
      BM (cxOf (L2.CX Pr w) Pr w K mg base N x scope f (.ref (He.codeOf K (x, none))) A outer s H E) P (fun cls d _ H => E cls d H) body m) :
    Cal rp Pr w K mg base T x params ps (k + 1) bi (runB N.length bi m) := by
  obtain ⟨fd, F, hm⟩ := D
  refine ⟨⟨fd, body, scope, F, fn_m F S hbi (fun cdv A outer s H E P hc hT hrp g => ?_), FunD.bindsN F hb⟩, hm⟩
  obtain ⟨oc, od, fd', osl, c, lk, e1, e2⟩ := hc
  have e : He.codeOf K (x, none) = c := He.codeOf_eq (p := (x, none)) lk (e1.trans e2)
  subst e2
  subst e
  exact hbody _ A outer s H E P hT hrp g
/-- what the making of lambdas asks, in the def x -/
structure LamT (K : PySem.W.Frag) (mg : Str → Option Value) (base : Heap) (T : List (Addr × Str)) (x q : Str) : Prop where
  tb : LamX.TabB base mg (He.codeOf K (x, none)) (He.tabOf K (He.codeOf K (x, none)))
  mem : (He.tabOf K (He.codeOf K (x, none)), q) ∈ T
  only : ∀ p ∈ T, p.1 = He.tabOf K (He.codeOf K (x, none)) → p.2 = q
section
variable {X : Cx} {P : Pm} {W : WX} {bi : List Nat} {nn : Nat} {x y a n q : Str} {pg : Arguments} {sg : Scope} {Ng : List Str} {exs fs : List Str} {tx : List (Str × Ty × Bool)} {cs : List Clause} {h0 : ExceptHandler} {hs : List ExceptHandler} {params : Arguments} {body : Expr} {scope : Scope} {p lpos pos p1 p2 p3 p4 p5 p6 : Pos} {j : Nat} {mm : ME}
/-- heard(lambda: body) in the def y -/
theorem em_hrd (k : Nat) (g : Gd P W bi nn X) (D : ∃ fd, FunD X.K x x pg [.Try [.Expr (.Call (.Name a p1) [] [] p2) p3] (h0 :: hs) [] [] p4, .Return (some (.Constant .none j p5)) p6] sg [] [] (He.ga X.K x) fd ∧ X.mg x = some (.ref (He.ga X.K x))) (hb : ∀ (kV doc pm : Value) (an : Option Addr) (cdv ct : Value) (us : List Value), us.length = 1 → bindArgs (PySem.W.fnOf x x pg [.Try [.Expr (.Call (.Name a p1) [] [] p2) p3] (h0 :: hs) [] [] p4, .Return (some (.Constant .none j p5)) p6] sg .none kV doc pm an cdv ct) ⟨us, []⟩ = pure ([a].zip us))
    (Sg : FnScope Ng [a] sg) (hNg : Ng[0]? = some a) (hva : Vis sg a) (at_ : Ng[1]? = some n) (kd : sg.names.lookup n = some .local) (h0' : ∀ f : Addr, (L2.start Ng [V.ref f])[0]? = some (some (V.ref f)))
    (Tx : TabX X.K exs fs tx) (cl : ∀ (cdv : Value) (s : Shared) (H : Hp), ClAs (hdCx X Ng x sg (He.ga X.K x) cdv s H) n (h0 :: hs) (cs.map fun c => (tyVal X.K c.1, suTS X.K P.T Ng.length 1 c.2)))
    (LT : LamT X.K X.mg X.base P.T y (X.env.qual ++ "<lambda>")) (hcode : X.env.code = .ref (He.codeOf X.K (y, none))) (hg : Gl X x) (hk : k + 2 ≤ nn) (L : LamX.LamS X.env.scope scope) (hdef : defaultsOf params X.env = ([], [])) (hbind : ∀ (q : Str) (cl : List (Str × Addr)) (pm cv ctv : Value), bindArgs (PySem.W.kla_fn "<lambda>" q params body scope cl pm cv ctv) {} = pure [])
    (hbody : ∀ (A : Around) (outer : List Env) (s : Shared) (H : Hp) (E : XK) (f c' : Addr) (P' : Pm), P'.T = P.T → P'.rp = false → Gd P' (fun cls d _ H => E cls d H) bi k (LamX.lamCx X A outer s H E scope f c') → EM (LamX.lamCx X A outer s H E scope f c') P' (fun cls d _ H => E cls d H) body mm)
    (hd1 : (x == ("__debug__" : Str)) = false := by decide) (hd2 : (a == ("__debug__" : Str)) = false := by decide) (hd3 : (a == ("__classdict__" : Str)) = false := by decide) :
    EM X P W (.Call (.Name x p) [.Lambda params body scope lpos] [] pos) (eHeard2 mm (hdOf tx Ng.length cs)) := by
  obtain ⟨fd, F, hm⟩ := D
  have hB : L2.Binds X.K fd [a] [] := FunD.bindsN F fun kV doc pm an cdv ct us hl => hb kV doc pm an cdv ct us hl
  have hkp := F.kp
  obtain ⟨oc, od, dV, kV, doc, pmv, an, cdv, ct, osl, rfl, lk, hcd, hd, _⟩ := F.ex
  exact em_heard2 (k := k) g hg hm hkp lk hcd hB Sg hNg hva (heard_gives Tx Sg.nd at_ kd h0' (cl cdv)) LT.tb hcode LT.mem LT.only hk L hdef hbind hbody hd1 hd2 hd3
end
end Fy

namespace Fy
open PySem PySem.Spec PyProof.Rows L2

/-! ### a text some times -/
theorem mulOk_small {x : Str} {n : Int} (h0 : 0 ≤ n) (h1 : n ≤ 1000) (hl : x.length ≤ 1000) : MulOk x n := by
  refine ⟨?_, fun a _ => ?_, fun a _ => ?_⟩
  · rw [decide_eq_false (show ¬ n < -(2 ^ 63 : Int) by omega), decide_eq_false (show ¬ n ≥ 2 ^ 63 by omega)]; rfl
  · have h2 : (1000 : Int) ≤ (2 ^ 63 - 1) / n := by
      rw [Int.le_ediv_iff_mul_le (by omega)]
      have : 1000 * n ≤ 1000 * 1000 := Int.mul_le_mul_of_nonneg_left h1 (by omega)
      omega
    omega
  · have : x.length * n.toNat ≤ 1000 * 1000 := Nat.mul_le_mul hl (by omega)
    unfold Builtin.Str.tooLong sizeLine
    simp
    omega
def fRepS : PV → PV → Option OT
  | .str x, .int n => if 0 ≤ n ∧ n ≤ 1000 ∧ x.length ≤ 1000 then some (.leaf (.str (Txt.mul x n))) else none
  | _, _ => none
def rRepS : R2 := fun x y H Q => ∃ i n, x = .str i ∧ y = .int n ∧ (0 ≤ n ∧ n ≤ 1000 ∧ i.length ≤ 1000) ∧ Q (.str (Txt.mul i n)) H
theorem op_repS {X : Cx} : OpR X (binaryOp .Mult) rRepS := by
  intro pins s σ H x y v u Q I rx ry h
  obtain ⟨i, n, rfl, rfl, ⟨h0, h1, h2⟩, q⟩ := h
  obtain ⟨t, rfl⟩ := rx
  obtain ⟨t', rfl⟩ := ry
  exact SB.mul (mulOk_small h0 h1 h2) fun t' k => ⟨.str _, H, I.tok _, ⟨t', rfl⟩, q⟩
theorem o_repS {K : PySem.W.Frag} : Op2 K rRepS fRepS := fun P G σ H S tmp Q p q v w t e rp rq l k => by
  unfold fRepS at e
  split at e
  · split at e
    · rename_i hc
      cases e
      cases rp
      cases rq
      exact ⟨_, _, rfl, rfl, hc, k _ _ (l.val _ _ (.str _))⟩
    · cases e
  · cases e
def pMulS : PV → PV → Option OT := orF2 pMul fRepS
section
variable {X : Cx} {P : Pm} {W : WX} {bi : List Nat} {n : Nat} {a b : Expr} {pos : Pos} {m1 m2 : ME}
theorem em_mulS (ha : EM X P W a m1) (hb : EM X P W b m2) : EM X P W (.BinOp a .Mult b pos) (e2 pMulS m1 m2) := em_op (op_or (op_or op_mulW (op_or op_rep op_repT)) op_repS) (o_or (o_or (o_int (fun i j h => show i.natAbs.log2 + j.natAbs.log2 < 1000000 from of_decide_eq_true h) fun _ _ _ => .int _) (o_or o_rep o_repT)) o_repS) ha hb
end

/-! ### a thing of a list of one's own is taken out, the list forgotten -/
theorem Sim.part {K : PySem.W.Frag} {P : Pm} {σ : L2.St} {H : Hp} {S : Sl} {tmp : Tm} {ts : List OT} {t : OT} {x : V} {k : Nat} (s : Sim K P σ H S ((.node ts, x) :: tmp)) (h : ts[k]? = some t) : ∃ a vs v, x = .ref a ∧ H a = some (.lst vs) ∧ vs.length ≤ sizeLine ∧ vs[k]? = some v ∧ Sim K P σ H S ((t, v) :: tmp) := by
  obtain ⟨⟨G, A, B, e0, e1, r1, r2, nd, fr⟩, kp, tb, by_⟩ := s
  cases r2 with
  | @cons _ _ _ _ A1 B1 q q2 =>
    cases q with
    | @node a vs _ A2 h1 h2 h3 =>
      obtain ⟨v, C1, Ct, C2, ev, rfl, rt, _⟩ := Ros.split (i := k) h3 h
      have sub : (A ++ (Ct ++ B1)).Sublist (A ++ (a :: (C1 ++ (Ct ++ C2)) ++ B1)) := by
        refine List.Sublist.append (List.Sublist.refl A) (List.Sublist.append ?_ (List.Sublist.refl B1))
        exact List.Sublist.cons _ ((List.sublist_append_left Ct C2).trans (List.sublist_append_right C1 _))
      exact ⟨a, vs, v, rfl, h1, h2, ev, ⟨G, A, Ct ++ B1, e0, e1, r1, .cons rt q2, nd.sublist sub, fun b hb => fr b (sub.subset hb)⟩, kp, tb, by_⟩
def sMv (i j k : Nat) : MS := fun S => match S[j]? with
  | some (some (.node ts)) => (match ts[k]? with
    | some t => if i < S.length then .ok .nx ((S.set j none).set i (some t)) else .stuck
    | none => .stuck)
  | _ => .stuck
section
variable {X : Cx} {P : Pm} {W : WX} {bi : List Nat} {n : Nat} {pos : Pos}
theorem atI_nat {α : Type} {xs : List α} {k : Nat} {v : α} (h : xs[k]? = some v) : atI xs (k : Int) = some v := by
  have hk : k < xs.length := (List.getElem?_eq_some_iff.mp h).1
  have h2 : xs[k] = v := (List.getElem?_eq_some_iff.mp h).2
  unfold atI ixN
  simp [hk, h2]
theorem sm_mv (g : Gd P W bi n X) (i j k : Nat) {x y : Str} {p1 p2 p3 p4 : Pos} {c : Nat} (hi : X.N[i]? = some x) (hj : X.N[j]? = some y) (hx : Loc X.env.scope x) (hv : Vis X.env.scope y) (hb : bi.contains i = false := by rfl) (hb2 : bi.contains j = false := by rfl) (hs : swapsWith (.Subscript (.Name y p1) (.Constant (.int k) c p2) p3) (some (.Name x p4)) pos.line X.env = pure false := by rfl) (hf : X.fn x = true ∨ X.env.scope.names.lookup x = some .local := by first | exact .inl rfl | exact .inr rfl | assumption)
    (hd : (y == ("__debug__" : Str)) = false := by decide) (hcd : (y == ("__classdict__" : Str)) = false := by decide) : SM X P W (.Assign [.Name x p4] (.Subscript (.Name y p1) (.Constant (.int k) c p2) p3) pos) (sMv i j k) :=
  weakS (ps_set g.nd hi hx (pe_ix ix_seq (pe_var hj hv hd hcd) pe_int (by intro _ _; rfl)) hs hf) fun D σ H ⟨S, tmp, s, h⟩ => by
    unfold sMv at h
    split at h
    · rename_i ts e
      split at h
      · rename_i t et
        split at h
        · rename_i hl
          obtain ⟨v, ev, s1⟩ := s.take e
          obtain ⟨a, vs, v', ea, ha, hz, hv', s2⟩ := s1.part et
          subst ea
          refine ⟨.ref a, ev, .inl ⟨a, vs, (k : Int), v', rfl, rfl, ?_, atI_nat hv', ?_⟩⟩
          · first | exact .inl ha | exact ha | exact .inl (.inl ha)
          · exact h _ H (s2.put (by rw [List.length_set]; exact hl) (g.nb hb))
        · exact h.elim
      · exact h.elim
    · exact h.elim
end
end Fy

namespace Fy
open PySem PySem.Spec PyProof.Rows L2
/-! a, b = e1, e2 by way of a tuple (names that are held by inner scopes): what one owns stays one's own -/
section
variable {X : Cx} {P : Pm} {W : WX} {bi : List Nat} {n : Nat} {ma : MA} {pos : Pos}
/-- targets that are names -/
inductive NmG (X : Cx) (bi : List Nat) : List Expr → List Nat → TGs → Prop
  | nil : NmG X bi [] [] gNil
  | cons {i : Nat} {x : Str} {p : Pos} {es : List Expr} {is : List Nat} {t : TGs} : X.N[i]? = some x → Loc X.env.scope x → (X.fn x = true ∨ X.env.scope.names.lookup x = some .local) → bi.contains i = false → (assignEach (.Name x p :: es) X.env).map (·.2) = assign (.Name x p) X.env :: (assignEach es X.env).map (·.2) → NmG X bi es is t → NmG X bi (.Name x p :: es) (i :: is) (gCons (gName i) t)
theorem NmG.pg (hN : X.N.Nodup) : ∀ {es : List Expr} {is : List Nat} {t : TGs}, NmG X bi es is t → PGs X es t
  | _, _, _, .nil => pgs_nil
  | _, _, _, .cons h1 h2 h3 _ h5 h => pgs_cons (pg_name hN h1 h2 h3) (NmG.pg hN h) h5
theorem foldl_len : ∀ (l : List (Nat × OT)) (S : Sl), (l.foldl (fun S p => S.set p.1 (some p.2)) S).length = S.length
  | [], _ => rfl
  | p :: l, S => by rw [List.foldl_cons, foldl_len l, List.length_set]
theorem NmG.go (g : Gd P W bi n X) : ∀ {es : List Expr} {is : List Nat} {t : TGs}, NmG X bi es is t → ∀ {ts : List OT} {vs : List V} {σ : L2.St} {H : Hp} {S : Sl} {tmp : Tm} {Q : L2.St → Hp → Prop}, ts.length = is.length → ts.length = vs.length → (∀ i ∈ is, i < S.length) → Sim X.K P σ H S (ts.zip vs ++ tmp) → (∀ σ', Sim X.K P σ' H ((is.zip ts).foldl (fun S p => S.set p.1 (some p.2)) S) tmp → Q σ' H) → t vs σ H Q
  | _, _, _, .nil, ts, vs, σ, H, S, tmp, Q, h1, h2, _, s, q => by
    cases ts with
    | nil =>
      cases vs with
      | nil => exact ⟨rfl, q σ s⟩
      | cons v vs => simp at h2
    | cons t ts => simp at h1
  | _, _, _, .cons (i := i) a1 a2 a3 a4 a5 h, ts, vs, σ, H, S, tmp, Q, h1, h2, h3, s, q => by
    cases ts with
    | nil => simp at h1
    | cons t ts =>
      cases vs with
      | nil => simp at h2
      | cons v vs =>
        refine ⟨v, vs, rfl, ?_⟩
        have s1 := Sim.put (i := i) s (h3 i List.mem_cons_self) (g.nb a4)
        exact NmG.go g h (by simpa using h1) (by simpa using h2) (fun j hj => by rw [List.length_set]; exact h3 j (List.mem_cons_of_mem _ hj)) s1 q
theorem sm_parT (g : Gd P W bi n X) {es ns : List Expr} {is : List Nat} {t : TGs} {kt k2 : Nat} {pt pt2 : Pos} (hn : NmG X bi ns is t) (ha : AM X P W es ma)
    (hl : (assignEach ns X.env).length = is.length := by rfl) (hst : (assignEach ns X.env).findIdx? (·.1) = none := by rfl)
    (hs : swapsWithSole [.Tuple ns kt pt] (.Tuple es k2 pt2) pos.line X.env = pure false := by rfl) (hw : swappedStores [.Tuple ns kt pt] (.Tuple es k2 pt2) X.env = pure none := by rfl) (h1 : (assignEach [.Tuple ns kt pt] X.env).map (·.2) = [assign (.Tuple ns kt pt) X.env] := by rfl) (hz : decide (is.length ≤ 1000) = true := by rfl) :
    SM X P W (.Assign [.Tuple ns kt pt] (.Tuple es k2 pt2) pos) (sPar is ma) :=
  weakS (ps_asg (pe_tup ha) (pg_tup g.calm (hn.pg g.nd) hl hst) hs hw h1) fun D σ H ⟨S, tmp, s, h⟩ => by
    refine ⟨S, tmp, s, ?_⟩
    unfold sPar at h
    cases hm : ma S with
    | stuck => rw [hm] at h; exact h
    | err x S1 => rw [hm] at h; exact h σ
    | ok ts S1 =>
      rw [hm] at h
      have h : PoS X.K P W tmp D (if ts.length = is.length ∧ is.all (fun i => decide (i < S1.length)) = true then .ok .nx ((is.zip ts).foldl (fun S p => S.set p.1 (some p.2)) S1) else .stuck) := h
      intro vs H1 hl1 s1
      split at h
      · rename_i hc
        obtain ⟨c1, c2⟩ := hc
        have hz' : is.length ≤ 1000 := of_decide_eq_true hz
        have hzv : vs.length ≤ sizeLine := Nat.le_of_lt (small1000 (by omega))
        refine ⟨hzv, fun p hp => ?_⟩
        have s2 : Sim X.K P σ (upd H1 p (.tup vs)) S1 (ts.zip vs ++ tmp) := s1.ext (same_new hp) (tabs_new hp s1.tabs)
        refine ⟨p, vs, rfl, .inl (.inl upd_same), by omega, ?_⟩
        exact NmG.go g hn c1 hl1 (fun i hi => of_decide_eq_true (List.all_eq_true.mp c2 i hi)) s2 fun σ' s3 => h σ' _ s3
      · exact h.elim
end
end Fy

namespace Fy
open PySem PySem.Spec PyProof.Rows L2

/-! ### results that hold no list but new ones -/
mutual
def noN (b : Bool) : OT → Bool
  | .leaf p => noP b p
  | .node ts => noNs b ts
  | .ins _ _ ts => noNs b ts
def noNs (b : Bool) : List OT → Bool
  | [] => true
  | t :: ts => noN b t && noNs b ts
end
section
variable {K : PySem.W.Frag} {G1 G2 H : Hp} {bb : Bool}
mutual
theorem Ro.lessN (e : ∀ b o, G1 b = some o → G2 b = some o ∨ Own bb o) : ∀ (t : OT) (v : V) (A : List Addr), noN bb t = true → Ro K G1 H t v A → Ro K G2 H t v A
  | .leaf p, _, _, q, h => by
    cases h with
    | leaf h => exact .leaf (Rp.less e p _ (by simpa [noN] using q) h)
  | .node ts, _, _, q, h => by
    cases h with
    | node h1 h2 h3 => exact .node h1 h2 (Ros.lessN e ts _ _ (by simpa [noN] using q) h3)
  | .ins c ns ts, _, _, q, h => by
    cases h with
    | ins h1 h2 h3 => exact .ins h1 h2 (Ros.lessN e ts _ _ (by simpa [noN] using q) h3)
theorem Ros.lessN (e : ∀ b o, G1 b = some o → G2 b = some o ∨ Own bb o) : ∀ (ts : List OT) (vs : List V) (A : List Addr), noNs bb ts = true → Ros K G1 H ts vs A → Ros K G2 H ts vs A
  | [], _, _, _, h => by cases h; exact .nil
  | t :: ts, _, _, q, h => by
    cases h with
    | cons h1 h2 =>
      have q' : noN bb t = true ∧ noNs bb ts = true := by simpa [noNs] using q
      exact .cons (Ro.lessN e t _ _ q'.1 h1) (Ros.lessN e ts _ _ q'.2 h2)
end
end
section
variable {K : PySem.W.Frag} {P : Pm} {σ : L2.St} {H : Hp} {S : Sl} {tmp : Tm}
theorem Sim.ice2 (s : Sim K P σ H S tmp) : ∃ G1, Sim K (PmF P G1 H) σ H (frS S) [] ∧ ∀ H2 S2 (ts : List OT) (vs : List V), ts.length = vs.length → Sim K (PmF P G1 H) σ H2 S2 (ts.zip vs) → noNs (okS S) ts = true → Sim K P σ H2 S (ts.zip vs ++ tmp) := by
  obtain ⟨⟨G, A, B, e0, e1, r1, r2, nd, fr⟩, kp, tb, by_⟩ := s
  have eG := frzG_same (A := A) e1
  have frA : ∀ a ∈ A, Mine P a := fun a ha => (fr a (List.mem_append_left _ ha)).2
  refine ⟨frzG G H A, ⟨⟨frzG G H A, [], [], ⟨Same.refl _, fun _ _ h => .inl h, (e0.frz e1 frA (rsl_at r1)).3⟩, frzG_le e1, rsl_frS eG r1 (fun a ha => frzG_at ha), .nil, by simp, fun a ha => by simp at ha⟩, Kp.refl, tb, by_⟩, fun H2 S2 ts vs hl s2 hn => ?_⟩
  obtain ⟨⟨G2, A2, B2, f0, f1, q1, q2, nd2, fr2⟩, kp2, tb2, _⟩ := s2
  rw [zip_fst hl, zip_snd hl] at q2
  have ownA : ∀ a ∈ A, ∃ o, H a = some o ∧ Own (okS S) o := fun a ha => rsl_at r1 a ha
  have own : ∀ a ∈ A ++ B, ∃ o, H a = some o ∧ ∀ ps, o ≠ .tbl ps := fun a ha => by
    rcases List.mem_append.mp ha with z | z
    · obtain ⟨o, h, w⟩ := ownA a z
      exact ⟨o, h, w.nt⟩
    · obtain ⟨o, h, w⟩ := ros_at _ _ _ r2 a z
      exact ⟨o, h, w.nt⟩
  have keep : ∀ a ∈ A ++ B, H2 a = H a := fun a ha => by
    obtain ⟨o, h, w⟩ := own a ha
    rw [h]
    exact kp2 a o h w (by simp [PmF])
  have notMine : ∀ b ∈ A ++ B, ¬ Mine (PmF P (frzG G H A) H) b := fun b hb m => by
    obtain ⟨o, h, w⟩ := own b hb
    rcases m with m | m
    · simp [PmF] at m
    · obtain ⟨ps, e⟩ := m o h
      exact w ps e
  have mine : ∀ b, Mine (PmF P (frzG G H A) H) b → Mine P b := fun b m => by
    rcases m with m | m
    · simp [PmF] at m
    · by_cases hm : b ∈ P.M
      · exact .inl hm
      · refine .inr fun o q => ?_
        by_cases ht : ∃ ps, o = .tbl ps
        · exact ht
        · exact m o (kp b o q (fun ps z => ht ⟨ps, z⟩) hm)
  have disj : ∀ a ∈ B2, a ∉ A ++ B := fun a ha z => notMine a z (fr2 a (List.mem_append_right _ ha)).2
  let G3 : Hp := fun b => if b ∈ A ++ B then none else G2 b
  have g3 : Same G3 G2 := fun b o q => by
    have q' : (if b ∈ A ++ B then none else G2 b) = some o := q
    split at q'
    · cases q'
    · exact q'
  have gg3 : Same G G3 := fun b o q => by
    show (if b ∈ A ++ B then none else G2 b) = some o
    rw [if_neg (fun z => by rw [(fr b z).1] at q; cases q)]
    exact f0.1 b o (eG b o q)
  have less : ∀ b o, G2 b = some o → G3 b = some o ∨ Own (okS S) o := fun b o q => by
    by_cases hb : b ∈ A ++ B
    · right
      rcases List.mem_append.mp hb with z | z
      · obtain ⟨o', h, w⟩ := ownA b z
        have := f1 b o q
        rw [keep b hb, h] at this
        rw [← Option.some.inj this]
        exact w
      · -- what is on the pile is in no frozen heap
        exfalso
        rcases f0.2 b o q with y | y
        · have y' : frzG G H A b = some o := y
          by_cases hA : b ∈ A
          · exact (List.nodup_append.mp nd).2.2 b hA b z rfl
          · rw [frzG_out hA, (fr b hb).1] at y'
            cases y'
        · exact notMine b hb y
    · left
      show (if b ∈ A ++ B then none else G2 b) = some o
      rw [if_neg hb]
      exact q
  have pm : (A ++ (B2 ++ B)).Perm (B2 ++ (A ++ B)) := by
    rw [← List.append_assoc, ← List.append_assoc]
    exact List.perm_append_comm.append_right _
  refine ⟨⟨G3, A, B2 ++ B, ⟨e0.1.trans gg3, fun b o q => ?_, fun b ps q => f0.3 b ps (g3 b _ q)⟩, g3.trans f1, r1.mono gg3 (fun a ha => keep a (List.mem_append_left _ ha)), ?_, ?_, fun a ha => ?_⟩, fun b o q nt nm => ?_, tb2, by_⟩
  · have hb : b ∉ A ++ B := fun hb => by
      have q' : (if b ∈ A ++ B then none else G2 b) = some o := q
      rw [if_pos hb] at q'
      cases q'
    rcases f0.2 b o (g3 b o q) with z | z
    · have z' : frzG G H A b = some o := z
      rw [frzG_out (fun y => hb (List.mem_append_left _ y))] at z'
      exact e0.2 b o z'
    · exact .inr (mine b z)
  · refine ros_join ?_ (Ros.mono gg3 _ _ _ (fun a ha => keep a (List.mem_append_right _ ha)) r2)
    rw [zip_fst hl, zip_snd hl]
    exact Ros.lessN less _ _ _ hn q2
  · refine pm.symm.nodup (List.nodup_append.mpr ⟨(List.nodup_append.mp nd2).2.1, nd, fun a ha b hb e => ?_⟩)
    subst e
    exact disj a ha hb
  · rcases List.mem_append.mp (pm.mem_iff.mp ha) with z | z
    · refine ⟨?_, mine a (fr2 a (List.mem_append_right _ z)).2⟩
      show (if a ∈ A ++ B then none else G2 a) = none
      rw [if_neg (disj a z)]
      exact (fr2 a (List.mem_append_right _ z)).1
    · exact ⟨if_pos z, (fr a z).2⟩
  · exact kp2 b o (kp b o q nt nm) nt (by simp [PmF])
end
/-- worked out on frozen copies: the slots are as they were -/
def eIce (m : ME) : ME := fun S => match m (frS S) with
  | .ok t _ => if noN (okS S) t = true then .ok t S else .stuck
  | _ => .stuck
section
variable {X : Cx} {P : Pm} {W : WX} {e : Expr} {m : ME} {mt : MT} {bi : List Nat} {n : Nat} {pos : Pos}
theorem em_ice (g : Gd P W bi n X) (hm : ∀ P', Gd P' Wno bi n X → P'.T = P.T → P'.rp = P.rp → EM X P' Wno e m) : EM X P W e (eIce m) := ⟨fun pins s σ H Q I ⟨S, tmp, sm, h⟩ => by
  obtain ⟨G1, s1, f⟩ := sm.ice2
  refine (hm _ (g.ice G1 H) rfl rfl).run pins s σ H Q I ⟨_, [], s1, ?_⟩
  unfold eIce at h
  cases em : m (frS S) with
  | stuck => simp only [em] at h; exact h
  | err x S1 => simp only [em] at h; exact h.elim
  | ok t S1 =>
    simp only [em] at h
    intro v H2 s2
    by_cases hn : noN (okS S) t = true
    · rw [if_pos hn] at h
      exact h v H2 (f H2 S1 [t] [v] rfl s2 (by show (noN _ t && true) = true; rw [hn]; rfl))
    · rw [if_neg hn] at h
      exact h.elim⟩
/-- a name read for the last time: what it holds is handed on -/
def eMv (i : Nat) : ME := fun S => match S[i]? with
  | some (some t) => .ok t (S.set i none)
  | _ => .stuck
theorem em_mv (i : Nat) {x : Str} {pos : Pos} (hN : X.N[i]? = some x := by rfl) (hv : Vis X.env.scope x := by first | exact Or.inl rfl | exact Or.inr (Or.inl rfl) | exact Or.inr (Or.inr rfl)) (hd : (x == ("__debug__" : Str)) = false := by decide)
    (hcd : (x == ("__classdict__" : Str)) = false := by decide) : EM X P W (.Name x pos) (eMv i) := weakE (pe_var hN hv hd hcd) fun σ H Q ⟨S, tmp, s, q⟩ => by
  unfold eMv at q
  split at q
  · rename_i t e
    obtain ⟨v, ev, s'⟩ := s.take e
    exact ⟨v, ev, q v H s'⟩
  · exact q.elim
/-! ### names that hold defs -/
def slL (l : List (Str × (List OT → FR))) (f : Str) : Option (List OT → FR) := match l with
  | [] => none
  | p :: r => if f = p.1 then some p.2 else slL r f
theorem held_nil {T : List (Addr × Str)} {rp : Bool} {n k : Nat} : ∀ f run, slL [] f = some run → HeldG X T rp n k f run := fun f run h => by cases h
theorem held_cons {T : List (Addr × Str)} {n k k1 : Nat} {x : Str} {params : Arguments} {ps : List Str} {run1 : List OT → FR} {l : List (Str × (List OT → FR))} (C : Cal false X.prog X.w X.K X.mg X.base T x params ps k1 [] run1) (hn : ps.length = n) (hk : k1 ≤ k) (r : ∀ f run, slL l f = some run → HeldG X T false n k f run) : ∀ f run, slL ((x, run1) :: l) f = some run → HeldG X T false n k f run := fun f run h => by
  unfold slL at h
  split at h
  · rename_i e
    have h := Option.some.inj h
    subst h
    have e : f = x := e
    subst e
    obtain ⟨⟨fd, body, scope, F, G, b⟩, m⟩ := C
    exact ⟨⟨fd, ps, hn, G.mono hk, F.kp, b⟩⟩
  · exact r f run h
end
end Fy

namespace Fy
open PySem PySem.Spec PyProof.Rows L2

/-! ### computed facts of the written part -/
theorem bAnd {a b : Bool} (h : (a && b) = true) : a = true ∧ b = true := Bool.and_eq_true_iff.mp h
def clsB (K : PySem.W.Frag) (C : Addr) : Bool := PySem.W.plainGet K C Str.empty && (PySem.W.hasDictIn K C && (PySem.W.plainOver K C && decide (PySem.W.findIn K (.ref C) "__setattr__" = some (some (.builtin "object.__setattr__")))))
theorem clsB_ok {K : PySem.W.Frag} {C : Addr} (h : clsB K C = true) : Cls K C := ⟨(bAnd h).1, (bAnd (bAnd h).2).1, (bAnd (bAnd (bAnd h).2).2).1, of_decide_eq_true (bAnd (bAnd (bAnd h).2).2).2⟩
def insB (K : PySem.W.Frag) (C : Addr) : Bool := clsB K C && (decide (PySem.W.findIn K (.ref C) "__class__" = some (some (.builtin "object.__class__"))) && (decide (PySem.W.specialIn K (.builtin "object.__class__") "__get__" = some (some (.builtin "getset_descriptor.__get__"))) && (decide (PySem.W.takesIn K (.builtin "object.__class__") = some true) && decide (PySem.W.mroIn K C (.type "object") = some true))))
theorem insB_ok {K : PySem.W.Frag} {c : Str} (h : insB K (He.ga K c) = true) : InsC K c := by
  obtain ⟨h1, h⟩ := bAnd h
  obtain ⟨h2, h⟩ := bAnd h
  obtain ⟨h3, h⟩ := bAnd h
  obtain ⟨h4, h5⟩ := bAnd h
  exact ⟨clsB_ok h1, of_decide_eq_true h2, of_decide_eq_true h3, of_decide_eq_true h4, of_decide_eq_true h5⟩
def tabIB (K : PySem.W.Frag) (tab : List (Ty × Ty × Bool)) : Bool := tab.all fun x => decide (PySem.W.kitOne K (tyVal K x.1) (tyVal K x.2.1) = some x.2.2) && (match x.1 with
  | .o c => insB K (He.ga K c)
  | .b _ => true)
theorem tabIB_ok {K : PySem.W.Frag} {tab : List (Ty × Ty × Bool)} (h : tabIB K tab = true) : TabI K tab := by
  have h' := List.all_eq_true.mp h
  refine ⟨fun x hx => of_decide_eq_true (bAnd (h' x hx)).1, fun x hx c e => ?_⟩
  have z := (bAnd (h' x hx)).2
  rw [e] at z
  exact insB_ok z
def excB (K : PySem.W.Frag) (D : Addr) : Bool := xfB K D && (decide (PySem.W.findIn K (.ref D) "__class__" = some (some (.builtin "object.__class__"))) && (decide (PySem.W.specialIn K (.builtin "object.__class__") "__get__" = some (some (.builtin "getset_descriptor.__get__"))) && (decide (PySem.W.takesIn K (.builtin "object.__class__") = some true) && decide (PySem.W.mroIn K D (.type "object") = some true))))
theorem excB_ok {K : PySem.W.Frag} {D : Addr} (h : excB K D = true) : ExcD K D := by
  obtain ⟨h1, h⟩ := bAnd h
  obtain ⟨h2, h⟩ := bAnd h
  obtain ⟨h3, h⟩ := bAnd h
  obtain ⟨h4, h5⟩ := bAnd h
  have x := xfB_ok h1
  exact ⟨⟨x.ga, x.gg, x.exC, x.hdC, of_decide_eq_true h2, of_decide_eq_true h3, of_decide_eq_true h4, of_decide_eq_true h5⟩, x⟩
def txB (K : PySem.W.Frag) (exs fs : List Str) (tx : List (Str × Ty × Bool)) : Bool := exs.all (fun c => excB K (He.ga K c) && fs.all fun f => decide (PySem.W.findIn K (.ref (He.ga K c)) f = some none)) && tx.all fun p => decide (PySem.W.exmOne K (.ref (He.ga K p.1)) (tyVal K p.2.1) = some p.2.2) && decide (PySem.W.kitOne K (.ref (He.ga K p.1)) (tyVal K p.2.1) = some p.2.2)
theorem txB_ok {K : PySem.W.Frag} {exs fs : List Str} {tx : List (Str × Ty × Bool)} (h : txB K exs fs tx = true) : TabX K exs fs tx := by
  obtain ⟨h1, h2⟩ := bAnd h
  have h1' := List.all_eq_true.mp h1
  have h2' := List.all_eq_true.mp h2
  exact ⟨fun c hc => excB_ok (bAnd (h1' c hc)).1, fun c hc f hf => of_decide_eq_true (List.all_eq_true.mp (bAnd (h1' c hc)).2 f hf), fun p hp => ⟨of_decide_eq_true (bAnd (h2' p hp)).1, of_decide_eq_true (bAnd (h2' p hp)).2⟩⟩
/-- the tables of the defs that make lambdas: no two are one -/
def tblB (K : PySem.W.Frag) (xs : List Str) : Bool := decide ((xs.map fun x => He.tabOf K (He.codeOf K (x, none))).Nodup)
abbrev lamQ (x : Str) : Str := (x ++ ".<locals>.") ++ "<lambda>"
def lamTs (K : PySem.W.Frag) (xs : List Str) : List (Addr × Str) := xs.map fun x => (He.tabOf K (He.codeOf K (x, none)), lamQ x)
theorem lamT_of {K : PySem.W.Frag} {mg : Str → Option Value} {base : Heap} {xs : List Str} (hn : tblB K xs = true) (hT : ∀ x ∈ xs, LamX.TabB base mg (He.codeOf K (x, none)) (He.tabOf K (He.codeOf K (x, none)))) {x : Str} (hx : x ∈ xs) : LamT K mg base (lamTs K xs) x (lamQ x) := by
  refine ⟨hT x hx, List.mem_map.mpr ⟨x, hx, rfl⟩, fun p hp e => ?_⟩
  obtain ⟨y, hy, rfl⟩ := List.mem_map.mp hp
  have nd : (xs.map fun x => He.tabOf K (He.codeOf K (x, none))).Nodup := of_decide_eq_true hn
  have e : He.tabOf K (He.codeOf K (y, none)) = He.tabOf K (He.codeOf K (x, none)) := e
  have : y = x := by
    have inj : ∀ (l : List Str), (l.map fun x => He.tabOf K (He.codeOf K (x, none))).Nodup → ∀ a ∈ l, ∀ b ∈ l, He.tabOf K (He.codeOf K (a, none)) = He.tabOf K (He.codeOf K (b, none)) → a = b := by
      intro l
      induction l with
      | nil => intro _ a ha; simp at ha
      | cons c r ih =>
        intro nd a ha b hb e
        have nd' := List.nodup_cons.mp (show (He.tabOf K (He.codeOf K (c, none)) :: r.map fun x => He.tabOf K (He.codeOf K (x, none))).Nodup from nd)
        have out : ∀ z ∈ r, He.tabOf K (He.codeOf K (z, none)) ≠ He.tabOf K (He.codeOf K (c, none)) := fun z hz q => nd'.1 (by rw [← q]; exact List.mem_map.mpr ⟨z, hz, rfl⟩)
        rcases List.mem_cons.mp ha with h1 | h1 <;> rcases List.mem_cons.mp hb with h2 | h2
        · rw [h1, h2]
        · rw [h1] at e; exact absurd e.symm (out b h2)
        · rw [h2] at e; exact absurd e (out a h1)
        · exact ih nd'.2 a h1 b h2 e
    exact inj xs nd y hy x hx e
  subst this
  rfl

/-! ### the law is called -/
section
variable {Pr : Program} {w : World} {K : PySem.W.Frag} {mg mb : Str → Option Value} {k : Nat} {fa a : Addr} {cs : List (Addr × Addr)} {fd : FuncData} {x : Str} {T : List (Addr × Str)} {run : List OT → FR} {s : Shared} {vs : List Value} {ns : List Int}
/-- the script and the tables, nothing else -/
def law0 (K : PySem.W.Frag) (a : Addr) (ts : List Addr) (o : Obj) (us : List V) : Hp := fun b => if b ∈ ts then some (.tbl #[]) else if b = a ∧ K.lookup a = none then some (.frz o (.lst us)) else none
theorem law_run (KX : K.In s.heap) (hns : s.heap.Ns mainGlobals mg) (hbn : s.heap.Ns builtinsNs mb) (hbb : ∀ x : Str, x ≠ "__name__" → mb x = bootBuiltins x) (hlim : s.heap.NoLimit) (hgn : s.gens = #[])
    (tabs : ∀ p ∈ cs, s.heap.get? p.2 = some { cls := .none, data := .fields #[] } ∧ K.lookup p.2 = none ∧ PySem.W.CodeHd s.heap p.1 p.2)
    (hbm : ∃ (bm : Addr) (ob : Obj), mg "__builtins__" = some (.ref bm) ∧ bm ≠ builtinsNs ∧ s.heap.get? bm = some ob ∧ ob.cls = .type "module" ∧ ob.dict = some builtinsNs ∧ ob.data = .plain)
    (ha : s.heap.get? a = some { cls := .type "list", data := .seq vs.toArray }) (hi : IntsAre vs ns) (hl : ns.length ≤ sizeLine) (hr : Room k callerA) (hT : ∀ p ∈ T, p.1 ∈ cs.map (·.2))
    (F : ∀ base : Heap, K.In base → base.Ns mainGlobals mg → (∀ p ∈ cs, LamX.TabB base mg p.1 p.2) → FnG true Pr w K mg base k fa fd [x] (spM K T 1 [] run)) (hbind : ∀ (s : Shared) (u : Value), BindsTo s fd ⟨[u], []⟩ [(x, u)])
    (hrun : run [.leaf (.rls (ns.map .int))] = .ok (.leaf (.bl true)) []) :
    codeAny (model Pr w) callerA (.call (.ref fa) ⟨[.ref a], []⟩) (fun r s' => r = .ok (.ret (.bool true)) ∧ OldK s.heap s'.heap ∧ s'.os = s.os ∧ AllBare s'.gens) s := by
  have rv := vals_ints hi
  have el := hi.length
  let ts := cs.map (·.2)
  let so : Obj := { cls := .type "list", data := .seq vs.toArray }
  let H := law0 K a ts so (ns.map V.int)
  have tat : ∀ b ∈ ts, s.heap.get? b = some { cls := .none, data := .fields #[] } ∧ K.lookup b = none := fun b hb => by
    obtain ⟨p, hp, rfl⟩ := List.mem_map.mp hb
    exact ⟨(tabs p hp).1, (tabs p hp).2.1⟩
  have anot : a ∉ ts := fun z => by
    have q := (tat a z).1
    rw [ha] at q
    cases q
  have Hts : ∀ b ∈ ts, H b = some (.tbl #[]) := fun b hb => if_pos hb
  have Hcase : ∀ b u, H b = some u → (b ∈ ts ∧ u = .tbl #[]) ∨ (b = a ∧ K.lookup a = none ∧ u = .frz so (.lst (ns.map V.int))) := fun b u q => by
    have q : law0 K a ts so (ns.map V.int) b = some u := q
    unfold law0 at q
    split at q
    · rename_i hb
      exact .inl ⟨hb, (Option.some.inj q).symm⟩
    · split at q
      · rename_i hb
        exact .inr ⟨hb.1, hb.2, (Option.some.inj q).symm⟩
      · cases q
  have Hoff : ∀ b o, s.heap.get? b = some o → (∀ us n, o.data ≠ .seq us n) → o.data ≠ .fields #[] → H b = none := fun b o e h1 h2 => by
    cases q : H b with
    | none => rfl
    | some u =>
      rcases Hcase b u q with ⟨hb, _⟩ | ⟨hb, _⟩
      · rw [(tat b hb).1] at e
        cases e
        exact absurd rfl h2
      · rw [hb, ha] at e
        cases e
        exact absurd rfl (h1 _ _)
  have Hns : ∀ {b : Addr} {m : Str → Option Value}, s.heap.Ns b m → (hidT s.heap H).Ns b m := fun {b m} ⟨o, es, ep, e, d, r⟩ =>
    ⟨o, es, ep, hidT_get e (Hoff b o e (fun us n z => by rw [d] at z; cases z) fun z => by rw [d] at z; cases z), d, r⟩
  have HK : K.In (hidT s.heap H) := fun b o e => hidT_get (KX b o e) (by
    cases q : H b with
    | none => rfl
    | some u =>
      rcases Hcase b u q with ⟨hb, _⟩ | ⟨hb, hk, _⟩
      · rw [(tat b hb).2] at e
        cases e
      · rw [hb, hk] at e
        cases e)
  have hS : SqL K H a (ns.map V.int) := by
    cases hk : K.lookup a with
    | some o =>
      have e := KX a o hk
      rw [ha] at e
      cases e
      exact .inr ⟨_, vs.toArray, _, hk, rfl, rfl, rfl, by rw [List.size_toArray, el]; exact hl, by simpa using rv⟩
    | none =>
      refine .inl (.inr ⟨so, ?_⟩)
      show law0 K a ts so (ns.map V.int) a = _
      unfold law0
      rw [if_neg anot, if_pos ⟨rfl, hk⟩]
  have hok : HOk Pr w H s.heap := fun b u q => by
    rcases Hcase b u q with ⟨hb, rfl⟩ | ⟨rfl, _, rfl⟩
    · exact (tat b hb).1
    · exact ⟨ha, by rw [List.length_map]; exact hl, vs, _, rv, ha⟩
  have TB : ∀ p ∈ cs, LamX.TabB (hidT s.heap H) mg p.1 p.2 := fun p hp => by
    obtain ⟨hp1, _, hp3⟩ := tabs p hp
    refine ⟨?_, ?_, fun z => ?_⟩
    · obtain ⟨o, us, file, tf, flags, tg, inF, text, tt, e1, r1, r2, r3, rest⟩ := hp3
      refine ⟨o, us, file, tf, flags, tg, inF, text, tt, hidT_get e1 (Hoff _ o e1 (fun _ _ z => by rw [r2] at z; cases z) fun z => ?_), r1, r2, r3, rest⟩
      rw [r2] at z
      cases z
      simp at r3
    · obtain ⟨bm, ob, b1, b2, b3, b4, b5, b6⟩ := hbm
      refine ⟨bm, ob, b1, b2, fun q => ?_, fun q => ?_, hidT_get b3 (Hoff bm ob b3 (fun _ _ z => by rw [b6] at z; cases z) fun z => by rw [b6] at z; cases z), b4, b5, b6⟩
      · obtain ⟨o, es, ep, e, hd, _⟩ := hns
        rw [q, e] at b3
        cases b3
        rw [hd] at b6
        cases b6
      · rw [q, hp1] at b3
        cases b3
        cases b6
    · obtain ⟨o, es, ep, e, hd, _⟩ := hns
      rw [z, hp1] at e
      cases e
      cases hd
  have hM : L2.Mod K mg (hidT s.heap H) := ⟨HK, Hns hns, ⟨mb, Hns hbn, hbb⟩, let ⟨mc, h1, h2⟩ := hlim; ⟨mc, Hns h1, h2⟩⟩
  have e0 : Env0 Pr w K mg (hidT s.heap H) callerA [] s H := ⟨rfl, hM, fun b o e => of_hidT e, by rw [hidT_size]; exact Nat.le_refl _, trivial, fun b hb => absurd hb (by simp [frs]), hok, .of_eq hgn⟩
  let G : Hp := fun b => if b ∈ ts then none else H b
  have GH : Same G H := fun b o q => by
    have q : (if b ∈ ts then none else H b) = some o := q
    split at q
    · cases q
    · exact q
  have Gnt : NT G := fun b ps q => by
    have q : (if b ∈ ts then none else H b) = some _ := q
    split at q
    · cases q
    · rename_i hb
      rcases Hcase b _ q with ⟨h, _⟩ | ⟨_, _, h⟩
      · exact hb h
      · cases h
  have GS : SqL K G a (ns.map V.int) := by
    have ge : G a = H a := if_neg anot
    rcases hS with (h | ⟨o, h⟩) | h
    · exact .inl (.inl (ge.trans h))
    · exact .inl (.inr ⟨o, ge.trans h⟩)
    · exact .inr h
  have rpI : ∀ l : List Int, Rps K G (l.map PV.int) (l.map V.int) := fun l => by
    induction l with
    | nil => exact .nil
    | cons i r ih => exact .cons (.int i) ih
  have tabsH : LamX.Tabs T H := fun p hp => LamX.TabS.nil (Hts _ (hT p hp))
  have spL : spM K T 1 [] run [.ref a] H (fun v _ => v = .bl true) (fun _ _ _ => False) := by
    refine ⟨G, [.leaf (.rls (ns.map .int))], [], rfl, Gnt, GH, .cons (A := []) (B := []) (.leaf (.rls GS (by simpa using hl) (rpI ns))) .nil, List.nodup_nil, fun _ h => absurd h (by simp), tabsH, ?_⟩
    rw [hrun]
    intro v H' G' A' Ar _ ro
    cases ro with
    | leaf h =>
      cases h
      rfl
  refine codeAny_mono ((F _ HK (Hns hns) TB).run callerA [] s H ⟨[.ref a], []⟩ [.ref a] [.ref a] _ _ hr (fun _ => rfl) e0 (hbind s (.ref a)) (.cons rfl .nil) spL) fun r s' h => ?_
  cases r with
  | error e =>
    obtain ⟨_, _, _, _, _, _, _, _, _, _, _, _, h⟩ := h
    exact h.elim
  | ok fl =>
    cases fl with
    | next => exact False.elim h
    | brk => exact False.elim h
    | cont => exact False.elim h
    | ret u =>
      obtain ⟨v, H', os, bare, un, hok', r', q⟩ := h
      have q : v = .bl true := q
      subst q
      obtain rfl : u = Value.bool true := r'
      have grown : ∀ b ∈ ts, ∃ more : Array Value, s'.heap.get? b = some { cls := .none, data := .fields more } := fun b hb => by
        obtain ⟨more, z⟩ := un.tbls b #[] (Hts b hb)
        exact ⟨_, hok' b _ z⟩
      have stays : ∀ b o, b ∉ ts → s.heap.get? b = some o → s'.heap.get? b = some o := fun b o nb e => by
        cases q : H b with
        | none => exact un.keep b o e q (by intro z; cases z) (by simp)
        | some u =>
          rcases Hcase b u q with ⟨hb, _⟩ | ⟨_, _, rfl⟩
          · exact absurd hb nb
          · have z1 := (hok b _ q).1
            have z2 := (hok' b _ (un.frzs b _ _ q)).1
            rw [e] at z1
            cases z1
            exact z2
      refine ⟨rfl, ⟨fun b o e => ?_, fun b o e => ?_⟩, os, bare⟩
      · by_cases hb : b ∈ ts
        · obtain ⟨p, hp, ep⟩ := List.mem_map.mp hb
          obtain ⟨more, hm⟩ := grown b hb
          have h0 := (tat b hb).1
          rw [h0] at e
          cases e
          have hc := (tabs p hp).2.2
          rw [ep] at hc
          exact .inr (.inl ⟨(hc.tab h0).isCodeTable, rfl, #[], more, rfl, by rw [Array.empty_append]; exact hm⟩)
        · exact .inl (stays b o hb e)
      · by_cases hb : b ∈ ts
        · obtain ⟨more, hm⟩ := grown b hb
          exact ⟨_, hm⟩
        · exact ⟨o, stays b o hb e⟩
end
/-- what the head tells of a law -/
def LawFor (l : PySem.W.OpenLaw) (w : World) (K : PySem.W.Frag) (k : Nat) (x : Str) (mg : Str → Option Value) (fa : Addr) (h : Heap) (run : List OT → FR) : Prop :=
  ∃ (fd : FuncData) (cs : List (Addr × Addr)) (T : List (Addr × Str)), (∀ p ∈ cs, h.get? p.2 = some { cls := .none, data := .fields #[] } ∧ K.lookup p.2 = none ∧ PySem.W.CodeHd h p.1 p.2) ∧ (∀ p ∈ T, p.1 ∈ cs.map (·.2)) ∧ (∀ (s : Shared) (u : Value), BindsTo s fd ⟨[u], []⟩ [(x, u)]) ∧
    ∀ base : Heap, K.In base → base.Ns mainGlobals mg → (∀ p ∈ cs, LamX.TabB base mg p.1 p.2) → FnG true l.prog w K mg base k fa fd [x] (spM K T 1 [] run)
theorem end_law {l : PySem.W.OpenLaw} {n k : Nat} {q : Program} {loose : List Str} {XP : (Str → Option Value) → Heap → Prop} {YP : World → Heap → Prop} {d : DefRec} {x : Str} {run : List OT → FR}
    (hn : l.most = some n) (hn2 : n ≤ sizeLine) (hdf : d.params.defaults = []) (hr : Room k callerA)
    (F : ∀ (w : World) (mg : Str → Option Value) (fa : Addr) (h : Heap), YP w h → h.Ns mainGlobals mg → mg d.name = some (.ref fa) → ∃ K : PySem.W.Frag, K.In h ∧ LawFor l w K k x mg fa h run)
    (hrun : ∀ ns : List Int, ns.length ≤ n → (∀ z ∈ ns, Builtin.Int.intBits z ≤ 1048576) → run [.leaf (.rls (ns.map .int))] = .ok (.leaf (.bl true)) []) :
    PySem.W.WalkO q loose XP YP l.row.toRowW d [] (fun f vs => PySem.call f vs) := by
  refine Att.attach_callB hn hdf fun w s₀ s₁ mg mb fa o pm cd doc a vs ns G Y ho hd hcd hmg hobj hints hlen hbits hg => ?_
  obtain ⟨K, KX, fd, cs, T, tabs, hT, hb, hF⟩ := F w mg fa _ Y G.T.g hmg
  exact law_run KX G.T.g G.T.b G.T.builtins G.T.nolimit hg tabs G.T.bmain hobj hints (Nat.le_trans hlen hn2) hr hT hF hb (hrun ns hlen hbits)
end Fy

namespace Pg
open PySem Fy
def tabB : List (Ty × Ty × Bool) := [(.b "NoneType", .b "list", false), (.b "NoneType", .b "tuple", false), (.b "NoneType", .b "int", false), (.b "NoneType", .b "bool", false), (.b "NoneType", .b "str", false), (.b "bool", .b "list", false), (.b "bool", .b "tuple", false), (.b "bool", .b "int", true), (.b "bool", .b "bool", true), (.b "bool", .b "str", false), (.b "int", .b "list", false), (.b "int", .b "tuple", false), (.b "int", .b "int", true), (.b "int", .b "bool", false), (.b "int", .b "str", false), (.b "str", .b "list", false), (.b "str", .b "tuple", false), (.b "str", .b "int", false), (.b "str", .b "bool", false), (.b "str", .b "str", true), (.b "tuple", .b "list", false), (.b "tuple", .b "tuple", true), (.b "tuple", .b "int", false), (.b "tuple", .b "bool", false), (.b "tuple", .b "str", false), (.b "list", .b "list", true), (.b "list", .b "tuple", false), (.b "list", .b "int", false), (.b "list", .b "bool", false), (.b "list", .b "str", false)]
def tab_Merger : List (Ty × Ty × Bool) := [(.b "NoneType", .o "Merger", false), (.b "bool", .o "Merger", false), (.b "int", .o "Merger", false), (.b "str", .o "Merger", false), (.b "tuple", .o "Merger", false), (.b "list", .o "Merger", false), (.o "Merger", .o "Merger", true)]
def m_is_sequence : MS := (sR (e1 (fIsiT tabB [(.b "list"), (.b "tuple")]) (eV 0)))
abbrev run_is_sequence : List OT → FR := runB 1 [] m_is_sequence
def m_is_row : MS := (sR (eAnd (eCall 1 [] (run_is_sequence) (rV (eV 0) rN)) (eCh pLe pLe (eV 1) (eN fLen (aC (eV 0) aN)) (eV 2))))
abbrev run_is_row : List OT → FR := runB 3 [] m_is_row
def m_is_whole : MS := (sR (eAnd (e1 (fIsi tabB (.b "int")) (eV 0)) (eNot (e1 (fIsi tabB (.b "bool")) (eV 0)))))
abbrev run_is_whole : List OT → FR := runB 1 [] m_is_whole
def m_is_below : MS := (sR (eAnd (eCall 1 [] (run_is_whole) (rV (eV 0) rN)) (eCh pLe pLt (eC (.int 0)) (eV 0) (eV 1))))
abbrev run_is_below : List OT → FR := runB 2 [] m_is_below
def m_queue_of_1 : MS := (sIf (tNotM (tV (eCall 2 [] (run_is_below) (rV (eV 3) (rV (eV 0) rN))))) (sRaise "BadQueue" ["at"] (aC (eV 2) aN)) sN)
def m_queue_of_2 : MS := (sS (sFor (iN fEn (aC (eV 1) aN)) (gT 2 (gsC (gN 2) (gsC (gN 3) gsN))) m_queue_of_1)
  (sR (eN fTup (aC (eV 1) aN))))
def m_queue_of : MS := (sS (sIf (tNotM (tV (eCall 3 [] (run_is_row) (rV (eV 1) (rV (eC (.int 0)) (rV (eC (.int 10000)) rN)))))) (sRaise "BadQueue" ["at"] (aC (eC (.int (-1))) aN)) sN)
  m_queue_of_2)
abbrev run_queue_of : List OT → FR := runB 4 [] m_queue_of
def m_is_end : MS := (sR (eOr (e2 pIs (eV 0) (eC .non)) (eAnd (eCall 1 [] (run_is_whole) (rV (eV 0) rN)) (eCh pLe pLt (eC (.int (-1))) (eV 0) (eV 1)))))
abbrev run_is_end : List OT → FR := runB 2 [] m_is_end
def m_bad_row_1 : MS := (sIf (tNotM (tV (eN (fAll fun bs => bs.all id) (aC (eLc (mSeq (eV 2)) (gN 3) mYes (eCall 2 [] (run_is_end) (rV (eV 3) (rV (eN fLen (aC (eV 0) aN)) rN))) [3]) aN)))) (sR (eV 1)) sN)
def m_bad_row_2 : MS := (sS (sIf (tNotM (tV (eCall 3 [] (run_is_row) (rV (eV 2) (rV (eN fLen (aC (eV 0) aN)) (rV (eN fLen (aC (eV 0) aN)) rN)))))) (sR (eV 1)) sN)
  m_bad_row_1)
def m_bad_row_3 : MS := (sS (sFor (iN fEn (aC (eV 0) aN)) (gT 2 (gsC (gN 1) (gsC (gN 2) gsN))) m_bad_row_2)
  (sR (eC .non)))
def m_bad_row : MS := (sS (sIf (tNotM (tV (eCall 3 [] (run_is_row) (rV (eV 0) (rV (eC (.int 1)) (rV (eC (.int 12)) rN)))))) (sR (eC (.int (-1)))) sN)
  m_bad_row_3)
abbrev run_bad_row : List OT → FR := runB 4 [] m_bad_row
def m_left_of_1 : MS := (sR (e2 pIx (e2 pIx (eV 0) (eV 1)) (eV 2)))
def m_left_of_2 : MS := (sS (sIf (tV (e2 pEq (eV 2) (eC (.int (-1))))) (sR (eV 1)) sN)
  m_left_of_1)
def m_left_of : MS := (sS (sIf (tV (e2 pEq (eV 1) (eC (.int (-1))))) (sR (eV 2)) sN)
  m_left_of_2)
abbrev run_left_of : List OT → FR := runB 3 [] m_left_of
def m_unsound_three_1 : MS := (sIf (tV (e2 pNe (eCall 3 [] (run_left_of) (rV (eV 0) (rV (eV 4) (rV (eV 5) rN)))) (eCall 3 [] (run_left_of) (rV (eV 0) (rV (eV 1) (rV (eV 6) rN)))))) (sR (eT (aC (eV 1) (aC (eV 3) (aC (eV 5) aN))))) sN)
def m_unsound_three_2 : MS := (sS (sIf (tV (e2 pIs (eV 6) (eC .non))) sC sN)
  m_unsound_three_1)
def m_unsound_three_3 : MS := (sFor (iN fEn (aC (e2 pIx (eV 0) (eV 3)) aN)) (gT 2 (gsC (gN 5) (gsC (gN 6) gsN))) m_unsound_three_2)
def m_unsound_three_4 : MS := (sS (sIf (tV (e2 pIs (eV 4) (eC .non))) sC sN)
  m_unsound_three_3)
def m_unsound_three_5 : MS := (sFor (iN fEn (aC (eV 2) aN)) (gT 2 (gsC (gN 3) (gsC (gN 4) gsN))) m_unsound_three_4)
def m_unsound_three : MS := (sS (sFor (iN fEn (aC (eV 0) aN)) (gT 2 (gsC (gN 1) (gsC (gN 2) gsN))) m_unsound_three_5)
  (sR (eC .non)))
abbrev run_unsound_three : List OT → FR := runB 7 [] m_unsound_three
def m_check_command : MS := (sIf (tNotM (tV (eCall 2 [] (run_is_below) (rV (eV 1) (rV (e1 (fFld ["Merger"] "commands") (eV 0)) rN))))) (sRaise "NoCommand" ["command"] (aC (eV 1) aN)) sN)
abbrev run_check_command : List OT → FR := runB 2 [] m_check_command
def m_merged : MS := (sS (sE (eCall 2 [] (run_check_command) (rV (eV 0) (rV (eV 1) rN))))
  (sS (sE (eCall 2 [] (run_check_command) (rV (eV 0) (rV (eV 2) rN))))
  (sR (e2 pIx (e2 pIx (e1 (fFld ["Merger"] "rows") (eV 0)) (eV 1)) (eV 2)))))
abbrev run_merged : List OT → FR := runB 3 [] m_merged
def m_three_ends_1 : MS := (sE (eCall 2 [] (run_check_command) (rV (eV 0) (rV (eV 4) rN))))
def m_three_ends_2 : MS := (sR (eT (aC (eCall 3 [] (run_left_of) (rV (eV 5) (rV (eV 6) (rV (eV 3) rN)))) (aC (eCall 3 [] (run_left_of) (rV (eV 5) (rV (eV 1) (rV (eV 7) rN)))) aN))))
def m_three_ends_3 : MS := (sS (sA 5 (e1 (fFld ["Merger"] "rows") (eV 0)))
  (sS (sPar [6, 7] (aC (e2 pIx (e2 pIx (eV 5) (eV 1)) (eV 2)) (aC (e2 pIx (e2 pIx (eV 5) (eV 2)) (eV 3)) aN)))
  (sS (sIf (tOrM (tV (e2 pIs (eV 6) (eC .non))) (tV (e2 pIs (eV 7) (eC .non)))) (sR (eC .non)) sN)
  m_three_ends_2)))
def m_three_ends : MS := (sS (sFor (mSeq (eT (aC (eV 1) (aC (eV 2) (aC (eV 3) aN))))) (gN 4) m_three_ends_1)
  m_three_ends_3)
abbrev run_three_ends : List OT → FR := runB 8 [] m_three_ends
def m_check_queue : MS := (sR (eCall 2 [] (run_queue_of) (rV (e1 (fFld ["Merger"] "commands") (eV 0)) (rV (eV 1) rN))))
abbrev run_check_queue : List OT → FR := runB 2 [] m_check_queue
def m_places_of : MS := (sS (sA 2 (eLZ (aC (eV 1) (aC (eSl (eV 1) (oS (eC (.int 1))) oN) aN))))
  (sR (eN fTup (aC (eLc (iN fEn (aC (eV 2) aN)) (gT 2 (gsC (gN 3) (gsC (gT 2 (gsC (gN 4) (gsC (gN 5) gsN))) gsN))) (tV (e2 pIsNot (e2 pIx (e2 pIx (eV 0) (eV 4)) (eV 5)) (eC .non))) (eV 3) [3, 4, 5]) aN))))
abbrev run_places_of : List OT → FR := runB 6 [] m_places_of
def m_mergeable_places : MS := (sR (eCall 2 [] (run_places_of) (rV (e1 (fFld ["Merger"] "rows") (eV 0)) (rV (eCall 2 [] (run_check_queue) (rV (eV 0) (rV (eV 1) rN))) rN))))
abbrev run_mergeable_places : List OT → FR := runB 2 [] m_mergeable_places
def m_is_folded : MS := (sR (e2 pEq (eN fLen (aC (eCall 2 [] (run_mergeable_places) (rV (eV 0) (rV (eV 1) rN))) aN)) (eC (.int 0))))
abbrev run_is_folded : List OT → FR := runB 2 [] m_is_folded
def m_Merger_init_1 : MS := (sS (sFldS 0 ["Merger"] "commands" (eN fLen (aC (eV 3) aN)))
  (sFldS 0 ["Merger"] "rows" (eV 3)))
def m_Merger_init_2 : MS := (sS (sA 3 (eN fTup (aC (eLc (mSeq (eV 1)) (gN 5) mYes (eN fTup (aC (eV 5) aN)) [5]) aN)))
  (sS (sA 4 (eCall 1 [] (run_unsound_three) (rV (eV 3) rN)))
  (sS (sIf (tV (e2 pIsNot (eV 4) (eC .non))) (sRaise "Unsound" ["three"] (aC (eV 4) aN)) sN)
  m_Merger_init_1)))
def m_Merger_init : MS := (sS (sA 2 (eCall 1 [] (run_bad_row) (rV (eV 1) rN)))
  (sS (sIf (tV (e2 pIsNot (eV 2) (eC .non))) (sRaise "BadMerger" ["at"] (aC (eV 2) aN)) sN)
  m_Merger_init_2))
abbrev run_Merger_init : List OT → FR := runB 6 [0] m_Merger_init
def m_Merger_eq : MS := (sR (eAnd (e1 (fIsi tab_Merger (.o "Merger")) (eV 1)) (e2 pEq (e1 (fFld ["Merger"] "rows") (eV 0)) (e1 (fFld ["Merger"] "rows") (eV 1)))))
abbrev run_Merger_eq : List OT → FR := runB 2 [] m_Merger_eq
end Pg

namespace K01H
open PySem PySem.Spec PyProof.Rows L2 Fy Pg
def exs : List Str := ["BadMerger", "Unsound", "BadQueue", "NoCommand"]
def fs : List Str := ["at", "three", "command"]
def tx : List (Str × Ty × Bool) := [("BadMerger", (.o "BadMerger"), true), ("BadMerger", (.o "FoldError"), true), ("BadMerger", (.o "Unsound"), false), ("BadMerger", (.o "BadQueue"), false), ("BadMerger", (.o "NoCommand"), false), ("BadMerger", (.b "KeyError"), false), ("Unsound", (.o "BadMerger"), false), ("Unsound", (.o "FoldError"), true), ("Unsound", (.o "Unsound"), true), ("Unsound", (.o "BadQueue"), false), ("Unsound", (.o "NoCommand"), false), ("Unsound", (.b "KeyError"), false), ("BadQueue", (.o "BadMerger"), false), ("BadQueue", (.o "FoldError"), true), ("BadQueue", (.o "Unsound"), false), ("BadQueue", (.o "BadQueue"), true), ("BadQueue", (.o "NoCommand"), false), ("BadQueue", (.b "KeyError"), false), ("NoCommand", (.o "BadMerger"), false), ("NoCommand", (.o "FoldError"), false), ("NoCommand", (.o "Unsound"), false), ("NoCommand", (.o "BadQueue"), false), ("NoCommand", (.o "NoCommand"), true), ("NoCommand", (.b "KeyError"), true)]
def lams : List Str := ["_law_told_right", "_law_queues_right", "_law_wrong_right"]
def topS (i : Nat) : Stmt := PySem.Challenge.pw_foursfold_k01_mergers_queues_and_what_is.main.body.getD i (.Pass ⟨0, 0, 0, 0⟩)
abbrev s_BadMerger_init : Stmt := inClass (topS 2) 0
abbrev s_Unsound_init : Stmt := inClass (topS 3) 0
abbrev s_BadQueue_init : Stmt := inClass (topS 4) 0
abbrev s_NoCommand_init : Stmt := inClass (topS 5) 0
abbrev s_is_sequence : Stmt := topS 8
abbrev s_is_row : Stmt := topS 9
abbrev s_is_whole : Stmt := topS 10
abbrev s_is_below : Stmt := topS 11
abbrev s_queue_of : Stmt := topS 12
abbrev s_Merger_init : Stmt := inClass (topS 15) 0
abbrev s_Merger_eq : Stmt := inClass (topS 15) 1
abbrev s_bad_row : Stmt := topS 16
abbrev s_is_end : Stmt := topS 17
abbrev s_unsound_three : Stmt := topS 18
abbrev s_left_of : Stmt := topS 19
abbrev s_check_command : Stmt := topS 20
abbrev s_merged : Stmt := topS 21
abbrev s_three_ends : Stmt := topS 22
abbrev s_check_queue : Stmt := topS 23
abbrev s_places_of : Stmt := topS 24
abbrev s_mergeable_places : Stmt := topS 25
abbrev s_is_folded : Stmt := topS 26
abbrev s_law_box : Stmt := topS 28
abbrev s_law_take : Stmt := topS 29
abbrev s_law_pick : Stmt := topS 30
abbrev s_law_maps : Stmt := topS 31
abbrev s_law_rows_of : Stmt := topS 32
abbrev s_law_against : Stmt := topS 33
abbrev s_law_sound : Stmt := topS 34
abbrev s_law_heard : Stmt := topS 35
abbrev s_law_told_right : Stmt := topS 36
abbrev s_law_queues_right : Stmt := topS 37
abbrev s_law_wrong_right : Stmt := topS 38
abbrev s_law : Stmt := topS 39
def d_BadMerger_init : He.DefD := ⟨("BadMerger", some "__init__"), "__init__", "BadMerger.__init__", defArgs s_BadMerger_init, defBody s_BadMerger_init, defScope s_BadMerger_init, [], []⟩
def d_Unsound_init : He.DefD := ⟨("Unsound", some "__init__"), "__init__", "Unsound.__init__", defArgs s_Unsound_init, defBody s_Unsound_init, defScope s_Unsound_init, [], []⟩
def d_BadQueue_init : He.DefD := ⟨("BadQueue", some "__init__"), "__init__", "BadQueue.__init__", defArgs s_BadQueue_init, defBody s_BadQueue_init, defScope s_BadQueue_init, [], []⟩
def d_NoCommand_init : He.DefD := ⟨("NoCommand", some "__init__"), "__init__", "NoCommand.__init__", defArgs s_NoCommand_init, defBody s_NoCommand_init, defScope s_NoCommand_init, [], []⟩
def d_is_sequence : He.DefD := ⟨("is_sequence", none), "is_sequence", "is_sequence", defArgs s_is_sequence, defBody s_is_sequence, defScope s_is_sequence, [], []⟩
def d_is_row : He.DefD := ⟨("is_row", none), "is_row", "is_row", defArgs s_is_row, defBody s_is_row, defScope s_is_row, [], []⟩
def d_is_whole : He.DefD := ⟨("is_whole", none), "is_whole", "is_whole", defArgs s_is_whole, defBody s_is_whole, defScope s_is_whole, [], []⟩
def d_is_below : He.DefD := ⟨("is_below", none), "is_below", "is_below", defArgs s_is_below, defBody s_is_below, defScope s_is_below, [], []⟩
def d_queue_of : He.DefD := ⟨("queue_of", none), "queue_of", "queue_of", defArgs s_queue_of, defBody s_queue_of, defScope s_queue_of, [], []⟩
def d_Merger_init : He.DefD := ⟨("Merger", some "__init__"), "__init__", "Merger.__init__", defArgs s_Merger_init, defBody s_Merger_init, defScope s_Merger_init, [], []⟩
def d_Merger_eq : He.DefD := ⟨("Merger", some "__eq__"), "__eq__", "Merger.__eq__", defArgs s_Merger_eq, defBody s_Merger_eq, defScope s_Merger_eq, [], []⟩
def d_bad_row : He.DefD := ⟨("_bad_row", none), "_bad_row", "_bad_row", defArgs s_bad_row, defBody s_bad_row, defScope s_bad_row, [], []⟩
def d_is_end : He.DefD := ⟨("_is_end", none), "_is_end", "_is_end", defArgs s_is_end, defBody s_is_end, defScope s_is_end, [], []⟩
def d_unsound_three : He.DefD := ⟨("_unsound_three", none), "_unsound_three", "_unsound_three", defArgs s_unsound_three, defBody s_unsound_three, defScope s_unsound_three, [], []⟩
def d_left_of : He.DefD := ⟨("left_of", none), "left_of", "left_of", defArgs s_left_of, defBody s_left_of, defScope s_left_of, [], []⟩
def d_check_command : He.DefD := ⟨("check_command", none), "check_command", "check_command", defArgs s_check_command, defBody s_check_command, defScope s_check_command, [], []⟩
def d_merged : He.DefD := ⟨("merged", none), "merged", "merged", defArgs s_merged, defBody s_merged, defScope s_merged, [], []⟩
def d_three_ends : He.DefD := ⟨("three_ends", none), "three_ends", "three_ends", defArgs s_three_ends, defBody s_three_ends, defScope s_three_ends, [], []⟩
def d_check_queue : He.DefD := ⟨("check_queue", none), "check_queue", "check_queue", defArgs s_check_queue, defBody s_check_queue, defScope s_check_queue, [], []⟩
def d_places_of : He.DefD := ⟨("places_of", none), "places_of", "places_of", defArgs s_places_of, defBody s_places_of, defScope s_places_of, [], []⟩
def d_mergeable_places : He.DefD := ⟨("mergeable_places", none), "mergeable_places", "mergeable_places", defArgs s_mergeable_places, defBody s_mergeable_places, defScope s_mergeable_places, [], []⟩
def d_is_folded : He.DefD := ⟨("is_folded", none), "is_folded", "is_folded", defArgs s_is_folded, defBody s_is_folded, defScope s_is_folded, [], []⟩
def d_law_box : He.DefD := ⟨("_law_box", none), "_law_box", "_law_box", defArgs s_law_box, defBody s_law_box, defScope s_law_box, [], []⟩
def d_law_take : He.DefD := ⟨("_law_take", none), "_law_take", "_law_take", defArgs s_law_take, defBody s_law_take, defScope s_law_take, [], []⟩
def d_law_pick : He.DefD := ⟨("_law_pick", none), "_law_pick", "_law_pick", defArgs s_law_pick, defBody s_law_pick, defScope s_law_pick, [], []⟩
def d_law_maps : He.DefD := ⟨("_law_maps", none), "_law_maps", "_law_maps", defArgs s_law_maps, defBody s_law_maps, defScope s_law_maps, [], []⟩
def d_law_rows_of : He.DefD := ⟨("_law_rows_of", none), "_law_rows_of", "_law_rows_of", defArgs s_law_rows_of, defBody s_law_rows_of, defScope s_law_rows_of, [], []⟩
def d_law_against : He.DefD := ⟨("_law_against", none), "_law_against", "_law_against", defArgs s_law_against, defBody s_law_against, defScope s_law_against, [], []⟩
def d_law_sound : He.DefD := ⟨("_law_sound", none), "_law_sound", "_law_sound", defArgs s_law_sound, defBody s_law_sound, defScope s_law_sound, [], []⟩
def d_law_heard : He.DefD := ⟨("_law_heard", none), "_law_heard", "_law_heard", defArgs s_law_heard, defBody s_law_heard, defScope s_law_heard, [], []⟩
def d_law_told_right : He.DefD := ⟨("_law_told_right", none), "_law_told_right", "_law_told_right", defArgs s_law_told_right, defBody s_law_told_right, defScope s_law_told_right, [], []⟩
def d_law_queues_right : He.DefD := ⟨("_law_queues_right", none), "_law_queues_right", "_law_queues_right", defArgs s_law_queues_right, defBody s_law_queues_right, defScope s_law_queues_right, [], []⟩
def d_law_wrong_right : He.DefD := ⟨("_law_wrong_right", none), "_law_wrong_right", "_law_wrong_right", defArgs s_law_wrong_right, defBody s_law_wrong_right, defScope s_law_wrong_right, [], []⟩
def d_law : He.DefD := ⟨("law", none), "law", "law", defArgs s_law, defBody s_law, defScope s_law, [], []⟩
def fn : List He.DefD := [d_BadMerger_init, d_Unsound_init, d_BadQueue_init, d_NoCommand_init, d_is_sequence, d_is_row, d_is_whole, d_is_below, d_queue_of, d_Merger_init, d_Merger_eq, d_bad_row, d_is_end, d_unsound_three, d_left_of, d_check_command, d_merged, d_three_ends, d_check_queue, d_places_of, d_mergeable_places, d_is_folded, d_law_box, d_law_take, d_law_pick, d_law_maps, d_law_rows_of, d_law_against, d_law_sound, d_law_heard, d_law_told_right, d_law_queues_right, d_law_wrong_right, d_law]
def fa : List He.Fa := [.glo "FoldError", .glo "BadMerger", .glo "Unsound", .glo "BadQueue", .glo "NoCommand", .glo "is_sequence", .glo "is_row", .glo "is_whole", .glo "is_below", .glo "queue_of", .glo "Merger", .glo "_bad_row", .glo "_is_end", .glo "_unsound_three", .glo "left_of", .glo "check_command", .glo "merged", .glo "three_ends", .glo "check_queue", .glo "places_of", .glo "mergeable_places", .glo "is_folded", .glo "_law_box", .glo "_law_take", .glo "_law_pick", .glo "_law_maps", .glo "_law_rows_of", .glo "_law_against", .glo "_law_sound", .glo "_law_heard", .glo "_law_told_right", .glo "_law_queues_right", .glo "_law_wrong_right", .glo "law", .free "int", .free "list", .free "tuple", .free "len", .free "range", .free "abs", .free "repr", .free "isinstance", .free "enumerate", .free "zip", .free "all", .free "bool", .free "ValueError", .free "KeyError", .int "QUEUE_LIMIT" 10000, .int "COMMAND_LIMIT" 12, .cls "Merger", .mkr "Merger", .meth "Merger" "__eq__", .noat "Merger" "commands", .noat "Merger" "rows"]
def tf : List He.Defn := [("_law_told_right", none), ("_law_queues_right", none), ("_law_wrong_right", none)]
def ex : PySem.W.Frag → Bool := fun K => oexB K "BadMerger" "at" && (oexB K "Unsound" "three" && (oexB K "BadQueue" "at" && (kexB K "NoCommand" "command" && (tabIB K tabB && (tabIB K tab_Merger && (eqFB K "Merger" [.b "tuple", .b "list", .o "Merger"] && (txB K exs fs tx && (tblB K lams))))))))
def loose0 : List PySem.Str := ["FoldError", "BadMerger", "Unsound", "BadQueue", "NoCommand", "is_sequence", "is_row", "is_whole", "is_below", "queue_of", "Merger", "_bad_row", "_is_end", "_unsound_three", "left_of", "check_command", "merged", "three_ends", "check_queue", "places_of", "mergeable_places", "is_folded", "_law_box", "_law_take", "_law_pick", "_law_maps", "_law_rows_of", "_law_against", "_law_sound", "_law_heard"]
def loose1 : List PySem.Str := ["_law_told_right", "_law_queues_right", "_law_wrong_right", "QUEUE_LIMIT", "COMMAND_LIMIT"]
def loose : List PySem.Str := loose0 ++ loose1
abbrev R : PySem.W.OpenRow := PySem.W.OpenLaw.row PySem.Challenge.rw_foursfold_k01_mergers_queues_and_what_is
abbrev hk : PySem.W.Hook := He.hookX 6 fa fn [] tf ex
def ob (s : PySem.W.SharedT) : He.AlX := He.obsX 6 fa fn [] tf ex (HandSHeadRun.getT s)
theorem ob_eq (s : PySem.W.SharedT) : ob s = hk.obs s.abs := He.obsX_eq (HandSHeadRun.getT_eq s)
theorem run (w : World) : HandSHeadRun.RunEq R (PySem.W.view R.prog [39]) hk ob 6000 loose w := by
  intro os
  kernel_rfl
end K01H

namespace K01
open PySem PySem.Spec PyProof.Rows L2 Fy Pg K01H
structure En (Pr : Program) (w : World) (K : PySem.W.Frag) (mg : Str → Option Value) (base : Heap) : Prop where
  b_isinstance : mg "isinstance" = none
  b_len : mg "len" = none
  b_abs : mg "abs" = none
  b_list : mg "list" = none
  b_tuple : mg "tuple" = none
  b_int : mg "int" = none
  b_bool : mg "bool" = none
  b_repr : mg "repr" = none
  b_all : mg "all" = none
  b_range : mg "range" = none
  b_enumerate : mg "enumerate" = none
  b_zip : mg "zip" = none
  b_ValueError : mg "ValueError" = none
  b_KeyError : mg "KeyError" = none
  i_QUEUE_LIMIT : ∃ t, mg "QUEUE_LIMIT" = some (.int 10000 t)
  i_COMMAND_LIMIT : ∃ t, mg "COMMAND_LIMIT" = some (.int 12 t)
  f_commands : ∀ c ∈ (["Merger"] : List Str), Cls K (He.ga K c) ∧ NoAttr K (He.ga K c) "commands"
  f_rows : ∀ c ∈ (["Merger"] : List Str), Cls K (He.ga K c) ∧ NoAttr K (He.ga K c) "rows"
  tabB : TabI K tabB
  tab_Merger : TabI K tab_Merger
  g_FoldError : mg "FoldError" = some (.ref (He.ga K "FoldError"))
  g_BadMerger : mg "BadMerger" = some (.ref (He.ga K "BadMerger"))
  g_Unsound : mg "Unsound" = some (.ref (He.ga K "Unsound"))
  g_BadQueue : mg "BadQueue" = some (.ref (He.ga K "BadQueue"))
  g_NoCommand : mg "NoCommand" = some (.ref (He.ga K "NoCommand"))
  g_Merger : mg "Merger" = some (.ref (He.ga K "Merger"))
  x_BadMerger : ExE Pr w K mg base "BadMerger" ["at"]
  x_Unsound : ExE Pr w K mg base "Unsound" ["three"]
  x_BadQueue : ExE Pr w K mg base "BadQueue" ["at"]
  x_NoCommand : ExE Pr w K mg base "NoCommand" ["command"]
  d_Merger_init : ∃ fd, FunD K "__init__" "Merger.__init__" (defArgs s_Merger_init) (defBody s_Merger_init) (defScope s_Merger_init) [] [] (He.ma K (He.ga K "Merger") "__init__") fd
  k_Merger : Mk K (He.ga K "Merger") (He.ma K (He.ga K "Merger") "__init__")
  d_Merger_eq : ∃ fd, FunD K "__eq__" "Merger.__eq__" (defArgs s_Merger_eq) (defBody s_Merger_eq) (defScope s_Merger_eq) [] [] (He.ma K (He.ga K "Merger") "__eq__") fd
  eq_Merger : EqF K "Merger" [.b "tuple", .b "list", .o "Merger"]
  tx : TabX K exs fs tx
  d_is_sequence : ∃ fd, FunD K "is_sequence" "is_sequence" (defArgs s_is_sequence) (defBody s_is_sequence) (defScope s_is_sequence) [] [] (He.ga K "is_sequence") fd ∧ mg "is_sequence" = some (.ref (He.ga K "is_sequence"))
  d_is_row : ∃ fd, FunD K "is_row" "is_row" (defArgs s_is_row) (defBody s_is_row) (defScope s_is_row) [] [] (He.ga K "is_row") fd ∧ mg "is_row" = some (.ref (He.ga K "is_row"))
  d_is_whole : ∃ fd, FunD K "is_whole" "is_whole" (defArgs s_is_whole) (defBody s_is_whole) (defScope s_is_whole) [] [] (He.ga K "is_whole") fd ∧ mg "is_whole" = some (.ref (He.ga K "is_whole"))
  d_is_below : ∃ fd, FunD K "is_below" "is_below" (defArgs s_is_below) (defBody s_is_below) (defScope s_is_below) [] [] (He.ga K "is_below") fd ∧ mg "is_below" = some (.ref (He.ga K "is_below"))
  d_queue_of : ∃ fd, FunD K "queue_of" "queue_of" (defArgs s_queue_of) (defBody s_queue_of) (defScope s_queue_of) [] [] (He.ga K "queue_of") fd ∧ mg "queue_of" = some (.ref (He.ga K "queue_of"))
  d_bad_row : ∃ fd, FunD K "_bad_row" "_bad_row" (defArgs s_bad_row) (defBody s_bad_row) (defScope s_bad_row) [] [] (He.ga K "_bad_row") fd ∧ mg "_bad_row" = some (.ref (He.ga K "_bad_row"))
  d_is_end : ∃ fd, FunD K "_is_end" "_is_end" (defArgs s_is_end) (defBody s_is_end) (defScope s_is_end) [] [] (He.ga K "_is_end") fd ∧ mg "_is_end" = some (.ref (He.ga K "_is_end"))
  d_unsound_three : ∃ fd, FunD K "_unsound_three" "_unsound_three" (defArgs s_unsound_three) (defBody s_unsound_three) (defScope s_unsound_three) [] [] (He.ga K "_unsound_three") fd ∧ mg "_unsound_three" = some (.ref (He.ga K "_unsound_three"))
  d_left_of : ∃ fd, FunD K "left_of" "left_of" (defArgs s_left_of) (defBody s_left_of) (defScope s_left_of) [] [] (He.ga K "left_of") fd ∧ mg "left_of" = some (.ref (He.ga K "left_of"))
  d_check_command : ∃ fd, FunD K "check_command" "check_command" (defArgs s_check_command) (defBody s_check_command) (defScope s_check_command) [] [] (He.ga K "check_command") fd ∧ mg "check_command" = some (.ref (He.ga K "check_command"))
  d_merged : ∃ fd, FunD K "merged" "merged" (defArgs s_merged) (defBody s_merged) (defScope s_merged) [] [] (He.ga K "merged") fd ∧ mg "merged" = some (.ref (He.ga K "merged"))
  d_three_ends : ∃ fd, FunD K "three_ends" "three_ends" (defArgs s_three_ends) (defBody s_three_ends) (defScope s_three_ends) [] [] (He.ga K "three_ends") fd ∧ mg "three_ends" = some (.ref (He.ga K "three_ends"))
  d_check_queue : ∃ fd, FunD K "check_queue" "check_queue" (defArgs s_check_queue) (defBody s_check_queue) (defScope s_check_queue) [] [] (He.ga K "check_queue") fd ∧ mg "check_queue" = some (.ref (He.ga K "check_queue"))
  d_places_of : ∃ fd, FunD K "places_of" "places_of" (defArgs s_places_of) (defBody s_places_of) (defScope s_places_of) [] [] (He.ga K "places_of") fd ∧ mg "places_of" = some (.ref (He.ga K "places_of"))
  d_mergeable_places : ∃ fd, FunD K "mergeable_places" "mergeable_places" (defArgs s_mergeable_places) (defBody s_mergeable_places) (defScope s_mergeable_places) [] [] (He.ga K "mergeable_places") fd ∧ mg "mergeable_places" = some (.ref (He.ga K "mergeable_places"))
  d_is_folded : ∃ fd, FunD K "is_folded" "is_folded" (defArgs s_is_folded) (defBody s_is_folded) (defScope s_is_folded) [] [] (He.ga K "is_folded") fd ∧ mg "is_folded" = some (.ref (He.ga K "is_folded"))
  d_law_box : ∃ fd, FunD K "_law_box" "_law_box" (defArgs s_law_box) (defBody s_law_box) (defScope s_law_box) [] [] (He.ga K "_law_box") fd ∧ mg "_law_box" = some (.ref (He.ga K "_law_box"))
  d_law_take : ∃ fd, FunD K "_law_take" "_law_take" (defArgs s_law_take) (defBody s_law_take) (defScope s_law_take) [] [] (He.ga K "_law_take") fd ∧ mg "_law_take" = some (.ref (He.ga K "_law_take"))
  d_law_pick : ∃ fd, FunD K "_law_pick" "_law_pick" (defArgs s_law_pick) (defBody s_law_pick) (defScope s_law_pick) [] [] (He.ga K "_law_pick") fd ∧ mg "_law_pick" = some (.ref (He.ga K "_law_pick"))
  d_law_maps : ∃ fd, FunD K "_law_maps" "_law_maps" (defArgs s_law_maps) (defBody s_law_maps) (defScope s_law_maps) [] [] (He.ga K "_law_maps") fd ∧ mg "_law_maps" = some (.ref (He.ga K "_law_maps"))
  d_law_rows_of : ∃ fd, FunD K "_law_rows_of" "_law_rows_of" (defArgs s_law_rows_of) (defBody s_law_rows_of) (defScope s_law_rows_of) [] [] (He.ga K "_law_rows_of") fd ∧ mg "_law_rows_of" = some (.ref (He.ga K "_law_rows_of"))
  d_law_against : ∃ fd, FunD K "_law_against" "_law_against" (defArgs s_law_against) (defBody s_law_against) (defScope s_law_against) [] [] (He.ga K "_law_against") fd ∧ mg "_law_against" = some (.ref (He.ga K "_law_against"))
  d_law_sound : ∃ fd, FunD K "_law_sound" "_law_sound" (defArgs s_law_sound) (defBody s_law_sound) (defScope s_law_sound) [] [] (He.ga K "_law_sound") fd ∧ mg "_law_sound" = some (.ref (He.ga K "_law_sound"))
  d_law_heard : ∃ fd, FunD K "_law_heard" "_law_heard" (defArgs s_law_heard) (defBody s_law_heard) (defScope s_law_heard) [] [] (He.ga K "_law_heard") fd ∧ mg "_law_heard" = some (.ref (He.ga K "_law_heard"))
  d_law_told_right : ∃ fd, FunD K "_law_told_right" "_law_told_right" (defArgs s_law_told_right) (defBody s_law_told_right) (defScope s_law_told_right) [] [] (He.ga K "_law_told_right") fd ∧ mg "_law_told_right" = some (.ref (He.ga K "_law_told_right"))
  d_law_queues_right : ∃ fd, FunD K "_law_queues_right" "_law_queues_right" (defArgs s_law_queues_right) (defBody s_law_queues_right) (defScope s_law_queues_right) [] [] (He.ga K "_law_queues_right") fd ∧ mg "_law_queues_right" = some (.ref (He.ga K "_law_queues_right"))
  d_law_wrong_right : ∃ fd, FunD K "_law_wrong_right" "_law_wrong_right" (defArgs s_law_wrong_right) (defBody s_law_wrong_right) (defScope s_law_wrong_right) [] [] (He.ga K "_law_wrong_right") fd ∧ mg "_law_wrong_right" = some (.ref (He.ga K "_law_wrong_right"))
  d_law : ∃ fd, FunD K "law" "law" (defArgs s_law) (defBody s_law) (defScope s_law) [] [] (He.ga K "law") fd ∧ mg "law" = some (.ref (He.ga K "law"))
structure Lm (K : PySem.W.Frag) (mg : Str → Option Value) (base : Heap) (T : List (Addr × Str)) : Prop where
  lam_law_told_right : LamT K mg base T "_law_told_right" (("_law_told_right" ++ ".<locals>.") ++ "<lambda>")
  lam_law_queues_right : LamT K mg base T "_law_queues_right" (("_law_queues_right" ++ ".<locals>.") ++ "<lambda>")
  lam_law_wrong_right : LamT K mg base T "_law_wrong_right" (("_law_wrong_right" ++ ".<locals>.") ++ "<lambda>")
theorem Lm.lam_law_told_right' {K : PySem.W.Frag} {mg : Str → Option Value} {base : Heap} {T T' : List (Addr × Str)} (L : Lm K mg base T) (h : T' = T) : LamT K mg base T' "_law_told_right" (("_law_told_right" ++ ".<locals>.") ++ "<lambda>") := by
  subst h
  exact L.lam_law_told_right
theorem Lm.lam_law_queues_right' {K : PySem.W.Frag} {mg : Str → Option Value} {base : Heap} {T T' : List (Addr × Str)} (L : Lm K mg base T) (h : T' = T) : LamT K mg base T' "_law_queues_right" (("_law_queues_right" ++ ".<locals>.") ++ "<lambda>") := by
  subst h
  exact L.lam_law_queues_right
theorem Lm.lam_law_wrong_right' {K : PySem.W.Frag} {mg : Str → Option Value} {base : Heap} {T T' : List (Addr × Str)} (L : Lm K mg base T) (h : T' = T) : LamT K mg base T' "_law_wrong_right" (("_law_wrong_right" ++ ".<locals>.") ++ "<lambda>") := by
  subst h
  exact L.lam_law_wrong_right
section
variable {Pr : Program} {w : World} {K : PySem.W.Frag} {mg : Str → Option Value} {base : Heap} {T : List (Addr × Str)}
def cs_law_heard : List Clause := [((.o "BadMerger"), fun x => (eT (aC (eC (.str "merger")) (aC (hF exs fs x "at") (aC (hI exs tx x (.o "FoldError")) aN))))),
  ((.o "Unsound"), fun x => (eT (aC (eC (.str "three")) (aC (hF exs fs x "three") (aC (hI exs tx x (.o "FoldError")) aN))))),
  ((.o "BadQueue"), fun x => (eT (aC (eC (.str "queue")) (aC (hF exs fs x "at") (aC (hI exs tx x (.o "FoldError")) aN))))),
  ((.o "NoCommand"), fun x => (eT (aC (eC (.str "command")) (aC (eN fRepr (aC (hF exs fs x "command") aN)) (aC (eAnd (hI exs tx x (.b "KeyError")) (eNot (hI exs tx x (.o "FoldError")))) aN)))))]
def hd_law_heard : Exn → Option PV := hdOf tx 2 cs_law_heard
abbrev C_is_sequence (Pr : Program) (w : World) (K : PySem.W.Frag) (mg : Str → Option Value) (base : Heap) (T : List (Addr × Str)) : Prop := Cal false Pr w K mg base T "is_sequence" (defArgs s_is_sequence) ["value"] 1 [] run_is_sequence
theorem ok_is_sequence (E : En Pr w K mg base)    : C_is_sequence Pr w K mg base T :=
  cal_m (N := ["value"]) E.d_is_sequence (scope_of rfl rfl rfl (by decide) rfl (by decide +kernel) (by decide +kernel)) (by decide) (fun _ _ _ _ _ _ us hl => match us, hl with | [_], _ => rfl) fun f cdv A outer s H E0 P hT hrp g =>
    (bm_1 (sm_r (em_isiT E.tabB rfl E.b_isinstance (em_v 0 rfl) (.cons (pe_bltn rfl E.b_list (by decide +kernel) rfl) (.cons (pe_bltn rfl E.b_tuple (by decide +kernel) rfl) .nil rfl) rfl) (by decide))))
abbrev C_is_row (Pr : Program) (w : World) (K : PySem.W.Frag) (mg : Str → Option Value) (base : Heap) (T : List (Addr × Str)) : Prop := Cal false Pr w K mg base T "is_row" (defArgs s_is_row) ["value", "low", "high"] 2 [] run_is_row
theorem ok_is_row (E : En Pr w K mg base)  (c_is_sequence : C_is_sequence Pr w K mg base T)  : C_is_row Pr w K mg base T :=
  cal_m (N := ["value", "low", "high"]) E.d_is_row (scope_of rfl rfl rfl (by decide) rfl (by decide +kernel) (by decide +kernel)) (by decide) (fun _ _ _ _ _ _ us hl => match us, hl with | [_, _, _], _ => rfl) fun f cdv A outer s H E0 P hT hrp g =>
    (bm_1 (sm_r (em_and (em_cal g c_is_sequence hT (fun z => Bool.noConfusion z) rfl (rm_v (em_v 0 rfl) rm_n)) (em_one (em_lele (em_v 1 rfl) (em_len rfl E.b_len (am_c (em_v 0 rfl) am_n)) (em_v 2 rfl))))))
abbrev C_is_whole (Pr : Program) (w : World) (K : PySem.W.Frag) (mg : Str → Option Value) (base : Heap) (T : List (Addr × Str)) : Prop := Cal false Pr w K mg base T "is_whole" (defArgs s_is_whole) ["value"] 1 [] run_is_whole
theorem ok_is_whole (E : En Pr w K mg base)    : C_is_whole Pr w K mg base T :=
  cal_m (N := ["value"]) E.d_is_whole (scope_of rfl rfl rfl (by decide) rfl (by decide +kernel) (by decide +kernel)) (by decide) (fun _ _ _ _ _ _ us hl => match us, hl with | [_], _ => rfl) fun f cdv A outer s H E0 P hT hrp g =>
    (bm_1 (sm_r (em_and (em_isi E.tabB (.b "int") rfl E.b_isinstance (em_v 0 rfl) (pe_bltn rfl E.b_int (by decide +kernel) rfl)) (em_one (em_not (em_isi E.tabB (.b "bool") rfl E.b_isinstance (em_v 0 rfl) (pe_bltn rfl E.b_bool (by decide +kernel) rfl)))))))
abbrev C_is_below (Pr : Program) (w : World) (K : PySem.W.Frag) (mg : Str → Option Value) (base : Heap) (T : List (Addr × Str)) : Prop := Cal false Pr w K mg base T "is_below" (defArgs s_is_below) ["value", "limit"] 2 [] run_is_below
theorem ok_is_below (E : En Pr w K mg base)  (c_is_whole : C_is_whole Pr w K mg base T)  : C_is_below Pr w K mg base T :=
  cal_m (N := ["value", "limit"]) E.d_is_below (scope_of rfl rfl rfl (by decide) rfl (by decide +kernel) (by decide +kernel)) (by decide) (fun _ _ _ _ _ _ us hl => match us, hl with | [_, _], _ => rfl) fun f cdv A outer s H E0 P hT hrp g =>
    (bm_1 (sm_r (em_and (em_cal g c_is_whole hT (fun z => Bool.noConfusion z) rfl (rm_v (em_v 0 rfl) rm_n)) (em_one (em_lelt em_int (em_v 0 rfl) (em_v 1 rfl))))))
abbrev C_queue_of (Pr : Program) (w : World) (K : PySem.W.Frag) (mg : Str → Option Value) (base : Heap) (T : List (Addr × Str)) : Prop := Cal false Pr w K mg base T "queue_of" (defArgs s_queue_of) ["commands", "value"] 3 [] run_queue_of
theorem ok_queue_of (E : En Pr w K mg base)  (c_is_row : C_is_row Pr w K mg base T) (c_is_below : C_is_below Pr w K mg base T)  : C_queue_of Pr w K mg base T :=
  cal_m (N := ["commands", "value", "at", "command"]) E.d_queue_of (scope_of rfl rfl rfl (by decide) rfl (by decide +kernel) (by decide +kernel)) (by decide) (fun _ _ _ _ _ _ us hl => match us, hl with | [_, _], _ => rfl) fun f cdv A outer s H E0 P hT hrp g =>
    (bm_c (sm_if (tm_not (tm_val (em_cal g c_is_row hT (fun z => Bool.noConfusion z) rfl (rm_v (em_v 1 rfl) (rm_v em_int (rm_v (em_gint rfl E.i_QUEUE_LIMIT) rm_n)))))) (bm_1 (sm_rz g E.x_BadQueue rfl (am_c em_nint am_n))) bm_n)
    (bm_c (sm_for g (im_enum rfl E.b_enumerate (am_c (em_v 1 rfl) am_n)) (gm_t g (gsm_c (gm_n g rfl (by first | exact Or.inl rfl | exact Or.inr rfl)) (gsm_c (gm_n g rfl (by first | exact Or.inl rfl | exact Or.inr rfl)) gsm_n))) (bm_1 (sm_if (tm_not (tm_val (em_cal g c_is_below hT (fun z => Bool.noConfusion z) rfl (rm_v (em_v 3 rfl) (rm_v (em_v 0 rfl) rm_n))))) (bm_1 (sm_rz g E.x_BadQueue rfl (am_c (em_v 2 rfl) am_n))) bm_n)))
    (bm_1 (sm_r (em_tuple rfl E.b_tuple (am_c (em_v 1 rfl) am_n))))))
abbrev C_is_end (Pr : Program) (w : World) (K : PySem.W.Frag) (mg : Str → Option Value) (base : Heap) (T : List (Addr × Str)) : Prop := Cal false Pr w K mg base T "_is_end" (defArgs s_is_end) ["value", "commands"] 2 [] run_is_end
theorem ok_is_end (E : En Pr w K mg base)  (c_is_whole : C_is_whole Pr w K mg base T)  : C_is_end Pr w K mg base T :=
  cal_m (N := ["value", "commands"]) E.d_is_end (scope_of rfl rfl rfl (by decide) rfl (by decide +kernel) (by decide +kernel)) (by decide) (fun _ _ _ _ _ _ us hl => match us, hl with | [_, _], _ => rfl) fun f cdv A outer s H E0 P hT hrp g =>
    (bm_1 (sm_r (em_or (em_is (em_v 0 rfl) em_non) (em_one (em_and (em_cal g c_is_whole hT (fun z => Bool.noConfusion z) rfl (rm_v (em_v 0 rfl) rm_n)) (em_one (em_lelt em_nint (em_v 0 rfl) (em_v 1 rfl))))))))
abbrev C_bad_row (Pr : Program) (w : World) (K : PySem.W.Frag) (mg : Str → Option Value) (base : Heap) (T : List (Addr × Str)) : Prop := Cal false Pr w K mg base T "_bad_row" (defArgs s_bad_row) ["rows"] 3 [] run_bad_row
theorem ok_bad_row (E : En Pr w K mg base)  (c_is_row : C_is_row Pr w K mg base T) (c_is_end : C_is_end Pr w K mg base T)  : C_bad_row Pr w K mg base T :=
  cal_m (N := ["rows", "at", "row", "end"]) E.d_bad_row (scope_of rfl rfl rfl (by decide) rfl (by decide +kernel) (by decide +kernel)) (by decide) (fun _ _ _ _ _ _ us hl => match us, hl with | [_], _ => rfl) fun f cdv A outer s H E0 P hT hrp g =>
    (bm_c (sm_if (tm_not (tm_val (em_cal g c_is_row hT (fun z => Bool.noConfusion z) rfl (rm_v (em_v 0 rfl) (rm_v em_int (rm_v (em_gint rfl E.i_COMMAND_LIMIT) rm_n)))))) (bm_1 (sm_r em_nint)) bm_n)
    (bm_c (sm_for g (im_enum rfl E.b_enumerate (am_c (em_v 0 rfl) am_n)) (gm_t g (gsm_c (gm_n g rfl (by first | exact Or.inl rfl | exact Or.inr rfl)) (gsm_c (gm_n g rfl (by first | exact Or.inl rfl | exact Or.inr rfl)) gsm_n))) (bm_c (sm_if (tm_not (tm_val (em_cal g c_is_row hT (fun z => Bool.noConfusion z) rfl (rm_v (em_v 2 rfl) (rm_v (em_len rfl E.b_len (am_c (em_v 0 rfl) am_n)) (rm_v (em_len rfl E.b_len (am_c (em_v 0 rfl) am_n)) rm_n)))))) (bm_1 (sm_r (em_v 1 rfl))) bm_n)
    (bm_1 (sm_if (tm_not (tm_val (em_all g rfl E.b_all (am_c (em_lc g [("end", 3)] (im_seq (em_v 2 rfl)) (fun _ _ _ _ _ g1 => (gm_n g1 rfl (by first | exact Or.inl rfl | exact Or.inr rfl))) (fun _ _ _ _ _ g1 => tsm_n) (fun _ _ _ _ _ g1 => (em_cal g1 c_is_end hT (fun z => Bool.noConfusion z) rfl (rm_v (em_v 3 rfl) (rm_v (em_len rfl E.b_len (am_c (em_v 0 rfl) am_n)) rm_n))))) am_n)))) (bm_1 (sm_r (em_v 1 rfl))) bm_n))))
    (bm_1 (sm_r em_non))))
abbrev C_left_of (Pr : Program) (w : World) (K : PySem.W.Frag) (mg : Str → Option Value) (base : Heap) (T : List (Addr × Str)) : Prop := Cal false Pr w K mg base T "left_of" (defArgs s_left_of) ["rows", "one", "other"] 1 [] run_left_of
theorem ok_left_of (E : En Pr w K mg base)    : C_left_of Pr w K mg base T :=
  cal_m (N := ["rows", "one", "other"]) E.d_left_of (scope_of rfl rfl rfl (by decide) rfl (by decide +kernel) (by decide +kernel)) (by decide) (fun _ _ _ _ _ _ us hl => match us, hl with | [_, _, _], _ => rfl) fun f cdv A outer s H E0 P hT hrp g =>
    (bm_c (sm_if (tm_eq g (em_v 1 rfl) em_nint) (bm_1 (sm_r (em_v 2 rfl))) bm_n)
    (bm_c (sm_if (tm_eq g (em_v 2 rfl) em_nint) (bm_1 (sm_r (em_v 1 rfl))) bm_n)
    (bm_1 (sm_r (em_ix (em_ix (em_v 0 rfl) (em_v 1 rfl)) (em_v 2 rfl))))))
abbrev C_unsound_three (Pr : Program) (w : World) (K : PySem.W.Frag) (mg : Str → Option Value) (base : Heap) (T : List (Addr × Str)) : Prop := Cal false Pr w K mg base T "_unsound_three" (defArgs s_unsound_three) ["rows"] 2 [] run_unsound_three
theorem ok_unsound_three (E : En Pr w K mg base)  (c_left_of : C_left_of Pr w K mg base T)  : C_unsound_three Pr w K mg base T :=
  cal_m (N := ["rows", "one", "row", "middle", "end", "other", "behind"]) E.d_unsound_three (scope_of rfl rfl rfl (by decide) rfl (by decide +kernel) (by decide +kernel)) (by decide) (fun _ _ _ _ _ _ us hl => match us, hl with | [_], _ => rfl) fun f cdv A outer s H E0 P hT hrp g =>
    (bm_c (sm_for g (im_enum rfl E.b_enumerate (am_c (em_v 0 rfl) am_n)) (gm_t g (gsm_c (gm_n g rfl (by first | exact Or.inl rfl | exact Or.inr rfl)) (gsm_c (gm_n g rfl (by first | exact Or.inl rfl | exact Or.inr rfl)) gsm_n))) (bm_1 (sm_for g (im_enum rfl E.b_enumerate (am_c (em_v 2 rfl) am_n)) (gm_t g (gsm_c (gm_n g rfl (by first | exact Or.inl rfl | exact Or.inr rfl)) (gsm_c (gm_n g rfl (by first | exact Or.inl rfl | exact Or.inr rfl)) gsm_n))) (bm_c (sm_if (tm_is (em_v 4 rfl) em_non) (bm_1 sm_cont) bm_n)
    (bm_1 (sm_for g (im_enum rfl E.b_enumerate (am_c (em_ix (em_v 0 rfl) (em_v 3 rfl)) am_n)) (gm_t g (gsm_c (gm_n g rfl (by first | exact Or.inl rfl | exact Or.inr rfl)) (gsm_c (gm_n g rfl (by first | exact Or.inl rfl | exact Or.inr rfl)) gsm_n))) (bm_c (sm_if (tm_is (em_v 6 rfl) em_non) (bm_1 sm_cont) bm_n)
    (bm_1 (sm_if (tm_ne g (em_cal g c_left_of hT (fun z => Bool.noConfusion z) rfl (rm_v (em_v 0 rfl) (rm_v (em_v 4 rfl) (rm_v (em_v 5 rfl) rm_n)))) (em_cal g c_left_of hT (fun z => Bool.noConfusion z) rfl (rm_v (em_v 0 rfl) (rm_v (em_v 1 rfl) (rm_v (em_v 6 rfl) rm_n))))) (bm_1 (sm_r (em_tup (am_c (em_v 1 rfl) (am_c (em_v 3 rfl) (am_c (em_v 5 rfl) am_n)))))) bm_n)))))))))
    (bm_1 (sm_r em_non)))
abbrev C_check_command (Pr : Program) (w : World) (K : PySem.W.Frag) (mg : Str → Option Value) (base : Heap) (T : List (Addr × Str)) : Prop := Cal false Pr w K mg base T "check_command" (defArgs s_check_command) ["merger", "value"] 3 [] run_check_command
theorem ok_check_command (E : En Pr w K mg base)  (c_is_below : C_is_below Pr w K mg base T)  : C_check_command Pr w K mg base T :=
  cal_m (N := ["merger", "value"]) E.d_check_command (scope_of rfl rfl rfl (by decide) rfl (by decide +kernel) (by decide +kernel)) (by decide) (fun _ _ _ _ _ _ us hl => match us, hl with | [_, _], _ => rfl) fun f cdv A outer s H E0 P hT hrp g =>
    (bm_1 (sm_if (tm_not (tm_val (em_cal g c_is_below hT (fun z => Bool.noConfusion z) rfl (rm_v (em_v 1 rfl) (rm_v (em_fld E.f_commands (em_v 0 rfl)) rm_n))))) (bm_1 (sm_rz g E.x_NoCommand rfl (am_c (em_v 1 rfl) am_n))) bm_n))
abbrev C_merged (Pr : Program) (w : World) (K : PySem.W.Frag) (mg : Str → Option Value) (base : Heap) (T : List (Addr × Str)) : Prop := Cal false Pr w K mg base T "merged" (defArgs s_merged) ["merger", "one", "other"] 4 [] run_merged
theorem ok_merged (E : En Pr w K mg base)  (c_check_command : C_check_command Pr w K mg base T)  : C_merged Pr w K mg base T :=
  cal_m (N := ["merger", "one", "other"]) E.d_merged (scope_of rfl rfl rfl (by decide) rfl (by decide +kernel) (by decide +kernel)) (by decide) (fun _ _ _ _ _ _ us hl => match us, hl with | [_, _, _], _ => rfl) fun f cdv A outer s H E0 P hT hrp g =>
    (bm_c (sm_e (em_cal g c_check_command hT (fun z => Bool.noConfusion z) rfl (rm_v (em_v 0 rfl) (rm_v (em_v 1 rfl) rm_n))))
    (bm_c (sm_e (em_cal g c_check_command hT (fun z => Bool.noConfusion z) rfl (rm_v (em_v 0 rfl) (rm_v (em_v 2 rfl) rm_n))))
    (bm_1 (sm_r (em_ix (em_ix (em_fld E.f_rows (em_v 0 rfl)) (em_v 1 rfl)) (em_v 2 rfl))))))
abbrev C_three_ends (Pr : Program) (w : World) (K : PySem.W.Frag) (mg : Str → Option Value) (base : Heap) (T : List (Addr × Str)) : Prop := Cal false Pr w K mg base T "three_ends" (defArgs s_three_ends) ["merger", "one", "middle", "other"] 4 [] run_three_ends
theorem ok_three_ends (E : En Pr w K mg base)  (c_left_of : C_left_of Pr w K mg base T) (c_check_command : C_check_command Pr w K mg base T)  : C_three_ends Pr w K mg base T :=
  cal_m (N := ["merger", "one", "middle", "other", "command", "rows", "ahead", "behind"]) E.d_three_ends (scope_of rfl rfl rfl (by decide) rfl (by decide +kernel) (by decide +kernel)) (by decide) (fun _ _ _ _ _ _ us hl => match us, hl with | [_, _, _, _], _ => rfl) fun f cdv A outer s H E0 P hT hrp g =>
    (bm_c (sm_for g (im_seq (em_tup (am_c (em_v 1 rfl) (am_c (em_v 2 rfl) (am_c (em_v 3 rfl) am_n))))) (gm_n g rfl (by first | exact Or.inl rfl | exact Or.inr rfl)) (bm_1 (sm_e (em_cal g c_check_command hT (fun z => Bool.noConfusion z) rfl (rm_v (em_v 0 rfl) (rm_v (em_v 4 rfl) rm_n))))))
    (bm_c (sm_a g rfl (by first | exact Or.inl rfl | exact Or.inr rfl) (em_fld E.f_rows (em_v 0 rfl)))
    (bm_c (sm_par g rfl rfl (by decide) rfl rfl (am_c (em_ix (em_ix (em_v 5 rfl) (em_v 1 rfl)) (em_v 2 rfl)) (am_c (em_ix (em_ix (em_v 5 rfl) (em_v 2 rfl)) (em_v 3 rfl)) am_n)) rfl)
    (bm_c (sm_if (PW.pt (wm_or (tm_is (em_v 6 rfl) em_non) (wm_or1 (tm_is (em_v 7 rfl) em_non)))) (bm_1 (sm_r em_non)) bm_n)
    (bm_1 (sm_r (em_tup (am_c (em_cal g c_left_of hT (fun z => Bool.noConfusion z) rfl (rm_v (em_v 5 rfl) (rm_v (em_v 6 rfl) (rm_v (em_v 3 rfl) rm_n)))) (am_c (em_cal g c_left_of hT (fun z => Bool.noConfusion z) rfl (rm_v (em_v 5 rfl) (rm_v (em_v 1 rfl) (rm_v (em_v 7 rfl) rm_n)))) am_n)))))))))
abbrev C_check_queue (Pr : Program) (w : World) (K : PySem.W.Frag) (mg : Str → Option Value) (base : Heap) (T : List (Addr × Str)) : Prop := Cal false Pr w K mg base T "check_queue" (defArgs s_check_queue) ["merger", "value"] 4 [] run_check_queue
theorem ok_check_queue (E : En Pr w K mg base)  (c_queue_of : C_queue_of Pr w K mg base T)  : C_check_queue Pr w K mg base T :=
  cal_m (N := ["merger", "value"]) E.d_check_queue (scope_of rfl rfl rfl (by decide) rfl (by decide +kernel) (by decide +kernel)) (by decide) (fun _ _ _ _ _ _ us hl => match us, hl with | [_, _], _ => rfl) fun f cdv A outer s H E0 P hT hrp g =>
    (bm_1 (sm_r (em_cal g c_queue_of hT (fun z => Bool.noConfusion z) rfl (rm_v (em_fld E.f_commands (em_v 0 rfl)) (rm_v (em_v 1 rfl) rm_n)))))
abbrev C_places_of (Pr : Program) (w : World) (K : PySem.W.Frag) (mg : Str → Option Value) (base : Heap) (T : List (Addr × Str)) : Prop := Cal false Pr w K mg base T "places_of" (defArgs s_places_of) ["rows", "queue"] 1 [] run_places_of
theorem ok_places_of (E : En Pr w K mg base)    : C_places_of Pr w K mg base T :=
  cal_m (N := ["rows", "queue", "pairs", "at", "one", "other"]) E.d_places_of (scope_of rfl rfl rfl (by decide) rfl (by decide +kernel) (by decide +kernel)) (by decide) (fun _ _ _ _ _ _ us hl => match us, hl with | [_, _], _ => rfl) fun f cdv A outer s H E0 P hT hrp g =>
    (bm_c (sm_a g rfl (by first | exact Or.inl rfl | exact Or.inr rfl) (em_lz g rfl E.b_list rfl E.b_zip (am_c (em_v 1 rfl) (am_c (em_sl (em_v 1 rfl) (om_s em_int) om_n) am_n))))
    (bm_1 (sm_r (em_tuple rfl E.b_tuple (am_c (em_lc g [("at", 3), ("one", 4), ("other", 5)] (im_enum rfl E.b_enumerate (am_c (em_v 2 rfl) am_n)) (fun _ _ _ _ _ g1 => (gm_t g1 (gsm_c (gm_n g1 rfl (by first | exact Or.inl rfl | exact Or.inr rfl)) (gsm_c (gm_t g1 (gsm_c (gm_n g1 rfl (by first | exact Or.inl rfl | exact Or.inr rfl)) (gsm_c (gm_n g1 rfl (by first | exact Or.inl rfl | exact Or.inr rfl)) gsm_n))) gsm_n)))) (fun _ _ _ _ _ g1 => (tsm_1 (tm_isnot (em_ix (em_ix (em_v 0 rfl) (em_v 4 rfl)) (em_v 5 rfl)) em_non))) (fun _ _ _ _ _ g1 => (em_v 3 rfl))) am_n)))))
abbrev C_mergeable_places (Pr : Program) (w : World) (K : PySem.W.Frag) (mg : Str → Option Value) (base : Heap) (T : List (Addr × Str)) : Prop := Cal false Pr w K mg base T "mergeable_places" (defArgs s_mergeable_places) ["merger", "queue"] 5 [] run_mergeable_places
theorem ok_mergeable_places (E : En Pr w K mg base)  (c_check_queue : C_check_queue Pr w K mg base T) (c_places_of : C_places_of Pr w K mg base T)  : C_mergeable_places Pr w K mg base T :=
  cal_m (N := ["merger", "queue"]) E.d_mergeable_places (scope_of rfl rfl rfl (by decide) rfl (by decide +kernel) (by decide +kernel)) (by decide) (fun _ _ _ _ _ _ us hl => match us, hl with | [_, _], _ => rfl) fun f cdv A outer s H E0 P hT hrp g =>
    (bm_1 (sm_r (em_cal g c_places_of hT (fun z => Bool.noConfusion z) rfl (rm_v (em_fld E.f_rows (em_v 0 rfl)) (rm_v (em_cal g c_check_queue hT (fun z => Bool.noConfusion z) rfl (rm_v (em_v 0 rfl) (rm_v (em_v 1 rfl) rm_n))) rm_n)))))
abbrev C_is_folded (Pr : Program) (w : World) (K : PySem.W.Frag) (mg : Str → Option Value) (base : Heap) (T : List (Addr × Str)) : Prop := Cal false Pr w K mg base T "is_folded" (defArgs s_is_folded) ["merger", "queue"] 6 [] run_is_folded
theorem ok_is_folded (E : En Pr w K mg base)  (c_mergeable_places : C_mergeable_places Pr w K mg base T)  : C_is_folded Pr w K mg base T :=
  cal_m (N := ["merger", "queue"]) E.d_is_folded (scope_of rfl rfl rfl (by decide) rfl (by decide +kernel) (by decide +kernel)) (by decide) (fun _ _ _ _ _ _ us hl => match us, hl with | [_, _], _ => rfl) fun f cdv A outer s H E0 P hT hrp g =>
    (bm_1 (sm_r (em_eq g (em_len rfl E.b_len (am_c (em_cal g c_mergeable_places hT (fun z => Bool.noConfusion z) rfl (rm_v (em_v 0 rfl) (rm_v (em_v 1 rfl) rm_n))) am_n)) em_int)))
def m_law_box_1 : MS := (sR (eL (aC (e2 pIx (eL (aC (eC (.int 0)) (aC (eV 2) aN))) (eN fInt (aC (e2 pGe (eV 2) (e2 pPow (eC (.int 10)) (eC (.int 18)))) aN))) (aC (e2 pAdd (e2 pMod (eN fInt (aC (e2 pAdd (e2 pMul (e2 pMod (eN fInt (aC (eV 2) aN)) (eC (.int 2147483477))) (eC (.int 37561))) (e2 pMul (eC (.int 29009)) (eV 1))) aN)) (eC (.int 2147483477))) (eC (.int 1))) (aC (eC (.int 0)) aN)))))
def m_law_box : MS := (sS (sA 2 (e2 pAdd (e2 pMul (eC (.int 8221)) (eV 1)) (eC (.int 457))))
  (sS (sIf (tV (e2 pLt (eV 1) (eN fLen (aC (eV 0) aN)))) (sA 2 (eN fAbs (aC (e2 pIx (eV 0) (eV 1)) aN))) (sIf (tV (e2 pGt (eN fLen (aC (eV 0) aN)) (eC (.int 0)))) (sA 2 (e2 pAdd (eV 2) (e2 pMul (e2 pMod (eN fInt (aC (eN fAbs (aC (e2 pIx (eV 0) (e2 pMod (eN fInt (aC (eV 1) aN)) (eN fLen (aC (eV 0) aN)))) aN)) aN)) (eC (.int 2147483477))) (eC (.int 42701))))) sN))
  m_law_box_1))
abbrev run_law_box : List OT → FR := runB 3 [] m_law_box
abbrev C_law_box (Pr : Program) (w : World) (K : PySem.W.Frag) (mg : Str → Option Value) (base : Heap) (T : List (Addr × Str)) : Prop := Cal false Pr w K mg base T "_law_box" (defArgs s_law_box) ["_law_script", "_law_k"] 1 [] run_law_box
theorem ok_law_box (E : En Pr w K mg base)    : C_law_box Pr w K mg base T :=
  cal_m (N := ["_law_script", "_law_k", "_law_cell"]) E.d_law_box (scope_of rfl rfl rfl (by decide) rfl (by decide +kernel) (by decide +kernel)) (by decide) (fun _ _ _ _ _ _ us hl => match us, hl with | [_, _], _ => rfl) fun f cdv A outer s H E0 P hT hrp g =>
    (bm_c (sm_a g rfl (by first | exact Or.inl rfl | exact Or.inr rfl) (em_add (em_mul em_int (em_v 1 rfl)) em_int))
    (bm_c (sm_if (tm_lt (em_v 1 rfl) (em_len rfl E.b_len (am_c (em_v 0 rfl) am_n))) (bm_1 (sm_a g rfl (by first | exact Or.inl rfl | exact Or.inr rfl) (em_abs rfl E.b_abs (am_c (em_ix (em_v 0 rfl) (em_v 1 rfl)) am_n)))) (bm_1 (sm_if (tm_gt (em_len rfl E.b_len (am_c (em_v 0 rfl) am_n)) em_int) (bm_1 (sm_a g rfl (by first | exact Or.inl rfl | exact Or.inr rfl) (em_add (em_v 2 rfl) (em_mul (em_mod (em_cint rfl E.b_int (am_c (em_abs rfl E.b_abs (am_c (em_ix (em_v 0 rfl) (em_mod (em_cint rfl E.b_int (am_c (em_v 1 rfl) am_n)) (em_len rfl E.b_len (am_c (em_v 0 rfl) am_n)))) am_n)) am_n)) em_int) em_int)))) bm_n)))
    (bm_1 (sm_r (em_lst (am_c (em_ix (em_lst (am_c em_int (am_c (em_v 2 rfl) am_n))) (em_cint rfl E.b_int (am_c (em_ge (em_v 2 rfl) (em_pow em_int em_int)) am_n))) (am_c (em_add (em_mod (em_cint rfl E.b_int (am_c (em_add (em_mul (em_mod (em_cint rfl E.b_int (am_c (em_v 2 rfl) am_n)) em_int) em_int) (em_mul em_int (em_v 1 rfl))) am_n)) em_int) em_int) (am_c em_int am_n))))))))
def m_law_take_1 : MS := (sS (sSet 0 (eIce (e2 pAdd (e2 pIx (eV 0) (eC (.int 2))) (eC (.int 1)))) (eC (.int 2)))
  (sS (sA 2 (eIce (e2 pMod (eN fInt (aC (e2 pAdd (e2 pMul (e2 pAdd (e2 pIx (eV 0) (eC (.int 1))) (e2 pMul (eC (.int 67003)) (e2 pIx (eV 0) (eC (.int 2))))) (eC (.int 59369))) (eC (.int 43))) aN)) (eC (.int 2147483423)))))
  (sS (sSet 0 (e2 pAdd (e2 pMod (eN fInt (aC (e2 pAdd (e2 pMul (eV 2) (eC (.int 44179))) (eC (.int 19013))) aN)) (eC (.int 2147483477))) (eC (.int 1))) (eC (.int 1)))
  (sR (eIce (e2 pMod (eN fInt (aC (e2 pDiv (e2 pAdd (e2 pMul (eV 2) (eC (.int 2147483629))) (e2 pIx (eV 0) (eC (.int 1)))) (eC (.int 8191))) aN)) (eV 1)))))))
def m_law_take : MS := (sS (sIf (tThaw (tV (e2 pGt (e2 pIx (eV 0) (eC (.int 0))) (eC (.int 0))))) (sS (sA 3 (eIce (e2 pMod (eN fInt (aC (e2 pIx (eV 0) (eC (.int 0))) aN)) (eV 1))))
  (sS (sSet 0 (eIce (e2 pDiv (e2 pIx (eV 0) (eC (.int 0))) (eV 1))) (eC (.int 0)))
  (sR (eV 3)))) sN)
  m_law_take_1)
abbrev run_law_take : List OT → FR := runB 4 [0] m_law_take
abbrev C_law_take (Pr : Program) (w : World) (K : PySem.W.Frag) (mg : Str → Option Value) (base : Heap) (T : List (Addr × Str)) : Prop := Cal false Pr w K mg base T "_law_take" (defArgs s_law_take) ["_law_box_here", "_law_many"] 1 [0] run_law_take
theorem ok_law_take (E : En Pr w K mg base)    : C_law_take Pr w K mg base T :=
  cal_m (N := ["_law_box_here", "_law_many", "_law_raw", "_law_digit"]) E.d_law_take (scope_of rfl rfl rfl (by decide) rfl (by decide +kernel) (by decide +kernel)) (by decide) (fun _ _ _ _ _ _ us hl => match us, hl with | [_, _], _ => rfl) fun f cdv A outer s H E0 P hT hrp g =>
    (bm_c (sm_if (tm_thaw g fun P' g' hT' hrp' => (tm_gt (em_ix (em_v 0 rfl) em_int) em_int)) (bm_c (sm_a g rfl (by first | exact Or.inl rfl | exact Or.inr rfl) (em_ice g fun P' g' hT' hrp' => (em_mod (em_cint rfl E.b_int (am_c (em_ix (em_v 0 rfl) em_int) am_n)) (em_v 1 rfl))))
    (bm_c (sm_set 0 rfl (by first | exact Or.inl rfl | exact Or.inr (Or.inl rfl) | exact Or.inr (Or.inr rfl)) (em_ice g fun P' g' hT' hrp' => (em_div (em_ix (em_v 0 rfl) em_int) (em_v 1 rfl))) em_int)
    (bm_1 (sm_r (em_v 3 rfl))))) bm_n)
    (bm_c (sm_set 0 rfl (by first | exact Or.inl rfl | exact Or.inr (Or.inl rfl) | exact Or.inr (Or.inr rfl)) (em_ice g fun P' g' hT' hrp' => (em_add (em_ix (em_v 0 rfl) em_int) em_int)) em_int)
    (bm_c (sm_a g rfl (by first | exact Or.inl rfl | exact Or.inr rfl) (em_ice g fun P' g' hT' hrp' => (em_mod (em_cint rfl E.b_int (am_c (em_add (em_mul (em_add (em_ix (em_v 0 rfl) em_int) (em_mul em_int (em_ix (em_v 0 rfl) em_int))) em_int) em_int) am_n)) em_int)))
    (bm_c (sm_set 0 rfl (by first | exact Or.inl rfl | exact Or.inr (Or.inl rfl) | exact Or.inr (Or.inr rfl)) (em_add (em_mod (em_cint rfl E.b_int (am_c (em_add (em_mul (em_v 2 rfl) em_int) em_int) am_n)) em_int) em_int) em_int)
    (bm_1 (sm_r (em_ice g fun P' g' hT' hrp' => (em_mod (em_cint rfl E.b_int (am_c (em_div (em_add (em_mul (em_v 2 rfl) em_int) (em_ix (em_v 0 rfl) em_int)) em_int) am_n)) (em_v 1 rfl)))))))))
def m_law_pick : MS := (sR (e2 pIx (eV 1) (eCall 2 [0] (run_law_take) (rR 0 (rV (eN fLen (aC (eV 1) aN)) rN)))))
abbrev run_law_pick : List OT → FR := runB 2 [0] m_law_pick
abbrev C_law_pick (Pr : Program) (w : World) (K : PySem.W.Frag) (mg : Str → Option Value) (base : Heap) (T : List (Addr × Str)) : Prop := Cal false Pr w K mg base T "_law_pick" (defArgs s_law_pick) ["_law_box_here", "_law_some"] 2 [0] run_law_pick
theorem ok_law_pick (E : En Pr w K mg base)  (c_law_take : C_law_take Pr w K mg base T)  : C_law_pick Pr w K mg base T :=
  cal_m (N := ["_law_box_here", "_law_some"]) E.d_law_pick (scope_of rfl rfl rfl (by decide) rfl (by decide +kernel) (by decide +kernel)) (by decide) (fun _ _ _ _ _ _ us hl => match us, hl with | [_, _], _ => rfl) fun f cdv A outer s H E0 P hT hrp g =>
    (bm_1 (sm_r (em_ix (em_v 1 rfl) (em_cal g c_law_take hT (fun z => Bool.noConfusion z) rfl (rm_r 0 rfl (by first | exact Or.inl rfl | exact Or.inr (Or.inl rfl) | exact Or.inr (Or.inr rfl)) (rm_v (em_len rfl E.b_len (am_c (em_v 1 rfl) am_n)) rm_n))))))
def m_law_maps_1 : MS := (sIf (tThaw (tAndM (tV (e2 pNe (eV 7) (eV 4))) (tV (e2 pNotIn (eV 7) (eV 5))))) (sApp 5 (eV 7)) sN)
def m_law_maps_2 : MS := (sS (sIf (tThaw (tAndM (tV (e2 pEq (eV 6) (eC (.int 2)))) (tV (e2 pNe (eV 5) (eL aN))))) (sS (sPar [8, 9] (aC (eCall 2 [0] (run_law_pick) (rR 0 (rB 5 rN))) (aC (eCall 2 [0] (run_law_pick) (rR 0 (rB 5 rN))) aN)))
  (sA 7 (eN fTup (aC (eLc (iN fR1 (aC (eV 2) aN)) (gN 10) mYes (e2 pIx (eV 9) (e2 pIx (eV 8) (eV 10))) [10]) aN)))) sN)
  m_law_maps_1)
def m_law_maps_3 : MS := (sS (sIf (tV (e2 pEq (eV 6) (eC (.int 1)))) (sA 7 (eN fTup (aC (eLc (iN fR1 (aC (eV 2) aN)) (gN 10) mYes (e2 pMod (eN fInt (aC (e2 pAdd (eV 10) (eC (.int 1))) aN)) (eV 2)) [10]) aN))) sN)
  m_law_maps_2)
def m_law_maps_4 : MS := (sS (sA 6 (eCall 2 [0] (run_law_take) (rR 0 (rV (eC (.int 4)) rN))))
  (sS (sA 7 (eN fTup (aC (eLc (iN fR1 (aC (eV 2) aN)) (gN 10) mYes (eCall 2 [0] (run_law_take) (rR 0 (rV (eV 2) rN))) [10]) aN)))
  (sS (sIf (tV (e2 pEq (eV 6) (eC (.int 0)))) (sA 7 (e2 pMul (eT (aC (eCall 2 [0] (run_law_take) (rR 0 (rV (eV 2) rN))) aN)) (eV 2))) sN)
  m_law_maps_3)))
def m_law_maps_5 : MS := (sS (sIf (tThaw (tV (e2 pEq (eN fLen (aC (eV 5) aN)) (eV 1)))) sB sN)
  m_law_maps_4)
def m_law_maps_6 : MS := (sR (eIf (tThaw (tV (e2 pNe (eV 5) (eL aN)))) (eV 5) (eL (aC (e2 pMul (eT (aC (eC (.int 0)) aN)) (eV 2)) aN))))
def m_law_maps : MS := (sS (sA 2 (eCall 2 [0] (run_law_pick) (rR 0 (rV (eL (aC (eC (.int 2)) (aC (eC (.int 3)) (aC (eC (.int 3)) (aC (eC (.int 4)) aN))))) rN))))
  (sS (sPar [4, 5] (aC (eTupR (eV 2)) (aC (eL aN) aN)))
  (sS (sFor (iN fR1 (aC (e2 pMul (eC (.int 4)) (eV 1)) aN)) (gN 3) m_law_maps_5)
  m_law_maps_6)))
abbrev run_law_maps : List OT → FR := runB 11 [0] m_law_maps
abbrev C_law_maps (Pr : Program) (w : World) (K : PySem.W.Frag) (mg : Str → Option Value) (base : Heap) (T : List (Addr × Str)) : Prop := Cal false Pr w K mg base T "_law_maps" (defArgs s_law_maps) ["_law_box_here", "_law_most"] 3 [0] run_law_maps
theorem ok_law_maps (E : En Pr w K mg base)  (c_law_take : C_law_take Pr w K mg base T) (c_law_pick : C_law_pick Pr w K mg base T)  : C_law_maps Pr w K mg base T :=
  cal_m (N := ["_law_box_here", "_law_most", "_law_states", "_law_turn", "_law_idle", "_law_found", "_law_style", "_law_table", "_law_ahead", "_law_behind", "_law_state"]) E.d_law_maps (scope_of rfl rfl rfl (by decide) rfl (by decide +kernel) (by decide +kernel)) (by decide) (fun _ _ _ _ _ _ us hl => match us, hl with | [_, _], _ => rfl) fun f cdv A outer s H E0 P hT hrp g =>
    (bm_c (sm_a g rfl (by first | exact Or.inl rfl | exact Or.inr rfl) (em_cal g c_law_pick hT (fun z => Bool.noConfusion z) rfl (rm_r 0 rfl (by first | exact Or.inl rfl | exact Or.inr (Or.inl rfl) | exact Or.inr (Or.inr rfl)) (rm_v (em_lst (am_c em_int (am_c em_int (am_c em_int (am_c em_int am_n))))) rm_n))))
    (bm_c (sm_par g rfl rfl (by decide) rfl rfl (am_c (em_tupR g rfl E.b_tuple rfl E.b_range (em_v 2 rfl)) (am_c (em_lst am_n) am_n)) rfl)
    (bm_c (sm_for g (im_rng1 rfl E.b_range (am_c (em_mul em_int (em_v 1 rfl)) am_n)) (gm_n g rfl (by first | exact Or.inl rfl | exact Or.inr rfl)) (bm_c (sm_if (tm_thaw g fun P' g' hT' hrp' => (tm_eq g' (em_len rfl E.b_len (am_c (em_v 5 rfl) am_n)) (em_v 1 rfl))) (bm_1 sm_break) bm_n)
    (bm_c (sm_a g rfl (by first | exact Or.inl rfl | exact Or.inr rfl) (em_cal g c_law_take hT (fun z => Bool.noConfusion z) rfl (rm_r 0 rfl (by first | exact Or.inl rfl | exact Or.inr (Or.inl rfl) | exact Or.inr (Or.inr rfl)) (rm_v em_int rm_n))))
    (bm_c (sm_a g rfl (by first | exact Or.inl rfl | exact Or.inr rfl) (em_tuple rfl E.b_tuple (am_c (em_lc g [("_law_state", 10)] (im_rng1 rfl E.b_range (am_c (em_v 2 rfl) am_n)) (fun _ _ _ _ _ g1 => (gm_n g1 rfl (by first | exact Or.inl rfl | exact Or.inr rfl))) (fun _ _ _ _ _ g1 => tsm_n) (fun _ _ _ _ _ g1 => (em_cal g1 c_law_take hT (fun z => Bool.noConfusion z) rfl (rm_r 0 rfl (by first | exact Or.inl rfl | exact Or.inr (Or.inl rfl) | exact Or.inr (Or.inr rfl)) (rm_v (em_v 2 rfl) rm_n))))) am_n)))
    (bm_c (sm_if (tm_eq g (em_v 6 rfl) em_int) (bm_1 (sm_a g rfl (by first | exact Or.inl rfl | exact Or.inr rfl) (em_mul (em_tup (am_c (em_cal g c_law_take hT (fun z => Bool.noConfusion z) rfl (rm_r 0 rfl (by first | exact Or.inl rfl | exact Or.inr (Or.inl rfl) | exact Or.inr (Or.inr rfl)) (rm_v (em_v 2 rfl) rm_n))) am_n)) (em_v 2 rfl)))) bm_n)
    (bm_c (sm_if (tm_eq g (em_v 6 rfl) em_int) (bm_1 (sm_a g rfl (by first | exact Or.inl rfl | exact Or.inr rfl) (em_tuple rfl E.b_tuple (am_c (em_lc g [("_law_state", 10)] (im_rng1 rfl E.b_range (am_c (em_v 2 rfl) am_n)) (fun _ _ _ _ _ g1 => (gm_n g1 rfl (by first | exact Or.inl rfl | exact Or.inr rfl))) (fun _ _ _ _ _ g1 => tsm_n) (fun _ _ _ _ _ g1 => (em_mod (em_cint rfl E.b_int (am_c (em_add (em_v 10 rfl) em_int) am_n)) (em_v 2 rfl)))) am_n)))) bm_n)
    (bm_c (sm_if (tm_thaw g fun P' g' hT' hrp' => (PW.pt (wm_and (tm_eq g' (em_v 6 rfl) em_int) (wm_and1 (tm_ne g' (em_v 5 rfl) (em_lst am_n)))))) (bm_c (sm_parT g (.cons rfl (by first | exact Or.inl rfl | exact Or.inr rfl) (by first | exact .inl rfl | exact .inr rfl) rfl rfl (.cons rfl (by first | exact Or.inl rfl | exact Or.inr rfl) (by first | exact .inl rfl | exact .inr rfl) rfl rfl .nil)) (am_c (em_cal g c_law_pick hT (fun z => Bool.noConfusion z) rfl (rm_r 0 rfl (by first | exact Or.inl rfl | exact Or.inr (Or.inl rfl) | exact Or.inr (Or.inr rfl)) (rm_b 5 rfl (by first | exact Or.inl rfl | exact Or.inr (Or.inl rfl) | exact Or.inr (Or.inr rfl)) rm_n))) (am_c (em_cal g c_law_pick hT (fun z => Bool.noConfusion z) rfl (rm_r 0 rfl (by first | exact Or.inl rfl | exact Or.inr (Or.inl rfl) | exact Or.inr (Or.inr rfl)) (rm_b 5 rfl (by first | exact Or.inl rfl | exact Or.inr (Or.inl rfl) | exact Or.inr (Or.inr rfl)) rm_n))) am_n)))
    (bm_1 (sm_a g rfl (by first | exact Or.inl rfl | exact Or.inr rfl) (em_tuple rfl E.b_tuple (am_c (em_lc g [("_law_state", 10)] (im_rng1 rfl E.b_range (am_c (em_v 2 rfl) am_n)) (fun _ _ _ _ _ g1 => (gm_n g1 rfl (by first | exact Or.inl rfl | exact Or.inr rfl))) (fun _ _ _ _ _ g1 => tsm_n) (fun _ _ _ _ _ g1 => (em_ix (em_v 9 rfl) (em_ix (em_v 8 rfl) (em_v 10 rfl))))) am_n))))) bm_n)
    (bm_1 (sm_if (tm_thaw g fun P' g' hT' hrp' => (PW.pt (wm_and (tm_ne g' (em_v 7 rfl) (em_v 4 rfl)) (wm_and1 (tm_notin g' (em_v 7 rfl) (em_v 5 rfl)))))) (bm_1 (sm_app 5 rfl (by first | exact Or.inl rfl | exact Or.inr (Or.inl rfl) | exact Or.inr (Or.inr rfl)) (em_v 7 rfl))) bm_n)))))))))
    (bm_1 (sm_r (em_if (tm_thaw g fun P' g' hT' hrp' => (tm_ne g' (em_v 5 rfl) (em_lst am_n))) (em_v 5 rfl) (em_lst (am_c (em_mul (em_tup (am_c em_int am_n)) (em_v 2 rfl)) am_n))))))))
def m_law_rows_of_1 : MS := (sS (sA 6 (eN fTup (aC (eLc (iN fR1 (aC (eV 2) aN)) (gN 7) mYes (e2 pIx (eV 5) (e2 pIx (eV 1) (eV 7))) [7]) aN)))
  (sApp 4 (eIf (tV (e2 pEq (eV 6) (eTupR (eV 2)))) (eC (.int (-1))) (eIf (tV (e2 pIn (eV 6) (eV 0))) (eIdx (eV 0) (eV 6)) (eC .non)))))
def m_law_rows_of_2 : MS := (sS (sA 4 (eL aN))
  (sS (sFor (mSeq (eV 0)) (gN 5) m_law_rows_of_1)
  (sApp 3 (eV 4))))
def m_law_rows_of : MS := (sS (sPar [2, 3] (aC (eN fLen (aC (e2 pIx (eV 0) (eC (.int 0))) aN)) (aC (eL aN) aN)))
  (sS (sFor (mSeq (eV 0)) (gN 1) m_law_rows_of_2)
  (sR (eV 3))))
abbrev run_law_rows_of : List OT → FR := runB 8 [] m_law_rows_of
abbrev C_law_rows_of (Pr : Program) (w : World) (K : PySem.W.Frag) (mg : Str → Option Value) (base : Heap) (T : List (Addr × Str)) : Prop := Cal false Pr w K mg base T "_law_rows_of" (defArgs s_law_rows_of) ["_law_maps_here"] 1 [] run_law_rows_of
theorem ok_law_rows_of (E : En Pr w K mg base)    : C_law_rows_of Pr w K mg base T :=
  cal_m (N := ["_law_maps_here", "_law_one", "_law_states", "_law_rows", "_law_row", "_law_other", "_law_both", "_law_state"]) E.d_law_rows_of (scope_of rfl rfl rfl (by decide) rfl (by decide +kernel) (by decide +kernel)) (by decide) (fun _ _ _ _ _ _ us hl => match us, hl with | [_], _ => rfl) fun f cdv A outer s H E0 P hT hrp g =>
    (bm_c (sm_par g rfl rfl (by decide) rfl rfl (am_c (em_len rfl E.b_len (am_c (em_ix (em_v 0 rfl) em_int) am_n)) (am_c (em_lst am_n) am_n)) rfl)
    (bm_c (sm_for g (im_seq (em_v 0 rfl)) (gm_n g rfl (by first | exact Or.inl rfl | exact Or.inr rfl)) (bm_c (sm_a g rfl (by first | exact Or.inl rfl | exact Or.inr rfl) (em_lst am_n))
    (bm_c (sm_for g (im_seq (em_v 0 rfl)) (gm_n g rfl (by first | exact Or.inl rfl | exact Or.inr rfl)) (bm_c (sm_a g rfl (by first | exact Or.inl rfl | exact Or.inr rfl) (em_tuple rfl E.b_tuple (am_c (em_lc g [("_law_state", 7)] (im_rng1 rfl E.b_range (am_c (em_v 2 rfl) am_n)) (fun _ _ _ _ _ g1 => (gm_n g1 rfl (by first | exact Or.inl rfl | exact Or.inr rfl))) (fun _ _ _ _ _ g1 => tsm_n) (fun _ _ _ _ _ g1 => (em_ix (em_v 5 rfl) (em_ix (em_v 1 rfl) (em_v 7 rfl))))) am_n)))
    (bm_1 (sm_app 4 rfl (by first | exact Or.inl rfl | exact Or.inr (Or.inl rfl) | exact Or.inr (Or.inr rfl)) (em_if (tm_eq g (em_v 6 rfl) (em_tupR g rfl E.b_tuple rfl E.b_range (em_v 2 rfl))) em_nint (em_if (tm_in g (em_v 6 rfl) (em_v 0 rfl)) (em_idx g (em_v 0 rfl) (em_v 6 rfl)) em_non))))))
    (bm_1 (sm_app 3 rfl (by first | exact Or.inl rfl | exact Or.inr (Or.inl rfl) | exact Or.inr (Or.inr rfl)) (em_v 4 rfl))))))
    (bm_1 (sm_r (em_v 3 rfl)))))
def m_law_against_1 : MS := (sIf (tV (e2 pNe (eV 5) (eV 6))) (sR (eT (aC (eV 2) (aC (eV 3) (aC (eV 4) aN))))) sN)
def m_law_against_2 : MS := (sS (sA 6 (eIf (tV (e2 pEq (e2 pIx (e2 pIx (eV 0) (eV 3)) (eV 4)) (eC (.int (-1))))) (eV 2) (e2 pIx (e2 pIx (eV 0) (eV 2)) (e2 pIx (e2 pIx (eV 0) (eV 3)) (eV 4)))))
  m_law_against_1)
def m_law_against_3 : MS := (sIf (tAndM (tV (e2 pIsNot (e2 pIx (e2 pIx (eV 0) (eV 2)) (eV 3)) (eC .non))) (tV (e2 pIsNot (e2 pIx (e2 pIx (eV 0) (eV 3)) (eV 4)) (eC .non)))) (sS (sA 5 (eIf (tV (e2 pEq (e2 pIx (e2 pIx (eV 0) (eV 2)) (eV 3)) (eC (.int (-1))))) (eV 4) (e2 pIx (e2 pIx (eV 0) (e2 pIx (e2 pIx (eV 0) (eV 2)) (eV 3))) (eV 4))))
  m_law_against_2) sN)
def m_law_against_4 : MS := (sFor (iN fR1 (aC (eV 1) aN)) (gN 4) m_law_against_3)
def m_law_against_5 : MS := (sFor (iN fR1 (aC (eV 1) aN)) (gN 3) m_law_against_4)
def m_law_against : MS := (sS (sA 1 (eN fLen (aC (eV 0) aN)))
  (sS (sFor (iN fR1 (aC (eV 1) aN)) (gN 2) m_law_against_5)
  (sR (eC .non))))
abbrev run_law_against : List OT → FR := runB 7 [] m_law_against
abbrev C_law_against (Pr : Program) (w : World) (K : PySem.W.Frag) (mg : Str → Option Value) (base : Heap) (T : List (Addr × Str)) : Prop := Cal false Pr w K mg base T "_law_against" (defArgs s_law_against) ["_law_rows"] 1 [] run_law_against
theorem ok_law_against (E : En Pr w K mg base)    : C_law_against Pr w K mg base T :=
  cal_m (N := ["_law_rows", "_law_many", "_law_a", "_law_b", "_law_c", "_law_left", "_law_right"]) E.d_law_against (scope_of rfl rfl rfl (by decide) rfl (by decide +kernel) (by decide +kernel)) (by decide) (fun _ _ _ _ _ _ us hl => match us, hl with | [_], _ => rfl) fun f cdv A outer s H E0 P hT hrp g =>
    (bm_c (sm_a g rfl (by first | exact Or.inl rfl | exact Or.inr rfl) (em_len rfl E.b_len (am_c (em_v 0 rfl) am_n)))
    (bm_c (sm_for g (im_rng1 rfl E.b_range (am_c (em_v 1 rfl) am_n)) (gm_n g rfl (by first | exact Or.inl rfl | exact Or.inr rfl)) (bm_1 (sm_for g (im_rng1 rfl E.b_range (am_c (em_v 1 rfl) am_n)) (gm_n g rfl (by first | exact Or.inl rfl | exact Or.inr rfl)) (bm_1 (sm_for g (im_rng1 rfl E.b_range (am_c (em_v 1 rfl) am_n)) (gm_n g rfl (by first | exact Or.inl rfl | exact Or.inr rfl)) (bm_1 (sm_if (PW.pt (wm_and (tm_isnot (em_ix (em_ix (em_v 0 rfl) (em_v 2 rfl)) (em_v 3 rfl)) em_non) (wm_and1 (tm_isnot (em_ix (em_ix (em_v 0 rfl) (em_v 3 rfl)) (em_v 4 rfl)) em_non)))) (bm_c (sm_a g rfl (by first | exact Or.inl rfl | exact Or.inr rfl) (em_if (tm_eq g (em_ix (em_ix (em_v 0 rfl) (em_v 2 rfl)) (em_v 3 rfl)) em_nint) (em_v 4 rfl) (em_ix (em_ix (em_v 0 rfl) (em_ix (em_ix (em_v 0 rfl) (em_v 2 rfl)) (em_v 3 rfl))) (em_v 4 rfl))))
    (bm_c (sm_a g rfl (by first | exact Or.inl rfl | exact Or.inr rfl) (em_if (tm_eq g (em_ix (em_ix (em_v 0 rfl) (em_v 3 rfl)) (em_v 4 rfl)) em_nint) (em_v 2 rfl) (em_ix (em_ix (em_v 0 rfl) (em_v 2 rfl)) (em_ix (em_ix (em_v 0 rfl) (em_v 3 rfl)) (em_v 4 rfl)))))
    (bm_1 (sm_if (tm_ne g (em_v 5 rfl) (em_v 6 rfl)) (bm_1 (sm_r (em_tup (am_c (em_v 2 rfl) (am_c (em_v 3 rfl) (am_c (em_v 4 rfl) am_n)))))) bm_n)))) bm_n)))))))
    (bm_1 (sm_r em_non))))
def m_law_sound_1 : MS := (sApp 4 (eLc (iN fR1 (aC (eV 2) aN)) (gN 6) mYes (eCall 2 [0] (run_law_pick) (rR 0 (rV (eL (aC (eC .non) (aC (eC .non) (aC (eC .non) (aC (eC (.int (-1))) (aC (eCall 2 [0] (run_law_take) (rR 0 (rV (eV 2) rN))) (aC (eCall 2 [0] (run_law_take) (rR 0 (rV (eV 2) rN))) aN))))))) rN))) [6]))
def m_law_sound_2 : MS := (sIf (tV (e2 pIs (eCall 1 [] (run_law_against) (rV (eV 4) rN)) (eC .non))) (sR (eV 4)) sN)
def m_law_sound_3 : MS := (sS (sA 4 (eL aN))
  (sS (sFor (iN fR1 (aC (eV 2) aN)) (gN 5) m_law_sound_1)
  m_law_sound_2))
def m_law_sound_4 : MS := (sR (eLc (iN fR1 (aC (eV 2) aN)) (gN 5) mYes (e2 pMul (eL (aC (eC .non) aN)) (eV 2)) [5]))
def m_law_sound_5 : MS := (sS (sA 2 (e2 pAdd (eC (.int 1)) (eCall 2 [0] (run_law_take) (rR 0 (rV (eC (.int 4)) rN)))))
  (sS (sFor (iN fR1 (aC (eC (.int 30)) aN)) (gN 3) m_law_sound_3)
  m_law_sound_4))
def m_law_sound : MS := (sS (sA 1 (eCall 2 [0] (run_law_take) (rR 0 (rV (eC (.int 6)) rN))))
  (sS (sIf (tV (e2 pLt (eV 1) (eC (.int 4)))) (sR (eCall 1 [] (run_law_rows_of) (rV (eCall 2 [0] (run_law_maps) (rR 0 (rV (e2 pAdd (eC (.int 1)) (eCall 2 [0] (run_law_take) (rR 0 (rV (eC (.int 5)) rN)))) rN))) rN))) sN)
  m_law_sound_5))
abbrev run_law_sound : List OT → FR := runB 7 [0] m_law_sound
abbrev C_law_sound (Pr : Program) (w : World) (K : PySem.W.Frag) (mg : Str → Option Value) (base : Heap) (T : List (Addr × Str)) : Prop := Cal false Pr w K mg base T "_law_sound" (defArgs s_law_sound) ["_law_box_here"] 4 [0] run_law_sound
theorem ok_law_sound (E : En Pr w K mg base)  (c_law_take : C_law_take Pr w K mg base T) (c_law_pick : C_law_pick Pr w K mg base T) (c_law_maps : C_law_maps Pr w K mg base T) (c_law_rows_of : C_law_rows_of Pr w K mg base T) (c_law_against : C_law_against Pr w K mg base T)  : C_law_sound Pr w K mg base T :=
  cal_m (N := ["_law_box_here", "_law_style", "_law_many", "_law_turn", "_law_rows", "_law_one", "_law_other"]) E.d_law_sound (scope_of rfl rfl rfl (by decide) rfl (by decide +kernel) (by decide +kernel)) (by decide) (fun _ _ _ _ _ _ us hl => match us, hl with | [_], _ => rfl) fun f cdv A outer s H E0 P hT hrp g =>
    (bm_c (sm_a g rfl (by first | exact Or.inl rfl | exact Or.inr rfl) (em_cal g c_law_take hT (fun z => Bool.noConfusion z) rfl (rm_r 0 rfl (by first | exact Or.inl rfl | exact Or.inr (Or.inl rfl) | exact Or.inr (Or.inr rfl)) (rm_v em_int rm_n))))
    (bm_c (sm_if (tm_lt (em_v 1 rfl) em_int) (bm_1 (sm_r (em_cal g c_law_rows_of hT (fun z => Bool.noConfusion z) rfl (rm_v (em_cal g c_law_maps hT (fun z => Bool.noConfusion z) rfl (rm_r 0 rfl (by first | exact Or.inl rfl | exact Or.inr (Or.inl rfl) | exact Or.inr (Or.inr rfl)) (rm_v (em_add em_int (em_cal g c_law_take hT (fun z => Bool.noConfusion z) rfl (rm_r 0 rfl (by first | exact Or.inl rfl | exact Or.inr (Or.inl rfl) | exact Or.inr (Or.inr rfl)) (rm_v em_int rm_n)))) rm_n))) rm_n)))) bm_n)
    (bm_c (sm_a g rfl (by first | exact Or.inl rfl | exact Or.inr rfl) (em_add em_int (em_cal g c_law_take hT (fun z => Bool.noConfusion z) rfl (rm_r 0 rfl (by first | exact Or.inl rfl | exact Or.inr (Or.inl rfl) | exact Or.inr (Or.inr rfl)) (rm_v em_int rm_n)))))
    (bm_c (sm_for g (im_rng1 rfl E.b_range (am_c em_int am_n)) (gm_n g rfl (by first | exact Or.inl rfl | exact Or.inr rfl)) (bm_c (sm_a g rfl (by first | exact Or.inl rfl | exact Or.inr rfl) (em_lst am_n))
    (bm_c (sm_for g (im_rng1 rfl E.b_range (am_c (em_v 2 rfl) am_n)) (gm_n g rfl (by first | exact Or.inl rfl | exact Or.inr rfl)) (bm_1 (sm_app 4 rfl (by first | exact Or.inl rfl | exact Or.inr (Or.inl rfl) | exact Or.inr (Or.inr rfl)) (em_lc g [("_law_other", 6)] (im_rng1 rfl E.b_range (am_c (em_v 2 rfl) am_n)) (fun _ _ _ _ _ g1 => (gm_n g1 rfl (by first | exact Or.inl rfl | exact Or.inr rfl))) (fun _ _ _ _ _ g1 => tsm_n) (fun _ _ _ _ _ g1 => (em_cal g1 c_law_pick hT (fun z => Bool.noConfusion z) rfl (rm_r 0 rfl (by first | exact Or.inl rfl | exact Or.inr (Or.inl rfl) | exact Or.inr (Or.inr rfl)) (rm_v (em_lst (am_c em_non (am_c em_non (am_c em_non (am_c em_nint (am_c (em_cal g1 c_law_take hT (fun z => Bool.noConfusion z) rfl (rm_r 0 rfl (by first | exact Or.inl rfl | exact Or.inr (Or.inl rfl) | exact Or.inr (Or.inr rfl)) (rm_v (em_v 2 rfl) rm_n))) (am_c (em_cal g1 c_law_take hT (fun z => Bool.noConfusion z) rfl (rm_r 0 rfl (by first | exact Or.inl rfl | exact Or.inr (Or.inl rfl) | exact Or.inr (Or.inr rfl)) (rm_v (em_v 2 rfl) rm_n))) am_n))))))) rm_n))))))))
    (bm_1 (sm_if (tm_is (em_cal g c_law_against hT (fun z => Bool.noConfusion z) rfl (rm_v (em_v 4 rfl) rm_n)) em_non) (bm_1 (sm_r (em_v 4 rfl))) bm_n)))))
    (bm_1 (sm_r (em_lc g [("_law_one", 5)] (im_rng1 rfl E.b_range (am_c (em_v 2 rfl) am_n)) (fun _ _ _ _ _ g1 => (gm_n g1 rfl (by first | exact Or.inl rfl | exact Or.inr rfl))) (fun _ _ _ _ _ g1 => tsm_n) (fun _ _ _ _ _ g1 => (em_mul (em_lst (am_c em_non am_n)) (em_v 2 rfl))))))))))
theorem hrd_law_heard {X : Cx} {P : Pm} {W : WX} {bi : List Nat} {nn : Nat} {y : Str} {params : Arguments} {body : Expr} {scope : Scope} {p lpos pos : Pos} {mm : ME} (k : Nat) (E : En X.prog X.w X.K X.mg X.base) (g : Gd P W bi nn X)
    (LT : LamT X.K X.mg X.base P.T y (X.env.qual ++ "<lambda>")) (hcode : X.env.code = .ref (He.codeOf X.K (y, none))) (hk : k + 2 ≤ nn) (hgu : X.A.guards = some []) (L : LamX.LamS X.env.scope scope) (hdef : defaultsOf params X.env = ([], [])) (hbind : ∀ (q : Str) (cl : List (Str × Addr)) (pm cv ctv : Value), bindArgs (PySem.W.kla_fn "<lambda>" q params body scope cl pm cv ctv) {} = pure [])
    (hbody : ∀ (A : Around) (outer : List Env) (s : Shared) (H : Hp) (E : XK) (f c' : Addr) (P' : Pm), P'.T = P.T → P'.rp = false → Gd P' (fun cls d _ H => E cls d H) bi k (LamX.lamCx X A outer s H E scope f c') → EM (LamX.lamCx X A outer s H E scope f c') P' (fun cls d _ H => E cls d H) body mm)
    (hgl : Gl X "_law_heard" := by rfl) : EM X P W (.Call (.Name "_law_heard" p) [.Lambda params body scope lpos] [] pos) (eHeard2 mm hd_law_heard) :=
  have hu : X.A.units + 3 + 65 < cLine := by
    have := (g.room.mono hk).un
    omega
  em_hrd (Ng := ["_law_ask", "e"]) (fs := fs) (cs := cs_law_heard) k g E.d_law_heard (fun _ _ _ _ _ _ us hl => match us, hl with | [_], _ => rfl) (scope_of rfl rfl rfl (by decide) rfl (by decide +kernel) (by decide +kernel)) rfl (by first | exact Or.inl rfl | exact Or.inr (Or.inl rfl) | exact Or.inr (Or.inr rfl)) rfl rfl (fun _ => rfl) E.tx
    (fun cdv s H => (.cons ⟨rfl, by decide, Or.inl E.g_BadMerger⟩ (fun a oe cls d pn hz hfd => su_ret (j := 1) fun P x hT hrp hf => (em_tup (am_c em_str (am_c (em_hF (X := hdCx X ["_law_ask", "e"] "_law_heard" (defScope s_law_heard) (He.ga X.K "_law_heard") cdv s H) E.tx hf hz hfd "at" rfl (Or.inl rfl) (by decide) (by decide)) (am_c (em_hI (X := hdCx X ["_law_ask", "e"] "_law_heard" (defScope s_law_heard) (He.ga X.K "_law_heard") cdv s H) (q := ⟨0, 0, 0, 0⟩) E.tx hf hz hfd (.o "FoldError") rfl (Or.inl rfl) (by decide) (by decide) rfl E.b_isinstance (pe_glob rfl E.g_FoldError rfl)) am_n))))) (.cons ⟨rfl, by decide, Or.inl E.g_Unsound⟩ (fun a oe cls d pn hz hfd => su_ret (j := 1) fun P x hT hrp hf => (em_tup (am_c em_str (am_c (em_hF (X := hdCx X ["_law_ask", "e"] "_law_heard" (defScope s_law_heard) (He.ga X.K "_law_heard") cdv s H) E.tx hf hz hfd "three" rfl (Or.inl rfl) (by decide) (by decide)) (am_c (em_hI (X := hdCx X ["_law_ask", "e"] "_law_heard" (defScope s_law_heard) (He.ga X.K "_law_heard") cdv s H) (q := ⟨0, 0, 0, 0⟩) E.tx hf hz hfd (.o "FoldError") rfl (Or.inl rfl) (by decide) (by decide) rfl E.b_isinstance (pe_glob rfl E.g_FoldError rfl)) am_n))))) (.cons ⟨rfl, by decide, Or.inl E.g_BadQueue⟩ (fun a oe cls d pn hz hfd => su_ret (j := 1) fun P x hT hrp hf => (em_tup (am_c em_str (am_c (em_hF (X := hdCx X ["_law_ask", "e"] "_law_heard" (defScope s_law_heard) (He.ga X.K "_law_heard") cdv s H) E.tx hf hz hfd "at" rfl (Or.inl rfl) (by decide) (by decide)) (am_c (em_hI (X := hdCx X ["_law_ask", "e"] "_law_heard" (defScope s_law_heard) (He.ga X.K "_law_heard") cdv s H) (q := ⟨0, 0, 0, 0⟩) E.tx hf hz hfd (.o "FoldError") rfl (Or.inl rfl) (by decide) (by decide) rfl E.b_isinstance (pe_glob rfl E.g_FoldError rfl)) am_n))))) (.cons ⟨rfl, by decide, Or.inl E.g_NoCommand⟩ (fun a oe cls d pn hz hfd => su_ret (j := 1) fun P x hT hrp hf => (em_tup (am_c em_str (am_c (em_hR (X := hdCx X ["_law_ask", "e"] "_law_heard" (defScope s_law_heard) (He.ga X.K "_law_heard") cdv s H) hgu hu rfl E.b_repr (em_hF (X := hdCx X ["_law_ask", "e"] "_law_heard" (defScope s_law_heard) (He.ga X.K "_law_heard") cdv s H) E.tx hf hz hfd "command" rfl (Or.inl rfl) (by decide) (by decide))) (am_c (em_and (em_hI (X := hdCx X ["_law_ask", "e"] "_law_heard" (defScope s_law_heard) (He.ga X.K "_law_heard") cdv s H) (q := ⟨0, 0, 0, 0⟩) E.tx hf hz hfd (.b "KeyError") rfl (Or.inl rfl) (by decide) (by decide) rfl E.b_isinstance (pe_bltn rfl E.b_KeyError (by decide +kernel) rfl)) (em_one (em_not (em_hI (X := hdCx X ["_law_ask", "e"] "_law_heard" (defScope s_law_heard) (He.ga X.K "_law_heard") cdv s H) (q := ⟨0, 0, 0, 0⟩) E.tx hf hz hfd (.o "FoldError") rfl (Or.inl rfl) (by decide) (by decide) rfl E.b_isinstance (pe_glob rfl E.g_FoldError rfl))))) am_n))))) .nil))))) LT hcode hgl hk L hdef hbind hbody
abbrev C_Merger (Pr : Program) (w : World) (K : PySem.W.Frag) (mg : Str → Option Value) (base : Heap) (T : List (Addr × Str)) : Prop := CalC Pr w K mg base T "Merger" (defArgs s_Merger_init) ["self", "rows"] 4 run_Merger_init
theorem ok_Merger_init (E : En Pr w K mg base)  (c_bad_row : C_bad_row Pr w K mg base T) (c_unsound_three : C_unsound_three Pr w K mg base T)  : C_Merger Pr w K mg base T :=
  calc_m (N := ["self", "rows", "at", "told", "three", "row"]) E.d_Merger_init E.k_Merger E.g_Merger (scope_of rfl rfl rfl (by decide) rfl (by decide +kernel) (by decide +kernel)) (by decide) (fun _ _ _ _ _ _ us hl => match us, hl with | [_, _], _ => rfl) fun f cdv A outer s H E0 P hT hrp g =>
    (bm_c (sm_a g rfl (by first | exact Or.inl rfl | exact Or.inr rfl) (em_cal g c_bad_row hT (fun z => Bool.noConfusion z) rfl (rm_v (em_v 1 rfl) rm_n)))
    (bm_c (sm_if (tm_isnot (em_v 2 rfl) em_non) (bm_1 (sm_rz g E.x_BadMerger rfl (am_c (em_v 2 rfl) am_n))) bm_n)
    (bm_c (sm_a g rfl (by first | exact Or.inl rfl | exact Or.inr rfl) (em_tuple rfl E.b_tuple (am_c (em_lc g [("row", 5)] (im_seq (em_v 1 rfl)) (fun _ _ _ _ _ g1 => (gm_n g1 rfl (by first | exact Or.inl rfl | exact Or.inr rfl))) (fun _ _ _ _ _ g1 => tsm_n) (fun _ _ _ _ _ g1 => (em_tuple rfl E.b_tuple (am_c (em_v 5 rfl) am_n)))) am_n)))
    (bm_c (sm_a g rfl (by first | exact Or.inl rfl | exact Or.inr rfl) (em_cal g c_unsound_three hT (fun z => Bool.noConfusion z) rfl (rm_v (em_v 3 rfl) rm_n)))
    (bm_c (sm_if (tm_isnot (em_v 4 rfl) em_non) (bm_1 (sm_rz g E.x_Unsound rfl (am_c (em_v 4 rfl) am_n))) bm_n)
    (bm_c (sm_fld 0 E.f_commands rfl (by first | exact Or.inl rfl | exact Or.inr (Or.inl rfl) | exact Or.inr (Or.inr rfl)) (em_len rfl E.b_len (am_c (em_v 3 rfl) am_n)))
    (bm_1 (sm_fld 0 E.f_rows rfl (by first | exact Or.inl rfl | exact Or.inr (Or.inl rfl) | exact Or.inr (Or.inr rfl)) (em_v 3 rfl)))))))))
abbrev C_Merger_eq (Pr : Program) (w : World) (K : PySem.W.Frag) (mg : Str → Option Value) (base : Heap) (T : List (Addr × Str)) : Prop := CalM false Pr w K mg base T "Merger" "__eq__" ["self", "other"] 1 [] run_Merger_eq
theorem ok_Merger_eq (E : En Pr w K mg base)    : C_Merger_eq Pr w K mg base T :=
  calm_m (N := ["self", "other"]) E.d_Merger_eq (scope_of rfl rfl rfl (by decide) rfl (by decide +kernel) (by decide +kernel)) (by decide) (fun _ _ _ _ _ _ us hl => match us, hl with | [_, _], _ => rfl) fun f cdv A outer s H E0 P hT hrp g =>
    (bm_1 (sm_r (em_and (em_isi E.tab_Merger (.o "Merger") rfl E.b_isinstance (em_v 1 rfl) (pe_glob rfl E.g_Merger rfl)) (em_one (em_eq g (em_fld E.f_rows (em_v 0 rfl)) (em_fld E.f_rows (em_v 1 rfl)))))))
def m_law_told_right_1 : MS := (sIf (tV (e2 pNe (eN fRepr (aC (eLc (iN fR1 (aC (eV 9) aN)) (gN 11) mYes (eCall 3 [] (run_merged) (rV (eV 2) (rV (eV 5) (rV (eV 11) rN)))) [11]) aN)) (eN fRepr (aC (eN fList (aC (e2 pIx (eV 1) (eV 5)) aN)) aN)))) (sR (eC (.bl false))) sN)
def m_law_told_right_2 : MS := (sA 6 (eT (aC (eV 12) (aC (eV 12) aN))))
def m_law_told_right_3 : MS := (sIf (tV (e2 pNe (eHeard2 (eCall 4 [] (run_three_ends) (rV (eV 2) (rV (eC (.int 0)) (rV (eC (.int 0)) (rV (eV 7) rN))))) hd_law_heard) (eV 6))) (sR (eC (.bl false))) sN)
def m_law_told_right_4 : MS := (sS (sIf (tV (e2 pNe (eHeard2 (eCall 4 [] (run_three_ends) (rV (eV 2) (rV (eC (.int 0)) (rV (eV 7) (rV (eC .non) rN))))) hd_law_heard) (eV 6))) (sR (eC (.bl false))) sN)
  m_law_told_right_3)
def m_law_told_right_5 : MS := (sS (sIf (tV (e2 pNe (eHeard2 (eCall 4 [] (run_three_ends) (rV (eV 2) (rV (eV 7) (rV (eC .non) (rV (eC (.int 0)) rN))))) hd_law_heard) (eV 6))) (sR (eC (.bl false))) sN)
  m_law_told_right_4)
def m_law_told_right_6 : MS := (sS (sIf (tV (e2 pNe (eHeard2 (eCall 3 [] (run_merged) (rV (eV 2) (rV (eC (.int 0)) (rV (eV 7) rN)))) hd_law_heard) (eV 6))) (sR (eC (.bl false))) sN)
  m_law_told_right_5)
def m_law_told_right_7 : MS := (sS (sA 6 (eT (aC (eC (.str "command")) (aC (eN fRepr (aC (eV 7) aN)) (aC (eC (.bl true)) aN)))))
  (sS (sIf (tV (e2 pNe (eHeard2 (eCall 3 [] (run_merged) (rV (eV 2) (rV (eV 7) (rV (eC .non) rN)))) hd_law_heard) (eV 6))) (sR (eC (.bl false))) sN)
  m_law_told_right_6))
def m_law_told_right_8 : MS := (sS (sFor (mSeq (eT (aC (eV 9) (aC (e2 pSub (eC (.int 0)) (eC (.int 1))) (aC (eC (.bl true)) (aC (eC .non) (aC (eC (.str "0")) (aC (eT (aC (eC (.int 0)) aN)) aN)))))))) (gN 7) m_law_told_right_7)
  (sR (eC (.bl true))))
def m_law_told_right_9 : MS := (sS (sIf (tV (e2 pNe (eCallK 3 3 (run_merged) [2, 1, 0] (aC (eV 10) (aC (eV 5) (aC (eV 2) aN)))) (e2 pIx (e2 pIx (eV 1) (eV 5)) (eV 10)))) (sR (eC (.bl false))) sN)
  m_law_told_right_8)
def m_law_told_right_10 : MS := (sS (sIf (tOrM (tV (e2 pNe (eN fRepr (aC (eCall 4 [] (run_three_ends) (rV (eV 2) (rV (eV 5) (rV (eV 10) (rV (eV 11) rN))))) aN)) (eN fRepr (aC (eV 6) aN)))) (tV (e2 pNe (eCallK 4 4 (run_three_ends) [3, 2, 1, 0] (aC (eV 11) (aC (eV 10) (aC (eV 5) (aC (eV 2) aN))))) (eV 6)))) (sR (eC (.bl false))) sN)
  m_law_told_right_9)
def m_law_told_right_11 : MS := (sS (sPar [5, 10, 11] (aC (eCall 2 [0] (run_law_take) (rR 0 (rV (eV 9) rN))) (aC (eCall 2 [0] (run_law_take) (rR 0 (rV (eV 9) rN))) (aC (eCall 2 [0] (run_law_take) (rR 0 (rV (eV 9) rN))) aN))))
  (sS (sA 6 (eC .non))
  (sS (sIf (tAndM (tV (e2 pIsNot (e2 pIx (e2 pIx (eV 1) (eV 5)) (eV 10)) (eC .non))) (tV (e2 pIsNot (e2 pIx (e2 pIx (eV 1) (eV 10)) (eV 11)) (eC .non)))) (sS (sA 12 (eIf (tV (e2 pEq (e2 pIx (e2 pIx (eV 1) (eV 5)) (eV 10)) (eC (.int (-1))))) (eV 11) (e2 pIx (e2 pIx (eV 1) (e2 pIx (e2 pIx (eV 1) (eV 5)) (eV 10))) (eV 11))))
  m_law_told_right_2) sN)
  m_law_told_right_10)))
def m_law_told_right_12 : MS := (sS (sFor (iN fR1 (aC (eV 9) aN)) (gN 5) m_law_told_right_1)
  m_law_told_right_11)
def m_law_told_right_13 : MS := (sS (sIf (tOrM (tV (e2 pIsNot (e2 (orF2 (fEqO tab_Merger "Merger" [.b "tuple", .b "list", .o "Merger"] run_Merger_eq) pEq) (eV 2) (eMake "Merger" 2 run_Merger_init (rV (e2 pMul (eL (aC (e2 pMul (eL (aC (eC .non) aN)) (e2 pAdd (e2 pMod (eV 9) (eC (.int 12))) (eC (.int 1)))) aN)) (e2 pAdd (e2 pMod (eV 9) (eC (.int 12))) (eC (.int 1)))) rN))) (eC (.bl false)))) (tV (e2 pIsNot (e2 (orF2 (fEqO tab_Merger "Merger" [.b "tuple", .b "list", .o "Merger"] run_Merger_eq) pEq) (eMake "Merger" 2 run_Merger_init (rV (eV 4) rN)) (eV 2)) (eC (.bl true))))) (sR (eC (.bl false))) sN)
  m_law_told_right_12)
def m_law_told_right_14 : MS := (sS (sMv 3 8 0)
  (sS (sSet 3 (eC (.int 99)) (eC (.int 0)))
  (sS (sA 4 (eN fTup (aC (eLc (mSeq (eV 1)) (gN 13) mYes (eN fTup (aC (eV 13) aN)) [13]) aN)))
  (sS (sIf (tOrM (tV (e2 pNe (eN fRepr (aC (eL (aC (e1 (fFld ["Merger"] "commands") (eV 2)) (aC (e1 (fFld ["Merger"] "rows") (eV 2)) aN))) aN)) (eN fRepr (aC (eL (aC (eV 9) (aC (eV 4) aN))) aN)))) (tOrM (tV (e2 pIsNot (e2 (orF2 (fEqO tab_Merger "Merger" [.b "tuple", .b "list", .o "Merger"] run_Merger_eq) pEq) (eV 2) (eMake "Merger" 2 run_Merger_init (rV (eV 4) rN))) (eC (.bl true)))) (tV (e2 pIsNot (e2 (orF2 (fEqO tab_Merger "Merger" [.b "tuple", .b "list", .o "Merger"] run_Merger_eq) pEq) (eV 2) (eV 4)) (eC (.bl false)))))) (sR (eC (.bl false))) sN)
  m_law_told_right_13))))
def m_law_told_right : MS := (sS (sPar [8, 9] (aC (eLc (mSeq (eV 1)) (gN 13) mYes (eN fList (aC (eV 13) aN)) [13]) (aC (eN fLen (aC (eV 1) aN)) aN)))
  (sS (sA 2 (eIf (tV (e2 pEq (eCall 2 [0] (run_law_take) (rR 0 (rV (eC (.int 2)) rN))) (eC (.int 0)))) (eIce (eMake "Merger" 2 run_Merger_init (rB 8 rN))) (eIce (eMakeK "Merger" 2 1 run_Merger_init [0] (aC (eN fTup (aC (eV 8) aN)) aN)))))
  m_law_told_right_14))
abbrev run_law_told_right : List OT → FR := runB 14 [0] m_law_told_right
abbrev C_law_told_right (Pr : Program) (w : World) (K : PySem.W.Frag) (mg : Str → Option Value) (base : Heap) (T : List (Addr × Str)) : Prop := Cal true Pr w K mg base T "_law_told_right" (defArgs s_law_told_right) ["_law_box_here", "_law_rows"] 7 [0] run_law_told_right
theorem ok_law_told_right (E : En Pr w K mg base) (LM : Lm K mg base T) (c_Merger : C_Merger Pr w K mg base T) (c_merged : C_merged Pr w K mg base T) (c_three_ends : C_three_ends Pr w K mg base T) (c_law_take : C_law_take Pr w K mg base T) (c_Merger_eq : C_Merger_eq Pr w K mg base T) : C_law_told_right Pr w K mg base T :=
  cal_mL (N := ["_law_box_here", "_law_rows", "_law_merger", "_law_first", "_law_flat", "_law_one", "_law_due", "_law_value", "_law_handed", "_law_many", "_law_middle", "_law_other", "_law_left", "_law_row"]) E.d_law_told_right (scope_of rfl rfl rfl (by decide) rfl (by decide +kernel) (by decide +kernel)) (by decide) (fun _ _ _ _ _ _ us hl => match us, hl with | [_, _], _ => rfl) fun f A outer s H E0 P hT hrp g =>
    (bm_c (sm_par g rfl rfl (by decide) rfl rfl (am_c (em_lc g [("_law_row", 13)] (im_seq (em_v 1 rfl)) (fun _ _ _ _ _ g1 => (gm_n g1 rfl (by first | exact Or.inl rfl | exact Or.inr rfl))) (fun _ _ _ _ _ g1 => tsm_n) (fun _ _ _ _ _ g1 => (em_list rfl E.b_list (am_c (em_v 13 rfl) am_n)))) (am_c (em_len rfl E.b_len (am_c (em_v 1 rfl) am_n)) am_n)) rfl)
    (bm_c (sm_a g rfl (by first | exact Or.inl rfl | exact Or.inr rfl) (em_if (tm_eq g (em_cal g c_law_take hT (fun z => Bool.noConfusion z) rfl (rm_r 0 rfl (by first | exact Or.inl rfl | exact Or.inr (Or.inl rfl) | exact Or.inr (Or.inr rfl)) (rm_v em_int rm_n))) em_int) (em_ice g fun P' g' hT' hrp' => (em_mk (E := fun _ _ _ => False) g' c_Merger (hT'.trans hT) rfl (rm_b 8 rfl (by first | exact Or.inl rfl | exact Or.inr (Or.inl rfl) | exact Or.inr (Or.inr rfl)) rm_n))) (em_ice g fun P' g' hT' hrp' => (em_mkk (E := fun _ _ _ => False) (ks := ["rows"]) g' [0] c_Merger (hT'.trans hT) rfl (km_c (em_tuple rfl E.b_tuple (am_c (em_v 8 rfl) am_n)) km_n) (fun _ _ _ _ _ _ _ _ _ _ us hl => match us, hl with | [_], _ => rfl)))))
    (bm_c (sm_mv g 3 8 0 rfl rfl (by first | exact Or.inl rfl | exact Or.inr rfl) (by first | exact Or.inl rfl | exact Or.inr (Or.inl rfl) | exact Or.inr (Or.inr rfl)))
    (bm_c (sm_set 3 rfl (by first | exact Or.inl rfl | exact Or.inr (Or.inl rfl) | exact Or.inr (Or.inr rfl)) em_int em_int)
    (bm_c (sm_a g rfl (by first | exact Or.inl rfl | exact Or.inr rfl) (em_tuple rfl E.b_tuple (am_c (em_lc g [("_law_row", 13)] (im_seq (em_v 1 rfl)) (fun _ _ _ _ _ g1 => (gm_n g1 rfl (by first | exact Or.inl rfl | exact Or.inr rfl))) (fun _ _ _ _ _ g1 => tsm_n) (fun _ _ _ _ _ g1 => (em_tuple rfl E.b_tuple (am_c (em_v 13 rfl) am_n)))) am_n)))
    (bm_c (sm_if (PW.pt (wm_or (tm_ne g (em_repr g hrp rfl E.b_repr (am_c (em_lst (am_c (em_fld E.f_commands (em_v 2 rfl)) (am_c (em_fld E.f_rows (em_v 2 rfl)) am_n))) am_n)) (em_repr g hrp rfl E.b_repr (am_c (em_lst (am_c (em_v 9 rfl) (am_c (em_v 4 rfl) am_n))) am_n))) (wm_or (tm_isnot (em_eqO g E.tab_Merger c_Merger_eq rfl E.eq_Merger hT (by decide) (em_v 2 rfl) (em_mk g c_Merger hT rfl (rm_v (em_v 4 rfl) rm_n))) em_bl) (wm_or1 (tm_isnot (em_eqO g E.tab_Merger c_Merger_eq rfl E.eq_Merger hT (by decide) (em_v 2 rfl) (em_v 4 rfl)) em_bl))))) (bm_1 (sm_r em_bl)) bm_n)
    (bm_c (sm_if (PW.pt (wm_or (tm_isnot (em_eqO g E.tab_Merger c_Merger_eq rfl E.eq_Merger hT (by decide) (em_v 2 rfl) (em_mk g c_Merger hT rfl (rm_v (em_mul (em_lst (am_c (em_mul (em_lst (am_c em_non am_n)) (em_add (em_mod (em_v 9 rfl) em_int) em_int)) am_n)) (em_add (em_mod (em_v 9 rfl) em_int) em_int)) rm_n))) em_bl) (wm_or1 (tm_isnot (em_eqO g E.tab_Merger c_Merger_eq rfl E.eq_Merger hT (by decide) (em_mk g c_Merger hT rfl (rm_v (em_v 4 rfl) rm_n)) (em_v 2 rfl)) em_bl)))) (bm_1 (sm_r em_bl)) bm_n)
    (bm_c (sm_for g (im_rng1 rfl E.b_range (am_c (em_v 9 rfl) am_n)) (gm_n g rfl (by first | exact Or.inl rfl | exact Or.inr rfl)) (bm_1 (sm_if (tm_ne g (em_repr g hrp rfl E.b_repr (am_c (em_lc g [("_law_other", 11)] (im_rng1 rfl E.b_range (am_c (em_v 9 rfl) am_n)) (fun _ _ _ _ _ g1 => (gm_n g1 rfl (by first | exact Or.inl rfl | exact Or.inr rfl))) (fun _ _ _ _ _ g1 => tsm_n) (fun _ _ _ _ _ g1 => (em_cal g1 c_merged hT (fun z => Bool.noConfusion z) rfl (rm_v (em_v 2 rfl) (rm_v (em_v 5 rfl) (rm_v (em_v 11 rfl) rm_n)))))) am_n)) (em_repr g hrp rfl E.b_repr (am_c (em_list rfl E.b_list (am_c (em_ix (em_v 1 rfl) (em_v 5 rfl)) am_n)) am_n))) (bm_1 (sm_r em_bl)) bm_n)))
    (bm_c (sm_parT g (.cons rfl (by first | exact Or.inl rfl | exact Or.inr rfl) (by first | exact .inl rfl | exact .inr rfl) rfl rfl (.cons rfl (by first | exact Or.inl rfl | exact Or.inr rfl) (by first | exact .inl rfl | exact .inr rfl) rfl rfl (.cons rfl (by first | exact Or.inl rfl | exact Or.inr rfl) (by first | exact .inl rfl | exact .inr rfl) rfl rfl .nil))) (am_c (em_cal g c_law_take hT (fun z => Bool.noConfusion z) rfl (rm_r 0 rfl (by first | exact Or.inl rfl | exact Or.inr (Or.inl rfl) | exact Or.inr (Or.inr rfl)) (rm_v (em_v 9 rfl) rm_n))) (am_c (em_cal g c_law_take hT (fun z => Bool.noConfusion z) rfl (rm_r 0 rfl (by first | exact Or.inl rfl | exact Or.inr (Or.inl rfl) | exact Or.inr (Or.inr rfl)) (rm_v (em_v 9 rfl) rm_n))) (am_c (em_cal g c_law_take hT (fun z => Bool.noConfusion z) rfl (rm_r 0 rfl (by first | exact Or.inl rfl | exact Or.inr (Or.inl rfl) | exact Or.inr (Or.inr rfl)) (rm_v (em_v 9 rfl) rm_n))) am_n))))
    (bm_c (sm_a g rfl (by first | exact Or.inl rfl | exact Or.inr rfl) em_non)
    (bm_c (sm_if (PW.pt (wm_and (tm_isnot (em_ix (em_ix (em_v 1 rfl) (em_v 5 rfl)) (em_v 10 rfl)) em_non) (wm_and1 (tm_isnot (em_ix (em_ix (em_v 1 rfl) (em_v 10 rfl)) (em_v 11 rfl)) em_non)))) (bm_c (sm_a g rfl (by first | exact Or.inl rfl | exact Or.inr rfl) (em_if (tm_eq g (em_ix (em_ix (em_v 1 rfl) (em_v 5 rfl)) (em_v 10 rfl)) em_nint) (em_v 11 rfl) (em_ix (em_ix (em_v 1 rfl) (em_ix (em_ix (em_v 1 rfl) (em_v 5 rfl)) (em_v 10 rfl))) (em_v 11 rfl))))
    (bm_1 (sm_a g rfl (by first | exact Or.inl rfl | exact Or.inr rfl) (em_tup (am_c (em_v 12 rfl) (am_c (em_v 12 rfl) am_n)))))) bm_n)
    (bm_c (sm_if (PW.pt (wm_or (tm_ne g (em_repr g hrp rfl E.b_repr (am_c (em_cal g c_three_ends hT (fun z => Bool.noConfusion z) rfl (rm_v (em_v 2 rfl) (rm_v (em_v 5 rfl) (rm_v (em_v 10 rfl) (rm_v (em_v 11 rfl) rm_n))))) am_n)) (em_repr g hrp rfl E.b_repr (am_c (em_v 6 rfl) am_n))) (wm_or1 (tm_ne g (em_calk (ks := ["other", "middle", "one", "merger"]) g [3, 2, 1, 0] c_three_ends hT (fun z => Bool.noConfusion z) rfl (km_c (em_v 11 rfl) (km_c (em_v 10 rfl) (km_c (em_v 5 rfl) (km_c (em_v 2 rfl) km_n)))) (fun _ _ _ _ _ _ _ _ us hl => match us, hl with | [_, _, _, _], _ => rfl) (fun us hl => match us, hl with | [_, _, _, _], _ => rfl)) (em_v 6 rfl))))) (bm_1 (sm_r em_bl)) bm_n)
    (bm_c (sm_if (tm_ne g (em_calk (ks := ["other", "one", "merger"]) g [2, 1, 0] c_merged hT (fun z => Bool.noConfusion z) rfl (km_c (em_v 10 rfl) (km_c (em_v 5 rfl) (km_c (em_v 2 rfl) km_n))) (fun _ _ _ _ _ _ _ _ us hl => match us, hl with | [_, _, _], _ => rfl) (fun us hl => match us, hl with | [_, _, _], _ => rfl)) (em_ix (em_ix (em_v 1 rfl) (em_v 5 rfl)) (em_v 10 rfl))) (bm_1 (sm_r em_bl)) bm_n)
    (bm_c (sm_for g (im_seq (em_tup (am_c (em_v 9 rfl) (am_c (em_sub em_int em_int) (am_c em_bl (am_c em_non (am_c em_str (am_c (em_tup (am_c em_int am_n)) am_n)))))))) (gm_n g rfl (by first | exact Or.inl rfl | exact Or.inr rfl)) (bm_c (sm_a g rfl (by first | exact Or.inl rfl | exact Or.inr rfl) (em_tup (am_c em_str (am_c (em_repr g hrp rfl E.b_repr (am_c (em_v 7 rfl) am_n)) (am_c em_bl am_n)))))
    (bm_c (sm_if (tm_ne g (hrd_law_heard 4 E g (LM.lam_law_told_right' hT) rfl (by decide) (g.gu hrp) (LamX.lamS_by (sc := defScope s_law_told_right) (by decide +kernel)) rfl (fun _ _ _ _ _ => rfl) fun A' outer' s' H' E' f' c' P' hT' hrp' g_ => (em_cal g_ c_merged (hT'.trans hT) (fun z => Bool.noConfusion z) rfl (rm_v (em_v 2 rfl) (rm_v (em_v 7 rfl) (rm_v em_non rm_n))))) (em_v 6 rfl)) (bm_1 (sm_r em_bl)) bm_n)
    (bm_c (sm_if (tm_ne g (hrd_law_heard 4 E g (LM.lam_law_told_right' hT) rfl (by decide) (g.gu hrp) (LamX.lamS_by (sc := defScope s_law_told_right) (by decide +kernel)) rfl (fun _ _ _ _ _ => rfl) fun A' outer' s' H' E' f' c' P' hT' hrp' g_ => (em_cal g_ c_merged (hT'.trans hT) (fun z => Bool.noConfusion z) rfl (rm_v (em_v 2 rfl) (rm_v em_int (rm_v (em_v 7 rfl) rm_n))))) (em_v 6 rfl)) (bm_1 (sm_r em_bl)) bm_n)
    (bm_c (sm_if (tm_ne g (hrd_law_heard 4 E g (LM.lam_law_told_right' hT) rfl (by decide) (g.gu hrp) (LamX.lamS_by (sc := defScope s_law_told_right) (by decide +kernel)) rfl (fun _ _ _ _ _ => rfl) fun A' outer' s' H' E' f' c' P' hT' hrp' g_ => (em_cal g_ c_three_ends (hT'.trans hT) (fun z => Bool.noConfusion z) rfl (rm_v (em_v 2 rfl) (rm_v (em_v 7 rfl) (rm_v em_non (rm_v em_int rm_n)))))) (em_v 6 rfl)) (bm_1 (sm_r em_bl)) bm_n)
    (bm_c (sm_if (tm_ne g (hrd_law_heard 4 E g (LM.lam_law_told_right' hT) rfl (by decide) (g.gu hrp) (LamX.lamS_by (sc := defScope s_law_told_right) (by decide +kernel)) rfl (fun _ _ _ _ _ => rfl) fun A' outer' s' H' E' f' c' P' hT' hrp' g_ => (em_cal g_ c_three_ends (hT'.trans hT) (fun z => Bool.noConfusion z) rfl (rm_v (em_v 2 rfl) (rm_v em_int (rm_v (em_v 7 rfl) (rm_v em_non rm_n)))))) (em_v 6 rfl)) (bm_1 (sm_r em_bl)) bm_n)
    (bm_1 (sm_if (tm_ne g (hrd_law_heard 4 E g (LM.lam_law_told_right' hT) rfl (by decide) (g.gu hrp) (LamX.lamS_by (sc := defScope s_law_told_right) (by decide +kernel)) rfl (fun _ _ _ _ _ => rfl) fun A' outer' s' H' E' f' c' P' hT' hrp' g_ => (em_cal g_ c_three_ends (hT'.trans hT) (fun z => Bool.noConfusion z) rfl (rm_v (em_v 2 rfl) (rm_v em_int (rm_v em_int (rm_v (em_v 7 rfl) rm_n)))))) (em_v 6 rfl)) (bm_1 (sm_r em_bl)) bm_n))))))))
    (bm_1 (sm_r em_bl))))))))))))))))
def m_law_queues_right_1 : MS := (sIf (tOrM (tV (e2 pNe (eN fRepr (aC (eCall 2 [] (run_check_queue) (rV (eV 4) (rV (eV 6) rN))) aN)) (eN fRepr (aC (eN fTup (aC (eV 6) aN)) aN)))) (tV (e2 pNe (eCallK 2 2 (run_check_queue) [1, 0] (aC (eN fTup (aC (eV 6) aN)) (aC (eV 4) aN))) (eN fTup (aC (eV 6) aN))))) (sR (eC (.bl false))) sN)
def m_law_queues_right_2 : MS := (sS (sIf (tV (e2 pNe (eN fRepr (aC (eL (aC (eCall 2 [] (run_is_folded) (rV (eV 4) (rV (eV 6) rN))) (aC (eCallK 2 2 (run_is_folded) [1, 0] (aC (eN fTup (aC (eV 6) aN)) (aC (eV 4) aN))) aN))) aN)) (eN fRepr (aC (e2 pMul (eL (aC (e2 pEq (eV 7) (eT aN)) aN)) (eC (.int 2))) aN)))) (sR (eC (.bl false))) sN)
  m_law_queues_right_1)
def m_law_queues_right_3 : MS := (sS (sA 6 (eLc (iN fR1 (aC (eCall 2 [0] (run_law_take) (rR 0 (rV (eC (.int 9)) rN))) aN)) (gN 11) mYes (eCall 2 [0] (run_law_take) (rR 0 (rV (eV 5) rN))) [11]))
  (sS (sA 7 (eN fTup (aC (eLc (iN fR1 (aC (e2 pSub (eN fLen (aC (eV 6) aN)) (eC (.int 1))) aN)) (gN 8) (tV (e2 pIsNot (e2 pIx (e2 pIx (eV 1) (e2 pIx (eV 6) (eV 8))) (e2 pIx (eV 6) (e2 pAdd (eV 8) (eC (.int 1))))) (eC .non))) (eV 8) [8]) aN)))
  (sS (sIf (tOrM (tV (e2 pNe (eN fRepr (aC (eCall 2 [] (run_mergeable_places) (rV (eV 4) (rV (eV 6) rN))) aN)) (eN fRepr (aC (eV 7) aN)))) (tV (e2 pNe (eCallK 2 2 (run_mergeable_places) [1, 0] (aC (eN fTup (aC (eV 6) aN)) (aC (eV 4) aN))) (eV 7)))) (sR (eC (.bl false))) sN)
  m_law_queues_right_2)))
def m_law_queues_right_4 : MS := (sIf (tV (e2 pNe (eHeard2 (eCallV 3 2 (slL [("check_queue", run_check_queue), ("mergeable_places", run_mergeable_places), ("is_folded", run_is_folded)]) (rV (eV 4) (rV (eV 10) rN))) hd_law_heard) (eT (aC (eC (.str "queue")) (aC (e2 pSub (eC (.int 0)) (eC (.int 1))) (aC (eC (.bl true)) aN)))))) (sR (eC (.bl false))) sN)
def m_law_queues_right_5 : MS := (sFor (mSeq (eT (aC (eC .non) (aC (eC (.int 0)) (aC (eC (.str "00")) (aC (eC (.bl true)) aN)))))) (gN 10) m_law_queues_right_4)
def m_law_queues_right_6 : MS := (sS (sIf (tV (e2 pNe (eHeard2 (eCallV 3 2 (slL [("check_queue", run_check_queue), ("mergeable_places", run_mergeable_places), ("is_folded", run_is_folded)]) (rV (eV 4) (rV (e2 pAdd (e2 pAdd (e2 pAdd (eSl (eV 6) oN (oS (eV 8))) (eL (aC (eV 9) aN))) (eSl (eV 6) (oS (eV 8)) oN)) (eL (aC (eC .non) aN))) rN))) hd_law_heard) (eT (aC (eC (.str "queue")) (aC (eV 8) (aC (eC (.bl true)) aN)))))) (sR (eC (.bl false))) sN)
  m_law_queues_right_5)
def m_law_queues_right_7 : MS := (sR (e2 pEq (eHeard2 (eCall 2 [] (run_check_queue) (rV (eV 4) (rV (e2 pMul (eL (aC (eC (.int 0)) aN)) (eC (.int 10001))) rN))) hd_law_heard) (eT (aC (eC (.str "queue")) (aC (e2 pSub (eC (.int 0)) (eC (.int 1))) (aC (eC (.bl true)) aN))))))
def m_law_queues_right_8 : MS := (sS (sIf (tV (e2 pNe (eN fLen (aC (eCall 2 [] (run_check_queue) (rV (eV 4) (rV (e2 pMul (eL (aC (eC (.int 0)) aN)) (eC (.int 10000))) rN))) aN)) (eC (.int 10000)))) (sR (eC (.bl false))) sN)
  m_law_queues_right_7)
def m_law_queues_right_9 : MS := (sS (sIf (tV (e2 pGt (eCall 2 [0] (run_law_take) (rR 0 (rV (eC (.int 12)) rN))) (eC (.int 0)))) (sR (eC (.bl true))) sN)
  m_law_queues_right_8)
def m_law_queues_right_10 : MS := (sS (sPar [8, 9] (aC (eCall 2 [0] (run_law_take) (rR 0 (rV (e2 pAdd (eN fLen (aC (eV 6) aN)) (eC (.int 1))) rN))) (aC (eCall 2 [0] (run_law_pick) (rR 0 (rV (eL (aC (eV 5) (aC (e2 pSub (eC (.int 0)) (eC (.int 1))) (aC (eC (.bl true)) (aC (eC .non) (aC (eC (.str "0")) (aC (eT (aC (eC (.int 0)) aN)) aN))))))) rN))) aN)))
  (sS (sFor (mSeq (eT (aC (eC (.glo "check_queue")) (aC (eC (.glo "mergeable_places")) (aC (eC (.glo "is_folded")) aN))))) (gN 3) m_law_queues_right_6)
  m_law_queues_right_9))
def m_law_queues_right : MS := (sS (sPar [4, 5] (aC (eMake "Merger" 2 run_Merger_init (rV (eV 1) rN)) (aC (eN fLen (aC (eV 1) aN)) aN)))
  (sS (sFor (iN fR1 (aC (eC (.int 4)) aN)) (gN 2) m_law_queues_right_3)
  m_law_queues_right_10))
abbrev run_law_queues_right : List OT → FR := runB 12 [0] m_law_queues_right
abbrev C_law_queues_right (Pr : Program) (w : World) (K : PySem.W.Frag) (mg : Str → Option Value) (base : Heap) (T : List (Addr × Str)) : Prop := Cal true Pr w K mg base T "_law_queues_right" (defArgs s_law_queues_right) ["_law_box_here", "_law_rows"] 9 [0] run_law_queues_right
theorem ok_law_queues_right (E : En Pr w K mg base) (LM : Lm K mg base T) (c_Merger : C_Merger Pr w K mg base T) (c_check_queue : C_check_queue Pr w K mg base T) (c_mergeable_places : C_mergeable_places Pr w K mg base T) (c_is_folded : C_is_folded Pr w K mg base T) (c_law_take : C_law_take Pr w K mg base T) (c_law_pick : C_law_pick Pr w K mg base T)  : C_law_queues_right Pr w K mg base T :=
  cal_mL (N := ["_law_box_here", "_law_rows", "_law_turn", "_law_work", "_law_merger", "_law_many", "_law_queue", "_law_due", "_law_at", "_law_odd", "_law_value", "_law_command"]) E.d_law_queues_right (scope_of rfl rfl rfl (by decide) rfl (by decide +kernel) (by decide +kernel)) (by decide) (fun _ _ _ _ _ _ us hl => match us, hl with | [_, _], _ => rfl) fun f A outer s H E0 P hT hrp g =>
    (bm_c (sm_parT g (.cons rfl (by first | exact Or.inl rfl | exact Or.inr rfl) (by first | exact .inl rfl | exact .inr rfl) rfl rfl (.cons rfl (by first | exact Or.inl rfl | exact Or.inr rfl) (by first | exact .inl rfl | exact .inr rfl) rfl rfl .nil)) (am_c (em_mk g c_Merger hT rfl (rm_v (em_v 1 rfl) rm_n)) (am_c (em_len rfl E.b_len (am_c (em_v 1 rfl) am_n)) am_n)))
    (bm_c (sm_for g (im_rng1 rfl E.b_range (am_c em_int am_n)) (gm_n g rfl (by first | exact Or.inl rfl | exact Or.inr rfl)) (bm_c (sm_a g rfl (by first | exact Or.inl rfl | exact Or.inr rfl) (em_lc g [("_law_command", 11)] (im_rng1 rfl E.b_range (am_c (em_cal g c_law_take hT (fun z => Bool.noConfusion z) rfl (rm_r 0 rfl (by first | exact Or.inl rfl | exact Or.inr (Or.inl rfl) | exact Or.inr (Or.inr rfl)) (rm_v em_int rm_n))) am_n)) (fun _ _ _ _ _ g1 => (gm_n g1 rfl (by first | exact Or.inl rfl | exact Or.inr rfl))) (fun _ _ _ _ _ g1 => tsm_n) (fun _ _ _ _ _ g1 => (em_cal g1 c_law_take hT (fun z => Bool.noConfusion z) rfl (rm_r 0 rfl (by first | exact Or.inl rfl | exact Or.inr (Or.inl rfl) | exact Or.inr (Or.inr rfl)) (rm_v (em_v 5 rfl) rm_n))))))
    (bm_c (sm_a g rfl (by first | exact Or.inl rfl | exact Or.inr rfl) (em_tuple rfl E.b_tuple (am_c (em_lc g [("_law_at", 8)] (im_rng1 rfl E.b_range (am_c (em_sub (em_len rfl E.b_len (am_c (em_v 6 rfl) am_n)) em_int) am_n)) (fun _ _ _ _ _ g1 => (gm_n g1 rfl (by first | exact Or.inl rfl | exact Or.inr rfl))) (fun _ _ _ _ _ g1 => (tsm_1 (tm_isnot (em_ix (em_ix (em_v 1 rfl) (em_ix (em_v 6 rfl) (em_v 8 rfl))) (em_ix (em_v 6 rfl) (em_add (em_v 8 rfl) em_int))) em_non))) (fun _ _ _ _ _ g1 => (em_v 8 rfl))) am_n)))
    (bm_c (sm_if (PW.pt (wm_or (tm_ne g (em_repr g hrp rfl E.b_repr (am_c (em_cal g c_mergeable_places hT (fun z => Bool.noConfusion z) rfl (rm_v (em_v 4 rfl) (rm_v (em_v 6 rfl) rm_n))) am_n)) (em_repr g hrp rfl E.b_repr (am_c (em_v 7 rfl) am_n))) (wm_or1 (tm_ne g (em_calk (ks := ["queue", "merger"]) g [1, 0] c_mergeable_places hT (fun z => Bool.noConfusion z) rfl (km_c (em_tuple rfl E.b_tuple (am_c (em_v 6 rfl) am_n)) (km_c (em_v 4 rfl) km_n)) (fun _ _ _ _ _ _ _ _ us hl => match us, hl with | [_, _], _ => rfl) (fun us hl => match us, hl with | [_, _], _ => rfl)) (em_v 7 rfl))))) (bm_1 (sm_r em_bl)) bm_n)
    (bm_c (sm_if (tm_ne g (em_repr g hrp rfl E.b_repr (am_c (em_lst (am_c (em_cal g c_is_folded hT (fun z => Bool.noConfusion z) rfl (rm_v (em_v 4 rfl) (rm_v (em_v 6 rfl) rm_n))) (am_c (em_calk (ks := ["queue", "merger"]) g [1, 0] c_is_folded hT (fun z => Bool.noConfusion z) rfl (km_c (em_tuple rfl E.b_tuple (am_c (em_v 6 rfl) am_n)) (km_c (em_v 4 rfl) km_n)) (fun _ _ _ _ _ _ _ _ us hl => match us, hl with | [_, _], _ => rfl) (fun us hl => match us, hl with | [_, _], _ => rfl)) am_n))) am_n)) (em_repr g hrp rfl E.b_repr (am_c (em_mul (em_lst (am_c (em_eq g (em_v 7 rfl) (em_tup am_n)) am_n)) em_int) am_n))) (bm_1 (sm_r em_bl)) bm_n)
    (bm_1 (sm_if (PW.pt (wm_or (tm_ne g (em_repr g hrp rfl E.b_repr (am_c (em_cal g c_check_queue hT (fun z => Bool.noConfusion z) rfl (rm_v (em_v 4 rfl) (rm_v (em_v 6 rfl) rm_n))) am_n)) (em_repr g hrp rfl E.b_repr (am_c (em_tuple rfl E.b_tuple (am_c (em_v 6 rfl) am_n)) am_n))) (wm_or1 (tm_ne g (em_calk (ks := ["value", "merger"]) g [1, 0] c_check_queue hT (fun z => Bool.noConfusion z) rfl (km_c (em_tuple rfl E.b_tuple (am_c (em_v 6 rfl) am_n)) (km_c (em_v 4 rfl) km_n)) (fun _ _ _ _ _ _ _ _ us hl => match us, hl with | [_, _], _ => rfl) (fun us hl => match us, hl with | [_, _], _ => rfl)) (em_tuple rfl E.b_tuple (am_c (em_v 6 rfl) am_n)))))) (bm_1 (sm_r em_bl)) bm_n)))))))
    (bm_c (sm_parT g (.cons rfl (by first | exact Or.inl rfl | exact Or.inr rfl) (by first | exact .inl rfl | exact .inr rfl) rfl rfl (.cons rfl (by first | exact Or.inl rfl | exact Or.inr rfl) (by first | exact .inl rfl | exact .inr rfl) rfl rfl .nil)) (am_c (em_cal g c_law_take hT (fun z => Bool.noConfusion z) rfl (rm_r 0 rfl (by first | exact Or.inl rfl | exact Or.inr (Or.inl rfl) | exact Or.inr (Or.inr rfl)) (rm_v (em_add (em_len rfl E.b_len (am_c (em_v 6 rfl) am_n)) em_int) rm_n))) (am_c (em_cal g c_law_pick hT (fun z => Bool.noConfusion z) rfl (rm_r 0 rfl (by first | exact Or.inl rfl | exact Or.inr (Or.inl rfl) | exact Or.inr (Or.inr rfl)) (rm_v (em_lst (am_c (em_v 5 rfl) (am_c (em_sub em_int em_int) (am_c em_bl (am_c em_non (am_c em_str (am_c (em_tup (am_c em_int am_n)) am_n))))))) rm_n))) am_n)))
    (bm_c (sm_for g (im_seq (em_tup (am_c (em_c (pe_glob (v := V.ref (He.ga K "check_queue")) rfl c_check_queue.mg rfl) fun _ => .glo _) (am_c (em_c (pe_glob (v := V.ref (He.ga K "mergeable_places")) rfl c_mergeable_places.mg rfl) fun _ => .glo _) (am_c (em_c (pe_glob (v := V.ref (He.ga K "is_folded")) rfl c_is_folded.mg rfl) fun _ => .glo _) am_n))))) (gm_n g rfl (by first | exact Or.inl rfl | exact Or.inr rfl)) (bm_c (sm_if (tm_ne g (hrd_law_heard 6 E g (LM.lam_law_queues_right' hT) rfl (by decide) (g.gu hrp) (LamX.lamS_by (sc := defScope s_law_queues_right) (by decide +kernel)) rfl (fun _ _ _ _ _ => rfl) fun A' outer' s' H' E' f' c' P' hT' hrp' g_ => (em_callV (k := 6) g_ 3 (held_cons c_check_queue rfl (by decide) (held_cons c_mergeable_places rfl (by decide) (held_cons c_is_folded rfl (by decide) held_nil))) (fun z => Bool.noConfusion z) (hT'.trans hT) (by decide) rfl (by first | exact Or.inl rfl | exact Or.inr (Or.inl rfl) | exact Or.inr (Or.inr rfl)) (rm_v (em_v 4 rfl) (rm_v (em_add (em_add (em_add (em_sl (em_v 6 rfl) om_n (om_s (em_v 8 rfl))) (em_lst (am_c (em_v 9 rfl) am_n))) (em_sl (em_v 6 rfl) (om_s (em_v 8 rfl)) om_n)) (em_lst (am_c em_non am_n))) rm_n)))) (em_tup (am_c em_str (am_c (em_v 8 rfl) (am_c em_bl am_n))))) (bm_1 (sm_r em_bl)) bm_n)
    (bm_1 (sm_for g (im_seq (em_tup (am_c em_non (am_c em_int (am_c em_str (am_c em_bl am_n)))))) (gm_n g rfl (by first | exact Or.inl rfl | exact Or.inr rfl)) (bm_1 (sm_if (tm_ne g (hrd_law_heard 6 E g (LM.lam_law_queues_right' hT) rfl (by decide) (g.gu hrp) (LamX.lamS_by (sc := defScope s_law_queues_right) (by decide +kernel)) rfl (fun _ _ _ _ _ => rfl) fun A' outer' s' H' E' f' c' P' hT' hrp' g_ => (em_callV (k := 6) g_ 3 (held_cons c_check_queue rfl (by decide) (held_cons c_mergeable_places rfl (by decide) (held_cons c_is_folded rfl (by decide) held_nil))) (fun z => Bool.noConfusion z) (hT'.trans hT) (by decide) rfl (by first | exact Or.inl rfl | exact Or.inr (Or.inl rfl) | exact Or.inr (Or.inr rfl)) (rm_v (em_v 4 rfl) (rm_v (em_v 10 rfl) rm_n)))) (em_tup (am_c em_str (am_c (em_sub em_int em_int) (am_c em_bl am_n))))) (bm_1 (sm_r em_bl)) bm_n))))))
    (bm_c (sm_if (tm_gt (em_cal g c_law_take hT (fun z => Bool.noConfusion z) rfl (rm_r 0 rfl (by first | exact Or.inl rfl | exact Or.inr (Or.inl rfl) | exact Or.inr (Or.inr rfl)) (rm_v em_int rm_n))) em_int) (bm_1 (sm_r em_bl)) bm_n)
    (bm_c (sm_if (tm_ne g (em_len rfl E.b_len (am_c (em_cal g c_check_queue hT (fun z => Bool.noConfusion z) rfl (rm_v (em_v 4 rfl) (rm_v (em_mul (em_lst (am_c em_int am_n)) em_int) rm_n))) am_n)) em_int) (bm_1 (sm_r em_bl)) bm_n)
    (bm_1 (sm_r (em_eq g (hrd_law_heard 4 E g (LM.lam_law_queues_right' hT) rfl (by decide) (g.gu hrp) (LamX.lamS_by (sc := defScope s_law_queues_right) (by decide +kernel)) rfl (fun _ _ _ _ _ => rfl) fun A' outer' s' H' E' f' c' P' hT' hrp' g_ => (em_cal g_ c_check_queue (hT'.trans hT) (fun z => Bool.noConfusion z) rfl (rm_v (em_v 4 rfl) (rm_v (em_mul (em_lst (am_c em_int am_n)) em_int) rm_n)))) (em_tup (am_c em_str (am_c (em_sub em_int em_int) (am_c em_bl am_n)))))))))))))
def m_law_wrong_right_1 : MS := (sApp 9 (eLc (iN fR1 (aC (eV 8) aN)) (gN 13) mYes (eCall 2 [0] (run_law_pick) (rR 0 (rV (eL (aC (eC .non) (aC (eC .non) (aC (eC (.int (-1))) (aC (eCall 2 [0] (run_law_take) (rR 0 (rV (eV 8) rN))) (aC (eCall 2 [0] (run_law_take) (rR 0 (rV (eV 8) rN))) aN)))))) rN))) [13]))
def m_law_wrong_right_2 : MS := (sIf (tV (e2 pNe (eHeard2 (eMake "Merger" 2 run_Merger_init (rV (eV 7) rN)) hd_law_heard) (eT (aC (eC (.str "merger")) (aC (e2 pSub (eC (.int 0)) (eC (.int 1))) (aC (eC (.bl true)) aN)))))) (sR (eC (.bl false))) sN)
def m_law_wrong_right_3 : MS := (sR (e2 pEq (e1 (fFld ["Merger"] "commands") (eMake "Merger" 2 run_Merger_init (rV (eV 6) rN))) (eC (.int 12))))
def m_law_wrong_right_4 : MS := (sS (sA 6 (e2 pMul (eL (aC (e2 pMul (eL (aC (eC .non) aN)) (eC (.int 12))) aN)) (eC (.int 12))))
  (sS (sFor (mSeq (eT (aC (eC .non) (aC (eC (.int 0)) (aC (eC (.str "")) (aC (eL aN) (aC (eT aN) (aC (e2 pMul (eL (aC (e2 pMul (eL (aC (eC .non) aN)) (eC (.int 13))) aN)) (eC (.int 13))) aN)))))))) (gN 7) m_law_wrong_right_2)
  m_law_wrong_right_3))
def m_law_wrong_right_5 : MS := (sS (sA 5 (eCall 2 [0] (run_law_pick) (rR 0 (rV (eL (aC (eSl (e2 pIx (eV 9) (eV 10)) (oS (eC (.int 1))) oN) (aC (e2 pAdd (e2 pIx (eV 9) (eV 10)) (eL (aC (eC .non) aN))) (aC (eC .non) (aC (eC (.int 0)) (aC (e2 pMulS (eC (.str "-")) (eV 8)) aN)))))) rN))))
  (sS (sIf (tV (e2 pNe (eHeard2 (eMake "Merger" 2 run_Merger_init (rV (e2 pAdd (e2 pAdd (eSl (eV 9) oN (oS (eV 10))) (eL (aC (eV 5) aN))) (eSl (eV 9) (oS (e2 pAdd (eV 10) (eC (.int 1)))) oN)) rN)) hd_law_heard) (eT (aC (eC (.str "merger")) (aC (eV 10) (aC (eC (.bl true)) aN)))))) (sR (eC (.bl false))) sN)
  m_law_wrong_right_4))
def m_law_wrong_right_6 : MS := (sS (sPar [10, 11] (aC (eCall 2 [0] (run_law_take) (rR 0 (rV (eV 8) rN))) (aC (eCall 2 [0] (run_law_take) (rR 0 (rV (eV 8) rN))) aN)))
  (sS (sA 3 (eCall 2 [0] (run_law_pick) (rR 0 (rV (eL (aC (eV 8) (aC (e2 pSub (eC (.int 0)) (eC (.int 2))) (aC (eC (.bl true)) (aC (eC (.str "0")) (aC (eT (aC (eC (.int 0)) aN)) (aC (eC (.bl false)) aN))))))) rN))))
  (sS (sA 4 (e2 pAdd (eSl (eV 9) oN (oS (eV 10))) (eL (aC (e2 pAdd (e2 pAdd (eSl (e2 pIx (eV 9) (eV 10)) oN (oS (eV 11))) (eL (aC (eV 3) aN))) (eSl (e2 pIx (eV 9) (eV 10)) (oS (e2 pAdd (eV 11) (eC (.int 1)))) oN)) aN))))
  (sS (sA 4 (e2 pAdd (eV 4) (eLc (mSeq (eSl (eV 9) (oS (e2 pAdd (eV 10) (eC (.int 1)))) oN)) (gN 12) mYes (eCall 2 [0] (run_law_pick) (rR 0 (rV (eL (aC (eV 12) (aC (eC .non) aN))) rN))) [12])))
  (sS (sIf (tV (e2 pNe (eHeard2 (eMake "Merger" 2 run_Merger_init (rV (eV 4) rN)) hd_law_heard) (eT (aC (eC (.str "merger")) (aC (eV 10) (aC (eC (.bl true)) aN)))))) (sR (eC (.bl false))) sN)
  m_law_wrong_right_5)))))
def m_law_wrong_right_7 : MS := (sS (sA 2 (eCall 1 [] (run_law_against) (rV (eV 9) rN)))
  (sS (sIf (tV (e2 pNe (eHeard2 (eMake "Merger" 2 run_Merger_init (rV (eV 9) rN)) hd_law_heard) (eIf (tV (e2 pIs (eV 2) (eC .non))) (eC .non) (eT (aC (eC (.str "three")) (aC (eV 2) (aC (eC (.bl true)) aN))))))) (sR (eC (.bl false))) sN)
  m_law_wrong_right_6))
def m_law_wrong_right : MS := (sS (sPar [8, 9] (aC (e2 pAdd (eC (.int 1)) (eCall 2 [0] (run_law_take) (rR 0 (rV (eC (.int 4)) rN)))) (aC (eL aN) aN)))
  (sS (sFor (iN fR1 (aC (eV 8) aN)) (gN 1) m_law_wrong_right_1)
  m_law_wrong_right_7))
abbrev run_law_wrong_right : List OT → FR := runB 14 [0] m_law_wrong_right
abbrev C_law_wrong_right (Pr : Program) (w : World) (K : PySem.W.Frag) (mg : Str → Option Value) (base : Heap) (T : List (Addr × Str)) : Prop := Cal true Pr w K mg base T "_law_wrong_right" (defArgs s_law_wrong_right) ["_law_box_here"] 8 [0] run_law_wrong_right
theorem ok_law_wrong_right (E : En Pr w K mg base) (LM : Lm K mg base T) (c_Merger : C_Merger Pr w K mg base T) (c_law_take : C_law_take Pr w K mg base T) (c_law_pick : C_law_pick Pr w K mg base T) (c_law_against : C_law_against Pr w K mg base T)  : C_law_wrong_right Pr w K mg base T :=
  cal_mL (N := ["_law_box_here", "_law_one", "_law_three", "_law_odd", "_law_bent", "_law_short", "_law_wide", "_law_value", "_law_many", "_law_rows", "_law_at", "_law_row", "_law_more", "_law_other"]) E.d_law_wrong_right (scope_of rfl rfl rfl (by decide) rfl (by decide +kernel) (by decide +kernel)) (by decide) (fun _ _ _ _ _ _ us hl => match us, hl with | [_], _ => rfl) fun f A outer s H E0 P hT hrp g =>
    (bm_c (sm_parT g (.cons rfl (by first | exact Or.inl rfl | exact Or.inr rfl) (by first | exact .inl rfl | exact .inr rfl) rfl rfl (.cons rfl (by first | exact Or.inl rfl | exact Or.inr rfl) (by first | exact .inl rfl | exact .inr rfl) rfl rfl .nil)) (am_c (em_add em_int (em_cal g c_law_take hT (fun z => Bool.noConfusion z) rfl (rm_r 0 rfl (by first | exact Or.inl rfl | exact Or.inr (Or.inl rfl) | exact Or.inr (Or.inr rfl)) (rm_v em_int rm_n)))) (am_c (em_lst am_n) am_n)))
    (bm_c (sm_for g (im_rng1 rfl E.b_range (am_c (em_v 8 rfl) am_n)) (gm_n g rfl (by first | exact Or.inl rfl | exact Or.inr rfl)) (bm_1 (sm_app 9 rfl (by first | exact Or.inl rfl | exact Or.inr (Or.inl rfl) | exact Or.inr (Or.inr rfl)) (em_lc g [("_law_other", 13)] (im_rng1 rfl E.b_range (am_c (em_v 8 rfl) am_n)) (fun _ _ _ _ _ g1 => (gm_n g1 rfl (by first | exact Or.inl rfl | exact Or.inr rfl))) (fun _ _ _ _ _ g1 => tsm_n) (fun _ _ _ _ _ g1 => (em_cal g1 c_law_pick hT (fun z => Bool.noConfusion z) rfl (rm_r 0 rfl (by first | exact Or.inl rfl | exact Or.inr (Or.inl rfl) | exact Or.inr (Or.inr rfl)) (rm_v (em_lst (am_c em_non (am_c em_non (am_c em_nint (am_c (em_cal g1 c_law_take hT (fun z => Bool.noConfusion z) rfl (rm_r 0 rfl (by first | exact Or.inl rfl | exact Or.inr (Or.inl rfl) | exact Or.inr (Or.inr rfl)) (rm_v (em_v 8 rfl) rm_n))) (am_c (em_cal g1 c_law_take hT (fun z => Bool.noConfusion z) rfl (rm_r 0 rfl (by first | exact Or.inl rfl | exact Or.inr (Or.inl rfl) | exact Or.inr (Or.inr rfl)) (rm_v (em_v 8 rfl) rm_n))) am_n)))))) rm_n))))))))
    (bm_c (sm_a g rfl (by first | exact Or.inl rfl | exact Or.inr rfl) (em_cal g c_law_against hT (fun z => Bool.noConfusion z) rfl (rm_v (em_v 9 rfl) rm_n)))
    (bm_c (sm_if (tm_ne g (hrd_law_heard 5 E g (LM.lam_law_wrong_right' hT) rfl (by decide) (g.gu hrp) (LamX.lamS_by (sc := defScope s_law_wrong_right) (by decide +kernel)) rfl (fun _ _ _ _ _ => rfl) fun A' outer' s' H' E' f' c' P' hT' hrp' g_ => (em_mk g_ c_Merger (hT'.trans hT) rfl (rm_v (em_v 9 rfl) rm_n))) (em_if (tm_is (em_v 2 rfl) em_non) em_non (em_tup (am_c em_str (am_c (em_v 2 rfl) (am_c em_bl am_n)))))) (bm_1 (sm_r em_bl)) bm_n)
    (bm_c (sm_parT g (.cons rfl (by first | exact Or.inl rfl | exact Or.inr rfl) (by first | exact .inl rfl | exact .inr rfl) rfl rfl (.cons rfl (by first | exact Or.inl rfl | exact Or.inr rfl) (by first | exact .inl rfl | exact .inr rfl) rfl rfl .nil)) (am_c (em_cal g c_law_take hT (fun z => Bool.noConfusion z) rfl (rm_r 0 rfl (by first | exact Or.inl rfl | exact Or.inr (Or.inl rfl) | exact Or.inr (Or.inr rfl)) (rm_v (em_v 8 rfl) rm_n))) (am_c (em_cal g c_law_take hT (fun z => Bool.noConfusion z) rfl (rm_r 0 rfl (by first | exact Or.inl rfl | exact Or.inr (Or.inl rfl) | exact Or.inr (Or.inr rfl)) (rm_v (em_v 8 rfl) rm_n))) am_n)))
    (bm_c (sm_a g rfl (by first | exact Or.inl rfl | exact Or.inr rfl) (em_cal g c_law_pick hT (fun z => Bool.noConfusion z) rfl (rm_r 0 rfl (by first | exact Or.inl rfl | exact Or.inr (Or.inl rfl) | exact Or.inr (Or.inr rfl)) (rm_v (em_lst (am_c (em_v 8 rfl) (am_c (em_sub em_int em_int) (am_c em_bl (am_c em_str (am_c (em_tup (am_c em_int am_n)) (am_c em_bl am_n))))))) rm_n))))
    (bm_c (sm_a g rfl (by first | exact Or.inl rfl | exact Or.inr rfl) (em_add (em_sl (em_v 9 rfl) om_n (om_s (em_v 10 rfl))) (em_lst (am_c (em_add (em_add (em_sl (em_ix (em_v 9 rfl) (em_v 10 rfl)) om_n (om_s (em_v 11 rfl))) (em_lst (am_c (em_v 3 rfl) am_n))) (em_sl (em_ix (em_v 9 rfl) (em_v 10 rfl)) (om_s (em_add (em_v 11 rfl) em_int)) om_n)) am_n))))
    (bm_c (sm_a g rfl (by first | exact Or.inl rfl | exact Or.inr rfl) (em_add (em_v 4 rfl) (em_lc g [("_law_more", 12)] (im_seq (em_sl (em_v 9 rfl) (om_s (em_add (em_v 10 rfl) em_int)) om_n)) (fun _ _ _ _ _ g1 => (gm_n g1 rfl (by first | exact Or.inl rfl | exact Or.inr rfl))) (fun _ _ _ _ _ g1 => tsm_n) (fun _ _ _ _ _ g1 => (em_cal g1 c_law_pick hT (fun z => Bool.noConfusion z) rfl (rm_r 0 rfl (by first | exact Or.inl rfl | exact Or.inr (Or.inl rfl) | exact Or.inr (Or.inr rfl)) (rm_v (em_lst (am_c (em_v 12 rfl) (am_c em_non am_n))) rm_n)))))))
    (bm_c (sm_if (tm_ne g (hrd_law_heard 5 E g (LM.lam_law_wrong_right' hT) rfl (by decide) (g.gu hrp) (LamX.lamS_by (sc := defScope s_law_wrong_right) (by decide +kernel)) rfl (fun _ _ _ _ _ => rfl) fun A' outer' s' H' E' f' c' P' hT' hrp' g_ => (em_mk g_ c_Merger (hT'.trans hT) rfl (rm_v (em_v 4 rfl) rm_n))) (em_tup (am_c em_str (am_c (em_v 10 rfl) (am_c em_bl am_n))))) (bm_1 (sm_r em_bl)) bm_n)
    (bm_c (sm_a g rfl (by first | exact Or.inl rfl | exact Or.inr rfl) (em_cal g c_law_pick hT (fun z => Bool.noConfusion z) rfl (rm_r 0 rfl (by first | exact Or.inl rfl | exact Or.inr (Or.inl rfl) | exact Or.inr (Or.inr rfl)) (rm_v (em_lst (am_c (em_sl (em_ix (em_v 9 rfl) (em_v 10 rfl)) (om_s em_int) om_n) (am_c (em_add (em_ix (em_v 9 rfl) (em_v 10 rfl)) (em_lst (am_c em_non am_n))) (am_c em_non (am_c em_int (am_c (em_mulS em_str (em_v 8 rfl)) am_n)))))) rm_n))))
    (bm_c (sm_if (tm_ne g (hrd_law_heard 5 E g (LM.lam_law_wrong_right' hT) rfl (by decide) (g.gu hrp) (LamX.lamS_by (sc := defScope s_law_wrong_right) (by decide +kernel)) rfl (fun _ _ _ _ _ => rfl) fun A' outer' s' H' E' f' c' P' hT' hrp' g_ => (em_mk g_ c_Merger (hT'.trans hT) rfl (rm_v (em_add (em_add (em_sl (em_v 9 rfl) om_n (om_s (em_v 10 rfl))) (em_lst (am_c (em_v 5 rfl) am_n))) (em_sl (em_v 9 rfl) (om_s (em_add (em_v 10 rfl) em_int)) om_n)) rm_n))) (em_tup (am_c em_str (am_c (em_v 10 rfl) (am_c em_bl am_n))))) (bm_1 (sm_r em_bl)) bm_n)
    (bm_c (sm_a g rfl (by first | exact Or.inl rfl | exact Or.inr rfl) (em_mul (em_lst (am_c (em_mul (em_lst (am_c em_non am_n)) em_int) am_n)) em_int))
    (bm_c (sm_for g (im_seq (em_tup (am_c em_non (am_c em_int (am_c em_str (am_c (em_lst am_n) (am_c (em_tup am_n) (am_c (em_mul (em_lst (am_c (em_mul (em_lst (am_c em_non am_n)) em_int) am_n)) em_int) am_n)))))))) (gm_n g rfl (by first | exact Or.inl rfl | exact Or.inr rfl)) (bm_1 (sm_if (tm_ne g (hrd_law_heard 5 E g (LM.lam_law_wrong_right' hT) rfl (by decide) (g.gu hrp) (LamX.lamS_by (sc := defScope s_law_wrong_right) (by decide +kernel)) rfl (fun _ _ _ _ _ => rfl) fun A' outer' s' H' E' f' c' P' hT' hrp' g_ => (em_mk g_ c_Merger (hT'.trans hT) rfl (rm_v (em_v 7 rfl) rm_n))) (em_tup (am_c em_str (am_c (em_sub em_int em_int) (am_c em_bl am_n))))) (bm_1 (sm_r em_bl)) bm_n)))
    (bm_1 (sm_r (em_eq g (em_fld E.f_commands (em_mk g c_Merger hT rfl (rm_v (em_v 6 rfl) rm_n))) em_int))))))))))))))))
def m_law_1 : MS := (sS (sA 2 (eCall 2 [] (run_law_box) (rV (eV 0) (rV (eV 1) rN))))
  (sS (sA 3 (eCall 1 [0] (run_law_sound) (rR 2 rN)))
  (sIf (tOrM (tNotM (tV (eCall 2 [0] (run_law_told_right) (rR 2 (rV (eV 3) rN))))) (tOrM (tNotM (tV (eCall 2 [0] (run_law_queues_right) (rR 2 (rV (eV 3) rN))))) (tNotM (tV (eCall 1 [0] (run_law_wrong_right) (rR 2 rN)))))) (sR (eC (.bl false))) sN)))
def m_law : MS := (sS (sFor (iN fR1 (aC (eC (.int 3)) aN)) (gN 1) m_law_1)
  (sR (eC (.bl true))))
abbrev run_law : List OT → FR := runB 4 [] m_law
abbrev C_law (Pr : Program) (w : World) (K : PySem.W.Frag) (mg : Str → Option Value) (base : Heap) (T : List (Addr × Str)) : Prop := Cal true Pr w K mg base T "law" (defArgs s_law) ["_law_script"] 10 [] run_law
theorem ok_law (E : En Pr w K mg base)  (c_law_box : C_law_box Pr w K mg base T) (c_law_sound : C_law_sound Pr w K mg base T) (c_law_told_right : C_law_told_right Pr w K mg base T) (c_law_queues_right : C_law_queues_right Pr w K mg base T) (c_law_wrong_right : C_law_wrong_right Pr w K mg base T)  : C_law Pr w K mg base T :=
  cal_m (N := ["_law_script", "_law_k", "_law_box_here", "_law_rows"]) E.d_law (scope_of rfl rfl rfl (by decide) rfl (by decide +kernel) (by decide +kernel)) (by decide) (fun _ _ _ _ _ _ us hl => match us, hl with | [_], _ => rfl) fun f cdv A outer s H E0 P hT hrp g =>
    (bm_c (sm_for g (im_rng1 rfl E.b_range (am_c em_int am_n)) (gm_n g rfl (by first | exact Or.inl rfl | exact Or.inr rfl)) (bm_c (sm_a g rfl (by first | exact Or.inl rfl | exact Or.inr rfl) (em_cal g c_law_box hT (fun z => Bool.noConfusion z) rfl (rm_v (em_v 0 rfl) (rm_v (em_v 1 rfl) rm_n))))
    (bm_c (sm_a g rfl (by first | exact Or.inl rfl | exact Or.inr rfl) (em_cal g c_law_sound hT (fun z => Bool.noConfusion z) rfl (rm_r 2 rfl (by first | exact Or.inl rfl | exact Or.inr (Or.inl rfl) | exact Or.inr (Or.inr rfl)) rm_n)))
    (bm_1 (sm_if (PW.pt (wm_or (tm_not (tm_val (em_cal g c_law_told_right hT (fun _ => hrp) rfl (rm_r 2 rfl (by first | exact Or.inl rfl | exact Or.inr (Or.inl rfl) | exact Or.inr (Or.inr rfl)) (rm_v (em_v 3 rfl) rm_n))))) (wm_or (tm_not (tm_val (em_cal g c_law_queues_right hT (fun _ => hrp) rfl (rm_r 2 rfl (by first | exact Or.inl rfl | exact Or.inr (Or.inl rfl) | exact Or.inr (Or.inr rfl)) (rm_v (em_v 3 rfl) rm_n))))) (wm_or1 (tm_not (tm_val (em_cal g c_law_wrong_right hT (fun _ => hrp) rfl (rm_r 2 rfl (by first | exact Or.inl rfl | exact Or.inr (Or.inl rfl) | exact Or.inr (Or.inr rfl)) rm_n)))))))) (bm_1 (sm_r em_bl)) bm_n)))))
    (bm_1 (sm_r em_bl)))
end
end K01

section
namespace K01
open PySem PySem.Spec PyProof.Rows L2 Fy Pg K01H
section
variable {Pr : Program} {w : World} {K : PySem.W.Frag} {h : Heap} {mg : Str → Option Value} {base : Heap}
theorem more (c : He.SaysX fa fn [] tf ex w h K) : (oexB K "BadMerger" "at") = true ∧ (oexB K "Unsound" "three") = true ∧ (oexB K "BadQueue" "at") = true ∧ (kexB K "NoCommand" "command") = true ∧ (tabIB K tabB) = true ∧ (tabIB K tab_Merger) = true ∧ (eqFB K "Merger" [.b "tuple", .b "list", .o "Merger"]) = true ∧ (txB K exs fs tx) = true ∧ (tblB K lams) = true := by
  have m : (oexB K "BadMerger" "at" && (oexB K "Unsound" "three" && (oexB K "BadQueue" "at" && (kexB K "NoCommand" "command" && (tabIB K tabB && (tabIB K tab_Merger && (eqFB K "Merger" [.b "tuple", .b "list", .o "Merger"] && (txB K exs fs tx && (tblB K lams))))))))) = true := c.more
  obtain ⟨m0, m⟩ := bAnd m
  obtain ⟨m1, m⟩ := bAnd m
  obtain ⟨m2, m⟩ := bAnd m
  obtain ⟨m3, m⟩ := bAnd m
  obtain ⟨m4, m⟩ := bAnd m
  obtain ⟨m5, m⟩ := bAnd m
  obtain ⟨m6, m⟩ := bAnd m
  obtain ⟨m7, m⟩ := bAnd m
  exact ⟨m0, m1, m2, m3, m4, m5, m6, m7, m⟩
theorem en_of (X : K.In h) (G : h.Ns mainGlobals mg) (c : He.SaysX fa fn [] tf ex w h K) : En Pr w K mg base := by
  obtain ⟨m0, m1, m2, m3, m4, m5, m6, m7, m8⟩ := more c
  exact {
    b_isinstance := He.free_ok X G (c.t.d.fact 41 (f := .free "isinstance") rfl),
    b_len := He.free_ok X G (c.t.d.fact 37 (f := .free "len") rfl),
    b_abs := He.free_ok X G (c.t.d.fact 39 (f := .free "abs") rfl),
    b_list := He.free_ok X G (c.t.d.fact 35 (f := .free "list") rfl),
    b_tuple := He.free_ok X G (c.t.d.fact 36 (f := .free "tuple") rfl),
    b_int := He.free_ok X G (c.t.d.fact 34 (f := .free "int") rfl),
    b_bool := He.free_ok X G (c.t.d.fact 45 (f := .free "bool") rfl),
    b_repr := He.free_ok X G (c.t.d.fact 40 (f := .free "repr") rfl),
    b_all := He.free_ok X G (c.t.d.fact 44 (f := .free "all") rfl),
    b_range := He.free_ok X G (c.t.d.fact 38 (f := .free "range") rfl),
    b_enumerate := He.free_ok X G (c.t.d.fact 42 (f := .free "enumerate") rfl),
    b_zip := He.free_ok X G (c.t.d.fact 43 (f := .free "zip") rfl),
    b_ValueError := He.free_ok X G (c.t.d.fact 46 (f := .free "ValueError") rfl),
    b_KeyError := He.free_ok X G (c.t.d.fact 47 (f := .free "KeyError") rfl),
    i_QUEUE_LIMIT := He.int_ok X G (c.t.d.fact 48 (f := .int "QUEUE_LIMIT" 10000) rfl),
    i_COMMAND_LIMIT := He.int_ok X G (c.t.d.fact 49 (f := .int "COMMAND_LIMIT" 12) rfl),
    f_commands := fun c0 hc => by
      simp only [List.mem_cons, List.mem_nil_iff, or_false] at hc
      rcases hc with rfl
      · exact ⟨He.cls_ok (c.t.d.fact 50 (f := .cls "Merger") rfl), He.noat_ok (c.t.d.fact 53 (f := .noat "Merger" "commands") rfl)⟩,
    f_rows := fun c0 hc => by
      simp only [List.mem_cons, List.mem_nil_iff, or_false] at hc
      rcases hc with rfl
      · exact ⟨He.cls_ok (c.t.d.fact 50 (f := .cls "Merger") rfl), He.noat_ok (c.t.d.fact 54 (f := .noat "Merger" "rows") rfl)⟩,
    tabB := tabIB_ok m4,
    tab_Merger := tabIB_ok m5,
    g_FoldError := He.glo_ok X G (c.t.d.fact 0 (f := .glo "FoldError") rfl),
    g_BadMerger := He.glo_ok X G (c.t.d.fact 1 (f := .glo "BadMerger") rfl),
    g_Unsound := He.glo_ok X G (c.t.d.fact 2 (f := .glo "Unsound") rfl),
    g_BadQueue := He.glo_ok X G (c.t.d.fact 3 (f := .glo "BadQueue") rfl),
    g_NoCommand := He.glo_ok X G (c.t.d.fact 4 (f := .glo "NoCommand") rfl),
    g_Merger := He.glo_ok X G (c.t.d.fact 10 (f := .glo "Merger") rfl),
    x_BadMerger := by
      obtain ⟨fd, F⟩ := c.t.d.def_ 0 (d := d_BadMerger_init) rfl
      exact exE_1 (oexB_ok m0) (ok_init F (scope_of rfl rfl rfl (by decide) rfl (by decide +kernel) (by decide +kernel)) rfl (by first | exact Or.inl rfl | exact Or.inr (Or.inl rfl) | exact Or.inr (Or.inr rfl)) (by first | exact Or.inl rfl | exact Or.inr (Or.inl rfl) | exact Or.inr (Or.inr rfl)) (by decide) (by decide) fun _ => rfl) (FunD.bindsN F fun _ _ _ _ _ _ us hl => match us, hl with | [_, _], _ => rfl) (He.glo_ok X G (c.t.d.fact 1 (f := .glo "BadMerger") rfl)) (by decide),
    x_Unsound := by
      obtain ⟨fd, F⟩ := c.t.d.def_ 1 (d := d_Unsound_init) rfl
      exact exE_1 (oexB_ok m1) (ok_init F (scope_of rfl rfl rfl (by decide) rfl (by decide +kernel) (by decide +kernel)) rfl (by first | exact Or.inl rfl | exact Or.inr (Or.inl rfl) | exact Or.inr (Or.inr rfl)) (by first | exact Or.inl rfl | exact Or.inr (Or.inl rfl) | exact Or.inr (Or.inr rfl)) (by decide) (by decide) fun _ => rfl) (FunD.bindsN F fun _ _ _ _ _ _ us hl => match us, hl with | [_, _], _ => rfl) (He.glo_ok X G (c.t.d.fact 2 (f := .glo "Unsound") rfl)) (by decide),
    x_BadQueue := by
      obtain ⟨fd, F⟩ := c.t.d.def_ 2 (d := d_BadQueue_init) rfl
      exact exE_1 (oexB_ok m2) (ok_init F (scope_of rfl rfl rfl (by decide) rfl (by decide +kernel) (by decide +kernel)) rfl (by first | exact Or.inl rfl | exact Or.inr (Or.inl rfl) | exact Or.inr (Or.inr rfl)) (by first | exact Or.inl rfl | exact Or.inr (Or.inl rfl) | exact Or.inr (Or.inr rfl)) (by decide) (by decide) fun _ => rfl) (FunD.bindsN F fun _ _ _ _ _ _ us hl => match us, hl with | [_, _], _ => rfl) (He.glo_ok X G (c.t.d.fact 3 (f := .glo "BadQueue") rfl)) (by decide),
    x_NoCommand := by
      obtain ⟨fd, F⟩ := c.t.d.def_ 3 (d := d_NoCommand_init) rfl
      exact exE_k (kexB_ok m3) (ok_initK F (scope_of rfl rfl rfl (by decide) rfl (by decide +kernel) (by decide +kernel)) rfl (by first | exact Or.inl rfl | exact Or.inr (Or.inl rfl) | exact Or.inr (Or.inr rfl)) (by first | exact Or.inl rfl | exact Or.inr (Or.inl rfl) | exact Or.inr (Or.inr rfl)) (by decide) (by decide) fun _ => rfl) (FunD.bindsN F fun _ _ _ _ _ _ us hl => match us, hl with | [_, _], _ => rfl) (He.glo_ok X G (c.t.d.fact 4 (f := .glo "NoCommand") rfl)) (by decide),
    d_Merger_init := c.t.d.def_ 9 (d := d_Merger_init) rfl,
    k_Merger := He.mkr_ok (c.t.d.fact 51 (f := .mkr "Merger") rfl),
    d_Merger_eq := c.t.d.def_ 10 (d := d_Merger_eq) rfl,
    eq_Merger := eqFB_ok m6,
    tx := txB_ok m7,
    d_is_sequence := by
      obtain ⟨fd, F⟩ := c.t.d.def_ 4 (d := d_is_sequence) rfl
      exact ⟨fd, F, He.glo_ok X G (c.t.d.fact 5 (f := .glo "is_sequence") rfl)⟩,
    d_is_row := by
      obtain ⟨fd, F⟩ := c.t.d.def_ 5 (d := d_is_row) rfl
      exact ⟨fd, F, He.glo_ok X G (c.t.d.fact 6 (f := .glo "is_row") rfl)⟩,
    d_is_whole := by
      obtain ⟨fd, F⟩ := c.t.d.def_ 6 (d := d_is_whole) rfl
      exact ⟨fd, F, He.glo_ok X G (c.t.d.fact 7 (f := .glo "is_whole") rfl)⟩,
    d_is_below := by
      obtain ⟨fd, F⟩ := c.t.d.def_ 7 (d := d_is_below) rfl
      exact ⟨fd, F, He.glo_ok X G (c.t.d.fact 8 (f := .glo "is_below") rfl)⟩,
    d_queue_of := by
      obtain ⟨fd, F⟩ := c.t.d.def_ 8 (d := d_queue_of) rfl
      exact ⟨fd, F, He.glo_ok X G (c.t.d.fact 9 (f := .glo "queue_of") rfl)⟩,
    d_bad_row := by
      obtain ⟨fd, F⟩ := c.t.d.def_ 11 (d := d_bad_row) rfl
      exact ⟨fd, F, He.glo_ok X G (c.t.d.fact 11 (f := .glo "_bad_row") rfl)⟩,
    d_is_end := by
      obtain ⟨fd, F⟩ := c.t.d.def_ 12 (d := d_is_end) rfl
      exact ⟨fd, F, He.glo_ok X G (c.t.d.fact 12 (f := .glo "_is_end") rfl)⟩,
    d_unsound_three := by
      obtain ⟨fd, F⟩ := c.t.d.def_ 13 (d := d_unsound_three) rfl
      exact ⟨fd, F, He.glo_ok X G (c.t.d.fact 13 (f := .glo "_unsound_three") rfl)⟩,
    d_left_of := by
      obtain ⟨fd, F⟩ := c.t.d.def_ 14 (d := d_left_of) rfl
      exact ⟨fd, F, He.glo_ok X G (c.t.d.fact 14 (f := .glo "left_of") rfl)⟩,
    d_check_command := by
      obtain ⟨fd, F⟩ := c.t.d.def_ 15 (d := d_check_command) rfl
      exact ⟨fd, F, He.glo_ok X G (c.t.d.fact 15 (f := .glo "check_command") rfl)⟩,
    d_merged := by
      obtain ⟨fd, F⟩ := c.t.d.def_ 16 (d := d_merged) rfl
      exact ⟨fd, F, He.glo_ok X G (c.t.d.fact 16 (f := .glo "merged") rfl)⟩,
    d_three_ends := by
      obtain ⟨fd, F⟩ := c.t.d.def_ 17 (d := d_three_ends) rfl
      exact ⟨fd, F, He.glo_ok X G (c.t.d.fact 17 (f := .glo "three_ends") rfl)⟩,
    d_check_queue := by
      obtain ⟨fd, F⟩ := c.t.d.def_ 18 (d := d_check_queue) rfl
      exact ⟨fd, F, He.glo_ok X G (c.t.d.fact 18 (f := .glo "check_queue") rfl)⟩,
    d_places_of := by
      obtain ⟨fd, F⟩ := c.t.d.def_ 19 (d := d_places_of) rfl
      exact ⟨fd, F, He.glo_ok X G (c.t.d.fact 19 (f := .glo "places_of") rfl)⟩,
    d_mergeable_places := by
      obtain ⟨fd, F⟩ := c.t.d.def_ 20 (d := d_mergeable_places) rfl
      exact ⟨fd, F, He.glo_ok X G (c.t.d.fact 20 (f := .glo "mergeable_places") rfl)⟩,
    d_is_folded := by
      obtain ⟨fd, F⟩ := c.t.d.def_ 21 (d := d_is_folded) rfl
      exact ⟨fd, F, He.glo_ok X G (c.t.d.fact 21 (f := .glo "is_folded") rfl)⟩,
    d_law_box := by
      obtain ⟨fd, F⟩ := c.t.d.def_ 22 (d := d_law_box) rfl
      exact ⟨fd, F, He.glo_ok X G (c.t.d.fact 22 (f := .glo "_law_box") rfl)⟩,
    d_law_take := by
      obtain ⟨fd, F⟩ := c.t.d.def_ 23 (d := d_law_take) rfl
      exact ⟨fd, F, He.glo_ok X G (c.t.d.fact 23 (f := .glo "_law_take") rfl)⟩,
    d_law_pick := by
      obtain ⟨fd, F⟩ := c.t.d.def_ 24 (d := d_law_pick) rfl
      exact ⟨fd, F, He.glo_ok X G (c.t.d.fact 24 (f := .glo "_law_pick") rfl)⟩,
    d_law_maps := by
      obtain ⟨fd, F⟩ := c.t.d.def_ 25 (d := d_law_maps) rfl
      exact ⟨fd, F, He.glo_ok X G (c.t.d.fact 25 (f := .glo "_law_maps") rfl)⟩,
    d_law_rows_of := by
      obtain ⟨fd, F⟩ := c.t.d.def_ 26 (d := d_law_rows_of) rfl
      exact ⟨fd, F, He.glo_ok X G (c.t.d.fact 26 (f := .glo "_law_rows_of") rfl)⟩,
    d_law_against := by
      obtain ⟨fd, F⟩ := c.t.d.def_ 27 (d := d_law_against) rfl
      exact ⟨fd, F, He.glo_ok X G (c.t.d.fact 27 (f := .glo "_law_against") rfl)⟩,
    d_law_sound := by
      obtain ⟨fd, F⟩ := c.t.d.def_ 28 (d := d_law_sound) rfl
      exact ⟨fd, F, He.glo_ok X G (c.t.d.fact 28 (f := .glo "_law_sound") rfl)⟩,
    d_law_heard := by
      obtain ⟨fd, F⟩ := c.t.d.def_ 29 (d := d_law_heard) rfl
      exact ⟨fd, F, He.glo_ok X G (c.t.d.fact 29 (f := .glo "_law_heard") rfl)⟩,
    d_law_told_right := by
      obtain ⟨fd, F⟩ := c.t.d.def_ 30 (d := d_law_told_right) rfl
      exact ⟨fd, F, He.glo_ok X G (c.t.d.fact 30 (f := .glo "_law_told_right") rfl)⟩,
    d_law_queues_right := by
      obtain ⟨fd, F⟩ := c.t.d.def_ 31 (d := d_law_queues_right) rfl
      exact ⟨fd, F, He.glo_ok X G (c.t.d.fact 31 (f := .glo "_law_queues_right") rfl)⟩,
    d_law_wrong_right := by
      obtain ⟨fd, F⟩ := c.t.d.def_ 32 (d := d_law_wrong_right) rfl
      exact ⟨fd, F, He.glo_ok X G (c.t.d.fact 32 (f := .glo "_law_wrong_right") rfl)⟩,
    d_law := by
      obtain ⟨fd, F⟩ := c.t.d.def_ 33 (d := d_law) rfl
      exact ⟨fd, F, He.glo_ok X G (c.t.d.fact 33 (f := .glo "law") rfl)⟩ }
end
theorem all_ok {Pr : Program} {w : World} {K : PySem.W.Frag} {mg : Str → Option Value} {base : Heap} {T : List (Addr × Str)} (E : En Pr w K mg base) (LM : Lm K mg base T) : C_law Pr w K mg base T :=
  have c_is_sequence := ok_is_sequence (T := T) E 
  have c_is_row := ok_is_row (T := T) E c_is_sequence
  have c_is_whole := ok_is_whole (T := T) E 
  have c_is_below := ok_is_below (T := T) E c_is_whole
  have c_queue_of := ok_queue_of (T := T) E c_is_row c_is_below
  have c_is_end := ok_is_end (T := T) E c_is_whole
  have c_bad_row := ok_bad_row (T := T) E c_is_row c_is_end
  have c_left_of := ok_left_of (T := T) E 
  have c_unsound_three := ok_unsound_three (T := T) E c_left_of
  have c_check_command := ok_check_command (T := T) E c_is_below
  have c_merged := ok_merged (T := T) E c_check_command
  have c_three_ends := ok_three_ends (T := T) E c_left_of c_check_command
  have c_check_queue := ok_check_queue (T := T) E c_queue_of
  have c_places_of := ok_places_of (T := T) E 
  have c_mergeable_places := ok_mergeable_places (T := T) E c_check_queue c_places_of
  have c_is_folded := ok_is_folded (T := T) E c_mergeable_places
  have c_law_box := ok_law_box (T := T) E 
  have c_law_take := ok_law_take (T := T) E 
  have c_law_pick := ok_law_pick (T := T) E c_law_take
  have c_law_maps := ok_law_maps (T := T) E c_law_take c_law_pick
  have c_law_rows_of := ok_law_rows_of (T := T) E 
  have c_law_against := ok_law_against (T := T) E 
  have c_law_sound := ok_law_sound (T := T) E c_law_take c_law_pick c_law_maps c_law_rows_of c_law_against
  have c_Merger := ok_Merger_init (T := T) E c_bad_row c_unsound_three
  have c_Merger_eq := ok_Merger_eq (T := T) E 
  have c_law_told_right := ok_law_told_right (T := T) E LM c_Merger c_merged c_three_ends c_law_take c_Merger_eq
  have c_law_queues_right := ok_law_queues_right (T := T) E LM c_Merger c_check_queue c_mergeable_places c_is_folded c_law_take c_law_pick
  have c_law_wrong_right := ok_law_wrong_right (T := T) E LM c_Merger c_law_take c_law_pick c_law_against
  ok_law E c_law_box c_law_sound c_law_told_right c_law_queues_right c_law_wrong_right
theorem law_for {w : World} {K : PySem.W.Frag} {h : Heap} {mg : Str → Option Value} {fa0 : Addr} (X : K.In h) (G : h.Ns mainGlobals mg) (hm : mg "law" = some (.ref fa0)) (c : He.SaysX fa fn [] tf ex w h K) :
    LawFor PySem.Challenge.rw_foursfold_k01_mergers_queues_and_what_is w K 10 "_law_script" mg fa0 h run_law := by
  obtain ⟨fd, F⟩ := c.t.d.def_ 33 (d := d_law) rfl
  have e := hm.symm.trans (He.glo_ok X G (c.t.d.fact 33 (f := .glo "law") rfl))
  cases e
  have mT : tblB K lams = true := by
    obtain ⟨m0, m1, m2, m3, m4, m5, m6, m7, m8⟩ := more c
    exact m8
  refine ⟨fd, tf.map (He.cT K), lamTs K lams, fun p hp => ?_, fun p hp => ?_, fun s u => FunD.bindsA (ps := ["_law_script"]) F (fun _ _ _ _ _ _ us hl => match us, hl with | [_], _ => rfl) s [u] rfl, fun base KX GX TB => ?_⟩
  · obtain ⟨q, hq, rfl⟩ := List.mem_map.mp hp
    exact ⟨c.empty q hq, c.out q hq, PySem.W.codeHd_of_K X (c.hd q hq)⟩
  · obtain ⟨x, hx, rfl⟩ := List.mem_map.mp hp
    exact List.mem_map.mpr ⟨He.cT K (x, none), List.mem_map.mpr ⟨(x, none), by simpa [tf, lams] using hx, rfl⟩, rfl⟩
  · have tb : ∀ x ∈ lams, LamX.TabB base mg (He.codeOf K (x, none)) (He.tabOf K (He.codeOf K (x, none))) := fun x hx => TB (He.cT K (x, none)) (List.mem_map.mpr ⟨(x, none), by simpa [tf, lams] using hx, rfl⟩)
    have LM : Lm K mg base (lamTs K lams) := { lam_law_told_right := lamT_of mT tb (by simp [lams]), lam_law_queues_right := lamT_of mT tb (by simp [lams]), lam_law_wrong_right := lamT_of mT tb (by simp [lams]) }
    obtain ⟨⟨fd', body, scope, F', G', _⟩, _⟩ := all_ok (Pr := (PySem.Challenge.rw_foursfold_k01_mergers_queues_and_what_is).prog) (w := w) (base := base) (en_of X G c) LM
    have ef : fd' = fd := by
      obtain ⟨_, _, _, _, _, _, _, _, _, _, _, l1, _⟩ := F.ex
      obtain ⟨_, _, _, _, _, _, _, _, _, _, _, l2, _⟩ := F'.ex
      have l3 := l1.symm.trans l2
      simp only [Option.some.injEq, Obj.mk.injEq, Data.func.injEq] at l3
      exact l3.2.2.1.symm
    subst ef
    exact G'
end K01
open PySem PySem.W PySem.Calls PyProof.Rows
theorem K01.fin (hrun : ∀ ns : List Int, ns.length ≤ 63 → (∀ z ∈ ns, Builtin.Int.intBits z ≤ 1048576) → K01.run_law [.leaf (.rls (ns.map .int))] = .ok (.leaf (.bl true)) []) : PySem.Challenge.rw_foursfold_k01_mergers_queues_and_what_is.Holds := by
  w_on; o_law
  refine HandSHeadRun.head_any (r := OpenLaw.row PySem.Challenge.rw_foursfold_k01_mergers_queues_and_what_is) (q := view (OpenLaw.row PySem.Challenge.rw_foursfold_k01_mergers_queues_and_what_is).prog [39]) (H := K01H.hk) (ob := K01H.ob) (M := 6000) (loose := K01H.loose) (d := HandSHeadRun.topDef (OpenLaw.row PySem.Challenge.rw_foursfold_k01_mergers_queues_and_what_is).prog 39) (kwd := []) K01H.ob_eq
    (by kernel_rfl) (fun s => by kernel_rfl) K01H.run (by kernel_rfl) (by kernel_rfl) (by kernel_rfl) (by rfl) (by first | assumption | decide +kernel) (by decide +kernel) ⟨rfl, rfl, rfl, rfl, rfl, by decide +kernel⟩ ?hw ?hc
  case hw => w_witness2
  case hc =>
    refine Fy.end_law (l := PySem.Challenge.rw_foursfold_k01_mergers_queues_and_what_is) (n := 63) (k := 10) (x := "_law_script") (run := K01.run_law) rfl (by decide) (by kernel_rfl) ⟨rfl, by decide, by decide⟩ ?F hrun
    intro w mg fa h Y G hmg0
    obtain ⟨K, KX, c⟩ := Y
    have hmg : mg ("law" : PySem.Str) = some (.ref fa) := by
      have e : (HandSHeadRun.topDef (OpenLaw.row PySem.Challenge.rw_foursfold_k01_mergers_queues_and_what_is).prog 39).name = ("law" : PySem.Str) := by kernel_rfl
      rw [← e]
      exact hmg0
    exact ⟨K, KX, K01.law_for KX G hmg c⟩

end
/-! Reasoning about mirrors: what comes of a mirror at slots that are written out.
Every continuation is a named constant, so that `simp only [R]` works a mirror out step by step. -/
namespace Fy
open PySem PySem.Spec PyProof.Rows L2

/-- so that simp rewrites with it, and the kernel need not compute -/
theorem nr {α : Sort _} {a b : α} (h : a = b) : a = b := h
abbrev QS := Fl → Sl → Prop
abbrev QO := OT → Sl → Prop
abbrev QB := Bool → Sl → Prop
abbrev QX := Exn → Sl → Prop
@[irreducible] def Wp {α : Type} (o : Out α) (Q : α → Sl → Prop) (E : QX) : Prop := match o with
  | .ok a S => Q a S
  | .err x S => E x S
  | .stuck => False
@[irreducible] def WpR (r : FR) (Q : OT → List OT → Prop) (E : Exn → List OT → Prop) : Prop := match r with
  | .ok t os => Q t os
  | .err x os => E x os
  | .stuck => False
@[irreducible] def Op (o : Option OT) (S : Sl) (Q : QO) : Prop := match o with
  | some t => Q t S
  | none => False
@[irreducible] def Og (o : Option Sl) (P : Sl → Prop) : Prop := match o with
  | some S => P S
  | none => False
@[irreducible] def Oi (o : Option (List PV)) (S : Sl) (Q : List PV → Sl → Prop) : Prop := match o with
  | some xs => Q xs S
  | none => False
@[irreducible] def Oo (o : Option (List OT)) (P : List OT → Prop) : Prop := match o with
  | some ts => P ts
  | none => False
def noE : QX := fun _ _ => False
def noER : Exn → List OT → Prop := fun _ _ => False

theorem wp_ok {α : Type} {S : Sl} {E : QX} {x : α} {Q : α → Sl → Prop} : Wp (.ok x S) Q E = Q x S := by with_unfolding_all rfl
theorem wp_err {α : Type} {S : Sl} {E : QX} {x : Exn} {Q : α → Sl → Prop} : Wp (.err x S) Q E = E x S := by with_unfolding_all rfl
theorem wp_stk {α : Type} {E : QX} {Q : α → Sl → Prop} : Wp .stuck Q E = False := by with_unfolding_all rfl
theorem wpR_ok {t : OT} {os : List OT} {Q : OT → List OT → Prop} {E : Exn → List OT → Prop} : WpR (.ok t os) Q E = Q t os := by with_unfolding_all rfl
theorem wpR_err {x : Exn} {os : List OT} {Q : OT → List OT → Prop} {E : Exn → List OT → Prop} : WpR (.err x os) Q E = E x os := by with_unfolding_all rfl
theorem wpR_stk {Q : OT → List OT → Prop} {E : Exn → List OT → Prop} : WpR .stuck Q E = False := by with_unfolding_all rfl
theorem op_some {S : Sl} {Q : QO} {t : OT} : Op (some t) S Q = Q t S := by with_unfolding_all rfl
theorem op_none {S : Sl} {Q : QO} : Op none S Q = False := by with_unfolding_all rfl
theorem og_some {S : Sl} {P : Sl → Prop} : Og (some S) P = P S := by with_unfolding_all rfl
theorem og_none {P : Sl → Prop} : Og none P = False := by with_unfolding_all rfl
theorem oi_some {S : Sl} {xs : List PV} {P : List PV → Sl → Prop} : Oi (some xs) S P = P xs S := by with_unfolding_all rfl
theorem oi_none {S : Sl} {P : List PV → Sl → Prop} : Oi none S P = False := by with_unfolding_all rfl
theorem oo_some {xs : List OT} {P : List OT → Prop} : Oo (some xs) P = P xs := by with_unfolding_all rfl
theorem oo_none {P : List OT → Prop} : Oo none P = False := by with_unfolding_all rfl
theorem Wp.mono {α : Type} {o : Out α} {Q Q' : α → Sl → Prop} {E E' : QX} (h : Wp o Q E) (hq : ∀ a S, Q a S → Q' a S) (he : ∀ x S, E x S → E' x S) : Wp o Q' E' := by
  cases o with
  | ok a S => with_unfolding_all exact hq a S h
  | err x S => with_unfolding_all exact he x S h
  | stuck => with_unfolding_all exact h
theorem WpR.mono {r : FR} {Q Q' : OT → List OT → Prop} {E E' : Exn → List OT → Prop} (h : WpR r Q E) (hq : ∀ a S, Q a S → Q' a S) (he : ∀ x S, E x S → E' x S) : WpR r Q' E' := by
  cases r with
  | ok a S => with_unfolding_all exact hq a S h
  | err x S => with_unfolding_all exact he x S h
  | stuck => with_unfolding_all exact h
theorem WpR.eq {r : FR} {t : OT} {os : List OT} (h : WpR r (fun a b => a = t ∧ b = os) (fun _ _ => False)) : r = .ok t os := by
  cases r with
  | ok a S => (have h' : a = t ∧ S = os := by with_unfolding_all exact h); rw [h'.1, h'.2]
  | err x S => with_unfolding_all exact False.elim h
  | stuck => with_unfolding_all exact False.elim h
theorem WpR.eqE {r : FR} {x : Exn} {os : List OT} (h : WpR r (fun _ _ => False) (fun a b => a = x ∧ b = os)) : r = .err x os := by
  cases r with
  | ok a S => with_unfolding_all exact False.elim h
  | err y S => (have h' : y = x ∧ S = os := by with_unfolding_all exact h); rw [h'.1, h'.2]
  | stuck => with_unfolding_all exact False.elim h
theorem WpR.all {r : FR} {Q : OT → List OT → Prop} (h : WpR r Q noER) : ∃ t os, r = .ok t os ∧ Q t os := by
  cases r with
  | ok a S => with_unfolding_all exact ⟨a, S, rfl, h⟩
  | err y S => with_unfolding_all exact False.elim h
  | stuck => with_unfolding_all exact False.elim h

/-! continuations -/
def K1 (f : PV → Option OT) (Q : QO) : QO := fun t S => Op (f (fz t)) S Q
def K2 (f : PV → PV → Option OT) (m2 : ME) (Q : QO) (E : QX) : QO := fun t S => Wp (m2 S) (fun u S2 => Op (f (fz t) (fz u)) S2 Q) E
def K2b (f : PV → PV → Option OT) (p : PV) (Q : QO) : QO := fun u S2 => Op (f p (fz u)) S2 Q
def KN (f : List PV → Option OT) (Q : QO) : List OT → Sl → Prop := fun ts S => Op (f (ts.map fz)) S Q
def KC (ma : MA) (Q : List OT → Sl → Prop) (E : QX) : QO := fun t S => Wp (ma S) (fun ts S2 => Q (t :: ts) S2) E
def KC2 (t : OT) (Q : List OT → Sl → Prop) : List OT → Sl → Prop := fun ts S2 => Q (t :: ts) S2
def KV (Q : QB) : QO := fun t S => match t with
  | .leaf (.bl b) => Q b S
  | _ => False
def KAnd (m2 : MT) (Q : QB) (E : QX) : QB := fun b S => if b = true then Wp (m2 S) Q E else Q false S
def KOr (m2 : MT) (Q : QB) (E : QX) : QB := fun b S => if b = true then Q true S else Wp (m2 S) Q E
def KNot (Q : QB) : QB := fun b S => Q (!b) S
def KEAnd (m2 : ME) (Q : QO) (E : QX) : QB := fun b S => if b = true then Wp (m2 S) Q E else Q (.leaf (.bl false)) S
def KEOr (m2 : ME) (Q : QO) (E : QX) : QB := fun b S => if b = true then Q (.leaf (.bl true)) S else Wp (m2 S) Q E
def KENot (Q : QO) : QB := fun b S => Q (.leaf (.bl (!b))) S
def KIf (m1 m2 : ME) (Q : QO) (E : QX) : QB := fun b S => if b = true then Wp (m1 S) Q E else Wp (m2 S) Q E
def KL (Q : QO) : List OT → Sl → Prop := fun ts S => ts.length ≤ 1000 ∧ Q (.node ts) S
def KT (Q : QO) : List OT → Sl → Prop := fun ts S => ts.length ≤ 1000 ∧ Q (.leaf (.tup (ts.map fz))) S
def KA (i : Nat) (Q : QS) : QO := fun t S => Og (S[i]?.map fun _ => S.set i (some t)) (Q .nx)
def KE (Q : QS) : QO := fun _ S => Q .nx S
def KR (Q : QS) : QO := fun t S => Q (.rt t) S
def KSIf (a b : MS) (Q : QS) (E : QX) : QB := fun c S => if c = true then Wp (a S) Q E else Wp (b S) Q E
def KS (b : MS) (Q : QS) (E : QX) : QS := fun f S => match f with
  | .nx => Wp (b S) Q E
  | f => Q f S
def KG (mg : MG) (Q : QS) : QO := fun t S => Og (mg (fz t) S) (Q .nx)
def KGs (gs : MGs) (r : List PV) (P : Sl → Prop) : Sl → Prop := fun S => Og (gs r S) P
def KFor (mg : MG) (mb : MS) (Q : QS) (E : QX) : List PV → Sl → Prop := fun xs S => Wp (forM mg mb xs S) Q E
def KB (mb : MS) (P : Sl → Prop) (Q : QS) (E : QX) : Sl → Prop := fun S => Wp (mb S) (fun f S => match f with
  | .nx => P S
  | .ct => P S
  | .bk => Q .nx S
  | .rt t => Q (.rt t) S) E
def KLp (P : Sl → Prop) (Q : QS) : QS := fun f S => match f with
  | .nx => P S
  | .ct => P S
  | .bk => Q .nx S
  | .rt t => Q (.rt t) S
def KIs (Q : List PV → Sl → Prop) : QO := fun t S => Oi (seqOf (fz t)) S Q
def KIn (f : List PV → Option (List PV)) (Q : List PV → Sl → Prop) : List OT → Sl → Prop := fun ts S => Oi (f (ts.map fz)) S Q
def KRr (bi : List Nat) (Q : OT → List OT → Prop) : QS := fun f S => match f with
  | .rt r => Oo (outsOf bi S) (Q r)
  | .nx => Oo (outsOf bi S) (Q (.leaf .non))
  | _ => False
def KRx (bi : List Nat) (E : Exn → List OT → Prop) : QX := fun x S => Oo (outsOf bi S) (E x)
def KRx0 (c : Str) (ns : List Str) (E : QX) : List OT → Sl → Prop := fun ts S => ts.length = ns.length ∧ E ⟨c, ns, ts.map fz⟩ S
def KCa (n : Nat) (bi : List Nat) (run : List OT → FR) (Q : QO) (E : QX) : List Ar → Sl → Prop := fun as S => Wp (callM n bi run as S) Q E
def KAr (mr : MR) (Q : List Ar → Sl → Prop) (E : QX) : QO := fun t S => Wp (mr S) (fun as S2 => Q (.vl t :: as) S2) E
def KAr2 (a : Ar) (Q : List Ar → Sl → Prop) : List Ar → Sl → Prop := fun as S => Q (a :: as) S
def KBk (bo : Bool) (is : List Nat) (S1 : Sl) (Q : QO) : OT → List OT → Prop := fun r os => (bo = true → noT (okS S1) r = true ∧ noTs (okS S1) os = true) ∧ Og (backs is os S1) (Q r)
def KBx (bo : Bool) (is : List Nat) (S1 : Sl) (E : QX) : Exn → List OT → Prop := fun x os => (bo = true → noPs (okS S1) x.xs = true ∧ noTs (okS S1) os = true) ∧ Og (backs is os S1) (E x)
def WpA (o : Option (List OT × Sl)) (P : List OT → Sl → Prop) : Prop := match o with
  | some (ts, S) => P ts S
  | none => False
def KRun (bo : Bool) (is : List Nat) (run : List OT → FR) (Q : QO) (E : QX) : List OT → Sl → Prop := fun ts S1 => WpR (run ts) (KBk bo is S1 Q) (KBx bo is S1 E)

section
variable {α β : Type} {S : Sl} {Q : QO} {QQ : QS} {Qb : QB} {E : QX} {m m1 m2 : ME} {ma : MA} {t mt : MT} {a b : MS}
theorem wp_bind (o : Out α) (f : α → Sl → Out β) (Q : β → Sl → Prop) : Wp (o.bind f) Q E = Wp o (fun a S => Wp (f a S) Q E) E := by cases o <;> with_unfolding_all rfl
theorem wp_lift (o : Option OT) : Wp (lift o S) Q E = Op o S Q := by cases o <;> with_unfolding_all rfl
theorem wp_c {p : PV} : Wp (eC p S) Q E = Q (.leaf p) S := nr (by with_unfolding_all rfl)
theorem wp_e1 {f : PV → Option OT} : Wp (e1 f m S) Q E = Wp (m S) (K1 f Q) E := by
  unfold e1
  rw [wp_bind]
  simp only [wp_lift]
  with_unfolding_all rfl
theorem k1 {f : PV → Option OT} {t : OT} : K1 f Q t S = Op (f (fz t)) S Q := nr (by with_unfolding_all rfl)
theorem wp_e2 {f : PV → PV → Option OT} : Wp (e2 f m1 m2 S) Q E = Wp (m1 S) (K2 f m2 Q E) E := by
  unfold e2 K2
  rw [wp_bind]
  simp only [wp_bind, wp_lift]
theorem k2 {f : PV → PV → Option OT} {t : OT} : K2 f m2 Q E t S = Wp (m2 S) (K2b f (fz t) Q) E := nr (by with_unfolding_all rfl)
theorem k2b {f : PV → PV → Option OT} {p : PV} {t : OT} : K2b f p Q t S = Op (f p (fz t)) S Q := nr (by with_unfolding_all rfl)
theorem wp_eN {f : List PV → Option OT} : Wp (eN f ma S) Q E = Wp (ma S) (KN f Q) E := by
  unfold eN KN
  rw [wp_bind]
  simp only [wp_lift]
theorem kN {f : List PV → Option OT} {ts : List OT} : KN f Q ts S = Op (f (ts.map fz)) S Q := nr (by with_unfolding_all rfl)
theorem wp_aN {Q : List OT → Sl → Prop} : Wp (aN S) Q E = Q [] S := nr (by with_unfolding_all rfl)
theorem wp_aC {Q : List OT → Sl → Prop} : Wp (aC m ma S) Q E = Wp (m S) (KC ma Q E) E := by
  unfold aC KC
  rw [wp_bind]
  simp only [wp_bind, wp_ok]
theorem kC {Q : List OT → Sl → Prop} {t : OT} : KC ma Q E t S = Wp (ma S) (KC2 t Q) E := nr (by with_unfolding_all rfl)
theorem kC2 {Q : List OT → Sl → Prop} {t : OT} {ts : List OT} : KC2 t Q ts S = Q (t :: ts) S := nr (by with_unfolding_all rfl)
theorem wp_tV : Wp (tV m S) Qb E = Wp (m S) (KV Qb) E := by
  unfold tV
  rw [wp_bind]
  congr 1
  funext t S
  cases t with
  | leaf p => cases p <;> with_unfolding_all rfl
  | node ts => with_unfolding_all rfl
  | ins c ns ts => with_unfolding_all rfl
theorem kV {b : Bool} : KV Qb (.leaf (.bl b)) S = Qb b S := nr (by with_unfolding_all rfl)
theorem wp_and : Wp (tAndM t mt S) Qb E = Wp (t S) (KAnd mt Qb E) E := by
  unfold tAndM KAnd
  rw [wp_bind]
  congr 1
  funext b S
  cases b <;> with_unfolding_all rfl
theorem wp_or : Wp (tOrM t mt S) Qb E = Wp (t S) (KOr mt Qb E) E := by
  unfold tOrM KOr
  rw [wp_bind]
  congr 1
  funext b S
  cases b <;> with_unfolding_all rfl
theorem wp_not : Wp (tNotM t S) Qb E = Wp (t S) (KNot Qb) E := by
  unfold tNotM KNot
  rw [wp_bind]
  with_unfolding_all rfl
theorem kAnd_t : KAnd mt Qb E true S = Wp (mt S) Qb E := nr (by with_unfolding_all rfl)
theorem kAnd_f : KAnd mt Qb E false S = Qb false S := nr (by with_unfolding_all rfl)
theorem kOr_t : KOr mt Qb E true S = Qb true S := nr (by with_unfolding_all rfl)
theorem kOr_f : KOr mt Qb E false S = Wp (mt S) Qb E := nr (by with_unfolding_all rfl)
theorem kAnd {c : Bool} : KAnd mt Qb E c S = ((c = true → Wp (mt S) Qb E) ∧ (c = false → Qb false S)) := by cases c <;> simp [KAnd]
theorem kOr {c : Bool} : KOr mt Qb E c S = ((c = true → Qb true S) ∧ (c = false → Wp (mt S) Qb E)) := by cases c <;> simp [KOr]
theorem kNot {b : Bool} : KNot Qb b S = Qb (!b) S := nr (by with_unfolding_all rfl)
theorem wp_eB {k : Bool → Sl → Out OT} : Wp (eB m k S) Q E = Wp (m S) (KV fun b S1 => Wp (k b S1) Q E) E := by
  unfold eB
  rw [wp_bind]
  congr 1
  funext t S
  cases t with
  | leaf p => cases p <;> with_unfolding_all rfl
  | node ts => with_unfolding_all rfl
  | ins c ns ts => with_unfolding_all rfl
theorem wp_eAnd : Wp (eAnd m1 m2 S) Q E = Wp (m1 S) (KV (KEAnd m2 Q E)) E := by
  unfold eAnd
  rw [wp_eB]
  congr 2
  funext b S
  cases b <;> with_unfolding_all rfl
theorem wp_eOr : Wp (eOr m1 m2 S) Q E = Wp (m1 S) (KV (KEOr m2 Q E)) E := by
  unfold eOr
  rw [wp_eB]
  congr 2
  funext b S
  cases b <;> with_unfolding_all rfl
theorem wp_eNot : Wp (eNot m S) Q E = Wp (m S) (KV (KENot Q)) E := by
  unfold eNot
  rw [wp_eB]
  with_unfolding_all rfl
theorem kEAnd_t : KEAnd m2 Q E true S = Wp (m2 S) Q E := nr (by with_unfolding_all rfl)
theorem kEAnd_f : KEAnd m2 Q E false S = Q (.leaf (.bl false)) S := nr (by with_unfolding_all rfl)
theorem kEOr_t : KEOr m2 Q E true S = Q (.leaf (.bl true)) S := nr (by with_unfolding_all rfl)
theorem kEOr_f : KEOr m2 Q E false S = Wp (m2 S) Q E := nr (by with_unfolding_all rfl)
theorem kEAnd {c : Bool} : KEAnd m2 Q E c S = ((c = true → Wp (m2 S) Q E) ∧ (c = false → Q (.leaf (.bl false)) S)) := by cases c <;> simp [KEAnd]
theorem kEOr {c : Bool} : KEOr m2 Q E c S = ((c = true → Q (.leaf (.bl true)) S) ∧ (c = false → Wp (m2 S) Q E)) := by cases c <;> simp [KEOr]
theorem kENot {b : Bool} : KENot Q b S = Q (.leaf (.bl (!b))) S := nr (by with_unfolding_all rfl)
theorem wp_eIf : Wp (eIf t m1 m2 S) Q E = Wp (t S) (KIf m1 m2 Q E) E := by
  unfold eIf KIf
  rw [wp_bind]
  congr 1
  funext b S
  cases b <;> with_unfolding_all rfl
theorem kIf_t : KIf m1 m2 Q E true S = Wp (m1 S) Q E := nr (by with_unfolding_all rfl)
theorem kIf_f : KIf m1 m2 Q E false S = Wp (m2 S) Q E := nr (by with_unfolding_all rfl)
theorem kIf {c : Bool} : KIf m1 m2 Q E c S = ((c = true → Wp (m1 S) Q E) ∧ (c = false → Wp (m2 S) Q E)) := by cases c <;> simp [KIf]
theorem wp_eL : Wp (eL ma S) Q E = Wp (ma S) (KL Q) E := by
  unfold eL KL
  rw [wp_bind]
  congr 1
  funext ts S
  by_cases h : ts.length ≤ 1000 <;> simp [h, Wp]
theorem wp_eT : Wp (eT ma S) Q E = Wp (ma S) (KT Q) E := by
  unfold eT KT
  rw [wp_bind]
  congr 1
  funext ts S
  by_cases h : ts.length ≤ 1000 <;> simp [h, Wp]
theorem kL {ts : List OT} : KL Q ts S = (ts.length ≤ 1000 ∧ Q (.node ts) S) := nr (by with_unfolding_all rfl)
theorem kT {ts : List OT} : KT Q ts S = (ts.length ≤ 1000 ∧ Q (.leaf (.tup (ts.map fz))) S) := nr (by with_unfolding_all rfl)
theorem set_map {i : Nat} {x : Option OT} : (if i < S.length then some (S.set i x) else none) = S[i]?.map fun _ => S.set i x := by
  by_cases h : i < S.length
  · rw [if_pos h, List.getElem?_eq_getElem h]
    with_unfolding_all rfl
  · rw [if_neg h, List.getElem?_eq_none (Nat.le_of_not_lt h)]
    with_unfolding_all rfl
theorem wp_sA {i : Nat} : Wp (sA i m S) QQ E = Wp (m S) (KA i QQ) E := by
  unfold sA KA
  rw [wp_bind]
  congr 1
  funext t S
  rw [← set_map]
  by_cases h : i < S.length <;> simp [h, Wp, Og]
theorem kA {i : Nat} {t : OT} : KA i QQ t S = Og (S[i]?.map fun _ => S.set i (some t)) (QQ .nx) := nr (by with_unfolding_all rfl)
theorem wp_sE : Wp (sE m S) QQ E = Wp (m S) (KE QQ) E := by
  unfold sE
  rw [wp_bind]
  with_unfolding_all rfl
theorem kE {t : OT} : KE QQ t S = QQ .nx S := nr (by with_unfolding_all rfl)
theorem wp_sR : Wp (sR m S) QQ E = Wp (m S) (KR QQ) E := by
  unfold sR
  rw [wp_bind]
  with_unfolding_all rfl
theorem kR {t : OT} : KR QQ t S = QQ (.rt t) S := nr (by with_unfolding_all rfl)
theorem wp_sRN : Wp (sRN S) QQ E = QQ (.rt (.leaf .non)) S := nr (by with_unfolding_all rfl)
theorem wp_sIf : Wp (sIf t a b S) QQ E = Wp (t S) (KSIf a b QQ E) E := by
  unfold sIf KSIf
  rw [wp_bind]
  congr 1
  funext c S
  cases c <;> with_unfolding_all rfl
theorem kSIf_t : KSIf a b QQ E true S = Wp (a S) QQ E := nr (by with_unfolding_all rfl)
theorem kSIf_f : KSIf a b QQ E false S = Wp (b S) QQ E := nr (by with_unfolding_all rfl)
theorem kSIf {c : Bool} : KSIf a b QQ E c S = ((c = true → Wp (a S) QQ E) ∧ (c = false → Wp (b S) QQ E)) := by cases c <;> simp [KSIf]
theorem wp_sN : Wp (sN S) QQ E = QQ .nx S := nr (by with_unfolding_all rfl)
theorem wp_sB : Wp (sB S) QQ E = QQ .bk S := nr (by with_unfolding_all rfl)
theorem wp_sC : Wp (sC S) QQ E = QQ .ct S := nr (by with_unfolding_all rfl)
theorem wp_sS : Wp (sS a b S) QQ E = Wp (a S) (KS b QQ E) E := by
  unfold sS
  rw [wp_bind]
  congr 1
  funext f S
  cases f <;> with_unfolding_all rfl
theorem kS_nx : KS b QQ E .nx S = Wp (b S) QQ E := nr (by with_unfolding_all rfl)
theorem kS_bk : KS b QQ E .bk S = QQ .bk S := nr (by with_unfolding_all rfl)
theorem kS_ct : KS b QQ E .ct S = QQ .ct S := nr (by with_unfolding_all rfl)
theorem kS_rt {t : OT} : KS b QQ E (.rt t) S = QQ (.rt t) S := nr (by with_unfolding_all rfl)
theorem wp_sG {mg : MG} : Wp (sG m mg S) QQ E = Wp (m S) (KG mg QQ) E := by
  unfold sG KG
  rw [wp_bind]
  congr 1
  funext t S
  cases mg (fz t) S <;> with_unfolding_all rfl
theorem kG {mg : MG} {t : OT} : KG mg QQ t S = Og (mg (fz t) S) (QQ .nx) := nr (by with_unfolding_all rfl)
theorem gN_eq {i : Nat} {p : PV} : gN i p S = S[i]?.map fun _ => S.set i (some (.leaf p)) := by
  unfold gN
  with_unfolding_all exact set_map
theorem gT_eq {n : Nat} {gs : MGs} {ps : List PV} (h : ps.length = n) : gT n gs (.tup ps) S = gs ps S := if_pos h
theorem og_gsC {g : MG} {gs : MGs} {p : PV} {r : List PV} {P : Sl → Prop} : Og (gsC g gs (p :: r) S) P = Og (g p S) (KGs gs r P) := by
  with_unfolding_all show Og ((g p S).bind fun S1 => gs r S1) P = _
  cases g p S <;> with_unfolding_all rfl
theorem kGs {gs : MGs} {r : List PV} {P : Sl → Prop} : KGs gs r P S = Og (gs r S) P := nr (by with_unfolding_all rfl)
theorem gsN_eq : gsN [] S = some S := nr (by with_unfolding_all rfl)
theorem wp_sFor {mi : MI} {mg : MG} {mb : MS} : Wp (sFor mi mg mb S) QQ E = Wp (mi S) (KFor mg mb QQ E) E := by
  unfold sFor
  rw [wp_bind]
  with_unfolding_all rfl
theorem kFor {mg : MG} {mb : MS} {xs : List PV} : KFor mg mb QQ E xs S = Wp (forM mg mb xs S) QQ E := nr (by with_unfolding_all rfl)
theorem kLp_nx {P : Sl → Prop} : KLp P QQ .nx S = P S := nr (by with_unfolding_all rfl)
theorem kLp_ct {P : Sl → Prop} : KLp P QQ .ct S = P S := nr (by with_unfolding_all rfl)
theorem kLp_bk {P : Sl → Prop} : KLp P QQ .bk S = QQ .nx S := nr (by with_unfolding_all rfl)
theorem kLp_rt {P : Sl → Prop} {t : OT} : KLp P QQ (.rt t) S = QQ (.rt t) S := nr (by with_unfolding_all rfl)
theorem kB {P : Sl → Prop} {mb : MS} : KB mb P QQ E S = Wp (mb S) (KLp P QQ) E := nr (by with_unfolding_all rfl)
theorem wp_mSeq {Q : List PV → Sl → Prop} : Wp (mSeq m S) Q E = Wp (m S) (KIs Q) E := by
  unfold mSeq KIs
  rw [wp_bind]
  congr 1
  funext t S
  cases seqOf (fz t) <;> with_unfolding_all rfl
theorem wp_iN {f : List PV → Option (List PV)} {Q : List PV → Sl → Prop} : Wp (iN f ma S) Q E = Wp (ma S) (KIn f Q) E := by
  unfold iN KIn
  rw [wp_bind]
  congr 1
  funext t S
  cases f (t.map fz) <;> with_unfolding_all rfl
theorem kIs {Q : List PV → Sl → Prop} {t : OT} : KIs Q t S = Oi (seqOf (fz t)) S Q := nr (by with_unfolding_all rfl)
theorem kIn {f : List PV → Option (List PV)} {Q : List PV → Sl → Prop} {ts : List OT} : KIn f Q ts S = Oi (f (ts.map fz)) S Q := nr (by with_unfolding_all rfl)
theorem wp_sRaise {c : Str} {ns : List Str} : Wp (sRaise c ns ma S) QQ E = Wp (ma S) (KRx0 c ns E) E := by
  unfold sRaise KRx0
  rw [wp_bind]
  congr 1
  funext ts S
  by_cases h : ts.length = ns.length <;> simp [h, Wp]
theorem kRx0 {c : Str} {ns : List Str} {ts : List OT} : KRx0 c ns E ts S = (ts.length = ns.length ∧ E ⟨c, ns, ts.map fz⟩ S) := nr (by with_unfolding_all rfl)
/-! a name read -/
def KVar (o : Option (Option OT)) (i : Nat) (S : Sl) (Q : QO) : Prop := match o with
  | some (some (.leaf p)) => Q (.leaf p) S
  | some (some t) => Q (.leaf (fz t)) (S.set i (some (.leaf (fz t))))
  | _ => False
theorem wp_eV {i : Nat} : Wp (eV i S) Q E = KVar S[i]? i S Q := by
  unfold eV KVar
  generalize S[i]? = o
  rcases o with _ | _ | t
  · with_unfolding_all rfl
  · with_unfolding_all rfl
  · cases t <;> with_unfolding_all rfl
theorem kVar_l {i : Nat} {p : PV} : KVar (some (some (.leaf p))) i S Q = Q (.leaf p) S := nr (by with_unfolding_all rfl)
theorem kVar_n {i : Nat} {ts : List OT} : KVar (some (some (.node ts))) i S Q = Q (.leaf (.lst (ts.map fz))) (S.set i (some (.leaf (.lst (ts.map fz))))) := by
  rw [← fzs_map]
  with_unfolding_all rfl
theorem kVar_i {i : Nat} {c : Str} {ns : List Str} {ts : List OT} : KVar (some (some (.ins c ns ts))) i S Q = Q (.leaf (.obj c ns (ts.map fz))) (S.set i (some (.leaf (.obj c ns (ts.map fz))))) := by
  rw [← fzs_map]
  with_unfolding_all rfl
theorem fz_leaf {p : PV} : fz (.leaf p) = p := nr (by with_unfolding_all rfl)
theorem fz_node {ts : List OT} : fz (.node ts) = .lst (ts.map fz) := by
  rw [← fzs_map]
  with_unfolding_all rfl
theorem fz_ins {c : Str} {ns : List Str} {ts : List OT} : fz (.ins c ns ts) = .obj c ns (ts.map fz) := by
  rw [← fzs_map]
  with_unfolding_all rfl
theorem map_fz_leaf {ps : List PV} : (ps.map OT.leaf).map fz = ps := by
  induction ps with
  | nil => with_unfolding_all rfl
  | cons p r ih => simp [fz_leaf, ih]
/-! handed over -/
def KMv (o : Option (Option OT)) (i : Nat) (S : Sl) (Q : QO) : Prop := match o with
  | some (some t) => Q t (S.set i none)
  | _ => False
theorem wp_eMv {i : Nat} : Wp (eMv i S) Q E = KMv S[i]? i S Q := by
  unfold eMv KMv
  generalize S[i]? = o
  rcases o with _ | _ | t <;> with_unfolding_all rfl
theorem kMv {i : Nat} {t : OT} : KMv (some (some t)) i S Q = Q t (S.set i none) := nr (by with_unfolding_all rfl)
/-! frozen copies -/
def frO (o : Option OT) : Option OT := match o with
  | some t => some (.leaf (fz t))
  | none => none
theorem frS_nil : frS [] = [] := nr (by with_unfolding_all rfl)
theorem frS_cons {o : Option OT} {S : Sl} : frS (o :: S) = frO o :: frS S := by
  unfold frS frO
  cases o <;> with_unfolding_all rfl
theorem frO_none : frO none = none := nr (by with_unfolding_all rfl)
theorem frO_some {t : OT} : frO (some t) = some (.leaf (fz t)) := nr (by with_unfolding_all rfl)
def KTh (S : Sl) (Q : QO) : QO := fun t _ => match t with
  | .leaf p => noP false p = true ∧ Q (.leaf p) S
  | _ => False
def KTh' (S : Sl) (Q : QB) : QB := fun b _ => Q b S
def KIce (S : Sl) (Q : QO) : QO := fun t _ => noN (okS S) t = true ∧ Q t S
theorem wp_thaw : Wp (eThaw m S) Q E = Wp (m (frS S)) (KTh S Q) noE := by
  unfold eThaw
  cases h : m (frS S) with
  | stuck => with_unfolding_all rfl
  | err x S1 => with_unfolding_all rfl
  | ok t S1 =>
    cases t with
    | leaf p =>
      with_unfolding_all show Wp (if noP false p = true then .ok (.leaf p) S else .stuck) Q E = (noP false p = true ∧ Q (.leaf p) S)
      by_cases hn : noP false p = true <;> simp [hn, Wp]
    | node ts => with_unfolding_all rfl
    | ins c ns ts => with_unfolding_all rfl
theorem kTh {p : PV} {S1 : Sl} : KTh S Q (.leaf p) S1 = (noP false p = true ∧ Q (.leaf p) S) := nr (by with_unfolding_all rfl)
theorem wp_tThaw : Wp (tThaw t S) Qb E = Wp (t (frS S)) (KTh' S Qb) noE := by
  unfold tThaw
  cases h : t (frS S) <;> with_unfolding_all rfl
theorem kTh' {b : Bool} {S1 : Sl} : KTh' S Qb b S1 = Qb b S := nr (by with_unfolding_all rfl)
theorem wp_ice : Wp (eIce m S) Q E = Wp (m (frS S)) (KIce S Q) noE := by
  unfold eIce
  cases h : m (frS S) with
  | stuck => with_unfolding_all rfl
  | err x S1 => with_unfolding_all rfl
  | ok t S1 =>
    with_unfolding_all show Wp (if noN (okS S) t = true then .ok t S else .stuck) Q E = (noN (okS S) t = true ∧ Q t S)
    by_cases hn : noN (okS S) t = true <;> simp [hn, Wp]
theorem kIce {t : OT} {S1 : Sl} : KIce S Q t S1 = (noN (okS S) t = true ∧ Q t S) := nr (by with_unfolding_all rfl)
end
end Fy

namespace Fy
open PySem PySem.Spec PyProof.Rows L2
/-! lists that one owns -/
def KNd (o : Option (Option OT)) (P : Prop) : Prop := match o with
  | some (some (.node _)) => P
  | _ => False
def KApp (i : Nat) (t : OT) (S : Sl) (Q : QS) : Option (Option OT) → Prop
  | some (some (.node ts)) => ts.length < sizeLine ∧ Q .nx (S.set i (some (.node (ts ++ [t]))))
  | _ => False
def KApp1 (i : Nat) (Q : QS) : QO := fun t S => KApp i t S Q S[i]?
def KSet1 (i : Nat) (mi : ME) (Q : QS) (E : QX) : QO := fun t S => KNd S[i]? (Wp (mi S) (fun u S2 => Wp (setF i t u S2) Q E) E)
def KSet2 (i : Nat) (t : OT) (Q : QS) : QO := fun u S => Wp (setF i t u S) Q noE
def KSet3 (i : Nat) (t : OT) (k : Int) (S : Sl) (Q : QS) : Option (Option OT) → Prop
  | some (some (.node ts)) => (match ixN ts.length k with
    | some j => Q .nx (S.set i (some (.node (ts.set j t))))
    | none => False)
  | _ => False
def KPar (is : List Nat) (Q : QS) : List OT → Sl → Prop := fun ts S => (ts.length = is.length ∧ is.all (fun i => decide (i < S.length)) = true) ∧ Q .nx ((is.zip ts).foldl (fun S p => S.set p.1 (some p.2)) S)
def KSMv (i j k : Nat) (S : Sl) (Q : QS) : Option (Option OT) → Prop
  | some (some (.node ts)) => (match ts[k]? with
    | some t => i < S.length ∧ Q .nx ((S.set j none).set i (some t))
    | none => False)
  | _ => False
def KCh1 (f f' : PV → PV → Option OT) (m2 m3 : ME) (Q : QO) (E : QX) : QO := fun t S => Wp (m2 S) (fun u S2 => match f (fz t) (fz u) with
  | some (.leaf (.bl true)) => Wp (m3 S2) (K2b f' (fz u) Q) E
  | some (.leaf (.bl false)) => Q (.leaf (.bl false)) S2
  | _ => False) E
def KCh2 (f f' : PV → PV → Option OT) (p : PV) (m3 : ME) (Q : QO) (E : QX) : QO := fun u S2 => match f p (fz u) with
  | some (.leaf (.bl true)) => Wp (m3 S2) (K2b f' (fz u) Q) E
  | some (.leaf (.bl false)) => Q (.leaf (.bl false)) S2
  | _ => False
def KCh3 (f' : PV → PV → Option OT) (q : PV) (m3 : ME) (Q : QO) (E : QX) (S2 : Sl) : Option OT → Prop
  | some (.leaf (.bl true)) => Wp (m3 S2) (K2b f' q Q) E
  | some (.leaf (.bl false)) => Q (.leaf (.bl false)) S2
  | _ => False
def KSl1 (ml mh : MO) (Q : QO) (E : QX) : QO := fun t S => Wp (ml S) (fun lo S2 => Wp (mh S2) (fun hi S3 => Op (pSl (fz t) lo hi) S3 Q) E) E
def KSl2 (p : PV) (mh : MO) (Q : QO) (E : QX) : Option Int → Sl → Prop := fun lo S => Wp (mh S) (fun hi S3 => Op (pSl p lo hi) S3 Q) E
def KSl3 (p : PV) (lo : Option Int) (Q : QO) : Option Int → Sl → Prop := fun hi S => Op (pSl p lo hi) S Q
def KoS (Q : Option Int → Sl → Prop) : QO := fun t S => match t with
  | .leaf (.int i) => Q (some i) S
  | _ => False
def KRg (f : List PV → OT) (Q : QO) : QO := fun t S => match t with
  | .leaf (.int n) => (0 ≤ n ∧ n ≤ 100000) ∧ Q (f (rng 0 n.toNat)) S
  | _ => False
def KIdx (m2 : ME) (Q : QO) (E : QX) : QO := fun t S => (datL (fz t)).isSome = true ∧ Wp (m2 S) (K2b fIdx (fz t) Q) E
def fLZ : List PV → Option OT
  | [p, q] => if tpOf p = tpOf q then (seqOf p).bind fun xs => (seqOf q).map fun ys => .node ((zp xs ys).map .leaf) else none
  | _ => none
/-! comprehensions -/
@[irreducible] def WpL (o : Out (List OT)) (Q : List OT → Sl → Prop) : Prop := match o with
  | .ok ts S => Q ts S
  | _ => False
def KLc (mg : MG) (mt : MT) (me : ME) (vs : List Nat) (Q : QO) : List PV → Sl → Prop := fun xs S => WpL (lcM mg mt me vs xs [] (wipeS S vs)) (fun ts S2 => Q (.node ts) (wipeS S2 vs))
def KLcE (vs : List Nat) (P : List OT → Sl → Prop) (acc : List OT) : QO := fun t S => P (acc ++ [t]) (wipeS S vs)
def KLcT (me : ME) (vs : List Nat) (P : List OT → Sl → Prop) (acc : List OT) : QB := fun b S => if b = true then Wp (me S) (KLcE vs P acc) noE else P acc (wipeS S vs)
def KLcG (mt : MT) (me : ME) (vs : List Nat) (P : List OT → Sl → Prop) (acc : List OT) : Sl → Prop := fun S => Wp (mt S) (KLcT me vs P acc) noE
/-! calls -/
def KRf (o : Option (Option OT)) (P : Prop) : Prop := match o with
  | some (some _) => P
  | _ => False
def KCk (n kn : Nat) (run : List OT → FR) (pm : List Nat) (Q : QO) (E : QX) : List OT → Sl → Prop := fun ts S => ts.length = kn ∧ Wp (callM n [] run ((pick pm (ts.map fz)).map fun p => .vl (.leaf p)) S) Q E
def KCv (n : Nat) (sl : Str → Option (List OT → FR)) (mr : MR) (S : Sl) (Q : QO) (E : QX) : Option (Option OT) → Prop
  | some (some (.leaf (.glo f))) => (match sl f with
    | some run => Wp (mr S) (KCa n [] run Q E) E
    | none => False)
  | _ => False
def KCv2 (n : Nat) (mr : MR) (S : Sl) (Q : QO) (E : QX) : Option (List OT → FR) → Prop
  | some run => Wp (mr S) (KCa n [] run Q E) E
  | none => False
def KMk (c : Str) (n : Nat) (run : List OT → FR) (Q : QO) (E : QX) : List Ar → Sl → Prop := fun as S => Wp (makeM c n run as S) Q E
def KMo (bo : Bool) (S1 : Sl) (Q : QO) : OT → List OT → Prop := fun r os => match r, os with
  | .leaf .non, [o] => (bo = true → noT (okS S1) o = true) ∧ Q o S1
  | _, _ => False
def KMx (bo : Bool) (S1 : Sl) (E : QX) : Exn → List OT → Prop := fun x os => match os with
  | [o] => (bo = true → noPs (okS S1) x.xs = true ∧ noT (okS S1) o = true) ∧ E x S1
  | _ => False
def KMrun (c : Str) (bo : Bool) (run : List OT → FR) (Q : QO) (E : QX) : List OT → Sl → Prop := fun ts S1 => WpR (run (.ins c [] [] :: ts)) (KMo bo S1 Q) (KMx bo S1 E)
def KMkk (c : Str) (n kn : Nat) (run : List OT → FR) (pm : List Nat) (Q : QO) (E : QX) : List OT → Sl → Prop := fun ts S => ts.length = kn ∧ Wp (makeM c n run ((pick pm (ts.map fz)).map fun p => .vl (.leaf p)) S) Q E
def KFld (i : Nat) (cs : List Str) (f : Str) (t : OT) (S : Sl) (Q : QS) : Option (Option OT) → Prop
  | some (some (.ins c ns ts)) => (cs.contains c = true ∧ ns.contains f = false ∧ ns.length < 1000) ∧ Q .nx (S.set i (some (.ins c (ns ++ [f]) (ts ++ [t]))))
  | _ => False
def KFld1 (i : Nat) (cs : List Str) (f : Str) (Q : QS) : QO := fun t S => KFld i cs f t S Q S[i]?
@[irreducible] def Oh (o : Option PV) (S : Sl) (Q : QO) : Prop := match o with
  | some p => noP false p = true ∧ Q (.leaf p) S
  | none => False
def KHo (S : Sl) (Q : QO) : QO := fun _ _ => Q (.leaf .non) S
def KHx (hd : Exn → Option PV) (S : Sl) (Q : QO) : QX := fun x _ => Oh (hd x) S Q
def initS : Nat → List OT → Sl
  | 0, ts => ts.map some
  | n + 1, [] => none :: initS n []
  | n + 1, t :: ts => some t :: initS n ts
theorem initS_eq : ∀ (N : Nat) (ts : List OT), ts.map some ++ List.replicate (N - ts.length) none = initS N ts
  | 0, ts => by simp [initS]
  | n + 1, [] => by
    have h := initS_eq n []
    simp only [List.map_nil, List.nil_append, List.length_nil, Nat.sub_zero] at h ⊢
    rw [List.replicate_succ, h]
    with_unfolding_all rfl
  | n + 1, t :: ts => by
    have h := initS_eq n ts
    simp only [List.map_cons, List.cons_append, List.length_cons, Nat.add_sub_add_right] at h ⊢
    rw [h]
    with_unfolding_all rfl
section
variable {α β : Type} {S : Sl} {Q : QO} {QQ : QS} {Qb : QB} {E : QX} {m m1 m2 m3 : ME} {ma : MA} {t mt : MT} {a b : MS}
theorem kNd {ts : List OT} {P : Prop} : KNd (some (some (.node ts))) P = P := nr (by with_unfolding_all rfl)
theorem wp_sApp {i : Nat} : Wp (sApp i m S) QQ E = KNd S[i]? (Wp (m S) (KApp1 i QQ) E) := by
  unfold sApp KNd
  generalize S[i]? = o
  rcases o with _ | _ | u
  · with_unfolding_all rfl
  · with_unfolding_all rfl
  · cases u with
    | leaf p => with_unfolding_all rfl
    | ins c ns ts => with_unfolding_all rfl
    | node ts =>
      with_unfolding_all show Wp (Out.bind (m S) _) QQ E = Wp (m S) (KApp1 i QQ) E
      rw [wp_bind]
      congr 1
      funext t S1
      unfold KApp1
      generalize S1[i]? = o
      rcases o with _ | _ | u
      · with_unfolding_all rfl
      · with_unfolding_all rfl
      · cases u with
        | leaf p => with_unfolding_all rfl
        | ins c ns ts => with_unfolding_all rfl
        | node ts =>
          with_unfolding_all show Wp (if ts.length < sizeLine then _ else _) QQ E = (ts.length < sizeLine ∧ _)
          by_cases h : ts.length < sizeLine <;> simp [h, Wp]
theorem kApp1 {i : Nat} {t : OT} : KApp1 i QQ t S = KApp i t S QQ S[i]? := nr (by with_unfolding_all rfl)
theorem kApp {i : Nat} {t : OT} {ts : List OT} : KApp i t S QQ (some (some (.node ts))) = (ts.length < sizeLine ∧ QQ .nx (S.set i (some (.node (ts ++ [t]))))) := nr (by with_unfolding_all rfl)
theorem setF_noE {i : Nat} {t u : OT} : Wp (setF i t u S) QQ E = Wp (setF i t u S) QQ noE := by
  unfold setF
  cases u with
  | node ts => with_unfolding_all rfl
  | ins c ns ts => with_unfolding_all rfl
  | leaf p =>
    cases p with
    | int k =>
      dsimp only
      generalize S[i]? = o
      rcases o with _ | _ | u
      · with_unfolding_all rfl
      · with_unfolding_all rfl
      · cases u with
        | leaf p => with_unfolding_all rfl
        | ins c ns ts => with_unfolding_all rfl
        | node ts =>
          dsimp only
          cases ixN ts.length k <;> with_unfolding_all rfl
    | _ => with_unfolding_all rfl
theorem wp_sSet {i : Nat} : Wp (sSet i m m1 S) QQ E = Wp (m S) (KSet1 i m1 QQ E) E := by
  unfold sSet KSet1
  rw [wp_bind]
  congr 1
  funext t S1
  generalize S1[i]? = o
  rcases o with _ | _ | u
  · with_unfolding_all rfl
  · with_unfolding_all rfl
  · cases u with
    | leaf p => with_unfolding_all rfl
    | ins c ns ts => with_unfolding_all rfl
    | node ts =>
      with_unfolding_all show Wp (Out.bind (m1 S1) _) QQ E = _
      rw [wp_bind]
      with_unfolding_all rfl
theorem kSet1 {i : Nat} {t : OT} : KSet1 i m1 QQ E t S = KNd S[i]? (Wp (m1 S) (KSet2 i t QQ) E) := by
  unfold KSet1 KSet2
  congr 2
  funext u S2
  with_unfolding_all exact setF_noE
theorem kSet2 {i : Nat} {t : OT} {k : Int} : KSet2 i t QQ (.leaf (.int k)) S = KSet3 i t k S QQ S[i]? := by
  unfold KSet2 setF
  dsimp only
  generalize S[i]? = o
  rcases o with _ | _ | u
  · with_unfolding_all rfl
  · with_unfolding_all rfl
  · cases u with
    | leaf p => with_unfolding_all rfl
    | ins c ns ts => with_unfolding_all rfl
    | node ts =>
      with_unfolding_all show Wp (match ixN ts.length k with | some j => _ | none => _) QQ noE = (match ixN ts.length k with | some j => _ | none => _)
      cases ixN ts.length k <;> with_unfolding_all rfl
theorem kSet3 {i j : Nat} {t : OT} {k : Int} {ts : List OT} (h : ixN ts.length k = some j) : KSet3 i t k S QQ (some (some (.node ts))) = QQ .nx (S.set i (some (.node (ts.set j t)))) := by
  with_unfolding_all show (match ixN ts.length k with | some j => _ | none => False) = _
  rw [h]
theorem wp_sPar {is : List Nat} : Wp (sPar is ma S) QQ E = Wp (ma S) (KPar is QQ) E := by
  unfold sPar KPar
  rw [wp_bind]
  congr 1
  funext ts S1
  by_cases h : ts.length = is.length ∧ is.all (fun i => decide (i < S1.length)) = true
  · rw [if_pos h]
    simp [h, Wp]
  · rw [if_neg h]
    simp only [h, false_and]
    with_unfolding_all rfl
theorem kPar2 {i j : Nat} {t u : OT} : KPar [i, j] QQ [t, u] S = Og (S[i]?.bind fun _ => S[j]?.map fun _ => (S.set i (some t)).set j (some u)) (QQ .nx) := by
  unfold KPar
  by_cases h1 : i < S.length <;> by_cases h2 : j < S.length
  · rw [List.getElem?_eq_getElem h1, List.getElem?_eq_getElem h2]
    simp [h1, h2, Og]
  · rw [List.getElem?_eq_getElem h1, List.getElem?_eq_none (Nat.le_of_not_lt h2)]
    simp [h1, h2, Og]
  · rw [List.getElem?_eq_none (Nat.le_of_not_lt h1)]
    simp [h1, Og]
  · rw [List.getElem?_eq_none (Nat.le_of_not_lt h1)]
    simp [h1, Og]
theorem kPar3 {i j k : Nat} {t u v : OT} : KPar [i, j, k] QQ [t, u, v] S = Og (S[i]?.bind fun _ => S[j]?.bind fun _ => S[k]?.map fun _ => ((S.set i (some t)).set j (some u)).set k (some v)) (QQ .nx) := by
  unfold KPar
  by_cases h1 : i < S.length
  · rw [List.getElem?_eq_getElem h1]
    by_cases h2 : j < S.length
    · rw [List.getElem?_eq_getElem h2]
      by_cases h3 : k < S.length
      · rw [List.getElem?_eq_getElem h3]
        simp [h1, h2, h3, Og]
      · rw [List.getElem?_eq_none (Nat.le_of_not_lt h3)]
        simp [h1, h2, h3, Og]
    · rw [List.getElem?_eq_none (Nat.le_of_not_lt h2)]
      simp [h1, h2, Og]
  · rw [List.getElem?_eq_none (Nat.le_of_not_lt h1)]
    simp [h1, Og]
theorem wp_sMv {i j k : Nat} : Wp (sMv i j k S) QQ E = KSMv i j k S QQ S[j]? := by
  unfold sMv
  generalize S[j]? = o
  rcases o with _ | _ | u
  · with_unfolding_all rfl
  · with_unfolding_all rfl
  · cases u with
    | leaf p => with_unfolding_all rfl
    | ins c ns ts => with_unfolding_all rfl
    | node ts =>
      with_unfolding_all show Wp (match ts[k]? with | some t => _ | none => _) QQ E = (match ts[k]? with | some t => _ | none => _)
      cases ts[k]? with
      | none => with_unfolding_all rfl
      | some t =>
        dsimp only
        by_cases h : i < S.length <;> simp [h, Wp]
theorem kSMv {i j k : Nat} {ts : List OT} {t : OT} (h : ts[k]? = some t) : KSMv i j k S QQ (some (some (.node ts))) = Og (S[i]?.map fun _ => (S.set j none).set i (some t)) (QQ .nx) := by
  with_unfolding_all show (match ts[k]? with | some t => i < S.length ∧ QQ .nx ((S.set j none).set i (some t)) | none => False) = _
  rw [h]
  dsimp only
  by_cases hi : i < S.length
  · rw [List.getElem?_eq_getElem hi]
    simp [hi, Og]
  · rw [List.getElem?_eq_none (Nat.le_of_not_lt hi)]
    simp [hi, Og]
theorem wp_eCh {f f' : PV → PV → Option OT} : Wp (eCh f f' m1 m2 m3 S) Q E = Wp (m1 S) (KCh1 f f' m2 m3 Q E) E := by
  unfold eCh KCh1
  rw [wp_bind]
  congr 1
  funext t S1
  rw [wp_bind]
  congr 1
  funext u S2
  generalize f (fz t) (fz u) = o
  rcases o with _ | u
  · with_unfolding_all rfl
  · cases u with
    | node ts => with_unfolding_all rfl
    | ins c ns ts => with_unfolding_all rfl
    | leaf p =>
      cases p with
      | bl b =>
        cases b with
        | false => with_unfolding_all rfl
        | true =>
          with_unfolding_all show Wp (Out.bind (m3 S2) _) Q E = _
          rw [wp_bind]
          simp only [wp_lift]
          with_unfolding_all rfl
      | _ => with_unfolding_all rfl
theorem kCh1 {f f' : PV → PV → Option OT} {t : OT} : KCh1 f f' m2 m3 Q E t S = Wp (m2 S) (KCh2 f f' (fz t) m3 Q E) E := nr (by with_unfolding_all rfl)
theorem kCh2 {f f' : PV → PV → Option OT} {p : PV} {t : OT} : KCh2 f f' p m3 Q E t S = KCh3 f' (fz t) m3 Q E S (f p (fz t)) := by
  unfold KCh2 KCh3
  with_unfolding_all rfl
theorem kCh3 {f' : PV → PV → Option OT} {q : PV} {c : Bool} : KCh3 f' q m3 Q E S (some (.leaf (.bl c))) = ((c = true → Wp (m3 S) (K2b f' q Q) E) ∧ (c = false → Q (.leaf (.bl false)) S)) := by
  cases c <;> simp [KCh3]
theorem wp_eSl {ml mh : MO} : Wp (eSl m ml mh S) Q E = Wp (m S) (KSl1 ml mh Q E) E := by
  unfold eSl KSl1
  simp only [wp_bind, wp_lift]
theorem kSl1 {ml mh : MO} {t : OT} : KSl1 ml mh Q E t S = Wp (ml S) (KSl2 (fz t) mh Q E) E := nr (by with_unfolding_all rfl)
theorem kSl2 {mh : MO} {p : PV} {lo : Option Int} : KSl2 p mh Q E lo S = Wp (mh S) (KSl3 p lo Q) E := nr (by with_unfolding_all rfl)
theorem kSl3 {p : PV} {lo hi : Option Int} : KSl3 p lo Q hi S = Op (pSl p lo hi) S Q := nr (by with_unfolding_all rfl)
theorem wp_oN {Q : Option Int → Sl → Prop} : Wp (oN S) Q E = Q none S := nr (by with_unfolding_all rfl)
theorem wp_oS {Q : Option Int → Sl → Prop} : Wp (oS m S) Q E = Wp (m S) (KoS Q) E := by
  unfold oS
  rw [wp_bind]
  congr 1
  funext t S
  cases t with
  | leaf p => cases p <;> with_unfolding_all rfl
  | node ts => with_unfolding_all rfl
  | ins c ns ts => with_unfolding_all rfl
theorem koS {Q : Option Int → Sl → Prop} {i : Int} : KoS Q (.leaf (.int i)) S = Q (some i) S := nr (by with_unfolding_all rfl)
theorem wp_eRgW {f : List PV → OT} : Wp (eRgW f m S) Q E = Wp (m S) (KRg f Q) E := by
  unfold eRgW
  rw [wp_bind]
  congr 1
  funext t S
  cases t with
  | leaf p =>
    cases p with
    | int n =>
      with_unfolding_all show Wp (if 0 ≤ n ∧ n ≤ 100000 then _ else _) Q E = ((0 ≤ n ∧ n ≤ 100000) ∧ _)
      by_cases h : 0 ≤ n ∧ n ≤ 100000
      · rw [if_pos h]
        simp [h, Wp]
      · rw [if_neg h]
        simp only [h, false_and]
        with_unfolding_all rfl
    | _ => with_unfolding_all rfl
  | node ts => with_unfolding_all rfl
  | ins c ns ts => with_unfolding_all rfl
theorem wp_eTupR : Wp (eTupR m S) Q E = Wp (m S) (KRg (fun xs => .leaf (.tup xs)) Q) E := wp_eRgW
theorem wp_eLstR : Wp (eLstR m S) Q E = Wp (m S) (KRg (fun xs => .node (xs.map .leaf)) Q) E := wp_eRgW
theorem kRg {f : List PV → OT} {n : Int} : KRg f Q (.leaf (.int n)) S = ((0 ≤ n ∧ n ≤ 100000) ∧ Q (f (rng 0 n.toNat)) S) := nr (by with_unfolding_all rfl)
theorem wp_eIdx : Wp (eIdx m1 m2 S) Q E = Wp (m1 S) (KIdx m2 Q E) E := by
  unfold eIdx KIdx
  rw [wp_bind]
  congr 1
  funext t S
  cases h : datL (fz t) with
  | none => simp [Wp]
  | some ds =>
    with_unfolding_all show Wp (Out.bind _ _) Q E = _
    rw [wp_bind]
    simp only [wp_lift, Option.isSome_some, true_and]
    with_unfolding_all rfl
theorem kIdx {t : OT} : KIdx m2 Q E t S = ((datL (fz t)).isSome = true ∧ Wp (m2 S) (K2b fIdx (fz t) Q) E) := nr (by with_unfolding_all rfl)
theorem wp_eLZ : Wp (eLZ ma S) Q E = Wp (ma S) (KN fLZ Q) E := by
  unfold eLZ KN
  rw [wp_bind]
  congr 1
  funext ts S
  match ts with
  | [] => with_unfolding_all rfl
  | [_] => with_unfolding_all rfl
  | [t, u] =>
    with_unfolding_all show Wp (match seqOf (fz t), seqOf (fz u) with | some xs, some ys => _ | _, _ => _) Q E = Op (fLZ [fz t, fz u]) S Q
    generalize fz t = p
    generalize fz u = q
    with_unfolding_all show Wp (match seqOf p, seqOf q with | some xs, some ys => if tpOf p = tpOf q then .ok (.node ((zp xs ys).map .leaf)) S else .stuck | _, _ => .stuck) Q E = Op (if tpOf p = tpOf q then (seqOf p).bind fun xs => (seqOf q).map fun ys => .node ((zp xs ys).map .leaf) else none) S Q
    by_cases h : tpOf p = tpOf q <;> cases e1 : seqOf p <;> cases e2 : seqOf q <;> simp [h, Wp, Op]
  | _ :: _ :: _ :: _ => with_unfolding_all rfl
/-! comprehensions -/
theorem wp_eLc {mi : MI} {mg : MG} {me : ME} {vs : List Nat} : Wp (eLc mi mg mt me vs S) Q E = Wp (mi S) (KLc mg mt me vs Q) E := by
  unfold eLc KLc
  rw [wp_bind]
  congr 1
  funext xs S
  cases lcM mg mt me vs xs [] (wipeS S vs) <;> with_unfolding_all rfl
theorem kLc {mg : MG} {me : ME} {vs : List Nat} {xs : List PV} : KLc mg mt me vs Q xs S = WpL (lcM mg mt me vs xs [] (wipeS S vs)) (fun ts S2 => Q (.node ts) (wipeS S2 vs)) := nr (by with_unfolding_all rfl)
theorem kLcG {me : ME} {vs : List Nat} {P : List OT → Sl → Prop} {acc : List OT} : KLcG mt me vs P acc S = Wp (mt S) (KLcT me vs P acc) noE := nr (by with_unfolding_all rfl)
theorem kLcT {me : ME} {vs : List Nat} {P : List OT → Sl → Prop} {acc : List OT} {c : Bool} : KLcT me vs P acc c S = ((c = true → Wp (me S) (KLcE vs P acc) noE) ∧ (c = false → P acc (wipeS S vs))) := by cases c <;> simp [KLcT]
theorem kLcT_t {me : ME} {vs : List Nat} {P : List OT → Sl → Prop} {acc : List OT} : KLcT me vs P acc true S = Wp (me S) (KLcE vs P acc) noE := nr (by with_unfolding_all rfl)
theorem kLcE {vs : List Nat} {P : List OT → Sl → Prop} {acc : List OT} {t : OT} : KLcE vs P acc t S = P (acc ++ [t]) (wipeS S vs) := nr (by with_unfolding_all rfl)
theorem wp_mYes : Wp (mYes S) Qb E = Qb true S := nr (by with_unfolding_all rfl)
theorem wipe_nil : wipeS S [] = S := nr (by with_unfolding_all rfl)
theorem wipe_cons {i : Nat} {r : List Nat} : wipeS S (i :: r) = (wipeS S r).set i none := nr (by with_unfolding_all rfl)
/-- the rule of a comprehension -/
theorem lc_rule {mg : MG} {me : ME} {vs : List Nat} (I : Nat → List OT → Sl → Prop) {Q : List OT → Sl → Prop} {xs : List PV} (hl : xs.length ≤ sizeLine) (h0 : I 0 [] S)
    (step : ∀ (i : Nat) (x : PV) (acc : List OT) (S : Sl), xs[i]? = some x → I i acc S → Og (mg x S) (KLcG mt me vs (I (i + 1)) acc)) (hend : ∀ ts S, I xs.length ts S → Q ts S) : WpL (lcM mg mt me vs xs [] S) Q := by
  have key : ∀ (r : List PV) (i : Nat) (acc : List OT) (S : Sl), xs.drop i = r → acc.length ≤ i → i ≤ xs.length → I i acc S → WpL (lcM mg mt me vs r acc S) Q := by
    intro r
    induction r with
    | nil =>
      intro i acc S hd ha hi h
      have : i = xs.length := by
        have := List.drop_eq_nil_iff.mp hd
        omega
      subst this
      with_unfolding_all exact hend acc S h
    | cons x r ih =>
      intro i acc S hd ha hi h
      have hlt : i < xs.length := by
        rcases Nat.lt_or_ge i xs.length with z | z
        · with_unfolding_all exact z
        · rw [List.drop_eq_nil_iff.mpr z] at hd
          cases hd
      have hx : xs[i]? = some x := by
        rw [List.drop_eq_getElem_cons hlt] at hd
        rw [List.getElem?_eq_getElem hlt]
        with_unfolding_all exact congrArg some (List.cons.inj hd).1
      have hr : xs.drop (i + 1) = r := by
        rw [List.drop_eq_getElem_cons hlt] at hd
        with_unfolding_all exact (List.cons.inj hd).2
      have st := step i x acc S hx h
      unfold lcM
      cases e1 : mg x S with
      | none => rw [e1] at st; with_unfolding_all exact False.elim st
      | some S1 =>
        rw [e1] at st
        have st : Wp (mt S1) (KLcT me vs (I (i + 1)) acc) noE := by with_unfolding_all exact st
        dsimp only
        cases e2 : mt S1 with
        | stuck => rw [e2] at st; with_unfolding_all exact False.elim st
        | err y S2 => rw [e2] at st; with_unfolding_all exact False.elim st
        | ok b S2 =>
          rw [e2] at st
          have st : KLcT me vs (I (i + 1)) acc b S2 := by with_unfolding_all exact st
          cases b with
          | false => with_unfolding_all exact ih (i + 1) acc _ hr (by omega) (by omega) st
          | true =>
            have st : Wp (me S2) (KLcE vs (I (i + 1)) acc) noE := by with_unfolding_all exact st
            dsimp only
            cases e3 : me S2 with
            | stuck => rw [e3] at st; with_unfolding_all exact False.elim st
            | err y S3 => rw [e3] at st; with_unfolding_all exact False.elim st
            | ok t S3 =>
              rw [e3] at st
              dsimp only
              rw [if_pos (by omega)]
              with_unfolding_all exact ih (i + 1) (acc ++ [t]) _ hr (by simp; omega) (by omega) st
  with_unfolding_all exact key xs 0 [] S rfl (Nat.le_refl _) (Nat.zero_le _) h0
/-- a comprehension that only maps -/
theorem lc_map {mg : MG} {me : ME} {vs : List Nat} {Q : List OT → Sl → Prop} {xs : List PV} (f : PV → OT) (hl : xs.length ≤ sizeLine)
    (step : ∀ (i : Nat) (x : PV) (acc : List OT) (P : List OT → Sl → Prop), xs[i]? = some x → P (acc ++ [f x]) S → Og (mg x S) (KLcG mt me vs P acc)) (hend : Q (xs.map f) S) : WpL (lcM mg mt me vs xs [] S) Q :=
  lc_rule (fun i acc S' => S' = S ∧ acc = (xs.take i).map f) hl ⟨rfl, rfl⟩ (fun i x acc S' hx ⟨e1, e2⟩ => by
    subst e1
    refine step i x acc _ hx ⟨rfl, ?_⟩
    rw [e2, List.take_succ, hx]
    simp) (fun ts S' ⟨e1, e2⟩ => by
    subst e1
    rw [e2, List.take_length]
    with_unfolding_all exact hend)
/-- a comprehension that picks -/
theorem lc_filter {mg : MG} {me : ME} {vs : List Nat} {Q : List OT → Sl → Prop} {xs : List PV} (c : PV → Bool) (f : PV → OT) (hl : xs.length ≤ sizeLine)
    (step : ∀ (i : Nat) (x : PV) (acc : List OT) (P : List OT → Sl → Prop), xs[i]? = some x → P (if c x = true then acc ++ [f x] else acc) S → Og (mg x S) (KLcG mt me vs P acc)) (hend : Q ((xs.filter c).map f) S) : WpL (lcM mg mt me vs xs [] S) Q :=
  lc_rule (fun i acc S' => S' = S ∧ acc = ((xs.take i).filter c).map f) hl ⟨rfl, rfl⟩ (fun i x acc S' hx ⟨e1, e2⟩ => by
    subst e1
    refine step i x acc _ hx ⟨rfl, ?_⟩
    rw [e2, List.take_succ, hx]
    by_cases h : c x = true <;> simp [h]) (fun ts S' ⟨e1, e2⟩ => by
    subst e1
    rw [e2, List.take_length]
    with_unfolding_all exact hend)
/-! for -/
theorem for_rule {mg : MG} {mb : MS} (I : Nat → Sl → Prop) {xs : List PV} (h0 : I 0 S) (step : ∀ i x S, xs[i]? = some x → I i S → Og (mg x S) (KB mb (I (i + 1)) QQ E)) (hend : ∀ S, I xs.length S → QQ .nx S) : Wp (forM mg mb xs S) QQ E := by
  have key : ∀ (r : List PV) (i : Nat) (S : Sl), xs.drop i = r → i ≤ xs.length → I i S → Wp (forM mg mb r S) QQ E := by
    intro r
    induction r with
    | nil =>
      intro i S hd hi h
      have : i = xs.length := by
        have := List.drop_eq_nil_iff.mp hd
        omega
      subst this
      with_unfolding_all exact hend S h
    | cons x r ih =>
      intro i S hd hi h
      have hlt : i < xs.length := by
        rcases Nat.lt_or_ge i xs.length with z | z
        · with_unfolding_all exact z
        · rw [List.drop_eq_nil_iff.mpr z] at hd
          cases hd
      have hx : xs[i]? = some x := by
        rw [List.drop_eq_getElem_cons hlt] at hd
        rw [List.getElem?_eq_getElem hlt]
        with_unfolding_all exact congrArg some (List.cons.inj hd).1
      have hr : xs.drop (i + 1) = r := by
        rw [List.drop_eq_getElem_cons hlt] at hd
        with_unfolding_all exact (List.cons.inj hd).2
      have st := step i x S hx h
      unfold forM
      cases e1 : mg x S with
      | none => rw [e1] at st; with_unfolding_all exact False.elim st
      | some S1 =>
        rw [e1] at st
        have st : Wp (mb S1) (KLp (I (i + 1)) QQ) E := by with_unfolding_all exact st
        dsimp only
        rw [wp_bind]
        refine st.mono (fun f S2 q => ?_) (fun _ _ q => q)
        cases f with
        | nx => with_unfolding_all exact ih (i + 1) S2 hr (by omega) q
        | ct => with_unfolding_all exact ih (i + 1) S2 hr (by omega) q
        | bk => with_unfolding_all exact q
        | rt t => with_unfolding_all exact q
  with_unfolding_all exact key xs 0 S rfl (Nat.zero_le _) h0
theorem rng_at {lo : Int} {n i : Nat} {x : PV} (h : (rng lo n)[i]? = some x) : i < n ∧ x = .int (lo + (i : Int)) := by
  unfold rng at h
  rw [List.getElem?_map] at h
  have hi : i < n := by
    rcases Nat.lt_or_ge i n with z | z
    · with_unfolding_all exact z
    · rw [List.getElem?_eq_none (by simpa using z)] at h
      cases h
  rw [List.getElem?_range hi] at h
  with_unfolding_all exact ⟨hi, (Option.some.inj h).symm⟩
theorem for_rng {mg : MG} {mb : MS} (I : Nat → Sl → Prop) {n : Nat} (h0 : I 0 S) (step : ∀ i S, i < n → I i S → Og (mg (.int (i : Nat)) S) (KB mb (I (i + 1)) QQ E)) (hend : ∀ S, I n S → QQ .nx S) : Wp (forM mg mb (rng 0 n) S) QQ E :=
  for_rule I h0 (fun i x S hx h => by
    obtain ⟨hi, ex⟩ := rng_at hx
    subst ex
    rw [Int.zero_add]
    with_unfolding_all exact step i S hi h) (fun S h => hend S (by rw [rng_len] at h; exact h))
theorem lc_rng {mg : MG} {me : ME} {vs : List Nat} (I : Nat → List OT → Sl → Prop) {Q : List OT → Sl → Prop} {n : Nat} (hl : n ≤ sizeLine) (h0 : I 0 [] S)
    (step : ∀ i acc S, i < n → I i acc S → Og (mg (.int (i : Nat)) S) (KLcG mt me vs (I (i + 1)) acc)) (hend : ∀ ts S, I n ts S → Q ts S) : WpL (lcM mg mt me vs (rng 0 n) [] S) Q :=
  lc_rule I (by rw [rng_len]; exact hl) h0 (fun i x acc S hx h => by
    obtain ⟨hi, ex⟩ := rng_at hx
    subst ex
    rw [Int.zero_add]
    with_unfolding_all exact step i acc S hi h) (fun ts S h => hend ts S (by rw [rng_len] at h; exact h))
theorem lc_rng_map {mg : MG} {me : ME} {vs : List Nat} {Q : List OT → Sl → Prop} {n : Nat} (f : Nat → OT) (hl : n ≤ sizeLine)
    (step : ∀ i acc (P : List OT → Sl → Prop), i < n → P (acc ++ [f i]) S → Og (mg (.int (i : Nat)) S) (KLcG mt me vs P acc)) (hend : Q ((List.range n).map f) S) : WpL (lcM mg mt me vs (rng 0 n) [] S) Q :=
  lc_rng (fun i acc S' => S' = S ∧ acc = (List.range i).map f) hl ⟨rfl, rfl⟩ (fun i acc S' hi ⟨e1, e2⟩ => by
    subst e1
    refine step i acc _ hi ⟨rfl, ?_⟩
    rw [e2, List.range_succ]
    simp) (fun ts S' ⟨e1, e2⟩ => by
    subst e1
    rw [e2]
    with_unfolding_all exact hend)
theorem lc_rng_filter {mg : MG} {me : ME} {vs : List Nat} {Q : List OT → Sl → Prop} {n : Nat} (c : Nat → Bool) (f : Nat → OT) (hl : n ≤ sizeLine)
    (step : ∀ i acc (P : List OT → Sl → Prop), i < n → P (if c i = true then acc ++ [f i] else acc) S → Og (mg (.int (i : Nat)) S) (KLcG mt me vs P acc)) (hend : Q (((List.range n).filter c).map f) S) : WpL (lcM mg mt me vs (rng 0 n) [] S) Q :=
  lc_rng (fun i acc S' => S' = S ∧ acc = ((List.range i).filter c).map f) hl ⟨rfl, rfl⟩ (fun i acc S' hi ⟨e1, e2⟩ => by
    subst e1
    refine step i acc _ hi ⟨rfl, ?_⟩
    rw [e2, List.range_succ, List.filter_append]
    by_cases h : c i = true <;> simp [h]) (fun ts S' ⟨e1, e2⟩ => by
    subst e1
    rw [e2]
    with_unfolding_all exact hend)
/-! while: an invariant and a measure -/
theorem while_rule {mb : MS} (I : Nat → Sl → Prop) {k : Nat} (h0 : ∃ j, j < k ∧ I j S)
    (step : ∀ j S, I j S → Wp (t S) (fun c S1 => (c = true → Wp (mb S1) (KLp (fun S2 => ∃ i, i < j ∧ I i S2) QQ) E) ∧ (c = false → QQ .nx S1)) E) : Wp (whM t mb k S) QQ E := by
  have key : ∀ (k j : Nat) (S : Sl), j < k → I j S → Wp (whM t mb k S) QQ E := by
    intro k
    induction k with
    | zero => intro j S h; omega
    | succ k ih =>
      intro j S hj h
      unfold whM
      rw [wp_bind]
      refine (step j S h).mono (fun c S1 q => ?_) (fun _ _ q => q)
      cases c with
      | false => with_unfolding_all exact q.2 rfl
      | true =>
        rw [if_pos rfl, wp_bind]
        refine (q.1 rfl).mono (fun f S2 q => ?_) (fun _ _ q => q)
        cases f with
        | nx =>
          obtain ⟨i, hi, q⟩ := q
          with_unfolding_all exact ih i S2 (by omega) q
        | ct =>
          obtain ⟨i, hi, q⟩ := q
          with_unfolding_all exact ih i S2 (by omega) q
        | bk => with_unfolding_all exact q
        | rt v => with_unfolding_all exact q
  obtain ⟨j, hj, h⟩ := h0
  with_unfolding_all exact key k j S hj h
/-! calls -/
theorem wp_eCall {n : Nat} {bi : List Nat} {run : List OT → FR} {mr : MR} : Wp (eCall n bi run mr S) Q E = Wp (mr S) (KCa n bi run Q E) E := by
  unfold eCall
  rw [wp_bind]
  with_unfolding_all rfl
theorem wp_rN {Q : List Ar → Sl → Prop} : Wp (rN S) Q E = Q [] S := nr (by with_unfolding_all rfl)
theorem wp_rV {mr : MR} {Q : List Ar → Sl → Prop} : Wp (rV m mr S) Q E = Wp (m S) (KAr mr Q E) E := by
  unfold rV KAr
  simp only [wp_bind, wp_ok]
theorem kAr {mr : MR} {Q : List Ar → Sl → Prop} {t : OT} : KAr mr Q E t S = Wp (mr S) (KAr2 (.vl t) Q) E := nr (by with_unfolding_all rfl)
theorem kAr2 {Q : List Ar → Sl → Prop} {x : Ar} {as : List Ar} : KAr2 x Q as S = Q (x :: as) S := nr (by with_unfolding_all rfl)
theorem kRf {t : OT} {P : Prop} : KRf (some (some t)) P = P := nr (by with_unfolding_all rfl)
theorem wp_rR {i : Nat} {mr : MR} {Q : List Ar → Sl → Prop} : Wp (rR i mr S) Q E = KRf S[i]? (Wp (mr S) (KAr2 (.rf i) Q) E) := by
  unfold rR KRf
  generalize S[i]? = o
  rcases o with _ | _ | u
  · with_unfolding_all rfl
  · with_unfolding_all rfl
  · with_unfolding_all show Wp (Out.bind _ _) Q E = _
    rw [wp_bind]
    with_unfolding_all rfl
theorem wp_rB {i : Nat} {mr : MR} {Q : List Ar → Sl → Prop} : Wp (rB i mr S) Q E = KRf S[i]? (Wp (mr S) (KAr2 (.bo i) Q) E) := by
  unfold rB KRf
  generalize S[i]? = o
  rcases o with _ | _ | u
  · with_unfolding_all rfl
  · with_unfolding_all rfl
  · with_unfolding_all show Wp (Out.bind _ _) Q E = _
    rw [wp_bind]
    with_unfolding_all rfl
theorem wpBk {c : Bool} {is : List Nat} {S1 : Sl} {run : List OT → FR} {ts : List OT} :
    Wp (match run ts with
      | .ok r os => if (!c || (noT (okS S1) r && noTs (okS S1) os)) = true then (match backs is os S1 with
        | some S2 => .ok r S2
        | none => .stuck) else .stuck
      | .err x os => if (!c || (noPs (okS S1) x.xs && noTs (okS S1) os)) = true then (match backs is os S1 with
        | some S2 => .err x S2
        | none => .stuck) else .stuck
      | .stuck => .stuck : Out OT) Q E = WpR (run ts) (KBk c is S1 Q) (KBx c is S1 E) := by
  cases run ts with
  | stuck => with_unfolding_all rfl
  | ok r os =>
    with_unfolding_all show Wp (if _ then _ else _) Q E = ((c = true → _) ∧ Og (backs is os S1) (Q r))
    cases c with
    | false =>
      simp only [Bool.not_false, Bool.true_or, if_true, Bool.false_eq_true, false_implies, true_and]
      cases backs is os S1 <;> with_unfolding_all rfl
    | true =>
      by_cases h : noT (okS S1) r = true ∧ noTs (okS S1) os = true
      · simp only [h.1, h.2, Bool.not_true, Bool.and_self, Bool.or_true, if_true, and_self, implies_true, true_and]
        cases backs is os S1 <;> with_unfolding_all rfl
      · have : (!true || (noT (okS S1) r && noTs (okS S1) os)) = false := by
          simp only [Bool.not_true, Bool.false_or]
          cases h1 : noT (okS S1) r <;> cases h2 : noTs (okS S1) os <;> simp_all
        simp only [this, Bool.false_eq_true, if_false, true_implies, h, false_and]
        with_unfolding_all rfl
  | err x os =>
    with_unfolding_all show Wp (if _ then _ else _) Q E = ((c = true → _) ∧ Og (backs is os S1) (E x))
    cases c with
    | false =>
      simp only [Bool.not_false, Bool.true_or, if_true, Bool.false_eq_true, false_implies, true_and]
      cases backs is os S1 <;> with_unfolding_all rfl
    | true =>
      by_cases h : noPs (okS S1) x.xs = true ∧ noTs (okS S1) os = true
      · simp only [h.1, h.2, Bool.not_true, Bool.and_self, Bool.or_true, if_true, and_self, implies_true, true_and]
        cases backs is os S1 <;> with_unfolding_all rfl
      · have : (!true || (noPs (okS S1) x.xs && noTs (okS S1) os)) = false := by
          simp only [Bool.not_true, Bool.false_or]
          cases h1 : noPs (okS S1) x.xs <;> cases h2 : noTs (okS S1) os <;> simp_all
        simp only [this, Bool.false_eq_true, if_false, true_implies, h, false_and]
        with_unfolding_all rfl
theorem wp_callM {n : Nat} {bi : List Nat} {run : List OT → FR} {as : List Ar} : Wp (callM n bi run as S) Q E = ((as.length = n ∧ refPos 0 as = bi) ∧ WpA (resolve as S) (KRun (hasBo as) (refIx as) run Q E)) := by
  unfold callM
  by_cases h : as.length = n ∧ refPos 0 as = bi
  · rw [if_pos h]
    simp only [h, and_self, true_and]
    cases resolve as S with
    | none => with_unfolding_all rfl
    | some p =>
      obtain ⟨ts, S1⟩ := p
      with_unfolding_all exact wpBk
  · rw [if_neg h]
    simp only [h, false_and]
    with_unfolding_all rfl
theorem kCa {n : Nat} {bi : List Nat} {run : List OT → FR} {as : List Ar} : KCa n bi run Q E as S = ((as.length = n ∧ refPos 0 as = bi) ∧ WpA (resolve as S) (KRun (hasBo as) (refIx as) run Q E)) := wp_callM
theorem wpA_some {ts : List OT} {P : List OT → Sl → Prop} : WpA (some (ts, S)) P = P ts S := nr (by with_unfolding_all rfl)
theorem kRun {bo : Bool} {is : List Nat} {run : List OT → FR} {ts : List OT} : KRun bo is run Q E ts S = WpR (run ts) (KBk bo is S Q) (KBx bo is S E) := nr (by with_unfolding_all rfl)
theorem kBk_f {is : List Nat} {r : OT} {os : List OT} : KBk false is S Q r os = Og (backs is os S) (Q r) := by simp [KBk]
theorem kBk_t {is : List Nat} {r : OT} {os : List OT} : KBk true is S Q r os = ((noT (okS S) r = true ∧ noTs (okS S) os = true) ∧ Og (backs is os S) (Q r)) := by simp [KBk]
theorem kBx_f {is : List Nat} {x : Exn} {os : List OT} : KBx false is S E x os = Og (backs is os S) (E x) := by simp [KBx]
theorem kBx_t {is : List Nat} {x : Exn} {os : List OT} : KBx true is S E x os = ((noPs (okS S) x.xs = true ∧ noTs (okS S) os = true) ∧ Og (backs is os S) (E x)) := by simp [KBx]
theorem backs_nil : backs [] [] S = some S := nr (by with_unfolding_all rfl)
theorem backs_cons {i : Nat} {is : List Nat} {t : OT} {ts : List OT} : backs (i :: is) (t :: ts) S = S[i]?.bind fun _ => backs is ts (S.set i (some t)) := by
  with_unfolding_all show (if i < S.length then _ else _) = _
  by_cases h : i < S.length
  · rw [if_pos h, List.getElem?_eq_getElem h]
    with_unfolding_all rfl
  · rw [if_neg h, List.getElem?_eq_none (Nat.le_of_not_lt h)]
    with_unfolding_all rfl
def resC (t : OT) : Option (List OT × Sl) → Option (List OT × Sl)
  | some (ts, S') => some (t :: ts, S')
  | none => none
def resF (r : List Ar) (i : Nat) (S : Sl) : Option (Option OT) → Option (List OT × Sl)
  | some (some t) => resC t (resolve r (S.set i none))
  | _ => none
def resB1 (ts : List OT) (S' : Sl) : Option (Option OT) → Option (List OT × Sl)
  | some (some t) => some (.leaf (fz t) :: ts, S')
  | _ => none
def resB (i : Nat) : Option (List OT × Sl) → Option (List OT × Sl)
  | some (ts, S') => resB1 ts S' S'[i]?
  | none => none
theorem res_nil : resolve [] S = some ([], S) := nr (by with_unfolding_all rfl)
theorem res_vl {t : OT} {r : List Ar} : resolve (.vl t :: r) S = resC (.leaf (fz t)) (resolve r S) := by
  rw [resolve]
  cases resolve r S <;> with_unfolding_all rfl
theorem res_rf {i : Nat} {r : List Ar} : resolve (.rf i :: r) S = resF r i S S[i]? := by
  rw [resolve]
  generalize S[i]? = o
  rcases o with _ | _ | u
  · with_unfolding_all rfl
  · with_unfolding_all rfl
  · with_unfolding_all show _ = resC u (resolve r (S.set i none))
    dsimp only
    cases resolve r (S.set i none) <;> with_unfolding_all rfl
theorem res_bo {i : Nat} {r : List Ar} : resolve (.bo i :: r) S = resB i (resolve r S) := by
  rw [resolve]
  cases resolve r S with
  | none => with_unfolding_all rfl
  | some p =>
    obtain ⟨ts, S'⟩ := p
    with_unfolding_all show (match S'[i]? with | some (some t) => _ | _ => _) = resB1 ts S' S'[i]?
    generalize S'[i]? = o
    rcases o with _ | _ | u <;> with_unfolding_all rfl
theorem resC_some {t : OT} {ts : List OT} : resC t (some (ts, S)) = some (t :: ts, S) := nr (by with_unfolding_all rfl)
theorem resF_some {r : List Ar} {i : Nat} {t : OT} : resF r i S (some (some t)) = resC t (resolve r (S.set i none)) := nr (by with_unfolding_all rfl)
theorem resB_some {i : Nat} {ts : List OT} : resB i (some (ts, S)) = resB1 ts S S[i]? := nr (by with_unfolding_all rfl)
theorem resB1_some {t : OT} {ts : List OT} : resB1 ts S (some (some t)) = some (.leaf (fz t) :: ts, S) := nr (by with_unfolding_all rfl)
theorem wp_eCallK {n kn : Nat} {run : List OT → FR} {pm : List Nat} : Wp (eCallK n kn run pm ma S) Q E = Wp (ma S) (KCk n kn run pm Q E) E := by
  unfold eCallK KCk
  rw [wp_bind]
  congr 1
  funext ts S
  by_cases h : ts.length = kn
  · rw [if_pos h]
    simp [h]
  · rw [if_neg h]
    simp only [h, false_and]
    with_unfolding_all rfl
theorem kCk {n kn : Nat} {run : List OT → FR} {pm : List Nat} {ts : List OT} : KCk n kn run pm Q E ts S = (ts.length = kn ∧ KCa n [] run Q E ((pick pm (ts.map fz)).map fun p => .vl (.leaf p)) S) := nr (by with_unfolding_all rfl)
theorem pick_nil {xs : List α} : pick [] xs = [] := nr (by with_unfolding_all rfl)
theorem pick_cons {i : Nat} {r : List Nat} {xs : List α} {x : α} (h : xs[i]? = some x) : pick (i :: r) xs = x :: pick r xs := by
  unfold pick
  rw [List.filterMap_cons, h]
theorem wp_eCallV {i n : Nat} {sl : Str → Option (List OT → FR)} {mr : MR} : Wp (eCallV i n sl mr S) Q E = KCv n sl mr S Q E S[i]? := by
  unfold eCallV
  generalize S[i]? = o
  rcases o with _ | _ | u
  · with_unfolding_all rfl
  · with_unfolding_all rfl
  · cases u with
    | node ts => with_unfolding_all rfl
    | ins c ns ts => with_unfolding_all rfl
    | leaf p =>
      cases p with
      | glo f =>
        with_unfolding_all show Wp (match sl f with | some run => _ | none => _) Q E = (match sl f with | some run => _ | none => _)
        cases sl f with
        | none => with_unfolding_all rfl
        | some run =>
          with_unfolding_all show Wp (Out.bind _ _) Q E = _
          rw [wp_bind]
          with_unfolding_all rfl
      | _ => with_unfolding_all rfl
theorem kCv {n : Nat} {sl : Str → Option (List OT → FR)} {mr : MR} {f : Str} : KCv n sl mr S Q E (some (some (.leaf (.glo f)))) = KCv2 n mr S Q E (sl f) := by
  unfold KCv KCv2
  with_unfolding_all rfl
theorem kCv2 {n : Nat} {mr : MR} {run : List OT → FR} : KCv2 n mr S Q E (some run) = Wp (mr S) (KCa n [] run Q E) E := nr (by with_unfolding_all rfl)
theorem wp_eMake {c : Str} {n : Nat} {run : List OT → FR} {mr : MR} : Wp (eMake c n run mr S) Q E = Wp (mr S) (KMk c n run Q E) E := by
  unfold eMake
  rw [wp_bind]
  with_unfolding_all rfl
theorem wp_makeM {c : Str} {n : Nat} {run : List OT → FR} {as : List Ar} : Wp (makeM c n run as S) Q E = ((as.length + 1 = n ∧ refPos 0 as = []) ∧ WpA (resolve as S) (KMrun c (hasBo as) run Q E)) := by
  unfold makeM
  by_cases h : as.length + 1 = n ∧ refPos 0 as = []
  · rw [if_pos h]
    simp only [h, and_self, true_and]
    cases resolve as S with
    | none => with_unfolding_all rfl
    | some p =>
      obtain ⟨ts, S1⟩ := p
      with_unfolding_all show Wp (match run (.ins c [] [] :: ts) with | .ok (.leaf .non) [o] => _ | .err x [o] => _ | _ => _) Q E = WpR (run (.ins c [] [] :: ts)) (KMo (hasBo as) S1 Q) (KMx (hasBo as) S1 E)
      generalize hasBo as = bo
      cases run (.ins c [] [] :: ts) with
      | stuck => with_unfolding_all rfl
      | ok r os =>
        match r, os with
        | .leaf .non, [] => with_unfolding_all rfl
        | .leaf .non, [o] =>
          with_unfolding_all show Wp (if (!bo || noT (okS S1) o) = true then _ else _) Q E = ((bo = true → noT (okS S1) o = true) ∧ Q o S1)
          cases bo <;> cases h : noT (okS S1) o <;> simp [h, Wp]
        | .leaf .non, _ :: _ :: _ => with_unfolding_all rfl
        | .leaf (.bl _), _ => with_unfolding_all rfl
        | .leaf (.int _), _ => with_unfolding_all rfl
        | .leaf (.str _), _ => with_unfolding_all rfl
        | .leaf (.ty _), _ => with_unfolding_all rfl
        | .leaf (.glo _), _ => with_unfolding_all rfl
        | .leaf (.tup _), _ => with_unfolding_all rfl
        | .leaf (.lst _), _ => with_unfolding_all rfl
        | .leaf (.rls _), _ => with_unfolding_all rfl
        | .leaf (.obj _ _ _), _ => with_unfolding_all rfl
        | .node _, _ => with_unfolding_all rfl
        | .ins _ _ _, _ => with_unfolding_all rfl
      | err x os =>
        match os with
        | [] => with_unfolding_all rfl
        | [o] =>
          with_unfolding_all show Wp (if (!bo || (noPs (okS S1) x.xs && noT (okS S1) o)) = true then _ else _) Q E = ((bo = true → noPs (okS S1) x.xs = true ∧ noT (okS S1) o = true) ∧ E x S1)
          cases bo <;> cases h : noT (okS S1) o <;> cases h2 : noPs (okS S1) x.xs <;> simp [h, h2, Wp]
        | _ :: _ :: _ => with_unfolding_all rfl
  · rw [if_neg h]
    simp only [h, false_and]
    with_unfolding_all rfl
theorem kMk {c : Str} {n : Nat} {run : List OT → FR} {as : List Ar} : KMk c n run Q E as S = ((as.length + 1 = n ∧ refPos 0 as = []) ∧ WpA (resolve as S) (KMrun c (hasBo as) run Q E)) := wp_makeM
theorem kMrun {c : Str} {bo : Bool} {run : List OT → FR} {ts : List OT} : KMrun c bo run Q E ts S = WpR (run (.ins c [] [] :: ts)) (KMo bo S Q) (KMx bo S E) := nr (by with_unfolding_all rfl)
theorem kMo_f {o : OT} : KMo false S Q (.leaf .non) [o] = Q o S := by simp [KMo]
theorem kMo_t {o : OT} : KMo true S Q (.leaf .non) [o] = (noT (okS S) o = true ∧ Q o S) := by simp [KMo]
theorem kMx_f {o : OT} {x : Exn} : KMx false S E x [o] = E x S := by simp [KMx]
theorem kMx_t {o : OT} {x : Exn} : KMx true S E x [o] = ((noPs (okS S) x.xs = true ∧ noT (okS S) o = true) ∧ E x S) := by simp [KMx]
theorem wp_eMakeK {c : Str} {n kn : Nat} {run : List OT → FR} {pm : List Nat} : Wp (eMakeK c n kn run pm ma S) Q E = Wp (ma S) (KMkk c n kn run pm Q E) E := by
  unfold eMakeK KMkk
  rw [wp_bind]
  congr 1
  funext ts S
  by_cases h : ts.length = kn
  · rw [if_pos h]
    simp [h]
  · rw [if_neg h]
    simp only [h, false_and]
    with_unfolding_all rfl
theorem kMkk {c : Str} {n kn : Nat} {run : List OT → FR} {pm : List Nat} {ts : List OT} : KMkk c n kn run pm Q E ts S = (ts.length = kn ∧ KMk c n run Q E ((pick pm (ts.map fz)).map fun p => .vl (.leaf p)) S) := nr (by with_unfolding_all rfl)
theorem wp_sFldS {i : Nat} {cs : List Str} {f : Str} : Wp (sFldS i cs f m S) QQ E = Wp (m S) (KFld1 i cs f QQ) E := by
  unfold sFldS KFld1
  rw [wp_bind]
  congr 1
  funext t S
  generalize S[i]? = o
  rcases o with _ | _ | u
  · with_unfolding_all rfl
  · with_unfolding_all rfl
  · cases u with
    | leaf p => with_unfolding_all rfl
    | node ts => with_unfolding_all rfl
    | ins c ns ts =>
      with_unfolding_all show Wp (if cs.contains c = true ∧ ns.contains f = false ∧ ns.length < 1000 then _ else _) QQ E = ((cs.contains c = true ∧ ns.contains f = false ∧ ns.length < 1000) ∧ _)
      by_cases h : cs.contains c = true ∧ ns.contains f = false ∧ ns.length < 1000
      · rw [if_pos h]
        simp only [h, and_self, true_and]
        with_unfolding_all rfl
      · rw [if_neg h]
        simp only [h, false_and]
        with_unfolding_all rfl
theorem kFld1 {i : Nat} {cs : List Str} {f : Str} {t : OT} : KFld1 i cs f QQ t S = KFld i cs f t S QQ S[i]? := nr (by with_unfolding_all rfl)
theorem kFld {i : Nat} {cs : List Str} {f : Str} {t : OT} {c : Str} {ns : List Str} {ts : List OT} : KFld i cs f t S QQ (some (some (.ins c ns ts))) = ((cs.contains c = true ∧ ns.contains f = false ∧ ns.length < 1000) ∧ QQ .nx (S.set i (some (.ins c (ns ++ [f]) (ts ++ [t]))))) := nr (by with_unfolding_all rfl)
theorem wp_heard {hd : Exn → Option PV} : Wp (eHeard2 m hd S) Q E = Wp (m (frS S)) (KHo S Q) (KHx hd S Q) := by
  unfold eHeard2
  cases m (frS S) with
  | stuck => with_unfolding_all rfl
  | ok t S1 => with_unfolding_all rfl
  | err x S1 =>
    with_unfolding_all show Wp (match hd x with | some p => _ | none => _) Q E = Oh (hd x) S Q
    cases hd x with
    | none => with_unfolding_all rfl
    | some p =>
      with_unfolding_all show Wp (if noP false p = true then _ else _) Q E = (noP false p = true ∧ _)
      by_cases h : noP false p = true <;> simp [h, Wp]
theorem kHo {t : OT} {S1 : Sl} : KHo S Q t S1 = Q (.leaf .non) S := nr (by with_unfolding_all rfl)
theorem kHx {hd : Exn → Option PV} {x : Exn} {S1 : Sl} : KHx hd S Q x S1 = Oh (hd x) S Q := nr (by with_unfolding_all rfl)
theorem oh_some {p : PV} : Oh (some p) S Q = (noP false p = true ∧ Q (.leaf p) S) := nr (by with_unfolding_all rfl)
/-! a def -/
theorem wp_run {N : Nat} {bi : List Nat} {ms : MS} {ts : List OT} {Q : OT → List OT → Prop} {E : Exn → List OT → Prop} : WpR (runB N bi ms ts) Q E = Wp (ms (initS N ts)) (KRr bi Q) (KRx bi E) := by
  unfold runB
  rw [initS_eq]
  cases ms (initS N ts) with
  | stuck => with_unfolding_all rfl
  | err x S =>
    with_unfolding_all show WpR (match outsOf bi S with | some os => _ | none => _) Q E = Oo (outsOf bi S) (E x)
    cases outsOf bi S <;> with_unfolding_all rfl
  | ok f S =>
    cases f with
    | nx =>
      with_unfolding_all show WpR (match outsOf bi S with | some os => _ | none => _) Q E = Oo (outsOf bi S) (Q (.leaf .non))
      cases outsOf bi S <;> with_unfolding_all rfl
    | bk => with_unfolding_all rfl
    | ct => with_unfolding_all rfl
    | rt r =>
      with_unfolding_all show WpR (match outsOf bi S with | some os => _ | none => _) Q E = Oo (outsOf bi S) (Q r)
      cases outsOf bi S <;> with_unfolding_all rfl
theorem kRr_rt {bi : List Nat} {Q : OT → List OT → Prop} {r : OT} : KRr bi Q (.rt r) S = Oo (outsOf bi S) (Q r) := nr (by with_unfolding_all rfl)
theorem kRr_nx {bi : List Nat} {Q : OT → List OT → Prop} : KRr bi Q .nx S = Oo (outsOf bi S) (Q (.leaf .non)) := nr (by with_unfolding_all rfl)
theorem kRx {bi : List Nat} {E : Exn → List OT → Prop} {x : Exn} : KRx bi E x S = Oo (outsOf bi S) (E x) := nr (by with_unfolding_all rfl)
def outC (r : List Nat) (i : Nat) (S : Sl) : Option (Option OT) → Option (List OT)
  | some (some t) => (outsOf r (S.set i none)).map fun ts => t :: ts
  | _ => none
theorem outs_nil : outsOf [] S = some [] := nr (by with_unfolding_all rfl)
theorem outs_cons {i : Nat} {r : List Nat} : outsOf (i :: r) S = outC r i S S[i]? := by
  rw [outsOf]
  generalize S[i]? = o
  rcases o with _ | _ | u <;> with_unfolding_all rfl
theorem outC_some {i : Nat} {r : List Nat} {t : OT} : outC r i S (some (some t)) = (outsOf r (S.set i none)).map fun ts => t :: ts := nr (by with_unfolding_all rfl)
theorem initS_z : initS 0 [] = [] := nr (by with_unfolding_all rfl)
theorem initS_n {n : Nat} : initS (n + 1) [] = none :: initS n [] := nr (by with_unfolding_all rfl)
theorem initS_c {n : Nat} {t : OT} {ts : List OT} : initS (n + 1) (t :: ts) = some t :: initS n ts := nr (by with_unfolding_all rfl)
end
end Fy

namespace Fy
open PySem PySem.Spec PyProof.Rows L2
/-! ### data: how deep, what equals what, what is written -/
mutual
def dok : Nat → PV → Bool
  | _, .non => true
  | _, .bl _ => true
  | _, .int _ => true
  | _, .str _ => true
  | k + 1, .tup xs => doks k xs
  | k + 1, .lst xs => doks k xs
  | k + 1, .rls xs => doks k xs
  | _, _ => false
def doks : Nat → List PV → Bool
  | _, [] => true
  | k, x :: xs => dok k x && doks k xs
end
theorem doks_all {k : Nat} : ∀ {xs : List PV}, doks k xs = xs.all (dok k)
  | [] => by simp [doks]
  | x :: xs => by simp [doks, doks_all (xs := xs)]
mutual
theorem dok_pd : ∀ {k : Nat} {p : PV}, dok k p = true → ∃ d, pd p = some d ∧ d.depth ≤ k
  | _, .non, _ => ⟨_, rfl, Nat.zero_le _⟩
  | _, .bl _, _ => ⟨_, rfl, Nat.zero_le _⟩
  | _, .int _, _ => ⟨_, rfl, Nat.zero_le _⟩
  | _, .str _, _ => ⟨_, rfl, Nat.zero_le _⟩
  | 0, .tup _, h => by simp [dok] at h
  | 0, .lst _, h => by simp [dok] at h
  | 0, .rls _, h => by simp [dok] at h
  | k + 1, .tup xs, h => by
    obtain ⟨ds, e, hd⟩ := doks_pd (k := k) (xs := xs) (by simpa [dok] using h)
    with_unfolding_all exact ⟨.tuple ds, by simp [pd, e], by simp only [PyData.depth]; omega⟩
  | k + 1, .lst xs, h => by
    obtain ⟨ds, e, hd⟩ := doks_pd (k := k) (xs := xs) (by simpa [dok] using h)
    with_unfolding_all exact ⟨.list ds, by simp [pd, e], by simp only [PyData.depth]; omega⟩
  | k + 1, .rls xs, h => by
    obtain ⟨ds, e, hd⟩ := doks_pd (k := k) (xs := xs) (by simpa [dok] using h)
    with_unfolding_all exact ⟨.list ds, by simp [pd, e], by simp only [PyData.depth]; omega⟩
  | _, .ty _, h => by simp [dok] at h
  | _, .glo _, h => by simp [dok] at h
  | _, .obj _ _ _, h => by simp [dok] at h
theorem doks_pd : ∀ {k : Nat} {xs : List PV}, doks k xs = true → ∃ ds, pds xs = some ds ∧ PyData.depthAll ds ≤ k
  | _, [], _ => ⟨[], rfl, Nat.zero_le _⟩
  | k, x :: xs, h => by
    have h' : dok k x = true ∧ doks k xs = true := by simpa [doks] using h
    obtain ⟨d, e1, h1⟩ := dok_pd h'.1
    obtain ⟨ds, e2, h2⟩ := doks_pd h'.2
    with_unfolding_all exact ⟨d :: ds, by simp [pds, e1, e2], by simp only [PyData.depthAll]; omega⟩
end
def okE (p q : PV) : Bool := match pd p, pd q with
  | some d, some e => shp d || shp e
  | _, _ => false
def peq (p q : PV) : Bool := match pd p, pd q with
  | some d, some e => d.eqv e
  | _, _ => false
def peqs (xs ys : List PV) : Bool := match pds xs, pds ys with
  | some d, some e => PyData.eqvAll d e
  | _, _ => false
theorem okE_of {k : Nat} {p q : PV} (h1 : dok k p = true) (h2 : dok k q = true) (hk : k ≤ 64 := by decide) : okE p q = true := by
  obtain ⟨d, e1, _⟩ := dok_pd h1
  obtain ⟨e, e2, h⟩ := dok_pd h2
  unfold okE
  rw [e1, e2]
  have : shp e = true := decide_eq_true (by omega)
  simp [this]
theorem okE_il {i : Int} {q : PV} {k : Nat} (h : dok k q = true) : okE (.int i) q = true := by
  obtain ⟨d, e1, _⟩ := dok_pd h
  unfold okE
  rw [e1]
  with_unfolding_all rfl
section
variable {i j : Int} {a b : Bool} {x y : Str} {p q : PV} {xs ys : List PV}
theorem okE_ii : okE (.int i) (.int j) = true := nr (by with_unfolding_all rfl)
theorem okE_ss : okE (.str x) (.str y) = true := nr (by with_unfolding_all rfl)
theorem okE_nn : okE .non .non = true := nr (by with_unfolding_all rfl)
theorem okE_ni : okE .non (.int j) = true := nr (by with_unfolding_all rfl)
theorem okE_in : okE (.int j) .non = true := nr (by with_unfolding_all rfl)
theorem okE_bb : okE (.bl a) (.bl b) = true := nr (by with_unfolding_all rfl)
theorem peq_ii : peq (.int i) (.int j) = decide (i = j) := by
  with_unfolding_all show (i == j) = _
  by_cases h : i = j <;> simp [h]
theorem peq_ss : peq (.str x) (.str y) = decide (x = y) := by
  with_unfolding_all show (x == y) = _
  by_cases h : x = y <;> simp [h]
theorem peq_nn : peq .non .non = true := nr (by with_unfolding_all rfl)
theorem peq_bb : peq (.bl a) (.bl b) = decide (a = b) := by cases a <;> cases b <;> with_unfolding_all rfl
theorem peq_ni : peq .non (.int j) = false := nr (by with_unfolding_all rfl)
theorem peq_in : peq (.int j) .non = false := nr (by with_unfolding_all rfl)
theorem peq_ns : peq .non (.str x) = false := nr (by with_unfolding_all rfl)
theorem peq_sn : peq (.str x) .non = false := nr (by with_unfolding_all rfl)
theorem peq_is : peq (.int i) (.str x) = false := nr (by with_unfolding_all rfl)
theorem peq_si : peq (.str x) (.int i) = false := nr (by with_unfolding_all rfl)
theorem peq_nt : peq .non (.tup xs) = false := by
  unfold peq pd
  cases pds xs <;> with_unfolding_all rfl
theorem peq_tn : peq (.tup xs) .non = false := by
  unfold peq pd
  cases pds xs <;> with_unfolding_all rfl
theorem peq_nl : peq .non (.lst xs) = false := by
  unfold peq pd
  cases pds xs <;> with_unfolding_all rfl
theorem peq_ln : peq (.lst xs) .non = false := by
  unfold peq pd
  cases pds xs <;> with_unfolding_all rfl
theorem peq_tl : peq (.tup xs) (.lst ys) = false := by
  unfold peq pd
  cases pds xs <;> cases pds ys <;> with_unfolding_all rfl
theorem peq_lt : peq (.lst xs) (.tup ys) = false := by
  unfold peq pd
  cases pds xs <;> cases pds ys <;> with_unfolding_all rfl
theorem peq_tt : peq (.tup xs) (.tup ys) = peqs xs ys := by
  unfold peq peqs pd
  cases pds xs <;> cases pds ys <;> with_unfolding_all rfl
theorem peq_ll : peq (.lst xs) (.lst ys) = peqs xs ys := by
  unfold peq peqs pd
  cases pds xs <;> cases pds ys <;> with_unfolding_all rfl
theorem peq_rl : peq (.rls xs) (.lst ys) = peqs xs ys := by
  unfold peq peqs pd
  cases pds xs <;> cases pds ys <;> with_unfolding_all rfl
theorem peq_lr : peq (.lst xs) (.rls ys) = peqs xs ys := by
  unfold peq peqs pd
  cases pds xs <;> cases pds ys <;> with_unfolding_all rfl
theorem peqs_nn : peqs [] [] = true := nr (by with_unfolding_all rfl)
theorem peqs_nc : peqs [] (p :: xs) = false := by
  with_unfolding_all show (match pds [], pds (p :: xs) with | some d, some e => PyData.eqvAll d e | _, _ => false) = false
  unfold pds
  cases pd p <;> cases pds xs <;> with_unfolding_all rfl
theorem peqs_cn : peqs (p :: xs) [] = false := by
  with_unfolding_all show (match pds (p :: xs), pds [] with | some d, some e => PyData.eqvAll d e | _, _ => false) = false
  unfold pds
  cases pd p <;> cases pds xs <;> with_unfolding_all rfl
theorem peqs_cc : peqs (p :: xs) (q :: ys) = (peq p q && peqs xs ys) := by
  unfold peqs peq
  simp only [pds]
  cases pd p <;> cases pd q <;> cases pds xs <;> cases pds ys <;> simp [PyData.eqvAll]
end
/-! data that equal another just if they are the same -/
mutual
def cano : PV → Bool
  | .non => true
  | .int _ => true
  | .str _ => true
  | .tup xs => canos xs
  | .lst xs => canos xs
  | _ => false
def canos : List PV → Bool
  | [] => true
  | x :: xs => cano x && canos xs
end
theorem canos_all : ∀ {xs : List PV}, canos xs = xs.all cano
  | [] => by simp [canos]
  | x :: xs => by simp [canos, canos_all (xs := xs)]
mutual
theorem peq_iff : ∀ {p q : PV}, cano p = true → cano q = true → (peq p q = true ↔ p = q)
  | .non, .non, _, _ => by simp [peq_nn]
  | .non, .int _, _, _ => by simp [peq_ni]
  | .non, .str _, _, _ => by simp [peq_ns]
  | .non, .tup _, _, _ => by simp [peq_nt]
  | .non, .lst _, _, _ => by simp [peq_nl]
  | .int _, .non, _, _ => by simp [peq_in]
  | .int _, .int _, _, _ => by simp [peq_ii]
  | .int _, .str _, _, _ => by simp [peq_is]
  | .int i, .tup ys, _, _ => by
    have : peq (.int i) (.tup ys) = false := by
      unfold peq pd
      cases pds ys <;> with_unfolding_all rfl
    simp [this]
  | .int i, .lst ys, _, _ => by
    have : peq (.int i) (.lst ys) = false := by
      unfold peq pd
      cases pds ys <;> with_unfolding_all rfl
    simp [this]
  | .str _, .non, _, _ => by simp [peq_sn]
  | .str _, .int _, _, _ => by simp [peq_si]
  | .str _, .str _, _, _ => by simp [peq_ss]
  | .str i, .tup ys, _, _ => by
    have : peq (.str i) (.tup ys) = false := by
      unfold peq pd
      cases pds ys <;> with_unfolding_all rfl
    simp [this]
  | .str i, .lst ys, _, _ => by
    have : peq (.str i) (.lst ys) = false := by
      unfold peq pd
      cases pds ys <;> with_unfolding_all rfl
    simp [this]
  | .tup _, .non, _, _ => by simp [peq_tn]
  | .tup xs, .int i, _, _ => by
    have : peq (.tup xs) (.int i) = false := by
      unfold peq pd
      cases pds xs <;> with_unfolding_all rfl
    simp [this]
  | .tup xs, .str i, _, _ => by
    have : peq (.tup xs) (.str i) = false := by
      unfold peq pd
      cases pds xs <;> with_unfolding_all rfl
    simp [this]
  | .tup xs, .tup ys, h1, h2 => by
    have h := peqs_iff (xs := xs) (ys := ys) (by simpa [cano] using h1) (by simpa [cano] using h2)
    rw [peq_tt, h]
    simp
  | .tup _, .lst _, _, _ => by simp [peq_tl]
  | .lst _, .non, _, _ => by simp [peq_ln]
  | .lst xs, .int i, _, _ => by
    have : peq (.lst xs) (.int i) = false := by
      unfold peq pd
      cases pds xs <;> with_unfolding_all rfl
    simp [this]
  | .lst xs, .str i, _, _ => by
    have : peq (.lst xs) (.str i) = false := by
      unfold peq pd
      cases pds xs <;> with_unfolding_all rfl
    simp [this]
  | .lst _, .tup _, _, _ => by simp [peq_lt]
  | .lst xs, .lst ys, h1, h2 => by
    have h := peqs_iff (xs := xs) (ys := ys) (by simpa [cano] using h1) (by simpa [cano] using h2)
    rw [peq_ll, h]
    simp
  | .bl _, _, h, _ => by simp [cano] at h
  | .ty _, _, h, _ => by simp [cano] at h
  | .glo _, _, h, _ => by simp [cano] at h
  | .rls _, _, h, _ => by simp [cano] at h
  | .obj _ _ _, _, h, _ => by simp [cano] at h
  | _, .bl _, _, h => by simp [cano] at h
  | _, .ty _, _, h => by simp [cano] at h
  | _, .glo _, _, h => by simp [cano] at h
  | _, .rls _, _, h => by simp [cano] at h
  | _, .obj _ _ _, _, h => by simp [cano] at h
theorem peqs_iff : ∀ {xs ys : List PV}, canos xs = true → canos ys = true → (peqs xs ys = true ↔ xs = ys)
  | [], [], _, _ => by simp [peqs_nn]
  | [], _ :: _, _, _ => by simp [peqs_nc]
  | _ :: _, [], _, _ => by simp [peqs_cn]
  | x :: xs, y :: ys, h1, h2 => by
    have h1' : cano x = true ∧ canos xs = true := by simpa [canos] using h1
    have h2' : cano y = true ∧ canos ys = true := by simpa [canos] using h2
    rw [peqs_cc, Bool.and_eq_true, peq_iff h1'.1 h2'.1, peqs_iff h1'.2 h2'.2]
    simp
end
theorem peq_dec {p q : PV} (h1 : cano p = true) (h2 : cano q = true) : peq p q = true ↔ p = q := peq_iff h1 h2
theorem peq_ne {p q : PV} (h1 : cano p = true) (h2 : cano q = true) (h : p ≠ q) : peq p q = false := by
  cases e : peq p q with
  | false => with_unfolding_all rfl
  | true => with_unfolding_all exact absurd ((peq_iff h1 h2).mp e) h
mutual
theorem eqv_refl : ∀ (p : PV) (d : PyData), pd p = some d → d.eqv d = true
  | .non, _, h => by cases h; rfl
  | .bl b, _, h => by cases h; cases b <;> with_unfolding_all rfl
  | .int i, _, h => by
    cases h
    with_unfolding_all show (i == i) = true
    simp
  | .str x, _, h => by
    cases h
    with_unfolding_all show (x == x) = true
    simp
  | .tup xs, _, h => by
    unfold pd at h
    cases e : pds xs with
    | none => rw [e] at h; cases h
    | some ds => rw [e] at h; cases h; exact eqvs_refl xs ds e
  | .lst xs, _, h => by
    unfold pd at h
    cases e : pds xs with
    | none => rw [e] at h; cases h
    | some ds => rw [e] at h; cases h; exact eqvs_refl xs ds e
  | .rls xs, _, h => by
    unfold pd at h
    cases e : pds xs with
    | none => rw [e] at h; cases h
    | some ds => rw [e] at h; cases h; exact eqvs_refl xs ds e
  | .ty _, _, h => by cases h
  | .glo _, _, h => by cases h
  | .obj _ _ _, _, h => by cases h
theorem eqvs_refl : ∀ (xs : List PV) (ds : List PyData), pds xs = some ds → PyData.eqvAll ds ds = true
  | [], _, h => by cases h; rfl
  | x :: xs, _, h => by
    unfold pds at h
    cases e1 : pd x with
    | none => rw [e1] at h; cases h
    | some d =>
      rw [e1] at h
      cases e2 : pds xs with
      | none => rw [e2] at h; cases h
      | some ds =>
        rw [e2] at h
        cases h
        with_unfolding_all show (PyData.eqv d d && PyData.eqvAll ds ds) = true
        rw [eqv_refl x d e1, eqvs_refl xs ds e2]
        with_unfolding_all rfl
end
theorem peq_refl {k : Nat} {p : PV} (h : dok k p = true) : peq p p = true := by
  obtain ⟨d, e, _⟩ := dok_pd h
  unfold peq
  rw [e]
  with_unfolding_all exact eqv_refl p d e
/-! what is written -/
mutual
def rok : PV → Bool
  | .non => true
  | .bl _ => true
  | .int i => decide (i.natAbs < 10 ^ 20)
  | .tup xs => roks xs
  | .lst xs => roks xs
  | .rls xs => roks xs
  | _ => false
def roks : List PV → Bool
  | [] => true
  | x :: xs => rok x && roks xs
end
mutual
def rwt : PV → Nat
  | .non => 6
  | .bl _ => 6
  | .int _ => 22
  | .tup xs => rwts xs + 4
  | .lst xs => rwts xs + 4
  | .rls xs => rwts xs + 4
  | _ => 0
def rwts : List PV → Nat
  | [] => 0
  | x :: xs => rwt x + 2 + rwts xs
end
theorem roks_all : ∀ {xs : List PV}, roks xs = xs.all rok
  | [] => by simp [roks]
  | x :: xs => by simp [roks, roks_all (xs := xs)]
theorem rwts_le {m : Nat} : ∀ {xs : List PV}, (∀ x ∈ xs, rwt x ≤ m) → rwts xs ≤ xs.length * (m + 2)
  | [], _ => by simp [rwts]
  | x :: xs, h => by
    have h1 := h x List.mem_cons_self
    have h2 := rwts_le (xs := xs) fun y hy => h y (List.mem_cons_of_mem _ hy)
    simp only [rwts, List.length_cons, Nat.add_mul, Nat.one_mul]
    omega
def okRp (p : PV) : Bool := match pd p with
  | some d => d.showable && decide (d.depth ≤ 64) && decide (d.shown.length ≤ sizeLine)
  | none => false
def reprS (p : PV) : Str := match pd p with
  | some d => d.shown
  | none => ""
theorem listText_le (ts : List Str) : (PySem.listText ts).length ≤ piled ts + 4 := by
  unfold PySem.listText
  rw [strLen_append]
  cases ts with
  | nil => decide
  | cons t r =>
    have e : PySem.textFrom 0 "[" (t :: r) = PySem.textFrom 1 (("[" : Str) ++ (if 0 > 0 then ", " else "" : String) ++ t) r := rfl
    rw [e, textFrom_length_pos r 1 _ (by decide), piled_cons, strLen_append, strLen_append]
    have e1 : (("[" : String) : Str).length = 1 := rfl
    have e2 : (("]" : String) : Str).length = 1 := rfl
    have e3 : (((if 0 > 0 then ", " else "" : String)) : Str).length = 0 := rfl
    rw [e1, e2, e3]
    omega
theorem tupleText_le (ts : List Str) : (PySem.tupleText ts).length ≤ piled ts + 4 := by
  unfold PySem.tupleText
  rw [strLen_append, strLen_append]
  have e1 : ((("(" : String) : Str)).length = 1 := rfl
  have e3 : (((if ts.length == 1 then ",)" else ")" : String) : Str)).length ≤ 2 := by split <;> decide
  rw [e1]
  by_cases h : ts = []
  · subst h
    decide
  · have := join_length_add ts h
    omega
theorem log2_small {n : Nat} (h : n < 10 ^ 20) : n.log2 < 1920 := by
  by_cases hn : n = 0
  · subst hn
    decide
  · with_unfolding_all exact (Nat.log2_lt hn).mpr (Nat.lt_of_lt_of_le h (by decide +kernel))
mutual
theorem rok_of : ∀ (p : PV) (d : PyData), rok p = true → pd p = some d → d.showable = true ∧ d.shown.length ≤ rwt p
  | .non, _, _, h => by cases h; exact ⟨rfl, by decide⟩
  | .bl b, _, _, h => by cases h; cases b <;> exact ⟨rfl, by decide⟩
  | .int i, _, hr, h => by
    cases h
    have hr : i.natAbs < 10 ^ 20 := by simpa [rok] using hr
    refine ⟨decide_eq_true (log2_small hr), ?_⟩
    have := int_text_length_le10 (k := 20) (by decide) hr
    with_unfolding_all show (Str.ofString (toString i)).length ≤ 22
    rw [PySem.ofString_length]
    omega
  | .tup xs, _, hr, h => by
    unfold pd at h
    cases e : pds xs with
    | none => rw [e] at h; cases h
    | some ds =>
      rw [e] at h
      cases h
      obtain ⟨h1, h2⟩ := roks_of xs ds (by simpa [rok] using hr) e
      refine ⟨h1, ?_⟩
      have := tupleText_le (PyData.shownAll ds)
      with_unfolding_all show (PySem.tupleText (PyData.shownAll ds)).length ≤ rwts xs + 4
      omega
  | .lst xs, _, hr, h => by
    unfold pd at h
    cases e : pds xs with
    | none => rw [e] at h; cases h
    | some ds =>
      rw [e] at h
      cases h
      obtain ⟨h1, h2⟩ := roks_of xs ds (by simpa [rok] using hr) e
      refine ⟨h1, ?_⟩
      have := listText_le (PyData.shownAll ds)
      with_unfolding_all show (PySem.listText (PyData.shownAll ds)).length ≤ rwts xs + 4
      omega
  | .rls xs, _, hr, h => by
    unfold pd at h
    cases e : pds xs with
    | none => rw [e] at h; cases h
    | some ds =>
      rw [e] at h
      cases h
      obtain ⟨h1, h2⟩ := roks_of xs ds (by simpa [rok] using hr) e
      refine ⟨h1, ?_⟩
      have := listText_le (PyData.shownAll ds)
      with_unfolding_all show (PySem.listText (PyData.shownAll ds)).length ≤ rwts xs + 4
      omega
  | .str _, _, h, _ => by simp [rok] at h
  | .ty _, _, h, _ => by simp [rok] at h
  | .glo _, _, h, _ => by simp [rok] at h
  | .obj _ _ _, _, h, _ => by simp [rok] at h
theorem roks_of : ∀ (xs : List PV) (ds : List PyData), roks xs = true → pds xs = some ds → PyData.showableAll ds = true ∧ piled (PyData.shownAll ds) ≤ rwts xs
  | [], _, _, h => by cases h; exact ⟨rfl, Nat.le_refl _⟩
  | x :: xs, _, hr, h => by
    unfold pds at h
    cases e1 : pd x with
    | none => rw [e1] at h; cases h
    | some d =>
      rw [e1] at h
      cases e2 : pds xs with
      | none => rw [e2] at h; cases h
      | some ds =>
        rw [e2] at h
        cases h
        have hr' : rok x = true ∧ roks xs = true := by simpa [roks] using hr
        obtain ⟨h1, h2⟩ := rok_of x d hr'.1 e1
        obtain ⟨h3, h4⟩ := roks_of xs ds hr'.2 e2
        refine ⟨?_, ?_⟩
        · with_unfolding_all show (d.showable && PyData.showableAll ds) = true
          rw [h1, h3]
          with_unfolding_all rfl
        · with_unfolding_all show piled (d.shown :: PyData.shownAll ds) ≤ rwt x + 2 + rwts xs
          rw [piled_cons]
          omega
end
theorem okRp_of {k : Nat} {p : PV} (h1 : dok k p = true) (h2 : rok p = true) (h3 : rwt p ≤ 16777216) (hk : k ≤ 64 := by decide) : okRp p = true := by
  obtain ⟨d, e, hd⟩ := dok_pd h1
  obtain ⟨s1, s2⟩ := rok_of p d h2 e
  unfold okRp
  rw [e]
  have a1 : decide (d.depth ≤ 64) = true := decide_eq_true (by omega)
  have a2 : decide (d.shown.length ≤ sizeLine) = true := decide_eq_true (by show _ ≤ 16777216; omega)
  simp [s1, a1, a2]
/-! ### operations -/
section
variable {S : Sl} {Q : QO} {i j : Int} {p q : PV} {xs ys : List PV} {x y : Str} {a b : Bool}
@[irreducible] def Oat (o : Option PV) (S : Sl) (Q : QO) : Prop := match o with
  | some p => Q (.leaf p) S
  | none => False
theorem oat_some : Oat (some p) S Q = Q (.leaf p) S := nr (by with_unfolding_all rfl)
theorem op_map {o : Option PV} : Op (o.map .leaf) S Q = Oat o S Q := by cases o <;> with_unfolding_all rfl
theorem op_ite {c : Prop} [Decidable c] {t : OT} : Op (if c then some t else none) S Q = (c ∧ Q t S) := by
  by_cases h : c
  · simp [h, Op]
  · simp [h, Op]
theorem op_eq : Op (pEq p q) S Q = (okE p q = true ∧ Q (.leaf (.bl (peq p q))) S) := by
  unfold pEq pEqB okE peq
  cases pd p with
  | none => simp [Op]
  | some d =>
    cases pd q with
    | none => simp [Op]
    | some e =>
      dsimp only
      rw [op_ite]
      with_unfolding_all rfl
theorem op_ne : Op (pNe p q) S Q = (okE p q = true ∧ Q (.leaf (.bl (!peq p q))) S) := by
  unfold pNe pEqB okE peq
  cases pd p with
  | none => simp [Op]
  | some d =>
    cases pd q with
    | none => simp [Op]
    | some e =>
      dsimp only
      rw [op_ite]
theorem op_addI : Op (pAdd (.int i) (.int j)) S Q = Q (.leaf (.int (i + j))) S := nr (by with_unfolding_all rfl)
theorem op_orL {f g : PV → PV → Option OT} (h : f p q = none) : Op (orF2 f g p q) S Q = Op (g p q) S Q := by
  unfold orF2
  rw [h]
theorem op_orR {f g : PV → PV → Option OT} (h : g p q = none) : Op (orF2 f g p q) S Q = Op (f p q) S Q := by
  unfold orF2
  cases f p q with
  | none => rw [h]
  | some t => with_unfolding_all rfl
theorem op_addL : Op (pAdd (.lst xs) (.lst ys)) S Q = (xs.length + ys.length ≤ sizeLine ∧ Q (.node ((xs ++ ys).map .leaf)) S) := by
  unfold pAdd
  rw [op_orL rfl, op_orR rfl]
  with_unfolding_all exact op_ite
theorem op_addT : Op (pAdd (.tup xs) (.tup ys)) S Q = (xs.length + ys.length ≤ sizeLine ∧ Q (.leaf (.tup (xs ++ ys))) S) := by
  unfold pAdd
  rw [op_orL rfl, op_orL rfl, op_orR rfl]
  with_unfolding_all exact op_ite
theorem op_addS : Op (pAdd (.str x) (.str y)) S Q = (x.length + y.length ≤ sizeLine ∧ Q (.leaf (.str (x ++ y))) S) := by
  unfold pAdd
  rw [op_orL rfl, op_orL rfl, op_orL rfl]
  with_unfolding_all show Op (if decide (x.length + y.length ≤ sizeLine) = true then some (OT.leaf (.str (x ++ y))) else none) S Q = _
  rw [op_ite, decide_eq_true_eq]
theorem op_sub : Op (pSub (.int i) (.int j)) S Q = Q (.leaf (.int (i - j))) S := nr (by with_unfolding_all rfl)
theorem op_neg : Op (pNeg (.int i)) S Q = Q (.leaf (.int (-i))) S := nr (by with_unfolding_all rfl)
def mulSide (i j : Int) : Prop := i.natAbs.log2 + j.natAbs.log2 < 1000000
theorem op_mulI : Op (pMul (.int i) (.int j)) S Q = (mulSide i j ∧ Q (.leaf (.int (i * j))) S) := by
  unfold pMul
  rw [op_orR rfl]
  with_unfolding_all show Op (if decide (i.natAbs.log2 + j.natAbs.log2 < 1000000) = true then some (OT.leaf (.int (i * j))) else none) S Q = _
  rw [op_ite, decide_eq_true_eq]
  with_unfolding_all rfl
theorem op_mulL : Op (pMul (.lst xs) (.int j)) S Q = ((-(2 ^ 63) ≤ j ∧ j < 2 ^ 63 ∧ xs.length * j.toNat ≤ sizeLine) ∧ Q (.node ((List.replicate j.toNat xs).flatten.map .leaf)) S) := by
  unfold pMul
  rw [op_orL rfl, op_orR rfl]
  with_unfolding_all exact op_ite
theorem op_mulT : Op (pMul (.tup xs) (.int j)) S Q = ((xs ≠ [] ∧ 2 ≤ j ∧ j ≤ 1000 ∧ xs.length ≤ 1000) ∧ Q (.leaf (.tup (List.replicate j.toNat xs).flatten)) S) := by
  with_unfolding_all show Op (if xs ≠ [] ∧ 2 ≤ j ∧ j ≤ 1000 ∧ xs.length ≤ 1000 then some (OT.leaf (.tup (List.replicate j.toNat xs).flatten)) else none) S Q = _
  rw [op_ite]
theorem op_mulSI : Op (pMulS (.int i) (.int j)) S Q = Op (pMul (.int i) (.int j)) S Q := by
  unfold pMulS orF2
  cases h : pMul (.int i) (.int j) <;> with_unfolding_all rfl
theorem op_mulSS : Op (pMulS (.str x) (.int j)) S Q = ((0 ≤ j ∧ j ≤ 1000 ∧ x.length ≤ 1000) ∧ Q (.leaf (.str (Txt.mul x j))) S) := by
  with_unfolding_all show Op (if 0 ≤ j ∧ j ≤ 1000 ∧ x.length ≤ 1000 then some (OT.leaf (.str (Txt.mul x j))) else none) S Q = _
  rw [op_ite]
theorem op_mod : Op (pMod (.int i) (.int j)) S Q = (j ≠ 0 ∧ Q (.leaf (.int (i.fmod j))) S) := by
  with_unfolding_all show Op (if decide (j ≠ 0) = true then some (OT.leaf (.int (i.fmod j))) else none) S Q = _
  rw [op_ite, decide_eq_true_eq]
theorem op_div : Op (pDiv (.int i) (.int j)) S Q = ((j ≠ 0 ∧ j.natAbs < 1073741824) ∧ Q (.leaf (.int (i.fdiv j))) S) := by
  with_unfolding_all show Op (if (decide (j ≠ 0) && decide (j.natAbs < 1073741824)) = true then some (OT.leaf (.int (i.fdiv j))) else none) S Q = _
  rw [op_ite, Bool.and_eq_true, decide_eq_true_eq, decide_eq_true_eq]
theorem op_pow : Op (pPow (.int i) (.int j)) S Q = ((0 ≤ j ∧ j ≤ 1000000 ∧ i.natAbs < 2 ^ 64) ∧ Q (.leaf (.int (i ^ j.toNat))) S) := by
  with_unfolding_all show Op (if (decide (0 ≤ j) && (decide (j ≤ 1000000) && decide (i.natAbs < 2 ^ 64))) = true then some (OT.leaf (.int (i ^ j.toNat))) else none) S Q = _
  rw [op_ite, Bool.and_eq_true, Bool.and_eq_true, decide_eq_true_eq, decide_eq_true_eq, decide_eq_true_eq]
theorem p_lt : pLt (.int i) (.int j) = some (.leaf (.bl (decide (i < j)))) := nr (by with_unfolding_all rfl)
theorem p_le : pLe (.int i) (.int j) = some (.leaf (.bl (decide (i ≤ j)))) := nr (by with_unfolding_all rfl)
theorem p_gt : pGt (.int i) (.int j) = some (.leaf (.bl (decide (j < i)))) := nr (by with_unfolding_all rfl)
theorem p_ge : pGe (.int i) (.int j) = some (.leaf (.bl (decide (j ≤ i)))) := nr (by with_unfolding_all rfl)
theorem p_isN : pIs p .non = some (.leaf (.bl (isNon p))) := by cases p <;> with_unfolding_all rfl
theorem p_notN : pIsNot p .non = some (.leaf (.bl (!isNon p))) := by cases p <;> with_unfolding_all rfl
theorem p_isB : pIs (.bl a) (.bl b) = some (.leaf (.bl (decide (a = b)))) := nr (by with_unfolding_all rfl)
theorem p_notB : pIsNot (.bl a) (.bl b) = some (.leaf (.bl (!decide (a = b)))) := nr (by with_unfolding_all rfl)
theorem isNon_n : isNon .non = true := nr (by with_unfolding_all rfl)
theorem isNon_i : isNon (.int i) = false := nr (by with_unfolding_all rfl)
theorem isNon_t : isNon (.tup xs) = false := nr (by with_unfolding_all rfl)
theorem isNon_l : isNon (.lst xs) = false := nr (by with_unfolding_all rfl)
theorem isNon_b : isNon (.bl a) = false := nr (by with_unfolding_all rfl)
theorem isNon_s : isNon (.str x) = false := nr (by with_unfolding_all rfl)
theorem op_ixL : Op (pIx (.lst xs) (.int i)) S Q = Oat (atI xs i) S Q := op_map
theorem op_ixT : Op (pIx (.tup xs) (.int i)) S Q = Oat (atI xs i) S Q := op_map
theorem op_ixR : Op (pIx (.rls xs) (.int i)) S Q = Oat (atI xs i) S Q := op_map
theorem op_lenL : Op (fLen [.lst xs]) S Q = Q (.leaf (.int (xs.length : Nat))) S := nr (by with_unfolding_all rfl)
theorem op_lenT : Op (fLen [.tup xs]) S Q = Q (.leaf (.int (xs.length : Nat))) S := nr (by with_unfolding_all rfl)
theorem op_lenR : Op (fLen [.rls xs]) S Q = Q (.leaf (.int (xs.length : Nat))) S := nr (by with_unfolding_all rfl)
theorem op_lenS : Op (fLen [.str x]) S Q = (x.length ≤ sizeLine ∧ Q (.leaf (.int (x.length : Nat))) S) := by
  with_unfolding_all show Op (if x.length ≤ sizeLine then some (OT.leaf (.int (x.length : Nat))) else none) S Q = _
  rw [op_ite]
theorem op_listL : Op (fList [.lst xs]) S Q = Q (.node (xs.map .leaf)) S := nr (by with_unfolding_all rfl)
theorem op_listT : Op (fList [.tup xs]) S Q = Q (.node (xs.map .leaf)) S := nr (by with_unfolding_all rfl)
theorem op_listR : Op (fList [.rls xs]) S Q = Q (.node (xs.map .leaf)) S := nr (by with_unfolding_all rfl)
theorem op_tupL : Op (fTup [.lst xs]) S Q = Q (.leaf (.tup xs)) S := nr (by with_unfolding_all rfl)
theorem op_tupT : Op (fTup [.tup xs]) S Q = Q (.leaf (.tup xs)) S := nr (by with_unfolding_all rfl)
theorem op_tupR : Op (fTup [.rls xs]) S Q = Q (.leaf (.tup xs)) S := nr (by with_unfolding_all rfl)
theorem op_int : Op (fInt [.int i]) S Q = Q (.leaf (.int i)) S := nr (by with_unfolding_all rfl)
theorem op_intB : Op (fInt [.bl a]) S Q = Q (.leaf (.int (if a = true then 1 else 0))) S := nr (by with_unfolding_all rfl)
theorem op_abs : Op (fAbs [.int i]) S Q = Q (.leaf (.int (if i < 0 then -i else i))) S := nr (by with_unfolding_all rfl)
theorem op_repr : Op (fRepr [p]) S Q = (okRp p = true ∧ Q (.leaf (.str (reprS p))) S) := by
  with_unfolding_all show Op ((pd p).bind fun d => if d.showable = true ∧ d.depth ≤ 64 ∧ d.shown.length ≤ sizeLine then some (OT.leaf (.str d.shown)) else none) S Q = _
  unfold okRp reprS
  cases pd p with
  | none => simp [Op]
  | some d =>
    with_unfolding_all show Op (if d.showable = true ∧ d.depth ≤ 64 ∧ d.shown.length ≤ sizeLine then some (OT.leaf (.str d.shown)) else none) S Q = _
    rw [op_ite]
    simp only [Bool.and_eq_true, decide_eq_true_eq, and_assoc]
theorem op_all {bs : List Bool} {g : List Bool → Bool} (h : blsOf xs = some bs) : Op (fAll g [.lst xs]) S Q = Q (.leaf (.bl (g bs))) S := by
  with_unfolding_all show Op ((blsOf xs).map _) S Q = _
  rw [h]
  with_unfolding_all rfl
theorem bls_map {α : Type} (f : α → Bool) : ∀ (l : List α), blsOf (l.map fun z => .bl (f z)) = some (l.map f)
  | [] => rfl
  | z :: l => by simp [blsOf, bls_map f l]
theorem seqOf_l : seqOf (.lst xs) = some xs := nr (by with_unfolding_all rfl)
theorem seqOf_t : seqOf (.tup xs) = some xs := nr (by with_unfolding_all rfl)
theorem seqOf_r : seqOf (.rls xs) = some xs := nr (by with_unfolding_all rfl)
theorem oi_rng1 {Q : List PV → Sl → Prop} : Oi (fR1 [.int j]) S Q = (okR j = true ∧ Q (rng 0 j.toNat) S) := by
  with_unfolding_all show Oi (if okR j = true then some (rng 0 j.toNat) else none) S Q = _
  by_cases h : okR j = true <;> simp [h, Oi]
theorem oi_rng2 {Q : List PV → Sl → Prop} : Oi (fR2 [.int i, .int j]) S Q = ((okR i = true ∧ okR j = true) ∧ Q (rng i (j - i).toNat) S) := by
  with_unfolding_all show Oi (if (okR i && okR j) = true then some (rng i (j - i).toNat) else none) S Q = _
  by_cases h1 : okR i = true <;> by_cases h2 : okR j = true <;> simp [h1, h2, Oi]
theorem oi_enL {Q : List PV → Sl → Prop} : Oi (fEn [.lst xs]) S Q = Q (enm 0 xs) S := nr (by with_unfolding_all rfl)
theorem oi_enT {Q : List PV → Sl → Prop} : Oi (fEn [.tup xs]) S Q = Q (enm 0 xs) S := nr (by with_unfolding_all rfl)
theorem oi_enR {Q : List PV → Sl → Prop} : Oi (fEn [.rls xs]) S Q = Q (enm 0 xs) S := nr (by with_unfolding_all rfl)
theorem op_slL {lo hi : Option Int} : Op (pSl (.lst xs) lo hi) S Q = Q (.node ((cutP xs lo hi).map .leaf)) S := nr (by with_unfolding_all rfl)
theorem op_slR {lo hi : Option Int} : Op (pSl (.rls xs) lo hi) S Q = Q (.node ((cutP xs lo hi).map .leaf)) S := nr (by with_unfolding_all rfl)
theorem op_slT {lo hi : Option Int} : Op (pSl (.tup xs) lo hi) S Q = Q (.leaf (.tup (cutP xs lo hi))) S := nr (by with_unfolding_all rfl)
theorem enm_at : ∀ {xs : List PV} {lo i : Nat} {z : PV}, (enm lo xs)[i]? = some z → ∃ w, xs[i]? = some w ∧ z = .tup [.int ((lo + i : Nat) : Int), w]
  | [], _, i, z, h => by simp [enm] at h
  | x :: xs, lo, 0, z, h => by
    have h : PV.tup [.int (lo : Int), x] = z := Option.some.inj h
    with_unfolding_all exact ⟨x, rfl, h.symm⟩
  | x :: xs, lo, i + 1, z, h => by
    have h : (enm (lo + 1) xs)[i]? = some z := h
    obtain ⟨w, h1, h2⟩ := enm_at h
    with_unfolding_all exact ⟨w, h1, by rw [h2]; congr 4; omega⟩
/-! places -/
theorem at_nat {α : Type} {zs : List α} {k : Nat} : atI zs (k : Int) = zs[k]? := by
  unfold atI ixN
  rw [if_pos (Int.natCast_nonneg k)]
  by_cases h : k < zs.length
  · rw [if_pos (by omega), List.getElem?_eq_getElem h]
    simp [List.getElem?_eq_getElem h]
  · rw [if_neg (by omega), List.getElem?_eq_none (Nat.le_of_not_lt h)]
    with_unfolding_all rfl
theorem at_int {α : Type} {zs : List α} {i : Int} (h : 0 ≤ i) : atI zs i = zs[i.toNat]? := by
  have e : i = (i.toNat : Int) := by omega
  generalize i.toNat = k at e ⊢
  rw [e, at_nat]
theorem at_0 {α : Type} {zs : List α} : atI zs 0 = zs[0]? := at_nat (k := 0)
theorem at_1 {α : Type} {zs : List α} : atI zs 1 = zs[1]? := at_nat (k := 1)
theorem at_2 {α : Type} {zs : List α} : atI zs 2 = zs[2]? := at_nat (k := 2)
theorem at_3 {α : Type} {zs : List α} : atI zs 3 = zs[3]? := at_nat (k := 3)
theorem at_m1 {α : Type} {zs : List α} : atI zs (-1) = zs[zs.length - 1]? := by
  unfold atI ixN
  rw [if_neg (by decide)]
  by_cases h : zs = []
  · subst h
    with_unfolding_all rfl
  · have : 0 < zs.length := List.length_pos_iff.mpr h
    rw [if_pos (by omega)]
    with_unfolding_all show zs[((-1 : Int) + zs.length).toNat]? = _
    congr 1
    omega
theorem at_tab {α : Type} {f : Nat → α} {n k : Nat} (h : k < n) : atI ((List.range n).map f) (k : Int) = some (f k) := by
  rw [at_nat, List.getElem?_map, List.getElem?_range h]
  with_unfolding_all rfl
theorem ix_0 {n : Nat} (h : 0 < n) : ixN n 0 = some 0 := by
  unfold ixN
  rw [if_pos (by decide), if_pos (by omega)]
  with_unfolding_all rfl
theorem ix_nat {n k : Nat} (h : k < n) : ixN n (k : Int) = some k := by
  unfold ixN
  rw [if_pos (by omega), if_pos (by omega)]
  simp
theorem fmod_eq (h : 0 ≤ j) : i.fmod j = i % j := Int.fmod_eq_emod_of_nonneg i h
theorem fdiv_eq (h : 0 ≤ j) : i.fdiv j = i / j := Int.fdiv_eq_ediv_of_nonneg i h
theorem log2_lt {n k : Nat} (h : n < 2 ^ k) (hk : 0 < k) : n.log2 < k := by
  by_cases hn : n = 0
  · subst hn
    with_unfolding_all exact hk
  · with_unfolding_all exact (Nat.log2_lt hn).mpr h
end
theorem okR_in {j : Int} (h1 : -4611686018427387904 ≤ j) (h2 : j < 4611686018427387904) : okR j = true := by
  unfold okR
  have e1 : decide (-(2 ^ 62) ≤ j) = true := decide_eq_true (by omega)
  have e2 : decide (j < 2 ^ 62) = true := decide_eq_true (by omega)
  rw [e1, e2]
  with_unfolding_all rfl
theorem gT_1 {gs : MGs} {p : PV} {S : Sl} : gT 1 gs (.tup [p]) S = gs [p] S := nr (by with_unfolding_all rfl)
theorem gT_2 {gs : MGs} {p q : PV} {S : Sl} : gT 2 gs (.tup [p, q]) S = gs [p, q] S := nr (by with_unfolding_all rfl)
theorem gT_3 {gs : MGs} {p q r : PV} {S : Sl} : gT 3 gs (.tup [p, q, r]) S = gs [p, q, r] S := nr (by with_unfolding_all rfl)
theorem gT_4 {gs : MGs} {p q r s : PV} {S : Sl} : gT 4 gs (.tup [p, q, r, s]) S = gs [p, q, r, s] S := nr (by with_unfolding_all rfl)
theorem gT_5 {gs : MGs} {p q r s t : PV} {S : Sl} : gT 5 gs (.tup [p, q, r, s, t]) S = gs [p, q, r, s, t] S := nr (by with_unfolding_all rfl)
section
variable {S : Sl} {Q : QO} {p : PV} {xs : List PV}
theorem sq_cases (h : seqOf p = some xs) : p = .lst xs ∨ p = .rls xs ∨ p = .tup xs := by
  cases p <;> simp [seqOf] at h <;> subst h <;> simp
theorem op_len_s (h : seqOf p = some xs) : Op (fLen [p]) S Q = Q (.leaf (.int (xs.length : Nat))) S := by
  rcases sq_cases h with rfl | rfl | rfl <;> with_unfolding_all rfl
theorem op_tup_s (h : seqOf p = some xs) : Op (fTup [p]) S Q = Q (.leaf (.tup xs)) S := by
  rcases sq_cases h with rfl | rfl | rfl <;> with_unfolding_all rfl
theorem op_list_s (h : seqOf p = some xs) : Op (fList [p]) S Q = Q (.node (xs.map .leaf)) S := by
  rcases sq_cases h with rfl | rfl | rfl <;> with_unfolding_all rfl
theorem oi_en_s (h : seqOf p = some xs) {Q : List PV → Sl → Prop} : Oi (fEn [p]) S Q = Q (enm 0 xs) S := by
  rcases sq_cases h with rfl | rfl | rfl <;> with_unfolding_all rfl
theorem op_ix_s (h : seqOf p = some xs) {i : Int} : Op (pIx p (.int i)) S Q = Oat (atI xs i) S Q := by
  rcases sq_cases h with rfl | rfl | rfl <;> exact op_map
end
section
variable {S : Sl} {mt : MT}
/-- a comprehension that picks, by places -/
theorem lc_ix {mg : MG} {me : ME} {vs : List Nat} {Q : List OT → Sl → Prop} {xs : List PV} (c : Nat → Bool) (f : Nat → OT) (hl : xs.length ≤ sizeLine)
    (step : ∀ (i : Nat) (x : PV) (acc : List OT) (P : List OT → Sl → Prop), xs[i]? = some x → P (if c i = true then acc ++ [f i] else acc) S → Og (mg x S) (KLcG mt me vs P acc)) (hend : Q (((List.range xs.length).filter c).map f) S) : WpL (lcM mg mt me vs xs [] S) Q :=
  lc_rule (fun i acc S' => S' = S ∧ acc = ((List.range i).filter c).map f) hl ⟨rfl, rfl⟩ (fun i x acc S' hx ⟨e1, e2⟩ => by
    subst e1
    refine step i x acc _ hx ⟨rfl, ?_⟩
    rw [e2, List.range_succ, List.filter_append]
    by_cases h : c i = true <;> simp [h]) (fun ts S' ⟨e1, e2⟩ => by
    subst e1
    rw [e2]
    with_unfolding_all exact hend)
/-- a comprehension that only maps, by places -/
theorem lc_ixm {mg : MG} {me : ME} {vs : List Nat} {Q : List OT → Sl → Prop} {xs : List PV} (f : Nat → OT) (hl : xs.length ≤ sizeLine)
    (step : ∀ (i : Nat) (x : PV) (acc : List OT) (P : List OT → Sl → Prop), xs[i]? = some x → P (acc ++ [f i]) S → Og (mg x S) (KLcG mt me vs P acc)) (hend : Q ((List.range xs.length).map f) S) : WpL (lcM mg mt me vs xs [] S) Q :=
  lc_rule (fun i acc S' => S' = S ∧ acc = (List.range i).map f) hl ⟨rfl, rfl⟩ (fun i x acc S' hx ⟨e1, e2⟩ => by
    subst e1
    refine step i x acc _ hx ⟨rfl, ?_⟩
    rw [e2, List.range_succ]
    simp) (fun ts S' ⟨e1, e2⟩ => by
    subst e1
    rw [e2]
    with_unfolding_all exact hend)
theorem zp_at : ∀ {xs ys : List PV} {i : Nat} {z : PV}, (zp xs ys)[i]? = some z → ∃ x y, xs[i]? = some x ∧ ys[i]? = some y ∧ z = .tup [x, y]
  | [], _, i, z, h => by simp [zp] at h
  | _ :: _, [], i, z, h => by simp [zp] at h
  | x :: xs, y :: ys, 0, z, h => ⟨x, y, rfl, rfl, (Option.some.inj h).symm⟩
  | x :: xs, y :: ys, i + 1, z, h => zp_at (xs := xs) (ys := ys) (i := i) h
theorem cut_from {xs : List PV} {k : Nat} : cutP xs (some (k : Int)) none = xs.drop k := by
  unfold cutP
  rw [HT.sIx_nat, HT.sIx_none]
  by_cases h : k ≤ xs.length
  · rw [Nat.min_eq_left h, List.take_of_length_le (by simp)]
  · rw [Nat.min_eq_right (by omega)]
    simp
    omega
theorem cut_to {xs : List PV} {k : Nat} : cutP xs none (some (k : Int)) = xs.take k := by
  unfold cutP
  rw [HT.sIx_nat, HT.sIx_none]
  by_cases h : k ≤ xs.length
  · rw [Nat.min_eq_left h]
    simp
  · rw [Nat.min_eq_right (by omega)]
    simp
    rw [List.take_of_length_le (by omega)]
theorem cut_all {xs : List PV} : cutP xs none none = xs := by
  unfold cutP
  rw [HT.sIx_none, HT.sIx_none]
  simp
theorem cut_mid {xs : List PV} {k j : Nat} : cutP xs (some (k : Int)) (some (j : Int)) = (xs.take j).drop k := by
  unfold cutP
  rw [HT.sIx_nat, HT.sIx_nat, List.drop_take]
  by_cases h : j ≤ xs.length
  · rw [Nat.min_eq_left h]
    by_cases h2 : k ≤ xs.length
    · rw [Nat.min_eq_left h2]
    · rw [Nat.min_eq_right (by omega), List.drop_eq_nil_of_le (Nat.le_refl _), List.drop_eq_nil_of_le (by omega)]
      simp
  · rw [Nat.min_eq_right (by omega)]
    by_cases h2 : k ≤ xs.length
    · rw [Nat.min_eq_left h2, List.take_of_length_le (by simp), List.take_of_length_le (by simp; omega)]
    · rw [Nat.min_eq_right (by omega), List.drop_eq_nil_of_le (Nat.le_refl _), List.drop_eq_nil_of_le (by omega)]
      simp
end
theorem map_fz_leaf' {xs : List PV} : xs.map (fz ∘ OT.leaf) = xs := by
  have := map_fz_leaf (ps := xs)
  rw [List.map_map] at this
  with_unfolding_all exact this
theorem map_fz_leaf2 {α : Type} {g : α → PV} {l : List α} : l.map (fz ∘ fun i => OT.leaf (g i)) = l.map g := nr (by with_unfolding_all rfl)
theorem mulOk {i j : Int} (h1 : i.natAbs < 18446744073709551616) (h2 : j.natAbs < 18446744073709551616) : mulSide i j := by
  unfold mulSide
  have := log2_lt (n := i.natAbs) (k := 64) h1 (by decide)
  have := log2_lt (n := j.natAbs) (k := 64) h2 (by decide)
  omega
theorem kSet3_0 {i : Nat} {t x y z : OT} {S : Sl} {QQ : QS} : KSet3 i t 0 S QQ (some (some (.node [x, y, z]))) = QQ .nx (S.set i (some (.node [t, y, z]))) := kSet3 (j := 0) (ts := [x, y, z]) rfl
theorem kSet3_1 {i : Nat} {t x y z : OT} {S : Sl} {QQ : QS} : KSet3 i t 1 S QQ (some (some (.node [x, y, z]))) = QQ .nx (S.set i (some (.node [x, t, z]))) := kSet3 (j := 1) (ts := [x, y, z]) rfl
theorem kSet3_2 {i : Nat} {t x y z : OT} {S : Sl} {QQ : QS} : KSet3 i t 2 S QQ (some (some (.node [x, y, z]))) = QQ .nx (S.set i (some (.node [x, y, t]))) := kSet3 (j := 2) (ts := [x, y, z]) rfl
theorem noN_int {b : Bool} {i : Int} : noN b (.leaf (.int i)) = true := nr (by with_unfolding_all rfl)
theorem noN_bl {b : Bool} {i : Bool} : noN b (.leaf (.bl i)) = true := nr (by with_unfolding_all rfl)
theorem noP_int {b : Bool} {i : Int} : noP b (.int i) = true := nr (by with_unfolding_all rfl)
theorem noP_bl {b : Bool} {i : Bool} : noP b (.bl i) = true := nr (by with_unfolding_all rfl)
/-! in -/
theorem eqF_peq {p q : PV} (hp : flatP p = true) (hq : flatP q = true) : eqF p q = peq p q := by
  cases p <;> simp [flatP] at hp <;> cases q <;> simp [flatP] at hq <;> first | rfl | (rename_i a b; cases a <;> cases b <;> rfl) | (rename_i a b; cases b <;> rfl) | (rename_i a b; cases a <;> rfl)
theorem any_peq {p : PV} {d : PyData} (h : pd p = some d) : ∀ {xs : List PV} {ds : List PyData}, pds xs = some ds → (ds.any fun z => PyData.eqv z d) = xs.any fun z => peq z p
  | [], _, e => by cases e; rfl
  | x :: xs, _, e => by
    unfold pds at e
    cases e1 : pd x with
    | none => rw [e1] at e; cases e
    | some dx =>
      rw [e1] at e
      cases e2 : pds xs with
      | none => rw [e2] at e; cases e
      | some ds =>
        rw [e2] at e
        cases e
        simp only [List.any_cons, any_peq h e2]
        unfold peq
        rw [e1, h]
theorem op_inG {g : Bool → Bool} {k : Nat} {p q : PV} {xs : List PV} {S : Sl} {Q : QO} (hq : seqOf q = some xs) (hp : dok k p = true) (hx : doks k xs = true) (hk : k ≤ 64 := by decide) : Op (orF2 (fInF g) (fInD g) p q) S Q = Q (.leaf (.bl (g (xs.any fun z => peq z p)))) S := by
  obtain ⟨d, e1, hd⟩ := dok_pd hp
  obtain ⟨ds, e2, hds⟩ := doks_pd hx
  unfold orF2 fInF
  rw [hq]
  dsimp only
  by_cases hf : (flatP p && xs.all flatP) = true
  · rw [if_pos hf]
    obtain ⟨f1, f2⟩ := Bool.and_eq_true_iff.mp hf
    have : (xs.any fun z => eqF z p) = xs.any fun z => peq z p := by
      rw [Bool.eq_iff_iff, List.any_eq_true, List.any_eq_true]
      constructor
      · rintro ⟨z, hz, h⟩
        with_unfolding_all exact ⟨z, hz, by rw [← eqF_peq (List.all_eq_true.mp f2 z hz) f1]; exact h⟩
      · rintro ⟨z, hz, h⟩
        with_unfolding_all exact ⟨z, hz, by rw [eqF_peq (List.all_eq_true.mp f2 z hz) f1]; exact h⟩
    rw [this]
    with_unfolding_all rfl
  · rw [if_neg hf]
    dsimp only
    unfold fInD
    rw [e1, hq]
    simp only [Option.bind_some, e2]
    rw [if_pos (show shp d = true from decide_eq_true (by omega)), any_peq e1 e2]
    with_unfolding_all rfl
theorem op_in {k : Nat} {p q : PV} {xs : List PV} {S : Sl} {Q : QO} (hq : seqOf q = some xs) (hp : dok k p = true) (hx : doks k xs = true) (hk : k ≤ 64 := by decide) : Op (pIn p q) S Q = Q (.leaf (.bl (xs.any fun z => peq z p))) S := op_inG hq hp hx hk
theorem op_notIn {k : Nat} {p q : PV} {xs : List PV} {S : Sl} {Q : QO} (hq : seqOf q = some xs) (hp : dok k p = true) (hx : doks k xs = true) (hk : k ≤ 64 := by decide) : Op (pNotIn p q) S Q = Q (.leaf (.bl (!(xs.any fun z => peq z p)))) S := op_inG hq hp hx hk
theorem fEqO_of {tab : List (Ty × Ty × Bool)} {c c' : Str} {ts : List Ty} {run : List OT → FR} {ns : List Str} {xs : List PV} {q : PV} {t : Ty} {b : Bool} (hc : c' = c) (ht : tyP q = some t) (hm : t ∈ ts) (ha : (askI tab t (.o c)).isSome = true) (hr : run [.leaf (.obj c' ns xs), .leaf q] = .ok (.leaf (.bl b)) []) : fEqO tab c ts run (.obj c' ns xs) q = some (.leaf (.bl b)) := by
  unfold fEqO
  rw [ht]
  dsimp only
  rw [if_pos ⟨hc, hm, ha⟩, hr]
theorem op_or1 {f g : PV → PV → Option OT} {p q : PV} {t : OT} {S : Sl} {Q : QO} (h : f p q = some t) : Op (orF2 f g p q) S Q = Q t S := by
  unfold orF2
  rw [h]
  with_unfolding_all rfl
theorem same_ne {k : Nat} {p : PV} {A B : Prop} (h : dok k p = true) (hB : B) (hk : k ≤ 64 := by decide) : okE p p = true ∧ (peq p p = false → A) ∧ (peq p p = true → B) := ⟨okE_of h h hk, fun z => Bool.noConfusion ((peq_refl h).symm.trans z), fun _ => hB⟩
theorem same_ne2 {k : Nat} {p q : PV} {A B : Prop} (e : p = q) (h : dok k p = true) (hB : B) (hk : k ≤ 64 := by decide) : okE p q = true ∧ (peq p q = false → A) ∧ (peq p q = true → B) := by
  subst e
  with_unfolding_all exact same_ne h hB hk
theorem map_fz_leaf3 {α : Type} {g : α → PV} {l : List α} : l.map (fz ∘ OT.leaf ∘ g) = l.map g := rfl
theorem okRp_non : okRp .non = true := okRp_of (k := 0) rfl rfl (by decide)
theorem map_fz_leaf4 {α β : Type} {g : β → PV} {h : α → β} {l : List α} : l.map (fz ∘ (fun r => OT.leaf (g r)) ∘ h) = l.map fun x => g (h x) := rfl
theorem setS_same {S : Sl} {i : Nat} {x : Option OT} (h : S[i]? = some x) : S.set i x = S := List.ext_getElem? fun j => by
  rw [List.getElem?_set]
  split
  · rename_i e
    subst e
    rw [h, if_pos (List.getElem?_eq_some_iff.mp h).1]
  · with_unfolding_all rfl
theorem kVar_gen {S : Sl} {i : Nat} {r : OT} {Q : QO} (h : S[i]? = some (some r)) : KVar (some (some r)) i S Q = Q (.leaf (fz r)) (S.set i (some (.leaf (fz r)))) := by
  cases r with
  | leaf p =>
    rw [fz_leaf, setS_same h]
    with_unfolding_all rfl
  | node ts => with_unfolding_all rfl
  | ins c ns ts => with_unfolding_all rfl
end Fy

local macro_rules | `(tactic| o_shape) => `(tactic| try simp only [Fy.wp_ok, Fy.wp_err, Fy.wp_lift, Fy.op_some, Fy.og_some, Fy.oi_some, Fy.oo_some, Fy.wp_c, Fy.wp_e1, Fy.k1, Fy.wp_e2, Fy.k2, Fy.k2b, Fy.wp_eN, Fy.kN, Fy.wp_aN, Fy.wp_aC, Fy.kC, Fy.kC2, Fy.wp_tV, Fy.kV, Fy.wp_and, Fy.wp_or, Fy.wp_not, Fy.kAnd_t, Fy.kAnd_f, Fy.kOr_t, Fy.kOr_f, Fy.kAnd, Fy.kOr, Fy.kNot, Fy.wp_eAnd, Fy.wp_eOr, Fy.wp_eNot, Fy.kEAnd_t, Fy.kEAnd_f, Fy.kEOr_t, Fy.kEOr_f, Fy.kEAnd, Fy.kEOr, Fy.kENot, Fy.wp_eIf, Fy.kIf_t, Fy.kIf_f, Fy.kIf, Fy.wp_eL, Fy.wp_eT, Fy.kL, Fy.kT, Fy.wp_sA, Fy.kA, Fy.wp_sE, Fy.kE, Fy.wp_sR, Fy.kR, Fy.wp_sRN, Fy.wp_sIf, Fy.kSIf_t, Fy.kSIf_f, Fy.kSIf, Fy.wp_sN, Fy.wp_sB, Fy.wp_sC, Fy.wp_sS, Fy.kS_nx, Fy.kS_bk, Fy.kS_ct, Fy.kS_rt, Fy.wp_sG, Fy.kG, Fy.gN_eq, Fy.gT_1, Fy.gT_2, Fy.gT_3, Fy.gT_4, Fy.gT_5, Fy.og_gsC, Fy.kGs, Fy.gsN_eq, Fy.wp_sFor, Fy.kFor, Fy.kLp_nx, Fy.kLp_ct, Fy.kLp_bk, Fy.kLp_rt, Fy.kB, Fy.wp_mSeq, Fy.wp_iN, Fy.kIs, Fy.kIn, Fy.wp_sRaise, Fy.kRx0, Fy.wp_eV, Fy.kVar_l, Fy.kVar_n, Fy.kVar_i, Fy.fz_leaf, Fy.fz_node, Fy.fz_ins, Fy.map_fz_leaf, Fy.map_fz_leaf', Fy.map_fz_leaf2, Fy.map_fz_leaf3, Fy.map_fz_leaf4, Fy.wp_eMv, Fy.kMv, Fy.frS_nil, Fy.frS_cons, Fy.frO_none, Fy.frO_some, Fy.wp_thaw, Fy.kTh, Fy.wp_tThaw, Fy.kTh', Fy.wp_ice, Fy.kIce, Fy.kNd, Fy.wp_sApp, Fy.kApp1, Fy.kApp, Fy.wp_sSet, Fy.kSet1, Fy.kSet2, Fy.kSet3_0, Fy.kSet3_1, Fy.kSet3_2, Fy.noN_int, Fy.noN_bl, Fy.noP_int, Fy.noP_bl, Fy.wp_sPar, Fy.kPar2, Fy.kPar3, Fy.wp_sMv, Fy.wp_eCh, Fy.kCh1, Fy.kCh2, Fy.kCh3, Fy.wp_eSl, Fy.kSl1, Fy.kSl2, Fy.kSl3, Fy.wp_oN, Fy.wp_oS, Fy.koS, Fy.wp_eTupR, Fy.wp_eLstR, Fy.kRg, Fy.wp_eIdx, Fy.kIdx, Fy.wp_eLZ, Fy.wp_eLc, Fy.kLc, Fy.kLcG, Fy.kLcT, Fy.kLcT_t, Fy.kLcE, Fy.wp_mYes, Fy.wipe_nil, Fy.wipe_cons, Fy.wp_eCall, Fy.wp_rN, Fy.wp_rV, Fy.kAr, Fy.kAr2, Fy.kRf, Fy.wp_rR, Fy.wp_rB, Fy.kCa, Fy.wpA_some, Fy.kRun, Fy.wpR_ok, Fy.wpR_err, Fy.kBk_f, Fy.kBk_t, Fy.kBx_f, Fy.kBx_t, Fy.backs_nil, Fy.backs_cons, Fy.res_nil, Fy.res_vl, Fy.res_rf, Fy.res_bo, Fy.resC_some, Fy.resF_some, Fy.resB_some, Fy.resB1_some, Fy.wp_eCallK, Fy.kCk, Fy.pick_nil, Fy.wp_eCallV, Fy.kCv, Fy.kCv2, Fy.wp_eMake, Fy.kMk, Fy.kMrun, Fy.kMo_f, Fy.kMo_t, Fy.kMx_f, Fy.kMx_t, Fy.wp_eMakeK, Fy.kMkk, Fy.wp_sFldS, Fy.kFld1, Fy.kFld, Fy.wp_heard, Fy.kHo, Fy.kHx, Fy.oh_some, Fy.kRr_rt, Fy.kRr_nx, Fy.kRx, Fy.outs_nil, Fy.outs_cons, Fy.outC_some, Fy.initS_z, Fy.initS_n, Fy.initS_c, Fy.oat_some, Fy.op_eq, Fy.op_ne, Fy.op_addI, Fy.op_addL, Fy.op_addT, Fy.op_addS, Fy.op_sub, Fy.op_neg, Fy.op_mulI, Fy.op_mulL, Fy.op_mulT, Fy.op_mulSI, Fy.op_mulSS, Fy.op_mod, Fy.op_div, Fy.op_pow, Fy.p_lt, Fy.p_le, Fy.p_gt, Fy.p_ge, Fy.p_isN, Fy.p_notN, Fy.p_isB, Fy.p_notB, Fy.isNon_n, Fy.isNon_i, Fy.isNon_t, Fy.isNon_l, Fy.isNon_b, Fy.isNon_s, Fy.op_ixL, Fy.op_ixT, Fy.op_ixR, Fy.op_lenL, Fy.op_lenT, Fy.op_lenR, Fy.op_lenS, Fy.op_listL, Fy.op_listT, Fy.op_listR, Fy.op_tupL, Fy.op_tupT, Fy.op_tupR, Fy.op_int, Fy.op_intB, Fy.op_abs, Fy.op_repr, Fy.seqOf_l, Fy.seqOf_t, Fy.seqOf_r, Fy.oi_rng1, Fy.oi_rng2, Fy.oi_enL, Fy.oi_enT, Fy.oi_enR, Fy.op_slL, Fy.op_slR, Fy.op_slT, Fy.at_0, Fy.at_1, Fy.at_2, Fy.at_3, Fy.okE_ii, Fy.okE_ss, Fy.okE_nn, Fy.okE_ni, Fy.okE_in, Fy.okE_bb, Fy.peq_ii, Fy.peq_ss, Fy.peq_nn, Fy.peq_bb, Fy.peq_ni, Fy.peq_in, List.getElem?_cons_zero, List.getElem?_cons_succ, List.set_cons_zero, List.set_cons_succ, List.getElem?_nil, List.set_nil, Option.map_some, Option.bind_some, List.map_cons, List.map_nil, List.length_cons, List.length_nil, List.length_map, List.length_range, List.cons_append, List.nil_append, List.map_map, Fy.refPos, Fy.refIx, Fy.hasBo, decide_eq_true_eq, decide_eq_false_iff_not, Bool.not_eq_true', Bool.not_true, Bool.not_false, Bool.not_eq_false', Bool.not_not, true_and, and_true, not_false_eq_true, not_true_eq_false, Nat.zero_add, Nat.reduceAdd, Nat.reduceLeDiff, Nat.reduceLT, Int.reduceNeg, reduceCtorEq, false_implies, implies_true, true_implies, forall_const])
local macro_rules | `(tactic| w_cond $x) => `(tactic| try simp only [$x:ident, Fy.wp_ok, Fy.wp_err, Fy.wp_lift, Fy.op_some, Fy.og_some, Fy.oi_some, Fy.oo_some, Fy.wp_c, Fy.wp_e1, Fy.k1, Fy.wp_e2, Fy.k2, Fy.k2b, Fy.wp_eN, Fy.kN, Fy.wp_aN, Fy.wp_aC, Fy.kC, Fy.kC2, Fy.wp_tV, Fy.kV, Fy.wp_and, Fy.wp_or, Fy.wp_not, Fy.kAnd_t, Fy.kAnd_f, Fy.kOr_t, Fy.kOr_f, Fy.kAnd, Fy.kOr, Fy.kNot, Fy.wp_eAnd, Fy.wp_eOr, Fy.wp_eNot, Fy.kEAnd_t, Fy.kEAnd_f, Fy.kEOr_t, Fy.kEOr_f, Fy.kEAnd, Fy.kEOr, Fy.kENot, Fy.wp_eIf, Fy.kIf_t, Fy.kIf_f, Fy.kIf, Fy.wp_eL, Fy.wp_eT, Fy.kL, Fy.kT, Fy.wp_sA, Fy.kA, Fy.wp_sE, Fy.kE, Fy.wp_sR, Fy.kR, Fy.wp_sRN, Fy.wp_sIf, Fy.kSIf_t, Fy.kSIf_f, Fy.kSIf, Fy.wp_sN, Fy.wp_sB, Fy.wp_sC, Fy.wp_sS, Fy.kS_nx, Fy.kS_bk, Fy.kS_ct, Fy.kS_rt, Fy.wp_sG, Fy.kG, Fy.gN_eq, Fy.gT_1, Fy.gT_2, Fy.gT_3, Fy.gT_4, Fy.gT_5, Fy.og_gsC, Fy.kGs, Fy.gsN_eq, Fy.wp_sFor, Fy.kFor, Fy.kLp_nx, Fy.kLp_ct, Fy.kLp_bk, Fy.kLp_rt, Fy.kB, Fy.wp_mSeq, Fy.wp_iN, Fy.kIs, Fy.kIn, Fy.wp_sRaise, Fy.kRx0, Fy.wp_eV, Fy.kVar_l, Fy.kVar_n, Fy.kVar_i, Fy.fz_leaf, Fy.fz_node, Fy.fz_ins, Fy.map_fz_leaf, Fy.map_fz_leaf', Fy.map_fz_leaf2, Fy.map_fz_leaf3, Fy.map_fz_leaf4, Fy.wp_eMv, Fy.kMv, Fy.frS_nil, Fy.frS_cons, Fy.frO_none, Fy.frO_some, Fy.wp_thaw, Fy.kTh, Fy.wp_tThaw, Fy.kTh', Fy.wp_ice, Fy.kIce, Fy.kNd, Fy.wp_sApp, Fy.kApp1, Fy.kApp, Fy.wp_sSet, Fy.kSet1, Fy.kSet2, Fy.kSet3_0, Fy.kSet3_1, Fy.kSet3_2, Fy.noN_int, Fy.noN_bl, Fy.noP_int, Fy.noP_bl, Fy.wp_sPar, Fy.kPar2, Fy.kPar3, Fy.wp_sMv, Fy.wp_eCh, Fy.kCh1, Fy.kCh2, Fy.kCh3, Fy.wp_eSl, Fy.kSl1, Fy.kSl2, Fy.kSl3, Fy.wp_oN, Fy.wp_oS, Fy.koS, Fy.wp_eTupR, Fy.wp_eLstR, Fy.kRg, Fy.wp_eIdx, Fy.kIdx, Fy.wp_eLZ, Fy.wp_eLc, Fy.kLc, Fy.kLcG, Fy.kLcT, Fy.kLcT_t, Fy.kLcE, Fy.wp_mYes, Fy.wipe_nil, Fy.wipe_cons, Fy.wp_eCall, Fy.wp_rN, Fy.wp_rV, Fy.kAr, Fy.kAr2, Fy.kRf, Fy.wp_rR, Fy.wp_rB, Fy.kCa, Fy.wpA_some, Fy.kRun, Fy.wpR_ok, Fy.wpR_err, Fy.kBk_f, Fy.kBk_t, Fy.kBx_f, Fy.kBx_t, Fy.backs_nil, Fy.backs_cons, Fy.res_nil, Fy.res_vl, Fy.res_rf, Fy.res_bo, Fy.resC_some, Fy.resF_some, Fy.resB_some, Fy.resB1_some, Fy.wp_eCallK, Fy.kCk, Fy.pick_nil, Fy.wp_eCallV, Fy.kCv, Fy.kCv2, Fy.wp_eMake, Fy.kMk, Fy.kMrun, Fy.kMo_f, Fy.kMo_t, Fy.kMx_f, Fy.kMx_t, Fy.wp_eMakeK, Fy.kMkk, Fy.wp_sFldS, Fy.kFld1, Fy.kFld, Fy.wp_heard, Fy.kHo, Fy.kHx, Fy.oh_some, Fy.kRr_rt, Fy.kRr_nx, Fy.kRx, Fy.outs_nil, Fy.outs_cons, Fy.outC_some, Fy.initS_z, Fy.initS_n, Fy.initS_c, Fy.oat_some, Fy.op_eq, Fy.op_ne, Fy.op_addI, Fy.op_addL, Fy.op_addT, Fy.op_addS, Fy.op_sub, Fy.op_neg, Fy.op_mulI, Fy.op_mulL, Fy.op_mulT, Fy.op_mulSI, Fy.op_mulSS, Fy.op_mod, Fy.op_div, Fy.op_pow, Fy.p_lt, Fy.p_le, Fy.p_gt, Fy.p_ge, Fy.p_isN, Fy.p_notN, Fy.p_isB, Fy.p_notB, Fy.isNon_n, Fy.isNon_i, Fy.isNon_t, Fy.isNon_l, Fy.isNon_b, Fy.isNon_s, Fy.op_ixL, Fy.op_ixT, Fy.op_ixR, Fy.op_lenL, Fy.op_lenT, Fy.op_lenR, Fy.op_lenS, Fy.op_listL, Fy.op_listT, Fy.op_listR, Fy.op_tupL, Fy.op_tupT, Fy.op_tupR, Fy.op_int, Fy.op_intB, Fy.op_abs, Fy.op_repr, Fy.seqOf_l, Fy.seqOf_t, Fy.seqOf_r, Fy.oi_rng1, Fy.oi_rng2, Fy.oi_enL, Fy.oi_enT, Fy.oi_enR, Fy.op_slL, Fy.op_slR, Fy.op_slT, Fy.at_0, Fy.at_1, Fy.at_2, Fy.at_3, Fy.okE_ii, Fy.okE_ss, Fy.okE_nn, Fy.okE_ni, Fy.okE_in, Fy.okE_bb, Fy.peq_ii, Fy.peq_ss, Fy.peq_nn, Fy.peq_bb, Fy.peq_ni, Fy.peq_in, List.getElem?_cons_zero, List.getElem?_cons_succ, List.set_cons_zero, List.set_cons_succ, List.getElem?_nil, List.set_nil, Option.map_some, Option.bind_some, List.map_cons, List.map_nil, List.length_cons, List.length_nil, List.length_map, List.length_range, List.cons_append, List.nil_append, List.map_map, Fy.refPos, Fy.refIx, Fy.hasBo, decide_eq_true_eq, decide_eq_false_iff_not, Bool.not_eq_true', Bool.not_true, Bool.not_false, Bool.not_eq_false', Bool.not_not, true_and, and_true, not_false_eq_true, not_true_eq_false, Nat.zero_add, Nat.reduceAdd, Nat.reduceLeDiff, Nat.reduceLT, Int.reduceNeg, reduceCtorEq, false_implies, implies_true, true_implies, forall_const])
local macro_rules | `(tactic| w_means) => `(tactic| repeat (refine And.intro (by first | decide | exact Fy.mulOk (by omega) (by omega) | omega | exact Fy.okR_in (by omega) (by omega)) ?_))


namespace PgS
open PySem Fy Pg
/-! ### values -/
/-- a command, or nothing (-1) -/
def cmP : Option Nat → PV
  | none => .int (-1)
  | some c => .int (c : Nat)
/-- what two commands merge to -/
def endP : Option (Option Nat) → PV
  | none => .non
  | some x => cmP x
abbrev Mf := Nat → Nat → Option (Option Nat)
abbrev tab {α : Type} (n : Nat) (f : Nat → α) : List α := (List.range n).map f
def rowT (n : Nat) (f : Mf) (i : Nat) : PV := .tup (tab n fun j => endP (f i j))
def rowL (n : Nat) (f : Mf) (i : Nat) : PV := .lst (tab n fun j => endP (f i j))
def rowsT (n : Nat) (f : Mf) : PV := .tup (tab n (rowT n f))
def rowsL (n : Nat) (f : Mf) : PV := .lst (tab n (rowL n f))
def mgP (n : Nat) (f : Mf) : PV := .obj "Merger" ["commands", "rows"] [.int (n : Nat), rowsT n f]
def mgO (n : Nat) (f : Mf) : OT := .ins "Merger" ["commands", "rows"] [.leaf (.int (n : Nat)), .leaf (rowsT n f)]
theorem fz_mgO {n : Nat} {f : Mf} : fz (mgO n f) = mgP n f := by simp [mgO, mgP, fz_ins, fz_leaf]
/-- left_of -/
def lo (f : Mf) : Option Nat → Option Nat → Option (Option Nat)
  | none, y => some y
  | x, none => some x
  | some a, some b => f a b
/-- all ends are commands -/
def Cl (n : Nat) (f : Mf) : Prop := ∀ a b c, a < n → b < n → f a b = some (some c) → c < n
def bad (f : Mf) (a b c : Nat) : Prop := ∃ x y, f a b = some x ∧ f b c = some y ∧ lo f x (some c) ≠ lo f (some a) y
def Sd (n : Nat) (f : Mf) : Prop := ∀ a b c, a < n → b < n → c < n → ¬ bad f a b c
def basic : PV → Bool
  | .ty _ => false
  | .glo _ => false
  | .obj _ _ _ => false
  | _ => true
def belowP (n : Int) : PV → Bool
  | .int i => decide (0 ≤ i ∧ i < n)
  | _ => false
def wholeP : PV → Bool
  | .int _ => true
  | _ => false
theorem is_sequence (p : PV) (h : basic p = true) : run_is_sequence [.leaf p] = .ok (.leaf (.bl (seqOf p).isSome)) [] := by
  cases p <;> first | rfl | (simp [basic] at h)
theorem is_row (p : PV) (a b : Int) (h : basic p = true) : run_is_row [.leaf p, .leaf (.int a), .leaf (.int b)] = .ok (.leaf (.bl (match seqOf p with | some xs => decide (a ≤ xs.length ∧ xs.length ≤ b) | none => false))) [] := by
  apply WpR.eq
  rw [wp_run]
  unfold m_is_row
  o_shape
  rw [is_sequence p h]
  o_shape
  cases p <;> first | (simp [basic] at h; done) | (simp [seqOf]; done) | (o_shape; simp; grind)
theorem is_whole (p : PV) (h : basic p = true) : run_is_whole [.leaf p] = .ok (.leaf (.bl (wholeP p))) [] := by
  cases p <;> first | rfl | (simp [basic] at h) | (rename_i b; cases b <;> rfl)
theorem is_below (p : PV) (n : Int) (h : basic p = true) : run_is_below [.leaf p, .leaf (.int n)] = .ok (.leaf (.bl (belowP n p))) [] := by
  apply WpR.eq
  rw [wp_run]
  unfold m_is_below
  o_shape
  rw [is_whole p h]
  o_shape
  cases p <;> first | (simp [basic] at h; done) | (simp [wholeP, belowP]; done) | (o_shape; simp [wholeP, belowP]; grind)
theorem seq_cases {p : PV} {xs : List PV} (h : seqOf p = some xs) : p = .lst xs ∨ p = .rls xs ∨ p = .tup xs := by
  cases p <;> simp [seqOf] at h <;> subst h <;> simp
theorem seq_basic {p : PV} {xs : List PV} (h : seqOf p = some xs) : basic p = true := by
  rcases seq_cases h with rfl | rfl | rfl <;> rfl
/-- the first item that is no command -/
theorem queue_wp {n : Int} {p : PV} {xs : List PV} (h : seqOf p = some xs) (hl : xs.length ≤ 10000) (hb : ∀ x ∈ xs, basic x = true) :
    WpR (run_queue_of [.leaf (.int n), .leaf p]) (fun t os => t = .leaf (.tup xs) ∧ os = [] ∧ ∀ x ∈ xs, belowP n x = true)
      (fun e os => os = [] ∧ ∃ i w, xs[i]? = some w ∧ belowP n w = false ∧ (∀ j v, j < i → xs[j]? = some v → belowP n v = true) ∧ e = ⟨"BadQueue", ["at"], [.int (i : Nat)]⟩) := by
  rw [wp_run]
  unfold m_queue_of m_queue_of_2 m_queue_of_1
  o_shape
  rw [is_row p _ _ (seq_basic h)]
  simp only [h]
  o_shape
  refine ⟨fun c => absurd hl (by simp at c; omega), fun _ => ?_⟩
  rcases seq_cases h with rfl | rfl | rfl
  all_goals
    o_shape
    refine for_rule (fun i S => (∃ a b, S = [some (.leaf (.int n)), some (.leaf _), a, b]) ∧ ∀ j v, j < i → xs[j]? = some v → belowP n v = true) ⟨⟨_, _, rfl⟩, fun j v hj => absurd hj (Nat.not_lt_zero j)⟩ ?_ ?_
    · rintro i x S hx ⟨⟨a, b, rfl⟩, hi⟩
      obtain ⟨w, hw, rfl⟩ := enm_at hx
      o_shape
      rw [is_below w n (hb w (List.mem_of_getElem? hw))]
      o_shape
      refine ⟨fun c => ⟨i, w, hw, c, hi, rfl⟩, fun c => ⟨⟨_, _, rfl⟩, fun j v hj hv => ?_⟩⟩
      rcases Nat.lt_succ_iff_lt_or_eq.mp hj with z | z
      · exact hi j v z hv
      · subst z
        rw [hw] at hv
        cases hv
        exact c
    · rintro S ⟨⟨a, b, rfl⟩, hi⟩
      o_shape
      intro x hx
      obtain ⟨j, hj⟩ := List.getElem?_of_mem hx
      exact hi j x (by rw [enm_len]; exact (List.getElem?_eq_some_iff.mp hj).1) hj
theorem queue_ok {n : Int} {p : PV} {xs : List PV} (h : seqOf p = some xs) (hl : xs.length ≤ 10000) (hb : ∀ x ∈ xs, basic x = true) (hc : ∀ x ∈ xs, belowP n x = true) : run_queue_of [.leaf (.int n), .leaf p] = .ok (.leaf (.tup xs)) [] := by
  apply WpR.eq
  refine (queue_wp h hl hb).mono (fun t os q => ⟨q.1, q.2.1⟩) (fun e os q => ?_)
  obtain ⟨_, i, w, hw, hf, _⟩ := q
  rw [hc w (List.mem_of_getElem? hw)] at hf
  cases hf
theorem queue_bad {n : Int} {p : PV} {xs : List PV} {i : Nat} {w : PV} (h : seqOf p = some xs) (hl : xs.length ≤ 10000) (hb : ∀ x ∈ xs, basic x = true) (hw : xs[i]? = some w) (hf : belowP n w = false) (hi : ∀ j v, j < i → xs[j]? = some v → belowP n v = true) : run_queue_of [.leaf (.int n), .leaf p] = .err ⟨"BadQueue", ["at"], [.int (i : Nat)]⟩ [] := by
  apply WpR.eqE
  refine (queue_wp h hl hb).mono (fun t os q => ?_) (fun e os q => ?_)
  · rw [q.2.2 w (List.mem_of_getElem? hw)] at hf
    cases hf
  · obtain ⟨e1, j, v, hj, hv, hlt, e2⟩ := q
    have : j = i := by
      rcases Nat.lt_trichotomy j i with z | z | z
      · rw [hi j v z hj] at hv
        cases hv
      · exact z
      · rw [hlt i w z hw] at hf
        cases hf
    subst this
    exact ⟨e2, e1⟩
theorem queue_none {n : Int} {p : PV} (hp : basic p = true) (h : ∀ xs, seqOf p = some xs → 10000 < xs.length) : run_queue_of [.leaf (.int n), .leaf p] = .err ⟨"BadQueue", ["at"], [.int (-1)]⟩ [] := by
  apply WpR.eqE
  rw [wp_run]
  unfold m_queue_of m_queue_of_2 m_queue_of_1
  o_shape
  rw [is_row p _ _ hp]
  o_shape
  cases e : seqOf p with
  | none => simp [e]
  | some xs =>
    have := h xs e
    simp
    omega
theorem is_end (p : PV) (n : Int) (h : basic p = true) : run_is_end [.leaf p, .leaf (.int n)] = .ok (.leaf (.bl (match p with | .non => true | .int i => decide (-1 ≤ i ∧ i < n) | _ => false))) [] := by
  apply WpR.eq
  rw [wp_run]
  unfold m_is_end
  o_shape
  rw [is_whole p h]
  cases p <;> first | (simp [basic] at h; done) | (simp [isNon]; done) | (simp [isNon, wholeP]; o_shape; done) | (simp [isNon, wholeP]; o_shape; simp; grind)
/-! ### mergers -/
def endOk (n : Int) : PV → Bool
  | .non => true
  | .int i => decide (-1 ≤ i ∧ i < n)
  | _ => false
theorem is_end' (p : PV) (n : Int) (h : basic p = true) : run_is_end [.leaf p, .leaf (.int n)] = .ok (.leaf (.bl (endOk n p))) [] := by
  rw [is_end p n h]
  cases p <;> rfl
def rowOk (n : Nat) (r : PV) : Bool := match seqOf r with
  | some es => decide (es.length = n) && es.all (endOk n)
  | none => false
theorem bad_row_wp {p : PV} {rs : List PV} (h : seqOf p = some rs) (h1 : 1 ≤ rs.length) (h2 : rs.length ≤ 12) (hb : ∀ r ∈ rs, basic r = true) (hb2 : ∀ r ∈ rs, ∀ es, seqOf r = some es → ∀ e ∈ es, basic e = true) :
    WpR (run_bad_row [.leaf p]) (fun t os => os = [] ∧ ((t = .leaf .non ∧ ∀ r ∈ rs, rowOk rs.length r = true) ∨ ∃ i r, rs[i]? = some r ∧ rowOk rs.length r = false ∧ (∀ j v, j < i → rs[j]? = some v → rowOk rs.length v = true) ∧ t = .leaf (.int (i : Nat)))) noER := by
  rw [wp_run]
  unfold m_bad_row m_bad_row_3 m_bad_row_2 m_bad_row_1
  o_shape
  rw [is_row p _ _ (seq_basic h)]
  simp only [h]
  o_shape
  refine ⟨fun c => absurd c (by simp; omega), fun _ => ?_⟩
  rw [oi_en_s h]
  o_shape
  refine for_rule (fun i S => (∃ a b c, S = [some (.leaf p), a, b, c]) ∧ ∀ j v, j < i → rs[j]? = some v → rowOk rs.length v = true) ⟨⟨_, _, _, rfl⟩, fun j v hj => absurd hj (Nat.not_lt_zero j)⟩ ?_ ?_
  · rintro i x S hx ⟨⟨a, b, c, rfl⟩, hi⟩
    obtain ⟨w, hw, rfl⟩ := enm_at hx
    have hwb := hb w (List.mem_of_getElem? hw)
    o_shape
    simp only [op_len_s h]
    o_shape
    simp only [op_len_s h]
    o_shape
    rw [is_row w _ _ hwb]
    o_shape
    have step : rowOk rs.length w = true → ∀ j v, j < i + 1 → rs[j]? = some v → rowOk rs.length v = true := fun c j v hj hv => by
      rcases Nat.lt_succ_iff_lt_or_eq.mp hj with z | z
      · exact hi j v z hv
      · subst z
        rw [hw] at hv
        cases hv
        exact c
    cases es : seqOf w with
    | none =>
      refine ⟨fun _ => .inr ⟨i, w, hw, by simp [rowOk, es], hi, rfl⟩, fun c => by simp at c⟩
    | some vs =>
      refine ⟨fun c => .inr ⟨i, w, hw, ?_, hi, rfl⟩, fun c => ?_⟩
      · simp only [rowOk, es, Bool.and_eq_false_iff, decide_eq_false_iff_not]
        left
        intro z
        simp at c
        omega
      · have hlen : vs.length = rs.length := by
          simp at c
          omega
        o_shape
        refine lc_map (fun e => .leaf (.bl (endOk rs.length e))) (by rw [hlen]; exact Nat.le_trans h2 (by decide)) (fun k e acc P he hP => ?_) ?_
        · o_shape
          simp only [op_len_s h]
          o_shape
          rw [is_end' e _ (hb2 w (List.mem_of_getElem? hw) vs es e (List.mem_of_getElem? he))]
          o_shape
          exact hP
        · o_shape
          rw [op_all (bls_map _ vs)]
          o_shape
          have e2 : (vs.map fun e => endOk rs.length e).all id = vs.all (endOk rs.length) := by
            rw [List.all_map]
            rfl
          rw [e2]
          refine ⟨fun c => .inr ⟨i, w, hw, ?_, hi, rfl⟩, fun c => ⟨⟨_, _, _, rfl⟩, step ?_⟩⟩
          · simp [rowOk, es, c]
          · simp [rowOk, es, c, hlen]
  · rintro S ⟨⟨a, b, c, rfl⟩, hi⟩
    o_shape
    refine .inl fun x hx => ?_
    obtain ⟨j, hj⟩ := List.getElem?_of_mem hx
    exact hi j x (by rw [enm_len]; exact (List.getElem?_eq_some_iff.mp hj).1) hj
theorem bad_row_none {p : PV} (hp : basic p = true) (h : ∀ rs, seqOf p = some rs → rs.length < 1 ∨ 12 < rs.length) : run_bad_row [.leaf p] = .ok (.leaf (.int (-1))) [] := by
  apply WpR.eq
  rw [wp_run]
  unfold m_bad_row m_bad_row_3 m_bad_row_2 m_bad_row_1
  o_shape
  rw [is_row p _ _ hp]
  o_shape
  cases e : seqOf p with
  | none => simp [e]
  | some xs =>
    have := h xs e
    simp
    omega
theorem cano_cm {x : Option Nat} : cano (cmP x) = true := by cases x <;> rfl
theorem cano_end {e : Option (Option Nat)} : cano (endP e) = true := by
  cases e with
  | none => rfl
  | some x => exact cano_cm
theorem dok_cm {k : Nat} {x : Option Nat} : dok k (cmP x) = true := by cases x <;> cases k <;> rfl
theorem dok_end {k : Nat} {e : Option (Option Nat)} : dok k (endP e) = true := by
  cases e with
  | none => cases k <;> rfl
  | some x => exact dok_cm
theorem cm_inj {x y : Option Nat} : cmP x = cmP y ↔ x = y := by
  cases x <;> cases y <;> simp [cmP] <;> omega
theorem end_inj {x y : Option (Option Nat)} : endP x = endP y ↔ x = y := by
  cases x with
  | none => cases y with
    | none => simp
    | some y => cases y <;> simp [endP, cmP]
  | some x => cases y with
    | none => cases x <;> simp [endP, cmP]
    | some y => simp [endP, cm_inj]
theorem peq_end {x y : Option (Option Nat)} : peq (endP x) (endP y) = decide (x = y) := by
  by_cases h : x = y
  · subst h
    rw [(peq_iff cano_end cano_end).mpr rfl]
    simp
  · rw [peq_ne cano_end cano_end (fun z => h (end_inj.mp z))]
    simp [h]
theorem okE_end {x y : Option (Option Nat)} : okE (endP x) (endP y) = true := okE_of (k := 0) dok_end dok_end
theorem isNon_end {e : Option (Option Nat)} : isNon (endP e) = e.isNone := by
  cases e with
  | none => rfl
  | some x => cases x <;> rfl
theorem basic_end {e : Option (Option Nat)} : basic (endP e) = true := by
  cases e with
  | none => rfl
  | some x => cases x <;> rfl
theorem left_of {n : Nat} {f : Mf} {x y : Option Nat} (hx : ∀ a, x = some a → a < n) (hy : ∀ a, y = some a → a < n) : run_left_of [.leaf (rowsT n f), .leaf (cmP x), .leaf (cmP y)] = .ok (.leaf (endP (lo f x y))) [] := by
  apply WpR.eq
  rw [wp_run]
  unfold m_left_of m_left_of_2 m_left_of_1
  cases x with
  | none => cases y <;> (simp only [cmP]; o_shape; simp [lo, endP, cmP])
  | some a =>
    cases y with
    | none =>
      simp only [cmP]
      o_shape
      simp [lo, endP, cmP]
    | some b =>
      simp only [cmP, rowsT]
      o_shape
      rw [at_tab (hx a rfl)]
      o_shape
      simp only [rowT]
      o_shape
      rw [at_tab (hy b rfl)]
      o_shape
      rfl
def LeastBad (n : Nat) (f : Mf) (a b c : Nat) : Prop := (a < n ∧ b < n ∧ c < n) ∧ bad f a b c ∧ ∀ a' b' c', a' < n → b' < n → c' < n → bad f a' b' c' → a < a' ∨ (a = a' ∧ (b < b' ∨ (b = b' ∧ c ≤ c')))
theorem LeastBad.uniq {n : Nat} {f : Mf} {a b c a' b' c' : Nat} (h : LeastBad n f a b c) (h' : LeastBad n f a' b' c') : a = a' ∧ b = b' ∧ c = c' := by
  obtain ⟨⟨h1, h2, h3⟩, h4, h5⟩ := h
  obtain ⟨⟨g1, g2, g3⟩, g4, g5⟩ := h'
  have z1 := h5 a' b' c' g1 g2 g3 g4
  have z2 := g5 a b c h1 h2 h3 h4
  omega
theorem LeastBad.not {n : Nat} {f : Mf} {a b c : Nat} (h : LeastBad n f a b c) : ¬ Sd n f := fun s => s a b c h.1.1 h.1.2.1 h.1.2.2 h.2.1
theorem tab_at {α : Type} {n i : Nat} {f : Nat → α} {x : α} (h : (tab n f)[i]? = some x) : i < n ∧ x = f i := by
  unfold tab at h
  rw [List.getElem?_map] at h
  have hi : i < n := by
    rcases Nat.lt_or_ge i n with z | z
    · exact z
    · rw [List.getElem?_eq_none (by simpa using z)] at h
      cases h
  rw [List.getElem?_range hi] at h
  exact ⟨hi, (Option.some.inj h).symm⟩
theorem tab_len {α : Type} {n : Nat} {f : Nat → α} : (tab n f).length = n := by simp [tab]
def threeP (a b c : Nat) : PV := .tup [.int (a : Nat), .int (b : Nat), .int (c : Nat)]
theorem unsound_wp {n : Nat} {f : Mf} (hc : Cl n f) : WpR (run_unsound_three [.leaf (rowsT n f)]) (fun t os => os = [] ∧ ((t = .leaf .non ∧ Sd n f) ∨ ∃ a b c, LeastBad n f a b c ∧ t = .leaf (threeP a b c))) noER := by
  rw [wp_run]
  unfold m_unsound_three m_unsound_three_5 m_unsound_three_4 m_unsound_three_3 m_unsound_three_2 m_unsound_three_1
  simp only [rowsT]
  o_shape
  refine for_rule (fun i S => (∃ s1 s2 s3 s4 s5 s6, S = [some (.leaf (rowsT n f)), s1, s2, s3, s4, s5, s6]) ∧ ∀ a b c, a < i → b < n → c < n → ¬ bad f a b c) ⟨⟨_, _, _, _, _, _, rfl⟩, fun a b c h => absurd h (Nat.not_lt_zero a)⟩ ?_ ?_
  · rintro i x S hx ⟨⟨s1, s2, s3, s4, s5, s6, rfl⟩, hi⟩
    obtain ⟨w, hw, rfl⟩ := enm_at hx
    obtain ⟨hin, rfl⟩ := tab_at hw
    o_shape
    simp only [rowT]
    o_shape
    refine for_rule (fun m S => (∃ s3 s4 s5 s6, S = [some (.leaf (rowsT n f)), some (.leaf (.int (i : Nat))), some (.leaf (rowT n f i)), s3, s4, s5, s6]) ∧ ∀ b c, b < m → c < n → ¬ bad f i b c) ⟨⟨_, _, _, _, rfl⟩, fun b c h => absurd h (Nat.not_lt_zero b)⟩ ?_ ?_
    · rintro m x S hx ⟨⟨s3, s4, s5, s6, rfl⟩, hm⟩
      obtain ⟨w, hw, rfl⟩ := enm_at hx
      obtain ⟨hmn, rfl⟩ := tab_at hw
      o_shape
      rw [isNon_end]
      cases e1 : f i m with
      | none =>
        o_shape
        refine ⟨fun _ => ⟨⟨_, _, _, _, rfl⟩, fun b c hb hc2 => ?_⟩, fun z => by simp at z⟩
        rcases Nat.lt_succ_iff_lt_or_eq.mp hb with z | z
        · exact hm b c z hc2
        · subst z
          rintro ⟨x, y, h1, _⟩
          rw [e1] at h1
          cases h1
      | some x =>
        o_shape
        refine ⟨fun z => by simp at z, fun _ => ?_⟩
        simp only [rowsT]
        o_shape
        rw [at_tab hmn]
        o_shape
        simp only [rowT]
        o_shape
        refine for_rule (fun k S => (∃ s5 s6, S = [some (.leaf (rowsT n f)), some (.leaf (.int (i : Nat))), some (.leaf (rowT n f i)), some (.leaf (.int (m : Nat))), some (.leaf (endP (some x))), s5, s6]) ∧ ∀ c, c < k → ¬ bad f i m c) ⟨⟨_, _, rfl⟩, fun c h => absurd h (Nat.not_lt_zero c)⟩ ?_ ?_
        · rintro k y S hy ⟨⟨s5, s6, rfl⟩, hk⟩
          obtain ⟨w, hw, rfl⟩ := enm_at hy
          obtain ⟨hkn, rfl⟩ := tab_at hw
          o_shape
          rw [isNon_end]
          cases e2 : f m k with
          | none =>
            o_shape
            refine ⟨fun _ => ⟨⟨_, _, rfl⟩, fun c hc2 => ?_⟩, fun z => by simp at z⟩
            rcases Nat.lt_succ_iff_lt_or_eq.mp hc2 with z | z
            · exact hk c z
            · subst z
              rintro ⟨x, y, _, h1, _⟩
              rw [e2] at h1
              cases h1
          | some y =>
            o_shape
            refine ⟨fun z => by simp at z, fun _ => ?_⟩
            have b1 : ∀ a, x = some a → a < n := fun a ha => hc i m a hin hmn (by rw [e1, ha])
            have b2 : ∀ a, y = some a → a < n := fun a ha => hc m k a hmn hkn (by rw [e2, ha])
            have l1 := left_of (f := f) b1 (y := some k) (fun a ha => by cases ha; exact hkn)
            have l2 := left_of (f := f) (x := some i) (fun a ha => by cases ha; exact hin) b2
            simp only [endP]
            rw [show run_left_of [.leaf (rowsT n f), .leaf (cmP x), .leaf (.int (k : Nat))] = _ from l1]
            o_shape
            rw [show run_left_of [.leaf (rowsT n f), .leaf (.int (i : Nat)), .leaf (cmP y)] = _ from l2]
            o_shape
            refine ⟨okE_end, ?_⟩
            rw [peq_end]
            o_shape
            refine ⟨fun z => .inr ⟨i, m, k, ⟨⟨hin, hmn, hkn⟩, ⟨x, y, e1, e2, z⟩, fun a' b' c' ha hb hc2 hbad => ?_⟩, rfl⟩, fun z => ⟨⟨_, _, rfl⟩, fun c hc2 => ?_⟩⟩
            · have q1 : ¬ a' < i := fun q => hi a' b' c' q hb hc2 hbad
              by_cases q2 : a' = i
              · subst q2
                have q3 : ¬ b' < m := fun q => hm b' c' q hc2 hbad
                by_cases q4 : b' = m
                · subst q4
                  have q5 : ¬ c' < k := fun q => hk c' q hbad
                  omega
                · omega
              · omega
            · rcases Nat.lt_succ_iff_lt_or_eq.mp hc2 with q | q
              · exact hk c q
              · subst q
                rintro ⟨x', y', h1, h2, h3⟩
                rw [e1] at h1
                rw [e2] at h2
                cases h1
                cases h2
                exact h3 z
        · rintro S ⟨⟨s5, s6, rfl⟩, hk⟩
          rw [enm_len, tab_len] at hk
          o_shape
          refine ⟨⟨_, _, _, _, rfl⟩, fun b c hb hc2 => ?_⟩
          rcases Nat.lt_succ_iff_lt_or_eq.mp hb with z | z
          · exact hm b c z hc2
          · subst z
            exact hk c hc2
    · rintro S ⟨⟨s3, s4, s5, s6, rfl⟩, hm⟩
      rw [enm_len, tab_len] at hm
      o_shape
      refine ⟨⟨_, _, _, _, _, _, rfl⟩, fun a b c ha hb hc2 => ?_⟩
      rcases Nat.lt_succ_iff_lt_or_eq.mp ha with z | z
      · exact hi a b c z hb hc2
      · subst z
        exact hm b c hb hc2
  · rintro S ⟨⟨s1, s2, s3, s4, s5, s6, rfl⟩, hi⟩
    rw [enm_len, tab_len] at hi
    o_shape
    exact .inl fun a b c ha hb hc2 => hi a b c ha hb hc2
/-- rows as they are handed over, in whatever sequences -/
def Told (n : Nat) (f : Mf) (p : PV) : Prop := ∃ rs, seqOf p = some rs ∧ rs.length = n ∧ ∀ i r, rs[i]? = some r → seqOf r = some (tab n fun j => endP (f i j))
theorem told_T {n : Nat} {f : Mf} : Told n f (rowsT n f) := ⟨_, rfl, tab_len, fun i r h => by
  obtain ⟨_, rfl⟩ := tab_at h
  rfl⟩
theorem told_L {n : Nat} {f : Mf} : Told n f (rowsL n f) := ⟨_, rfl, tab_len, fun i r h => by
  obtain ⟨_, rfl⟩ := tab_at h
  rfl⟩
theorem endOk_end {n : Nat} {e : Option (Option Nat)} (h : ∀ c, e = some (some c) → c < n) : endOk n (endP e) = true := by
  rcases e with _ | _ | c
  · rfl
  · simp [endP, cmP, endOk]
    omega
  · have := h c rfl
    simp [endP, cmP, endOk]
    omega
theorem list_tab {α : Type} {l : List α} {n : Nat} {f : Nat → α} (hl : l.length = n) (h : ∀ i x, l[i]? = some x → x = f i) : l = tab n f := by
  apply List.ext_getElem?
  intro i
  by_cases hi : i < n
  · have hi' : i < l.length := by omega
    rw [List.getElem?_eq_getElem hi', h i _ (List.getElem?_eq_getElem hi')]
    unfold tab
    rw [List.getElem?_map, List.getElem?_range hi]
    rfl
  · rw [List.getElem?_eq_none (by omega), List.getElem?_eq_none (by rw [tab_len]; omega)]
theorem merger_wp {n : Nat} {f : Mf} {p : PV} (ht : Told n f p) (h1 : 1 ≤ n) (h2 : n ≤ 12) (hc : Cl n f) :
    WpR (run_Merger_init [.ins "Merger" [] [], .leaf p]) (fun t os => t = .leaf .non ∧ os = [mgO n f] ∧ Sd n f) (fun e os => os = [.ins "Merger" [] []] ∧ ∃ a b c, LeastBad n f a b c ∧ e = ⟨"Unsound", ["three"], [threeP a b c]⟩) := by
  obtain ⟨rs, hs, hl, hr⟩ := ht
  have hrow : ∀ r ∈ rs, ∃ i, i < n ∧ seqOf r = some (tab n fun j => endP (f i j)) := fun r hm => by
    obtain ⟨i, hi⟩ := List.getElem?_of_mem hm
    exact ⟨i, by rw [← hl]; exact (List.getElem?_eq_some_iff.mp hi).1, hr i r hi⟩
  rw [wp_run]
  unfold m_Merger_init m_Merger_init_2 m_Merger_init_1
  o_shape
  refine (bad_row_wp hs (by omega) (by omega) (fun r hm => ?_) (fun r hm es he e hem => ?_)).mono (fun t os q => ?_) (fun _ _ q => q.elim)
  · obtain ⟨i, _, h⟩ := hrow r hm
    exact seq_basic h
  · obtain ⟨i, _, h⟩ := hrow r hm
    rw [h] at he
    cases he
    obtain ⟨j, hj⟩ := List.getElem?_of_mem hem
    obtain ⟨_, rfl⟩ := tab_at hj
    exact basic_end
  obtain ⟨rfl, ⟨rfl, _⟩ | ⟨i, r, hi, hf, _⟩⟩ := q
  · o_shape
    rw [show Oi (seqOf p) _ _ = Oi (some rs) _ _ by rw [hs]]
    o_shape
    refine lc_map (fun r => .leaf (.tup ((seqOf r).getD []))) (by rw [hl]; exact Nat.le_trans h2 (by decide)) (fun k r acc P hr2 hP => ?_) ?_
    · o_shape
      obtain ⟨i, _, h⟩ := hrow r (List.mem_of_getElem? hr2)
      rw [op_tup_s h]
      o_shape
      rw [h] at hP
      exact hP
    · o_shape
      have e1 : (rs.map fun r => PV.tup ((seqOf r).getD [])) = tab n (rowT n f) := by
        refine list_tab (by simp [hl]) fun i x hx => ?_
        rw [List.getElem?_map] at hx
        obtain ⟨r, hr1, hr2⟩ := Option.map_eq_some_iff.mp hx
        rw [← hr2]
        show PV.tup ((seqOf r).getD []) = _
        rw [hr i r hr1]
        rfl
      rw [e1]
      refine (unsound_wp hc).mono (fun t os q => ?_) (fun _ _ q => q.elim)
      obtain ⟨rfl, ⟨rfl, hsd⟩ | ⟨a, b, c, hlb, rfl⟩⟩ := q
      · o_shape
        exact ⟨by decide, by decide, rfl, hsd⟩
      · simp only [threeP]
        o_shape
        exact ⟨a, b, c, hlb, rfl⟩
  · obtain ⟨k, hk, h⟩ := hrow r (List.mem_of_getElem? hi)
    simp only [rowOk, h] at hf
    simp only [tab_len, hl, decide_true, Bool.true_and, List.all_eq_false] at hf
    obtain ⟨e, he, hne⟩ := hf
    obtain ⟨j, hj⟩ := List.getElem?_of_mem he
    obtain ⟨hjn, rfl⟩ := tab_at hj
    exact absurd (endOk_end fun c hc2 => hc k j c hk hjn hc2) hne
theorem merger_ok {n : Nat} {f : Mf} {p : PV} (ht : Told n f p) (h1 : 1 ≤ n) (h2 : n ≤ 12) (hc : Cl n f) (hs : Sd n f) : run_Merger_init [.ins "Merger" [] [], .leaf p] = .ok (.leaf .non) [mgO n f] := by
  apply WpR.eq
  refine (merger_wp ht h1 h2 hc).mono (fun t os q => ⟨q.1, q.2.1⟩) (fun e os q => ?_)
  obtain ⟨_, a, b, c, hlb, _⟩ := q
  exact hlb.not hs
theorem merger_unsound {n : Nat} {f : Mf} {p : PV} {a b c : Nat} (ht : Told n f p) (h1 : 1 ≤ n) (h2 : n ≤ 12) (hc : Cl n f) (hb : LeastBad n f a b c) : run_Merger_init [.ins "Merger" [] [], .leaf p] = .err ⟨"Unsound", ["three"], [threeP a b c]⟩ [.ins "Merger" [] []] := by
  apply WpR.eqE
  refine (merger_wp ht h1 h2 hc).mono (fun t os q => hb.not q.2.2) (fun e os q => ?_)
  obtain ⟨h, a', b', c', hlb, he⟩ := q
  obtain ⟨rfl, rfl, rfl⟩ := hb.uniq hlb
  exact ⟨he, h⟩
theorem merger_bad {p : PV} {rs : List PV} {i : Nat} {r : PV} (h : seqOf p = some rs) (h1 : 1 ≤ rs.length) (h2 : rs.length ≤ 12) (hb : ∀ r ∈ rs, basic r = true) (hb2 : ∀ r ∈ rs, ∀ es, seqOf r = some es → ∀ e ∈ es, basic e = true)
    (hi : rs[i]? = some r) (hf : rowOk rs.length r = false) (hj : ∀ j v, j < i → rs[j]? = some v → rowOk rs.length v = true) : run_Merger_init [.ins "Merger" [] [], .leaf p] = .err ⟨"BadMerger", ["at"], [.int (i : Nat)]⟩ [.ins "Merger" [] []] := by
  apply WpR.eqE
  rw [wp_run]
  unfold m_Merger_init m_Merger_init_2 m_Merger_init_1
  o_shape
  refine (bad_row_wp h h1 h2 hb hb2).mono (fun t os q => ?_) (fun _ _ q => q.elim)
  obtain ⟨rfl, ⟨rfl, hall⟩ | ⟨k, r', hk, hf', hj', rfl⟩⟩ := q
  · rw [hall r (List.mem_of_getElem? hi)] at hf
    cases hf
  · have : k = i := by
      rcases Nat.lt_trichotomy k i with z | z | z
      · rw [hj k r' z hk] at hf'
        cases hf'
      · exact z
      · rw [hj' i r z hi] at hf
        cases hf
    subst this
    o_shape
theorem merger_none {p : PV} (hp : basic p = true) (h : ∀ rs, seqOf p = some rs → rs.length < 1 ∨ 12 < rs.length) : run_Merger_init [.ins "Merger" [] [], .leaf p] = .err ⟨"BadMerger", ["at"], [.int (-1)]⟩ [.ins "Merger" [] []] := by
  apply WpR.eqE
  rw [wp_run]
  unfold m_Merger_init m_Merger_init_2 m_Merger_init_1
  o_shape
  rw [bad_row_none hp h]
  o_shape
/-! ### queues -/
def cmsP (q : List Nat) : List PV := q.map fun c => .int (c : Nat)
theorem cms_len {q : List Nat} : (cmsP q).length = q.length := by simp [cmsP]
theorem cms_at {q : List Nat} {i : Nat} {x : PV} (h : (cmsP q)[i]? = some x) : ∃ c, q[i]? = some c ∧ x = .int (c : Nat) := by
  unfold cmsP at h
  rw [List.getElem?_map] at h
  obtain ⟨c, h1, h2⟩ := Option.map_eq_some_iff.mp h
  exact ⟨c, h1, h2.symm⟩
theorem cms_get {q : List Nat} {i c : Nat} (h : q[i]? = some c) : (cmsP q)[i]? = some (.int (c : Nat)) := by
  unfold cmsP
  rw [List.getElem?_map, h]
  rfl
theorem cms_basic {q : List Nat} : ∀ x ∈ cmsP q, basic x = true := fun x h => by
  obtain ⟨c, _, rfl⟩ := List.mem_map.mp h
  rfl
theorem cms_below {q : List Nat} {n : Nat} (h : ∀ c ∈ q, c < n) : ∀ x ∈ cmsP q, belowP n x = true := fun x hx => by
  obtain ⟨c, hc, rfl⟩ := List.mem_map.mp hx
  have := h c hc
  simp [belowP]
  omega
def placesOf (f : Mf) (q : List Nat) : List Nat := (List.range (q.length - 1)).filter fun i => (f (q.getD i 0) (q.getD (i + 1) 0)).isSome
theorem getD_of {q : List Nat} {i c : Nat} (h : q[i]? = some c) : q.getD i 0 = c := by simp [List.getD, h]
theorem places_of {n : Nat} {f : Mf} {q : List Nat} (hq : ∀ c ∈ q, c < n) (hl : q.length ≤ 10000) : run_places_of [.leaf (rowsT n f), .leaf (.tup (cmsP q))] = .ok (.leaf (.tup (cmsP (placesOf f q)))) [] := by
  apply WpR.eq
  rw [wp_run]
  unfold m_places_of
  o_shape
  rw [show (1 : Int) = ((1 : Nat) : Int) from rfl, cut_from]
  unfold fLZ
  o_shape
  simp only [tpOf, if_true]
  o_shape
  refine lc_ix (fun i => (f (q.getD i 0) (q.getD (i + 1) 0)).isSome) (fun i => .leaf (.int (i : Nat))) ?_ (fun i x acc P hx hP => ?_) ?_
  · rw [enm_len, zp_len, cms_len]
    exact Nat.le_trans (Nat.min_le_left _ _) (Nat.le_trans hl (by decide))
  · obtain ⟨w, hw, rfl⟩ := enm_at hx
    obtain ⟨x, y, h1, h2, rfl⟩ := zp_at hw
    obtain ⟨c, hc, rfl⟩ := cms_at h1
    rw [List.getElem?_drop] at h2
    obtain ⟨d, hd, rfl⟩ := cms_at h2
    rw [Nat.add_comm] at hd
    o_shape
    simp only [rowsT]
    o_shape
    rw [at_tab (hq c (List.mem_of_getElem? hc))]
    o_shape
    simp only [rowT]
    o_shape
    rw [at_tab (hq d (List.mem_of_getElem? hd))]
    o_shape
    rw [isNon_end]
    rw [getD_of hc, getD_of hd] at hP
    cases e : f c d with
    | none =>
      rw [e] at hP
      exact ⟨fun z => by simp at z, fun _ => hP⟩
    | some x =>
      rw [e] at hP
      exact ⟨fun _ => hP, fun z => by simp at z⟩
  · o_shape
    rw [enm_len, zp_len, cms_len, List.length_drop, cms_len]
    have : min q.length (q.length - 1) = q.length - 1 := by omega
    rw [this]
    rfl
theorem check_command {n : Nat} {f : Mf} {p : PV} (hp : basic p = true) : run_check_command [.leaf (mgP n f), .leaf p] = if belowP n p = true then .ok (.leaf .non) [] else .err ⟨"NoCommand", ["command"], [p]⟩ [] := by
  have key : ∀ b, belowP n p = b → WpR (run_check_command [.leaf (mgP n f), .leaf p]) (fun t os => b = true ∧ t = .leaf .non ∧ os = []) (fun e os => b = false ∧ e = ⟨"NoCommand", ["command"], [p]⟩ ∧ os = []) := by
    intro b hb
    rw [wp_run]
    unfold m_check_command
    o_shape
    rw [show Op (fFld ["Merger"] "commands" (mgP n f)) _ _ = _ from op_some (t := .leaf (.int (n : Nat)))]
    o_shape
    rw [is_below p n hp, hb]
    o_shape
    cases b <;> simp <;> o_shape
  by_cases h : belowP n p = true
  · rw [if_pos h]
    exact WpR.eq ((key true h).mono (fun t os q => q.2) (fun e os q => by cases q.1))
  · rw [if_neg h]
    exact WpR.eqE ((key false (by simpa using h)).mono (fun t os q => by cases q.1) (fun e os q => q.2))
theorem cmd_ok {n : Nat} {f : Mf} {a : Nat} (h : a < n) : run_check_command [.leaf (mgP n f), .leaf (.int (a : Nat))] = .ok (.leaf .non) [] := by
  rw [check_command rfl, if_pos (by simp [belowP]; omega)]
theorem cmd_bad {n : Nat} {f : Mf} {p : PV} (hp : basic p = true) (h : belowP n p = false) : run_check_command [.leaf (mgP n f), .leaf p] = .err ⟨"NoCommand", ["command"], [p]⟩ [] := by
  rw [check_command hp, if_neg (by simp [h])]
theorem fld_rows {n : Nat} {f : Mf} {S : Sl} {Q : QO} : Op (fFld ["Merger"] "rows" (mgP n f)) S Q = Q (.leaf (rowsT n f)) S := op_some
theorem fld_commands {n : Nat} {f : Mf} {S : Sl} {Q : QO} : Op (fFld ["Merger"] "commands" (mgP n f)) S Q = Q (.leaf (.int (n : Nat))) S := op_some
theorem at_rows {n : Nat} {f : Mf} {i : Nat} {S : Sl} {Q : QO} (h : i < n) : Op (pIx (rowsT n f) (.int (i : Nat))) S Q = Q (.leaf (rowT n f i)) S := by
  unfold rowsT
  o_shape
  rw [at_tab h]
  o_shape
theorem at_row {n : Nat} {f : Mf} {i j : Nat} {S : Sl} {Q : QO} (h : j < n) : Op (pIx (rowT n f i) (.int (j : Nat))) S Q = Q (.leaf (endP (f i j))) S := by
  unfold rowT
  o_shape
  rw [at_tab h]
  o_shape
theorem merged_ok {n : Nat} {f : Mf} {a b : Nat} (ha : a < n) (hb : b < n) : run_merged [.leaf (mgP n f), .leaf (.int (a : Nat)), .leaf (.int (b : Nat))] = .ok (.leaf (endP (f a b))) [] := by
  apply WpR.eq
  rw [wp_run]
  unfold m_merged
  o_shape
  rw [cmd_ok ha]
  o_shape
  rw [cmd_ok hb]
  o_shape
  rw [fld_rows]
  o_shape
  rw [at_rows ha]
  o_shape
  rw [at_row hb]
  o_shape
theorem merged_bad1 {n : Nat} {f : Mf} {p q : PV} (hp : basic p = true) (h : belowP n p = false) : run_merged [.leaf (mgP n f), .leaf p, .leaf q] = .err ⟨"NoCommand", ["command"], [p]⟩ [] := by
  apply WpR.eqE
  rw [wp_run]
  unfold m_merged
  o_shape
  rw [cmd_bad hp h]
  o_shape
theorem merged_bad2 {n : Nat} {f : Mf} {a : Nat} {q : PV} (ha : a < n) (hp : basic q = true) (h : belowP n q = false) : run_merged [.leaf (mgP n f), .leaf (.int (a : Nat)), .leaf q] = .err ⟨"NoCommand", ["command"], [q]⟩ [] := by
  apply WpR.eqE
  rw [wp_run]
  unfold m_merged
  o_shape
  rw [cmd_ok ha]
  o_shape
  rw [cmd_bad hp h]
  o_shape
theorem three_bad {n : Nat} {f : Mf} {p q r w : PV} (hp : basic p = true) (hq : basic q = true) (hr : basic r = true)
    (h : (belowP n p = false ∧ w = p) ∨ (belowP n p = true ∧ belowP n q = false ∧ w = q) ∨ (belowP n p = true ∧ belowP n q = true ∧ belowP n r = false ∧ w = r)) : run_three_ends [.leaf (mgP n f), .leaf p, .leaf q, .leaf r] = .err ⟨"NoCommand", ["command"], [w]⟩ [] := by
  have ok : ∀ p, basic p = true → belowP n p = true → run_check_command [.leaf (mgP n f), .leaf p] = .ok (.leaf .non) [] := fun p hp h => by rw [check_command hp, if_pos h]
  apply WpR.eqE
  rw [wp_run]
  unfold m_three_ends m_three_ends_3 m_three_ends_2 m_three_ends_1
  o_shape
  rcases h with ⟨h, rfl⟩ | ⟨h1, h, rfl⟩ | ⟨h1, h2, h, rfl⟩
  · refine for_rule (fun i S => i = 0 ∧ S = initS 8 [.leaf (mgP n f), .leaf w, .leaf q, .leaf r]) ⟨rfl, rfl⟩ ?_ ?_
    · rintro i x S hx ⟨rfl, rfl⟩
      have hx := Option.some.inj hx
      subst hx
      o_shape
      rw [cmd_bad hp h]
      o_shape
    · rintro S ⟨h, _⟩
      simp at h
  · refine for_rule (fun i S => i ≤ 1 ∧ ∃ z, S = [some (.leaf (mgP n f)), some (.leaf p), some (.leaf w), some (.leaf r), z, none, none, none]) ⟨by omega, _, rfl⟩ ?_ ?_
    · rintro i x S hx ⟨hi, z, rfl⟩
      match i, hi with
      | 0, _ =>
        have hx := Option.some.inj hx
        subst hx
        o_shape
        rw [ok _ hp h1]
        o_shape
        exact ⟨_, rfl⟩
      | 1, _ =>
        have hx := Option.some.inj hx
        subst hx
        o_shape
        rw [cmd_bad hq h]
        o_shape
    · rintro S ⟨h, _⟩
      simp at h
  · refine for_rule (fun i S => i ≤ 2 ∧ ∃ z, S = [some (.leaf (mgP n f)), some (.leaf p), some (.leaf q), some (.leaf w), z, none, none, none]) ⟨by omega, _, rfl⟩ ?_ ?_
    · rintro i x S hx ⟨hi, z, rfl⟩
      match i, hi with
      | 0, _ =>
        have hx := Option.some.inj hx
        subst hx
        o_shape
        rw [ok _ hp h1]
        o_shape
        exact ⟨_, rfl⟩
      | 1, _ =>
        have hx := Option.some.inj hx
        subst hx
        o_shape
        rw [ok _ hq h2]
        o_shape
        exact ⟨_, rfl⟩
      | 2, _ =>
        have hx := Option.some.inj hx
        subst hx
        o_shape
        rw [cmd_bad hr h]
        o_shape
    · rintro S ⟨h, _⟩
      simp at h
theorem three_ok {n : Nat} {f : Mf} {a b c : Nat} (ha : a < n) (hb : b < n) (hc : c < n) (hcl : Cl n f) : run_three_ends [.leaf (mgP n f), .leaf (.int (a : Nat)), .leaf (.int (b : Nat)), .leaf (.int (c : Nat))] =
    .ok (.leaf (match f a b, f b c with | some x, some y => .tup [endP (lo f x (some c)), endP (lo f (some a) y)] | _, _ => .non)) [] := by
  apply WpR.eq
  rw [wp_run]
  unfold m_three_ends m_three_ends_3 m_three_ends_2 m_three_ends_1
  o_shape
  refine for_rule (fun i S => ∃ z, S = [some (.leaf (mgP n f)), some (.leaf (.int (a : Nat))), some (.leaf (.int (b : Nat))), some (.leaf (.int (c : Nat))), z, none, none, none]) ⟨_, rfl⟩ ?_ ?_
  · rintro i x S hx ⟨z, rfl⟩
    have hx2 : ∃ d, d < n ∧ x = .int (d : Nat) := by
      match i, hx with
      | 0, hx => exact ⟨a, ha, (Option.some.inj hx).symm⟩
      | 1, hx => exact ⟨b, hb, (Option.some.inj hx).symm⟩
      | 2, hx => exact ⟨c, hc, (Option.some.inj hx).symm⟩
      | i + 3, hx => simp at hx
    obtain ⟨d, hd, rfl⟩ := hx2
    o_shape
    rw [cmd_ok hd]
    o_shape
    exact ⟨_, rfl⟩
  · rintro S ⟨z, rfl⟩
    o_shape
    rw [fld_rows]
    o_shape
    rw [at_rows ha]
    o_shape
    rw [at_row hb]
    o_shape
    rw [at_rows hb]
    o_shape
    rw [at_row hc]
    o_shape
    rw [isNon_end, isNon_end]
    cases e1 : f a b with
    | none => simp
    | some x =>
      cases e2 : f b c with
      | none => simp
      | some y =>
        simp
        o_shape
        have b1 : ∀ a', x = some a' → a' < n := fun a' h => hcl a b a' ha hb (by rw [e1, h])
        have b2 : ∀ a', y = some a' → a' < n := fun a' h => hcl b c a' hb hc (by rw [e2, h])
        have l1 := left_of (f := f) b1 (y := some c) (fun a h => by cases h; exact hc)
        have l2 := left_of (f := f) (x := some a) (fun a h => by cases h; exact ha) b2
        simp only [endP]
        rw [show run_left_of [.leaf (rowsT n f), .leaf (cmP x), .leaf (.int (c : Nat))] = _ from l1]
        o_shape
        rw [show run_left_of [.leaf (rowsT n f), .leaf (.int (a : Nat)), .leaf (cmP y)] = _ from l2]
        o_shape
        rfl
theorem check_queue {n : Nat} {f : Mf} {p : PV} {t : OT} (h : run_queue_of [.leaf (.int (n : Nat)), .leaf p] = .ok t []) : run_check_queue [.leaf (mgP n f), .leaf p] = .ok t [] := by
  apply WpR.eq
  rw [wp_run]
  unfold m_check_queue
  o_shape
  rw [fld_commands]
  o_shape
  rw [h]
  o_shape
theorem check_queueE {n : Nat} {f : Mf} {p : PV} {x : Exn} (h : run_queue_of [.leaf (.int (n : Nat)), .leaf p] = .err x []) : run_check_queue [.leaf (mgP n f), .leaf p] = .err x [] := by
  apply WpR.eqE
  rw [wp_run]
  unfold m_check_queue
  o_shape
  rw [fld_commands]
  o_shape
  rw [h]
  o_shape
theorem places_ok {n : Nat} {f : Mf} {p : PV} {q : List Nat} (h : seqOf p = some (cmsP q)) (hq : ∀ c ∈ q, c < n) (hl : q.length ≤ 10000) : run_mergeable_places [.leaf (mgP n f), .leaf p] = .ok (.leaf (.tup (cmsP (placesOf f q)))) [] := by
  apply WpR.eq
  rw [wp_run]
  unfold m_mergeable_places
  o_shape
  rw [fld_rows]
  o_shape
  rw [check_queue (queue_ok h (by rw [cms_len]; exact hl) cms_basic (cms_below hq))]
  o_shape
  rw [places_of hq hl]
  o_shape
theorem places_err {n : Nat} {f : Mf} {p : PV} {x : Exn} (h : run_queue_of [.leaf (.int (n : Nat)), .leaf p] = .err x []) : run_mergeable_places [.leaf (mgP n f), .leaf p] = .err x [] := by
  apply WpR.eqE
  rw [wp_run]
  unfold m_mergeable_places
  o_shape
  rw [fld_rows]
  o_shape
  rw [check_queueE h]
  o_shape
theorem folded_ok {n : Nat} {f : Mf} {p : PV} {q : List Nat} (h : seqOf p = some (cmsP q)) (hq : ∀ c ∈ q, c < n) (hl : q.length ≤ 10000) : run_is_folded [.leaf (mgP n f), .leaf p] = .ok (.leaf (.bl (decide (placesOf f q = [])))) [] := by
  apply WpR.eq
  rw [wp_run]
  unfold m_is_folded
  o_shape
  rw [places_ok h hq hl]
  o_shape
  rw [cms_len]
  congr 3
  cases placesOf f q <;> simp
  omega
theorem folded_err {n : Nat} {f : Mf} {p : PV} {x : Exn} (h : run_queue_of [.leaf (.int (n : Nat)), .leaf p] = .err x []) : run_is_folded [.leaf (mgP n f), .leaf p] = .err x [] := by
  apply WpR.eqE
  rw [wp_run]
  unfold m_is_folded
  o_shape
  rw [places_err h]
  o_shape
theorem merger_eq {n m : Nat} {f g : Mf} : run_Merger_eq [.leaf (mgP n f), .leaf (mgP m g)] = .ok (.leaf (.bl (peq (rowsT n f) (rowsT m g)))) [] := by
  apply WpR.eq
  rw [wp_run]
  unfold m_Merger_eq
  o_shape
  rw [show fIsi tab_Merger (.o "Merger") (mgP m g) = some (.leaf (.bl true)) from rfl]
  o_shape
  rw [fld_rows]
  o_shape
  rw [fld_rows]
  o_shape
  refine okE_of (k := 2) ?_ ?_ <;>
  · simp only [rowsT, dok, doks_all, List.all_map, List.all_eq_true]
    intro i _
    simp only [Function.comp, rowT, dok, doks_all, List.all_map, List.all_eq_true]
    intro j _
    exact dok_end
theorem merger_eq_no {n : Nat} {f : Mf} {q : PV} (hq : basic q = true) : run_Merger_eq [.leaf (mgP n f), .leaf q] = .ok (.leaf (.bl false)) [] := by
  cases q <;> first | rfl | (simp [basic] at hq)
theorem kVar_mg {n : Nat} {f : Mf} {i : Nat} {S : Sl} {Q : QO} : KVar (some (some (mgO n f))) i S Q = Q (.leaf (mgP n f)) (S.set i (some (.leaf (mgP n f)))) := by
  unfold mgO
  rw [kVar_i]
  rfl
end PgS


namespace K01
open PySem Fy Pg PgS
/-! ### the box -/
abbrev bx (a b c : Int) : OT := .node [.leaf (.int a), .leaf (.int b), .leaf (.int c)]
def Bx (k : Nat) (t : OT) : Prop := ∃ a b c : Int, t = bx a b c ∧ 0 ≤ a ∧ 0 ≤ b ∧ b ≤ 4294967296 ∧ 0 ≤ c ∧ c ≤ k
theorem Bx.mono {k k' : Nat} {t : OT} (h : Bx k t) (hk : k ≤ k') : Bx k' t := by
  obtain ⟨a, b, c, h1, h2, h3, h4, h5, h6⟩ := h
  exact ⟨a, b, c, h1, h2, h3, h4, h5, by omega⟩
theorem sel2i {y : Int} {c : Prop} [Decidable c] : L2.atI [PV.int 0, PV.int y] (if c then 1 else 0) = some (.int (if c then y else 0)) := by
  by_cases h : c
  · rw [if_pos h, if_pos h, at_1]
    rfl
  · rw [if_neg h, if_neg h, at_0]
    rfl
theorem box_use {ns : List Int} {k : Nat} (hk : k ≤ 100) {Q : OT → List OT → Prop} {E : Exn → List OT → Prop} (h : ∀ t, Bx 0 t → Q t []) : WpR (run_law_box [.leaf (.rls (ns.map .int)), .leaf (.int (k : Nat))]) Q E := by
  rw [wp_run]
  unfold m_law_box m_law_box_1
  o_shape
  have fin : ∀ cell : Int, 0 ≤ cell → Q (bx (if 10 ^ Int.toNat 18 ≤ cell then cell else 0) ((cell % 2147483477 * 37561 + 29009 * (k : Int)) % 2147483477 + 1) 0) [] := fun cell hc => by
    refine h _ ⟨_, _, _, rfl, ?_, ?_, ?_, by decide, by decide⟩
    · split <;> omega
    · omega
    · omega
  refine ⟨mulOk (by omega) (by omega), fun h1 => ?_, fun h1 => ⟨fun h2 => ⟨by omega, ?_⟩, fun h2 => ?_⟩⟩
  · rw [at_nat, List.getElem?_map, List.getElem?_eq_getElem (by omega)]
    generalize ns[k] = z
    o_shape
    rw [sel2i]
    o_shape
    have hz : 0 ≤ (if z < 0 then -z else z) := by split <;> omega
    generalize (if z < 0 then -z else z) = y at hz ⊢
    simp only [fmod_eq (show (0 : Int) ≤ 2147483477 by decide)]
    w_means
    exact fin _ hz
  · have q1 := Int.emod_lt_of_pos (k : Int) (b := (ns.length : Int)) (by omega)
    have q2 := Int.emod_nonneg (k : Int) (b := (ns.length : Int)) (by omega)
    obtain ⟨z, hz⟩ : ∃ z, ns[((k : Int) % (ns.length : Int)).toNat]? = some z := ⟨_, List.getElem?_eq_getElem (by omega)⟩
    rw [fmod_eq (by omega), at_int q2, List.getElem?_map, hz]
    o_shape
    rw [sel2i]
    o_shape
    have hz : 0 ≤ (if z < 0 then -z else z) := by split <;> omega
    generalize (if z < 0 then -z else z) = y at hz ⊢
    simp only [fmod_eq (show (0 : Int) ≤ 2147483477 by decide)]
    w_means
    exact fin _ (by omega)
  · rw [sel2i]
    o_shape
    simp only [fmod_eq (show (0 : Int) ≤ 2147483477 by decide)]
    w_means
    exact fin _ (by omega)
theorem take_use {k : Nat} {t : OT} {n : Int} (hb : Bx k t) (hn : 0 < n) (hn2 : n < 1073741824) (hk : k ≤ 1099511627776) {Q : OT → List OT → Prop} {E : Exn → List OT → Prop} (h : ∀ (d : Nat) t', (d : Int) < n → Bx (k + 1) t' → Q (.leaf (.int (d : Nat))) [t']) : WpR (run_law_take [t, .leaf (.int n)]) Q E := by
  obtain ⟨a, b, c, rfl, ha, hb1, hb2, hc1, hc2⟩ := hb
  have fin : ∀ (z a b c : Int), 0 ≤ a → 0 ≤ b → b ≤ 4294967296 → 0 ≤ c → c ≤ k + 1 → Q (.leaf (.int (z % n))) [bx a b c] := fun z a b c h1 h2 h3 h4 h5 => by
    have z1 := Int.emod_lt_of_pos z hn
    have z2 := Int.emod_nonneg z (show n ≠ 0 by omega)
    have e : z % n = ((z % n).toNat : Int) := by omega
    rw [e]
    exact h _ _ (by omega) ⟨_, _, _, rfl, h1, h2, h3, h4, by omega⟩
  rw [wp_run]
  unfold m_law_take m_law_take_1
  o_shape
  refine ⟨fun h1 => ?_, fun h1 => ?_⟩
  · rw [fmod_eq (by omega), fdiv_eq (by omega)]
    w_means
    exact fin _ _ _ _ (Int.ediv_nonneg ha (by omega)) hb1 hb2 hc1 (by omega)
  · simp only [fmod_eq (show (0 : Int) ≤ 2147483423 by decide), fmod_eq (show (0 : Int) ≤ 2147483477 by decide), fdiv_eq (show (0 : Int) ≤ 8191 by decide), fmod_eq (show (0 : Int) ≤ n by omega)]
    w_means
    refine fin _ _ _ _ ha ?_ ?_ (by omega) (by omega) <;> omega
theorem pick_use {k : Nat} {t : OT} {p : PV} {xs : List PV} (hb : Bx k t) (hp : seqOf p = some xs) (hx : 0 < xs.length) (hx2 : xs.length < 1073741824) (hk : k ≤ 1099511627776) {Q : OT → List OT → Prop} {E : Exn → List OT → Prop} (h : ∀ x t', x ∈ xs → Bx (k + 1) t' → Q (.leaf x) [t']) : WpR (run_law_pick [t, .leaf p]) Q E := by
  rw [wp_run]
  unfold m_law_pick
  o_shape
  rw [op_len_s hp]
  o_shape
  refine take_use hb (by omega) (by omega) hk fun d t' hd hb' => ?_
  o_shape
  rw [op_ix_s hp, at_nat, List.getElem?_eq_getElem (by omega)]
  o_shape
  exact h _ _ (List.getElem_mem _) hb'
theorem Bx.noT {k : Nat} {t : OT} (h : Bx k t) {b : Bool} : noT b t = true := by
  obtain ⟨a, b', c, rfl, _⟩ := h
  simp [bx, Fy.noT, Fy.noTs, Fy.noP]
theorem noPs_cms {b : Bool} : ∀ {l : List Nat}, noPs b (cmsP l) = true
  | [] => by simp [cmsP, noPs]
  | c :: l => by
    have := noPs_cms (b := b) (l := l)
    simp only [cmsP, List.map_cons, noPs, noP, Bool.true_and] at this ⊢
    exact this
def mapP (l : List Nat) : PV := .tup (cmsP l)
def IsMap (st : Nat) (l : List Nat) : Prop := l.length = st ∧ ∀ c ∈ l, c < st
structure Maps (st : Nat) (T : List (List Nat)) : Prop where
  is : ∀ l ∈ T, IsMap st l ∧ l ≠ List.range st
  nd : T.Nodup
theorem rng_cms {n : Nat} : rng 0 n = cmsP (List.range n) := by
  unfold rng cmsP
  refine List.map_congr_left fun i _ => ?_
  simp
theorem cano_cms {l : List Nat} : canos (cmsP l) = true := by
  rw [canos_all, List.all_eq_true]
  intro x hx
  obtain ⟨c, _, rfl⟩ := List.mem_map.mp hx
  rfl
theorem cano_map {l : List Nat} : cano (mapP l) = true := by
  simp only [mapP, cano]
  exact cano_cms
theorem cms_inj {l m : List Nat} (h : cmsP l = cmsP m) : l = m := by
  induction l generalizing m with
  | nil => cases m <;> simp [cmsP] at h ⊢
  | cons a l ih =>
    cases m with
    | nil => simp [cmsP] at h
    | cons b m =>
      simp only [cmsP, List.map_cons, List.cons.injEq, PV.int.injEq] at h
      rw [ih (m := m) h.2, show a = b by omega]
theorem map_inj {l m : List Nat} (h : mapP l = mapP m) : l = m := by
  simp only [mapP, PV.tup.injEq] at h
  exact cms_inj h
theorem dok_cms {k : Nat} {l : List Nat} : doks k (cmsP l) = true := by
  rw [doks_all, List.all_eq_true]
  intro x hx
  obtain ⟨c, _, rfl⟩ := List.mem_map.mp hx
  cases k <;> rfl
theorem dok_map {l : List Nat} : dok 1 (mapP l) = true := by
  simp only [mapP, dok]
  exact dok_cms
theorem peq_map {l m : List Nat} : peq (mapP l) (mapP m) = decide (l = m) := by
  by_cases h : l = m
  · subst h
    rw [(peq_iff cano_map cano_map).mpr rfl]
    simp
  · rw [peq_ne cano_map cano_map (fun z => h (map_inj z))]
    simp [h]
theorem doks_maps {T : List (List Nat)} : doks 1 (T.map mapP) = true := by
  rw [doks_all, List.all_eq_true]
  intro x hx
  obtain ⟨c, _, rfl⟩ := List.mem_map.mp hx
  exact dok_map
theorem any_maps {l : List Nat} {T : List (List Nat)} : ((T.map mapP).any fun z => peq z (mapP l)) = decide (l ∈ T) := by
  rw [List.any_map, Bool.eq_iff_iff, List.any_eq_true, decide_eq_true_eq]
  constructor
  · rintro ⟨m, hm, h⟩
    have h : peq (mapP m) (mapP l) = true := h
    rw [peq_map, decide_eq_true_eq] at h
    exact h ▸ hm
  · intro h
    exact ⟨l, h, by show peq (mapP l) (mapP l) = true; rw [peq_map]; simp⟩
theorem notIn_maps {l : List Nat} {T : List (List Nat)} {S : Sl} {Q : QO} : Op (pNotIn (mapP l) (.lst (T.map mapP))) S Q = Q (.leaf (.bl (!decide (l ∈ T)))) S := by
  rw [op_notIn (k := 1) rfl dok_map doks_maps, any_maps]
theorem in_maps {l : List Nat} {T : List (List Nat)} {S : Sl} {Q : QO} : Op (pIn (mapP l) (.lst (T.map mapP))) S Q = Q (.leaf (.bl (decide (l ∈ T)))) S := by
  rw [op_in (k := 1) rfl dok_map doks_maps, any_maps]
theorem rep_cms {d n : Nat} : (List.replicate n [PV.int (d : Nat)]).flatten = cmsP (List.replicate n d) := by
  induction n with
  | zero => rfl
  | succ n ih =>
    rw [List.replicate_succ, List.flatten_cons, ih]
    rfl
theorem isMap_rep {st d : Nat} (h : d < st) : IsMap st (List.replicate st d) := ⟨by simp, fun c hc => by
  obtain ⟨_, rfl⟩ := List.mem_replicate.mp hc
  exact h⟩
theorem rep_ne {st d : Nat} (h : 2 ≤ st) : List.replicate st d ≠ List.range st := fun e => by
  have h0 : (List.replicate st d)[0]? = (List.range st)[0]? := by rw [e]
  have h1 : (List.replicate st d)[1]? = (List.range st)[1]? := by rw [e]
  rw [List.getElem?_replicate, List.getElem?_range (by omega), if_pos (by omega)] at h0
  rw [List.getElem?_replicate, List.getElem?_range (by omega), if_pos (by omega)] at h1
  simp only [Option.some.injEq] at h0 h1
  omega
theorem noT_map {b : Bool} {l : List Nat} : noT b (.leaf (mapP l)) = true := by
  simp only [Fy.noT, mapP, noP]
  exact noPs_cms
abbrev mapsO (T : List (List Nat)) : OT := .node (T.map fun l => .leaf (mapP l))
abbrev MSl (m st : Nat) (T : List (List Nat)) (t : OT) (s3 s6 s7 s8 s9 s10 : Option OT) : Sl := [some t, some (.leaf (.int (m : Nat))), some (.leaf (.int (st : Nat))), s3, some (.leaf (mapP (List.range st))), some (mapsO T), s6, s7, s8, s9, s10]
theorem ne_maps {T : List (List Nat)} : peq (.lst (T.map mapP)) (.lst []) = decide (T = []) := by
  cases T with
  | nil => rfl
  | cons l T => rw [peq_ll, List.map_cons, peqs_cn]; rfl
theorem okE_maps {T : List (List Nat)} : okE (.lst (T.map mapP)) (.lst []) = true := okE_of (k := 2) (by simp only [dok]; exact doks_maps) rfl
section
variable {k m st : Nat} {T : List (List Nat)} {t : OT} {s3 s6 s7 s8 s9 s10 : Option OT} {l : List Nat} {QQ : QS} {E : QX}
theorem maps1 (hT : Maps st T) (hl : T.length < m) (hm : m ≤ 5) (hi : IsMap st l) (h : ∀ T', Maps st T' → T'.length ≤ m → QQ .nx (MSl m st T' t s3 s6 (some (.leaf (mapP l))) s8 s9 s10)) : Wp (m_law_maps_1 (MSl m st T t s3 s6 (some (.leaf (mapP l))) s8 s9 s10)) QQ E := by
  unfold m_law_maps_1
  o_shape
  refine ⟨okE_of (k := 1) dok_map dok_map, ?_⟩
  rw [peq_map, notIn_maps]
  o_shape
  refine ⟨fun h1 => ⟨fun h2 => ⟨Nat.lt_of_lt_of_le hl (Nat.le_trans hm (by decide)), ?_⟩, fun _ => h T hT (by omega)⟩, fun _ => h T hT (by omega)⟩
  have eT : (T.map fun l => OT.leaf (mapP l)) ++ [OT.leaf (mapP l)] = (T ++ [l]).map fun l => OT.leaf (mapP l) := by simp
  rw [eT]
  refine h (T ++ [l]) ⟨fun x hx => ?_, ?_⟩ (by simp; omega)
  · rcases List.mem_append.mp hx with z | z
    · exact hT.is x z
    · simp only [List.mem_singleton] at z
      subst z
      exact ⟨hi, h1⟩
  · refine List.nodup_append.mpr ⟨hT.nd, by simp, fun x hx y hy => ?_⟩
    simp only [List.mem_singleton] at hy
    subst hy
    exact fun z => h2 (z ▸ hx)
theorem maps2 {d : Nat} (hb : Bx k t) (hk : k ≤ 10000000) (hs1 : 2 ≤ st) (hs2 : st ≤ 4) (hT : Maps st T) (hl : T.length < m) (hm : m ≤ 5) (hi : IsMap st l) (h : ∀ T' t' s7 s8 s9 s10, Bx (k + 2) t' → Maps st T' → T'.length ≤ m → QQ .nx (MSl m st T' t' s3 (some (.leaf (.int (d : Nat)))) s7 s8 s9 s10)) : Wp (m_law_maps_2 (MSl m st T t s3 (some (.leaf (.int (d : Nat)))) (some (.leaf (mapP l))) s8 s9 none)) QQ E := by
  unfold m_law_maps_2
  o_shape
  refine ⟨fun _ => ⟨okE_maps, ?_⟩, fun _ => maps1 hT hl hm hi fun T' h1 h2 => h T' t _ _ _ _ (hb.mono (by omega)) h1 h2⟩
  rw [ne_maps]
  refine ⟨fun z => ?_, fun _ => maps1 hT hl hm hi fun T' h1 h2 => h T' t _ _ _ _ (hb.mono (by omega)) h1 h2⟩
  have hT0 : 0 < T.length := List.length_pos_iff.mpr (by simpa using z)
  refine pick_use hb rfl (by simpa using hT0) (by simp; omega) (by omega) fun x t1 hx hb1 => ?_
  obtain ⟨l1, hl1, rfl⟩ := List.mem_map.mp hx
  o_shape
  refine ⟨⟨noT_map, by simp [Fy.noTs, hb1.noT]⟩, ?_⟩
  refine pick_use hb1 rfl (by simpa using hT0) (by simp; omega) (by omega) fun x t2 hx hb2 => ?_
  obtain ⟨l2, hl2, rfl⟩ := List.mem_map.mp hx
  o_shape
  refine ⟨⟨noT_map, by simp [Fy.noTs, hb2.noT]⟩, okR_in (by omega) (by omega), ?_⟩
  rw [Int.toNat_natCast]
  obtain ⟨⟨g1, g2⟩, _⟩ := hT.is l1 hl1
  obtain ⟨⟨g3, g4⟩, _⟩ := hT.is l2 hl2
  have c1 : ∀ j, j < st → l1[j]? = some (l1.getD j 0) := fun j hj => by simp [List.getD, List.getElem?_eq_getElem (show j < l1.length by omega)]
  have c2 : ∀ j, j < st → l1.getD j 0 < st := fun j hj => g2 _ (List.mem_of_getElem? (c1 j hj))
  have c3 : ∀ u, u < st → l2[u]? = some (l2.getD u 0) := fun u hu => by simp [List.getD, List.getElem?_eq_getElem (show u < l2.length by omega)]
  refine lc_rng_map (fun j => .leaf (.int (l2.getD (l1.getD j 0) 0 : Nat))) (Nat.le_trans hs2 (by decide)) (fun j acc P hj hP => ?_) ?_
  · o_shape
    simp only [mapP]
    o_shape
    rw [at_nat, cms_get (c1 j hj)]
    o_shape
    rw [at_nat, cms_get (c3 _ (c2 j hj))]
    o_shape
    exact hP
  · o_shape
    have e2 : ((List.range st).map fun j => PV.int (l2.getD (l1.getD j 0) 0 : Nat)) = cmsP ((List.range st).map fun j => l2.getD (l1.getD j 0) 0) := by
      simp [cmsP]
    rw [e2]
    refine maps1 hT hl hm ⟨by simp, fun c hc => ?_⟩ fun T' h1 h2 => h T' _ _ _ _ _ (hb2.mono (by omega)) h1 h2
    obtain ⟨j, hj, rfl⟩ := List.mem_map.mp hc
    have hj := List.mem_range.mp hj
    exact g4 _ (List.mem_of_getElem? (c3 _ (c2 j hj)))
theorem maps3 {d : Nat} (hb : Bx k t) (hk : k ≤ 10000000) (hs1 : 2 ≤ st) (hs2 : st ≤ 4) (hT : Maps st T) (hl : T.length < m) (hm : m ≤ 5) (hi : IsMap st l) (h : ∀ T' t' s7 s8 s9 s10, Bx (k + 2) t' → Maps st T' → T'.length ≤ m → QQ .nx (MSl m st T' t' s3 (some (.leaf (.int (d : Nat)))) s7 s8 s9 s10)) : Wp (m_law_maps_3 (MSl m st T t s3 (some (.leaf (.int (d : Nat)))) (some (.leaf (mapP l))) s8 s9 none)) QQ E := by
  unfold m_law_maps_3
  o_shape
  refine ⟨fun _ => ⟨okR_in (by omega) (by omega), ?_⟩, fun _ => maps2 hb hk hs1 hs2 hT hl hm hi h⟩
  rw [Int.toNat_natCast]
  refine lc_rng_map (fun j => .leaf (.int ((j + 1) % st : Nat))) (Nat.le_trans hs2 (by decide)) (fun j acc P hj hP => ?_) ?_
  · o_shape
    rw [fmod_eq (by omega)]
    refine ⟨by omega, ?_⟩
    exact hP
  · o_shape
    have e2 : ((List.range st).map fun j => PV.int ((j + 1) % st : Nat)) = cmsP ((List.range st).map fun j => (j + 1) % st) := by
      simp [cmsP]
    rw [e2]
    refine maps2 hb hk hs1 hs2 hT hl hm ⟨by simp, fun c hc => ?_⟩ h
    obtain ⟨j, hj, rfl⟩ := List.mem_map.mp hc
    exact Nat.mod_lt _ (by omega)
theorem maps4 (hb : Bx k t) (hk : k ≤ 9000000) (hs1 : 2 ≤ st) (hs2 : st ≤ 4) (hT : Maps st T) (hl : T.length < m) (hm : m ≤ 5) (h : ∀ T' t' s6 s7 s8 s9 s10, Bx (k + 20) t' → Maps st T' → T'.length ≤ m → QQ .nx (MSl m st T' t' s3 s6 s7 s8 s9 s10)) : Wp (m_law_maps_4 (MSl m st T t s3 s6 s7 s8 s9 s10)) QQ E := by
  unfold m_law_maps_4
  o_shape
  refine take_use hb (by decide) (by decide) (by omega) fun d t1 hd hb1 => ?_
  o_shape
  refine ⟨okR_in (by omega) (by omega), ?_⟩
  rw [Int.toNat_natCast]
  refine lc_rng (fun j acc S => ∃ t l, S = MSl m st T t s3 (some (.leaf (.int (d : Nat)))) s7 s8 s9 none ∧ acc = l.map (fun c => OT.leaf (.int (c : Nat))) ∧ l.length = j ∧ (∀ c ∈ l, c < st) ∧ Bx (k + 1 + j) t)
    (Nat.le_trans hs2 (by decide)) ⟨t1, [], rfl, rfl, rfl, fun _ h => by simp at h, hb1⟩ ?_ ?_
  · rintro j acc S hj ⟨t, l, rfl, rfl, hl1, hl2, hb2⟩
    o_shape
    refine take_use hb2 (by omega) (by omega) (by omega) fun c t2 hc hb3 => ?_
    o_shape
    exact ⟨t2, l ++ [c], rfl, by simp, by simp [hl1], fun x hx => by
      rcases List.mem_append.mp hx with z | z
      · exact hl2 x z
      · simp only [List.mem_singleton] at z
        omega, hb3⟩
  · rintro acc S ⟨t2, l, rfl, rfl, hl1, hl2, hb2⟩
    o_shape
    refine ⟨fun _ => ?_, fun _ => ?_⟩
    · refine take_use hb2 (by omega) (by omega) (by omega) fun c t3 hc hb3 => ?_
      o_shape
      refine ⟨⟨by simp, by omega, by omega⟩, ?_⟩
      rw [Int.toNat_natCast, rep_cms]
      exact maps3 hb3 (by omega) hs1 hs2 hT hl hm (isMap_rep (by omega)) fun T' t' s7 s8 s9 s10 h1 h2 h3 => h T' t' _ _ _ _ _ (h1.mono (by omega)) h2 h3
    · exact maps3 hb2 (by omega) hs1 hs2 hT hl hm ⟨hl1, hl2⟩ fun T' t' s7 s8 s9 s10 h1 h2 h3 => h T' t' _ _ _ _ _ (h1.mono (by omega)) h2 h3
end
theorem maps_use {k : Nat} {t : OT} {m : Nat} (hb : Bx k t) (hm : 1 ≤ m) (hm2 : m ≤ 5) (hk : k ≤ 1000000) {Q : OT → List OT → Prop} {E : Exn → List OT → Prop}
    (h : ∀ st T t', 2 ≤ st → st ≤ 4 → Maps st T → 1 ≤ T.length → T.length ≤ m → Bx (k + 1000) t' → ∀ r, fz r = .lst (T.map mapP) → Q r [t']) : WpR (run_law_maps [t, .leaf (.int (m : Nat))]) Q E := by
  rw [wp_run]
  unfold m_law_maps
  o_shape
  refine pick_use hb rfl (by decide) (by decide) (by omega) fun x t' hx hb' => ?_
  have hst : ∃ st : Nat, 2 ≤ st ∧ st ≤ 4 ∧ x = .int (st : Nat) := by
    simp only [List.mem_cons, List.mem_nil_iff, or_false] at hx
    rcases hx with rfl | rfl | rfl | rfl
    · exact ⟨2, by decide, by decide, rfl⟩
    · exact ⟨3, by decide, by decide, rfl⟩
    · exact ⟨3, by decide, by decide, rfl⟩
    · exact ⟨4, by decide, by decide, rfl⟩
  obtain ⟨st, hs1, hs2, rfl⟩ := hst
  o_shape
  w_means
  have e4 : (4 * (m : Int)).toNat = 4 * m := by omega
  rw [e4, Int.toNat_natCast, rng_cms (n := st)]
  have fin : ∀ t T s3 s6 s7 s8 s9 s10, Bx (k + 1 + 20 * (4 * m)) t → Maps st T → T.length ≤ m → Wp (m_law_maps_6 (MSl m st T t s3 s6 s7 s8 s9 s10)) (KRr [0] Q) (KRx [0] E) := fun t T s3 s6 s7 s8 s9 s10 hb hT hl => by
    unfold m_law_maps_6
    o_shape
    rw [ne_maps]
    refine ⟨okE_maps, fun z => ?_, fun z => ⟨⟨by simp, by omega, by omega⟩, ?_⟩⟩
    · have z : T ≠ [] := by simpa using z
      exact h st T t hs1 hs2 hT (List.length_pos_iff.mpr z) hl (hb.mono (by omega)) _ rfl
    · refine h st [List.replicate st 0] t hs1 hs2 ⟨fun l hl => ?_, by simp⟩ (by simp) (by simp; omega) (hb.mono (by omega)) _ ?_
      · simp only [List.mem_singleton] at hl
        subst hl
        exact ⟨isMap_rep (by omega), rep_ne hs1⟩
      · rw [fz_node]
        simp only [List.map_cons, List.map_nil, fz_leaf, Int.toNat_natCast]
        rw [show (PV.int 0) = PV.int ((0 : Nat) : Int) from rfl, rep_cms]
        rfl
  refine for_rng (fun i S => ∃ t T s3 s6 s7 s8 s9 s10, S = MSl m st T t s3 s6 s7 s8 s9 s10 ∧ Bx (k + 1 + 20 * i) t ∧ Maps st T ∧ T.length ≤ m)
    ⟨t', [], _, _, _, _, _, _, rfl, hb', ⟨fun _ h => by simp at h, List.nodup_nil⟩, by simp⟩ ?_ ?_
  · rintro i S hi ⟨t, T, s3, s6, s7, s8, s9, s10, rfl, hb, hT, hl⟩
    unfold m_law_maps_5
    o_shape
    refine ⟨fun hm => fin t T _ _ _ _ _ _ (hb.mono (by omega)) hT hl, fun hm => ?_⟩
    exact maps4 hb (by omega) hs1 hs2 hT (by omega) hm2 fun T' t' s6 s7 s8 s9 s10 h1 h2 h3 => ⟨t', T', _, _, _, _, _, _, rfl, h1.mono (by omega), h2, h3⟩
  · rintro S ⟨t, T, s3, s6, s7, s8, s9, s10, rfl, hb, hT, hl⟩
    exact fin t T _ _ _ _ _ _ hb hT hl
/-! ### rows of maps -/
def dOf (l : List Nat) : PyData := .tuple (l.map fun c => .int (c : Nat))
theorem pds_cms : ∀ {l : List Nat}, pds (cmsP l) = some (l.map fun c => .int (c : Nat))
  | [] => rfl
  | c :: l => by
    have := pds_cms (l := l)
    simp only [cmsP] at this
    simp only [cmsP, List.map_cons, pds, pd, this, Option.bind_some, Option.map_some]
theorem pd_map {l : List Nat} : pd (mapP l) = some (dOf l) := by
  simp only [mapP, pd, pds_cms, Option.map_some, dOf]
theorem pds_maps : ∀ {T : List (List Nat)}, pds (T.map mapP) = some (T.map dOf)
  | [] => rfl
  | l :: T => by simp only [List.map_cons, pds, pd_map, pds_maps (T := T), Option.bind_some, Option.map_some]
theorem eqv_dOf {l m : List Nat} : PyData.eqv (dOf l) (dOf m) = decide (l = m) := by
  have := peq_map (l := l) (m := m)
  unfold peq at this
  rw [pd_map, pd_map] at this
  exact this
theorem canLay_ints : ∀ {l : List Nat}, PyData.canLayAll0 (l.map fun c => PyData.int (c : Nat)) = true
  | [] => rfl
  | c :: l => by simp only [List.map_cons, PyData.canLayAll0, PyData.canLay0, Bool.true_and]; exact canLay_ints
theorem depth_ints : ∀ {l : List Nat}, PyData.depthAll (l.map fun c => PyData.int (c : Nat)) = 0
  | [] => rfl
  | c :: l => by simp only [List.map_cons, PyData.depthAll, PyData.depth, depth_ints (l := l)]; rfl
theorem shaped_dOf {l : List Nat} : SeqAt.shaped (dOf l) = true := by
  unfold SeqAt.shaped dOf
  rw [show PyData.canLay0 (.tuple (l.map fun c => PyData.int (c : Nat))) = PyData.canLayAll0 (l.map fun c => PyData.int (c : Nat)) by simp [PyData.canLay0], canLay_ints, PyData.depth, depth_ints]
  rfl
theorem shaped_dOfs : ∀ {T : List (List Nat)}, SeqAt.shaped (.list (T.map dOf)) = true := by
  intro T
  have h1 : PyData.canLayAll0 (T.map dOf) = true := by
    induction T with
    | nil => rfl
    | cons l T ih =>
      simp only [List.map_cons, PyData.canLayAll0, ih, Bool.and_true]
      simp only [dOf, PyData.canLay0]
      exact canLay_ints
  have h2 : PyData.depthAll (T.map dOf) ≤ 1 := by
    induction T with
    | nil => exact Nat.zero_le _
    | cons l T ih =>
      simp only [List.map_cons, PyData.depthAll]
      have : (dOf l).depth = 1 := by simp [dOf, PyData.depth, depth_ints]
      have := ih (by simp only [List.map_cons, PyData.canLayAll0, Bool.and_eq_true] at h1; exact h1.2)
      omega
  unfold SeqAt.shaped
  rw [show PyData.canLay0 (.list (T.map dOf)) = PyData.canLayAll0 (T.map dOf) by simp [PyData.canLay0], h1, PyData.depth]
  simp
  omega
theorem idx_maps {l : List Nat} {T : List (List Nat)} (h : l ∈ T) {S : Sl} {Q : QO} : Op (fIdx (.lst (T.map mapP)) (mapP l)) S Q = Q (.leaf (.int (T.idxOf l : Nat))) S := by
  unfold fIdx
  rw [show datL (.lst (T.map mapP)) = some (T.map dOf) from pds_maps, pd_map]
  dsimp only
  rw [shaped_dOf, shaped_dOfs]
  have e : (T.map dOf).findIdx? (fun z => z.eqv (dOf l)) = some (T.idxOf l) := by
    rw [List.findIdx?_map]
    have e2 : ((fun z => PyData.eqv z (dOf l)) ∘ dOf) = fun z => z == l := by
      funext z
      show PyData.eqv (dOf z) (dOf l) = _
      rw [eqv_dOf]
      by_cases hz : z = l <;> simp [hz]
    rw [e2]
    exact List.findIdx?_eq_some_of_exists ⟨l, h, by simp⟩
  rw [e]
  exact op_some
def comp (st : Nat) (l1 l2 : List Nat) : List Nat := (List.range st).map fun s => l2.getD (l1.getD s 0) 0
def codeM (st : Nat) (T : List (List Nat)) (l : List Nat) : Option (Option Nat) := if l = List.range st then some none else if l ∈ T then some (some (T.idxOf l)) else none
def fM (st : Nat) (T : List (List Nat)) : Mf := fun i j => codeM st T (comp st (T.getD i []) (T.getD j []))
theorem getD_ok {l : List Nat} {i : Nat} (h : i < l.length) : l[i]? = some (l.getD i 0) := by simp [List.getD, List.getElem?_eq_getElem h]
theorem getDT {T : List (List Nat)} {i : Nat} (h : i < T.length) : T[i]? = some (T.getD i []) := by simp [List.getD, List.getElem?_eq_getElem h]
theorem comp_map {st : Nat} {l1 l2 : List Nat} (h1 : IsMap st l1) (h2 : IsMap st l2) : IsMap st (comp st l1 l2) := ⟨by simp [comp], fun c hc => by
  obtain ⟨s, hs, rfl⟩ := List.mem_map.mp hc
  have hs := List.mem_range.mp hs
  have a1 := h1.2 _ (List.mem_of_getElem? (getD_ok (l := l1) (i := s) (by rw [h1.1]; exact hs)))
  exact h2.2 _ (List.mem_of_getElem? (getD_ok (l := l2) (by rw [h2.1]; exact a1)))⟩
theorem comp_at {st s : Nat} {l1 l2 : List Nat} (hs : s < st) : (comp st l1 l2).getD s 0 = l2.getD (l1.getD s 0) 0 := by
  unfold comp
  simp [List.getD, List.getElem?_range hs]
theorem comp_assoc {st : Nat} {l1 l2 l3 : List Nat} (h1 : IsMap st l1) : comp st (comp st l1 l2) l3 = comp st l1 (comp st l2 l3) := by
  unfold comp
  refine List.map_congr_left fun s hs => ?_
  have hs := List.mem_range.mp hs
  have a1 := h1.2 _ (List.mem_of_getElem? (getD_ok (l := l1) (i := s) (by rw [h1.1]; exact hs)))
  have e1 := comp_at (l1 := l1) (l2 := l2) hs
  have e2 := comp_at (l1 := l2) (l2 := l3) a1
  unfold comp at e1 e2
  rw [e1, e2]
theorem range_getD {st s : Nat} (h : s < st) : (List.range st).getD s 0 = s := by simp [List.getD, List.getElem?_range h]
theorem map_ext {st : Nat} {l m : List Nat} (h1 : l.length = st) (h2 : m.length = st) (h : ∀ s, s < st → l.getD s 0 = m.getD s 0) : l = m := by
  apply List.ext_getElem?
  intro i
  by_cases hi : i < st
  · rw [getD_ok (l := l) (by omega), getD_ok (l := m) (by omega), h i hi]
  · rw [List.getElem?_eq_none (by omega), List.getElem?_eq_none (by omega)]
theorem comp_id {st : Nat} {l : List Nat} (h : IsMap st l) : comp st l (List.range st) = l := by
  refine map_ext (by simp [comp]) h.1 fun s hs => ?_
  rw [comp_at hs]
  exact range_getD (h.2 _ (List.mem_of_getElem? (getD_ok (l := l) (i := s) (by rw [h.1]; exact hs))))
theorem id_comp {st : Nat} {l : List Nat} (h : IsMap st l) : comp st (List.range st) l = l := by
  refine map_ext (by simp [comp]) h.1 fun s hs => ?_
  rw [comp_at hs, range_getD hs]
section
variable {st : Nat} {T : List (List Nat)}
def act (st : Nat) (T : List (List Nat)) : Option Nat → List Nat
  | none => List.range st
  | some i => T.getD i []
theorem code_act (hT : Maps st T) {i : Nat} (h : i < T.length) : codeM st T (T.getD i []) = some (some i) := by
  have hm := List.mem_of_getElem? (getDT h)
  unfold codeM
  rw [if_neg (hT.is _ hm).2, if_pos hm]
  have e : T.getD i [] = T[i] := by simp [List.getD, List.getElem?_eq_getElem h]
  rw [e, hT.nd.idxOf_getElem i h]
theorem act_code {l : List Nat} {x : Option Nat} (h : codeM st T l = some x) : act st T x = l ∧ ∀ c, x = some c → c < T.length := by
  unfold codeM at h
  split at h
  · rename_i e
    cases h
    exact ⟨e.symm, fun c hc => by cases hc⟩
  · split at h
    · rename_i hm
      cases h
      have hlt := List.idxOf_lt_length_iff.mpr hm
      refine ⟨?_, fun c hc => by cases hc; exact hlt⟩
      show T.getD (T.idxOf l) [] = l
      simp [List.getD, List.getElem?_eq_getElem hlt, List.getElem_idxOf]
    · cases h
theorem is_act (hT : Maps st T) {i : Nat} (h : i < T.length) : IsMap st (T.getD i []) := (hT.is _ (List.mem_of_getElem? (getDT h))).1
theorem fM_cl : Cl T.length (fM st T) := fun a b c _ _ h => (act_code h).2 c rfl
theorem fM_sd (hT : Maps st T) : Sd T.length (fM st T) := by
  rintro a b c ha hb hc ⟨x, y, h1, h2, h3⟩
  obtain ⟨x1, x2⟩ := act_code h1
  obtain ⟨y1, y2⟩ := act_code h2
  apply h3
  have l1 : lo (fM st T) x (some c) = codeM st T (comp st (act st T x) (T.getD c [])) := by
    cases x with
    | none =>
      show some (some c) = _
      rw [show act st T none = List.range st from rfl, id_comp (is_act hT hc), code_act hT hc]
    | some x => rfl
  have l2 : lo (fM st T) (some a) y = codeM st T (comp st (T.getD a []) (act st T y)) := by
    cases y with
    | none =>
      show some (some a) = _
      rw [show act st T none = List.range st from rfl, comp_id (is_act hT ha), code_act hT ha]
    | some y => rfl
  rw [l1, l2, x1, y1, comp_assoc (is_act hT ha)]
end
theorem datL_maps {T : List (List Nat)} : (datL (.lst (T.map mapP))).isSome = true := by
  rw [show datL (.lst (T.map mapP)) = some (T.map dOf) from pds_maps]
  rfl
theorem rows_of_eq {st : Nat} {T : List (List Nat)} (hT : Maps st T) (h1 : 1 ≤ T.length) (h2 : T.length ≤ 12) (hs1 : 2 ≤ st) (hs2 : st ≤ 4) {Q : OT → List OT → Prop} {E : Exn → List OT → Prop}
    (h : ∀ r, fz r = rowsL T.length (fM st T) → Q r []) : WpR (run_law_rows_of [.leaf (.lst (T.map mapP))]) Q E := by
  rw [wp_run]
  unfold m_law_rows_of
  o_shape
  have hg : ∀ i, i < T.length → (T.map mapP)[i]? = some (mapP (T.getD i [])) := fun i hi => by
    rw [List.getElem?_map, getDT hi]
    rfl
  rw [hg 0 h1]
  simp only [mapP]
  o_shape
  rw [cms_len, (is_act hT h1).1]
  refine for_rule (fun i S => ∃ s1 s4 s5 s6 s7, S = [some (.leaf (.lst (T.map mapP))), s1, some (.leaf (.int (st : Nat))), some (.node ((List.range i).map fun a => .leaf (rowL T.length (fM st T) a))), s4, s5, s6, s7] )
    ⟨_, _, _, _, _, rfl⟩ ?_ ?_
  · rintro a x S hx ⟨s1, s4, s5, s6, s7, rfl⟩
    have ha : a < T.length := by
      have := (List.getElem?_eq_some_iff.mp hx).1
      simpa using this
    rw [hg a ha] at hx
    cases hx
    unfold m_law_rows_of_2
    o_shape
    refine for_rule (fun j S => ∃ s5 s6 s7, S = [some (.leaf (.lst (T.map mapP))), some (.leaf (mapP (T.getD a []))), some (.leaf (.int (st : Nat))), some (.node ((List.range a).map fun a => .leaf (rowL T.length (fM st T) a))), some (.node ((List.range j).map fun b => .leaf (endP (fM st T a b)))), s5, s6, s7] )
      ⟨_, _, _, rfl⟩ ?_ ?_
    · rintro b x S hx ⟨s5, s6, s7, rfl⟩
      have hb : b < T.length := by
        have := (List.getElem?_eq_some_iff.mp hx).1
        simpa using this
      rw [hg b hb] at hx
      cases hx
      unfold m_law_rows_of_1
      o_shape
      refine ⟨okR_in (by omega) (by omega), ?_⟩
      rw [Int.toNat_natCast]
      obtain ⟨g1, g2⟩ := is_act hT ha
      obtain ⟨g3, g4⟩ := is_act hT hb
      generalize e1 : T.getD a [] = l1 at *
      generalize e2 : T.getD b [] = l2 at *
      refine lc_rng_map (fun s => .leaf (.int (l2.getD (l1.getD s 0) 0 : Nat))) (Nat.le_trans hs2 (by decide)) (fun s acc P hs hP => ?_) ?_
      · o_shape
        have c1 := getD_ok (l := l1) (i := s) (by omega)
        have c2 : l1.getD s 0 < st := g2 _ (List.mem_of_getElem? c1)
        have c3 := getD_ok (l := l2) (i := l1.getD s 0) (by omega)
        simp only [mapP]
        o_shape
        rw [at_nat, cms_get c1]
        o_shape
        rw [at_nat, cms_get c3]
        o_shape
        exact hP
      · o_shape
        have e3 : ((List.range st).map fun j => PV.int (l2.getD (l1.getD j 0) 0 : Nat)) = cmsP (comp st l1 l2) := by
          simp [cmsP, comp]
        rw [e3, Int.toNat_natCast, rng_cms]
        have hf : fM st T a b = codeM st T (comp st l1 l2) := by
          show codeM st T (comp st (T.getD a []) (T.getD b [])) = _
          rw [e1, e2]
        have hlen : ((List.range b).map fun b => OT.leaf (endP (fM st T a b))).length < sizeLine := by
          rw [List.length_map, List.length_range]
          exact Nat.lt_of_lt_of_le (Nat.lt_trans hb (Nat.lt_of_le_of_lt h2 (by decide : 12 < 13))) (by decide)
        have hfin : ∀ e, fM st T a b = e → (List.range b).map (fun b => OT.leaf (endP (fM st T a b))) ++ [OT.leaf (endP e)] = (List.range (b + 1)).map (fun b => OT.leaf (endP (fM st T a b))) := fun e he => by
          rw [List.range_succ, List.map_append, List.map_cons, List.map_nil, he]
        refine ⟨⟨by omega, by omega⟩, okE_of (k := 1) (dok_map (l := comp st l1 l2)) (dok_map (l := List.range st)), ?_⟩
        rw [show peq (.tup (cmsP (comp st l1 l2))) (.tup (cmsP (List.range st))) = decide (comp st l1 l2 = List.range st) from peq_map]
        o_shape
        refine ⟨fun z => ⟨by simpa using hlen, ?_⟩, fun z => ?_⟩
        · rw [show (OT.leaf (.int (-1))) = OT.leaf (endP (some none)) from rfl, hfin (some none) (by rw [hf, codeM, if_pos z])]
          exact ⟨_, _, _, rfl⟩
        · rw [show Op (pIn (.tup (cmsP (comp st l1 l2))) (.lst (T.map mapP))) _ _ = _ from in_maps]
          o_shape
          refine ⟨fun hm => ⟨datL_maps, ?_⟩, fun hm => ⟨by simpa using hlen, ?_⟩⟩
          · rw [show Op (fIdx (.lst (T.map mapP)) (.tup (cmsP (comp st l1 l2)))) _ _ = _ from idx_maps hm]
            o_shape
            refine ⟨by simpa using hlen, ?_⟩
            rw [show (OT.leaf (.int (T.idxOf (comp st l1 l2) : Nat))) = OT.leaf (endP (some (some (T.idxOf (comp st l1 l2))))) from rfl, hfin (some (some (T.idxOf (comp st l1 l2)))) (by rw [hf, codeM, if_neg z, if_pos hm])]
            exact ⟨_, _, _, rfl⟩
          · rw [show (OT.leaf .non) = OT.leaf (endP none) from rfl, hfin none (by rw [hf, codeM, if_neg z, if_neg hm])]
            exact ⟨_, _, _, rfl⟩
    · rintro S ⟨s5, s6, s7, rfl⟩
      o_shape
      have eR : (List.range a).map (fun a => OT.leaf (rowL T.length (fM st T) a)) ++ [OT.leaf (PV.lst ((List.range T.length).map fun i => endP (fM st T a i)))] = (List.range (a + 1)).map (fun a => OT.leaf (rowL T.length (fM st T) a)) := by
        rw [List.range_succ, List.map_append, List.map_cons, List.map_nil]
        rfl
      rw [eR]
      exact ⟨Nat.lt_of_lt_of_le (Nat.lt_of_lt_of_le ha h2) (by decide), _, _, _, _, _, rfl⟩
  · rintro S ⟨s1, s4, s5, s6, s7, rfl⟩
    o_shape
    refine h _ ?_
    o_shape
    rfl
end K01


namespace K01
open PySem Fy Pg PgS
theorem at_rowsL {n : Nat} {f : Mf} {i : Nat} {S : Sl} {Q : QO} (h : i < n) : Op (pIx (rowsL n f) (.int (i : Nat))) S Q = Q (.leaf (rowL n f i)) S := by
  unfold rowsL
  o_shape
  rw [at_tab h]
  o_shape
theorem at_rowL {n : Nat} {f : Mf} {i j : Nat} {S : Sl} {Q : QO} (h : j < n) : Op (pIx (rowL n f i) (.int (j : Nat))) S Q = Q (.leaf (endP (f i j))) S := by
  unfold rowL
  o_shape
  rw [at_tab h]
  o_shape
theorem len_rowsL {n : Nat} {f : Mf} {S : Sl} {Q : QO} : Op (fLen [rowsL n f]) S Q = Q (.leaf (.int (n : Nat))) S := by
  unfold rowsL
  o_shape
theorem cm_peq {x : Option Nat} : peq (cmP x) (.int (-1)) = decide (x = none) := by
  have h := peq_end (x := some x) (y := some none)
  rw [show endP (some x) = cmP x from rfl, show endP (some none) = .int (-1) from rfl] at h
  rw [h]
  simp
theorem cm_okE {x : Option Nat} : okE (cmP x) (.int (-1)) = true := by cases x <;> rfl
abbrev agS (n : Nat) (f : Mf) (i m k : Nat) (s5 s6 : Option OT) : Sl := [some (.leaf (rowsL n f)), some (.leaf (.int (n : Nat))), some (.leaf (.int (i : Nat))), some (.leaf (.int (m : Nat))), some (.leaf (.int (k : Nat))), s5, s6]
section
variable {n : Nat} {f : Mf} {i m k : Nat} {QQ : QS} {E : QX}
theorem ag1 {e e' : Option (Option Nat)} (h1 : e ≠ e' → QQ (.rt (.leaf (threeP i m k))) (agS n f i m k (some (.leaf (endP e))) (some (.leaf (endP e'))))) (h2 : e = e' → ∀ s5 s6, QQ .nx (agS n f i m k s5 s6)) : Wp (m_law_against_1 (agS n f i m k (some (.leaf (endP e))) (some (.leaf (endP e'))))) QQ E := by
  unfold m_law_against_1
  o_shape
  refine ⟨okE_end, ?_⟩
  rw [peq_end]
  o_shape
  exact ⟨fun z => h1 z, fun z => h2 z _ _⟩
theorem ag2 {e : Option (Option Nat)} {y : Option Nat} {s6 : Option OT} (hin : i < n) (hmn : m < n) (hkn : k < n) (hc : Cl n f) (e2 : f m k = some y) (h1 : e ≠ lo f (some i) y → QQ (.rt (.leaf (threeP i m k))) (agS n f i m k (some (.leaf (endP e))) (some (.leaf (endP (lo f (some i) y)))))) (h2 : e = lo f (some i) y → ∀ s5 s6, QQ .nx (agS n f i m k s5 s6)) : Wp (m_law_against_2 (agS n f i m k (some (.leaf (endP e))) s6)) QQ E := by
  unfold m_law_against_2
  o_shape
  rw [at_rowsL hmn]
  o_shape
  rw [at_rowL hkn, e2, show endP (some y) = cmP y from rfl]
  o_shape
  refine ⟨cm_okE, ?_⟩
  rw [cm_peq]
  cases y with
  | none => exact ⟨fun _ => ag1 (e' := some (some i)) h1 h2, fun z => by simp at z⟩
  | some y =>
    refine ⟨fun z => by simp at z, fun _ => ?_⟩
    rw [at_rowsL hin]
    o_shape
    rw [at_rowsL hmn]
    o_shape
    rw [at_rowL hkn, e2, show endP (some (some y)) = .int (y : Nat) from rfl]
    o_shape
    rw [at_rowL (hc m k y hmn hkn e2)]
    o_shape
    exact ag1 (e' := f i y) h1 h2
theorem ag3 {s5 s6 : Option OT} (hin : i < n) (hmn : m < n) (hkn : k < n) (hc : Cl n f) (h1 : bad f i m k → ∀ s5 s6, QQ (.rt (.leaf (threeP i m k))) (agS n f i m k s5 s6)) (h2 : ¬ bad f i m k → ∀ s5 s6, QQ .nx (agS n f i m k s5 s6)) : Wp (m_law_against_3 (agS n f i m k s5 s6)) QQ E := by
  unfold m_law_against_3
  o_shape
  rw [at_rowsL hin]
  o_shape
  rw [at_rowL hmn]
  o_shape
  rw [isNon_end]
  cases e1 : f i m with
  | none =>
    refine ⟨fun z => by simp at z, fun _ => h2 ?_ _ _⟩
    rintro ⟨x, y, h1, _⟩
    rw [e1] at h1
    cases h1
  | some x =>
    refine ⟨fun _ => ?_, fun z => by simp at z⟩
    rw [at_rowsL hmn]
    o_shape
    rw [at_rowL hkn]
    o_shape
    rw [isNon_end]
    cases e2 : f m k with
    | none =>
      refine ⟨fun z => by simp at z, fun _ => h2 ?_ _ _⟩
      rintro ⟨x, y, _, h1, _⟩
      rw [e2] at h1
      cases h1
    | some y =>
      refine ⟨fun _ => ?_, fun z => by simp at z⟩
      rw [at_rowsL hin]
      o_shape
      rw [at_rowL hmn, e1, show endP (some x) = cmP x from rfl]
      o_shape
      refine ⟨cm_okE, ?_⟩
      rw [cm_peq]
      have g1 : lo f x (some k) ≠ lo f (some i) y → bad f i m k := fun z => ⟨x, y, e1, e2, z⟩
      have g2 : lo f x (some k) = lo f (some i) y → ¬ bad f i m k := fun z => by
        rintro ⟨x', y', q1, q2, q3⟩
        rw [e1] at q1
        rw [e2] at q2
        cases q1
        cases q2
        exact q3 z
      cases x with
      | none =>
        refine ⟨fun _ => ?_, fun z => by simp at z⟩
        exact ag2 (e := some (some k)) hin hmn hkn hc e2 (fun z => h1 (g1 z) _ _) (fun z => h2 (g2 z))
      | some x =>
        refine ⟨fun z => by simp at z, fun _ => ?_⟩
        rw [at_rowsL hin]
        o_shape
        rw [at_rowL hmn, e1, show endP (some (some x)) = .int (x : Nat) from rfl]
        o_shape
        rw [at_rowsL (hc i m x hin hmn e1)]
        o_shape
        rw [at_rowL hkn]
        o_shape
        exact ag2 (e := f x k) hin hmn hkn hc e2 (fun z => h1 (g1 z) _ _) (fun z => h2 (g2 z))
end
theorem against_wp {n : Nat} {f : Mf} (hc : Cl n f) (hn : n ≤ 12) : WpR (run_law_against [.leaf (rowsL n f)]) (fun t os => os = [] ∧ ((t = .leaf .non ∧ Sd n f) ∨ ∃ a b c, LeastBad n f a b c ∧ t = .leaf (threeP a b c))) noER := by
  rw [wp_run]
  unfold m_law_against
  o_shape
  rw [len_rowsL]
  o_shape
  refine ⟨okR_in (by omega) (by omega), ?_⟩
  rw [Int.toNat_natCast]
  refine for_rng (fun i S => (∃ s2 s3 s4 s5 s6, S = [some (.leaf (rowsL n f)), some (.leaf (.int (n : Nat))), s2, s3, s4, s5, s6]) ∧ ∀ a b c, a < i → b < n → c < n → ¬ bad f a b c) ⟨⟨_, _, _, _, _, rfl⟩, fun a b c h => absurd h (Nat.not_lt_zero a)⟩ ?_ ?_
  · rintro i S hin ⟨⟨s2, s3, s4, s5, s6, rfl⟩, hi⟩
    unfold m_law_against_5
    o_shape
    refine ⟨okR_in (by omega) (by omega), ?_⟩
    rw [Int.toNat_natCast]
    refine for_rng (fun m S => (∃ s3 s4 s5 s6, S = [some (.leaf (rowsL n f)), some (.leaf (.int (n : Nat))), some (.leaf (.int (i : Nat))), s3, s4, s5, s6]) ∧ ∀ b c, b < m → c < n → ¬ bad f i b c) ⟨⟨_, _, _, _, rfl⟩, fun b c h => absurd h (Nat.not_lt_zero b)⟩ ?_ ?_
    · rintro m S hmn ⟨⟨s3, s4, s5, s6, rfl⟩, hm⟩
      unfold m_law_against_4
      o_shape
      refine ⟨okR_in (by omega) (by omega), ?_⟩
      rw [Int.toNat_natCast]
      refine for_rng (fun k S => (∃ s4 s5 s6, S = [some (.leaf (rowsL n f)), some (.leaf (.int (n : Nat))), some (.leaf (.int (i : Nat))), some (.leaf (.int (m : Nat))), s4, s5, s6]) ∧ ∀ c, c < k → ¬ bad f i m c) ⟨⟨_, _, _, rfl⟩, fun c h => absurd h (Nat.not_lt_zero c)⟩ ?_ ?_
      · rintro k S hkn ⟨⟨s4, s5, s6, rfl⟩, hk⟩
        o_shape
        refine ag3 hin hmn hkn hc (fun hb s5 s6 => ?_) (fun hb s5 s6 => ?_)
        · o_shape
          refine .inr ⟨i, m, k, ⟨⟨hin, hmn, hkn⟩, hb, fun a' b' c' ha hb hc2 hbad => ?_⟩, rfl⟩
          have q1 : ¬ a' < i := fun q => hi a' b' c' q hb hc2 hbad
          by_cases q2 : a' = i
          · subst q2
            have q3 : ¬ b' < m := fun q => hm b' c' q hc2 hbad
            by_cases q4 : b' = m
            · subst q4
              have q5 : ¬ c' < k := fun q => hk c' q hbad
              omega
            · omega
          · omega
        · o_shape
          refine ⟨⟨_, _, _, rfl⟩, fun c hc => ?_⟩
          rcases Nat.lt_succ_iff_lt_or_eq.mp hc with z | z
          · exact hk c z
          · subst z
            exact hb
      · rintro S ⟨⟨s4, s5, s6, rfl⟩, hk⟩
        o_shape
        refine ⟨⟨_, _, _, _, rfl⟩, fun b c hb hc2 => ?_⟩
        rcases Nat.lt_succ_iff_lt_or_eq.mp hb with z | z
        · exact hm b c z hc2
        · subst z
          exact hk c hc2
    · rintro S ⟨⟨s3, s4, s5, s6, rfl⟩, hm⟩
      o_shape
      refine ⟨⟨_, _, _, _, _, rfl⟩, fun a b c ha hb hc2 => ?_⟩
      rcases Nat.lt_succ_iff_lt_or_eq.mp ha with z | z
      · exact hi a b c z hb hc2
      · subst z
        exact hm b c hb hc2
  · rintro S ⟨⟨s2, s3, s4, s5, s6, rfl⟩, hi⟩
    o_shape
    exact .inl fun a b c ha hb hc2 => hi a b c ha hb hc2
/-! ### drawn rows -/
/-- an item of drawn rows -/
def isE (n : Nat) (p : PV) : Prop := ∃ e : Option (Option Nat), p = endP e ∧ ∀ c, e = some (some c) → c < n
def decE : PV → Option (Option Nat)
  | .non => none
  | .int i => if i < 0 then some none else some (some i.toNat)
  | _ => none
theorem dec_end {e : Option (Option Nat)} : decE (endP e) = e := by
  rcases e with _ | _ | c
  · rfl
  · rfl
  · simp [decE, endP, cmP]
/-- rows of items are told by a function -/
theorem rows_fn {n : Nat} {R : List (List PV)} (h1 : R.length = n) (h2 : ∀ r ∈ R, r.length = n ∧ ∀ p ∈ r, isE n p) : ∃ f : Mf, Cl n f ∧ PV.lst (R.map .lst) = rowsL n f := by
  refine ⟨fun i j => decE ((R.getD i []).getD j .non), fun a b c ha hb h => ?_, ?_⟩
  · obtain ⟨l1, l2⟩ := h2 (R[a]'(by omega)) (List.getElem_mem _)
    have e : R.getD a [] = R[a]'(by omega) := by simp [List.getD, List.getElem?_eq_getElem (show a < R.length by omega)]
    dsimp only at h
    rw [e] at h
    have e2 : (R[a]'(by omega)).getD b .non = (R[a]'(by omega))[b]'(by omega) := by simp [List.getD, List.getElem?_eq_getElem (show b < (R[a]'(by omega)).length by omega)]
    rw [e2] at h
    obtain ⟨x, hx1, hx2⟩ := l2 _ (List.getElem_mem (show b < (R[a]'(by omega)).length by omega))
    rw [hx1, dec_end] at h
    exact hx2 c h
  · unfold rowsL
    congr 1
    refine list_tab (by simp [h1]) fun i x hx => ?_
    rw [List.getElem?_map] at hx
    obtain ⟨r, hr1, hr2⟩ := Option.map_eq_some_iff.mp hx
    subst hr2
    obtain ⟨l1, l2⟩ := h2 r (List.mem_of_getElem? hr1)
    unfold rowL
    congr 1
    refine list_tab l1 fun j y hy => ?_
    have e : R.getD i [] = r := by simp [List.getD, hr1]
    obtain ⟨e', he1, _⟩ := l2 y (List.mem_of_getElem? hy)
    dsimp only
    rw [e]
    have e2 : r.getD j .non = y := by simp [List.getD, hy]
    rw [e2, he1, dec_end]
theorem isE_non {n : Nat} : isE n .non := ⟨none, rfl, fun c h => by cases h⟩
theorem isE_m1 {n : Nat} : isE n (.int (-1)) := ⟨some none, rfl, fun c h => by cases h⟩
theorem isE_c {n c : Nat} (h : c < n) : isE n (.int (c : Nat)) := ⟨some (some c), rfl, fun d hd => by cases hd; exact h⟩
theorem sd_none {n : Nat} : Sd n fun _ _ => none := by
  rintro a b c _ _ _ ⟨x, y, h, _⟩
  cases h
theorem cl_none {n : Nat} : Cl n fun _ _ => none := fun a b c _ _ h => by cases h
theorem noNs_ends {b : Bool} : ∀ {l : List PV}, (∀ p ∈ l, noP b p = true) → noNs b (l.map .leaf) = true
  | [], _ => rfl
  | p :: l, h => by
    simp only [List.map_cons, noNs, noN, h p List.mem_cons_self, Bool.true_and]
    exact noNs_ends fun q hq => h q (List.mem_cons_of_mem _ hq)
abbrev SSl (t : OT) (s1 : Option OT) (m : Nat) (s3 s4 s5 s6 : Option OT) : Sl := [some t, s1, some (.leaf (.int (m : Nat))), s3, s4, s5, s6]
theorem sound1 {k m : Nat} {t : OT} {s1 s3 s5 s6 : Option OT} {R : List OT} {QQ : QS} {E : QX} (hb : Bx k t) (hk : k ≤ 100000000) (hm : 1 ≤ m) (hm2 : m ≤ 4) (hR : R.length < sizeLine)
    (h : ∀ (t' : OT) (l : List PV) (s5 s6 : Option OT), Bx (k + 20) t' → l.length = m → (∀ p ∈ l, isE m p) → QQ .nx (SSl t' s1 m s3 (some (.node (R ++ [.node (l.map .leaf)]))) s5 s6)) : Wp (m_law_sound_1 (SSl t s1 m s3 (some (.node R)) s5 s6)) QQ E := by
  unfold m_law_sound_1
  o_shape
  refine ⟨okR_in (by omega) (by omega), ?_⟩
  rw [Int.toNat_natCast]
  refine lc_rng (fun j acc S => ∃ t l, S = SSl t s1 m s3 (some (.node R)) s5 none ∧ acc = l.map .leaf ∧ l.length = j ∧ (∀ p ∈ l, isE m p) ∧ Bx (k + 3 * j) t)
    (Nat.le_trans hm2 (by decide)) ⟨t, [], rfl, rfl, rfl, fun _ h => by simp at h, hb⟩ ?_ ?_
  · rintro j acc S hj ⟨t, l, rfl, rfl, hl1, hl2, hb2⟩
    o_shape
    refine take_use hb2 (by omega) (by omega) (by omega) fun c t2 hc hb3 => ?_
    o_shape
    refine take_use hb3 (by omega) (by omega) (by omega) fun d t3 hd hb4 => ?_
    o_shape
    refine pick_use hb4 rfl (by simp) (by simp) (by omega) fun x t4 hx hb5 => ?_
    o_shape
    refine ⟨t4, l ++ [x], rfl, by simp, by simp [hl1], fun p hp => ?_, hb5.mono (by omega)⟩
    rcases List.mem_append.mp hp with z | z
    · exact hl2 p z
    · simp only [List.mem_singleton] at z
      subst z
      simp only [List.mem_cons, List.mem_nil_iff, or_false] at hx
      rcases hx with rfl | rfl | rfl | rfl | rfl | rfl
      · exact isE_non
      · exact isE_non
      · exact isE_non
      · exact isE_m1
      · exact isE_c (by omega)
      · exact isE_c (by omega)
  · rintro acc S ⟨t2, l, rfl, rfl, hl1, hl2, hb2⟩
    o_shape
    exact ⟨hR, h t2 l _ _ (hb2.mono (by omega)) hl1 hl2⟩
theorem sound_use {k : Nat} {t : OT} (hb : Bx k t) (hk : k ≤ 900000) {Q : OT → List OT → Prop} {E : Exn → List OT → Prop}
    (h : ∀ n f t', 1 ≤ n → n ≤ 5 → Cl n f → Sd n f → Bx (k + 3000) t' → ∀ r, fz r = rowsL n f → Q r [t']) : WpR (run_law_sound [t]) Q E := by
  rw [wp_run]
  unfold m_law_sound
  o_shape
  refine take_use hb (by omega) (by omega) (by omega) fun d0 t1 hd0 hb1 => ?_
  o_shape
  refine ⟨fun _ => ?_, fun _ => ?_⟩
  · refine take_use hb1 (by omega) (by omega) (by omega) fun d t2 hd hb2 => ?_
    o_shape
    rw [show (1 : Int) + (d : Nat) = ((d + 1 : Nat) : Int) by omega]
    refine maps_use hb2 (by omega) (by omega) (by omega) fun st T t3 hs1 hs2 hT hl1 hl2 hb3 r hr => ?_
    o_shape
    rw [hr]
    refine rows_of_eq hT hl1 (by omega) hs1 hs2 fun r' hr' => ?_
    o_shape
    exact h _ _ t3 hl1 (by omega) fM_cl (fM_sd hT) (hb3.mono (by omega)) r' hr'
  · unfold m_law_sound_5
    o_shape
    refine take_use hb1 (by omega) (by omega) (by omega) fun d t2 hd hb2 => ?_
    o_shape
    rw [show (1 : Int) + (d : Nat) = ((d + 1 : Nat) : Int) by omega]
    generalize hm : d + 1 = m
    refine ⟨okR_in (by omega) (by omega), ?_⟩
    rw [show Int.toNat 30 = 30 from rfl]
    refine for_rng (fun i S => ∃ t s3 s4 s5 s6, S = SSl t (some (.leaf (.int (d0 : Nat)))) m s3 s4 s5 s6 ∧ Bx (k + 2 + 80 * i) t) ?_ ?_ ?_
    · exact ⟨t2, _, _, _, _, rfl, hb2.mono (by omega)⟩
    · rintro i S hi ⟨t, s3, s4, s5, s6, rfl, hb⟩
      unfold m_law_sound_3
      o_shape
      refine ⟨okR_in (by omega) (by omega), ?_⟩
      rw [Int.toNat_natCast]
      refine for_rng (fun j S => ∃ (t : OT) (R : List (List PV)) (s5 s6 : Option OT), S = SSl t (some (.leaf (.int (d0 : Nat)))) m (some (.leaf (.int (i : Nat)))) (some (.node (R.map fun l => OT.node (l.map .leaf)))) s5 s6 ∧ Bx (k + 2 + 80 * i + 20 * j) t ∧ R.length = j ∧ ∀ l ∈ R, l.length = m ∧ ∀ p ∈ l, isE m p) ⟨t, [], _, _, rfl, hb.mono (by omega), rfl, fun _ h => by simp at h⟩ ?_ ?_
      · rintro j S hj ⟨t, R, s5, s6, rfl, hb, hR1, hR2⟩
        o_shape
        refine sound1 hb (by omega) (by omega) (by omega) (by rw [List.length_map]; exact Nat.lt_of_lt_of_le (show R.length < 5 by omega) (by decide)) fun t' l s5 s6 hb' hl1 hl2 => ?_
        o_shape
        have eR : (R.map fun l => OT.node (l.map .leaf)) ++ [OT.node (l.map .leaf)] = (R ++ [l]).map fun l => OT.node (l.map .leaf) := by simp
        rw [eR]
        refine ⟨t', R ++ [l], _, _, rfl, hb'.mono (by omega), by simp [hR1], fun x hx => ?_⟩
        rcases List.mem_append.mp hx with z | z
        · exact hR2 x z
        · simp only [List.mem_singleton] at z
          subst z
          exact ⟨hl1, hl2⟩
      · rintro S ⟨t, R, s5, s6, rfl, hb, hR1, hR2⟩
        obtain ⟨f, hcl, hf⟩ := rows_fn hR1 hR2
        have hf2 : fz (.node (R.map fun l => OT.node (l.map .leaf))) = rowsL m f := by
          rw [fz_node, List.map_map, ← hf]
          congr 1
          refine List.map_congr_left fun l _ => ?_
          show fz (.node (l.map .leaf)) = _
          rw [fz_node, map_fz_leaf]
        unfold m_law_sound_2
        o_shape
        rw [show PV.lst (R.map (fz ∘ fun l => OT.node (l.map .leaf))) = rowsL m f by rw [← hf2, fz_node, List.map_map]]
        refine (against_wp hcl (by omega)).mono (fun r os q => ?_) (fun _ _ q => q.elim)
        obtain ⟨rfl, ⟨rfl, hsd⟩ | ⟨a, b, c, hlb, rfl⟩⟩ := q
        · o_shape
          exact h m f t (by omega) (by omega) hcl hsd (hb.mono (by omega)) _ rfl
        · simp only [threeP]
          o_shape
          exact ⟨t, _, _, _, _, rfl, hb.mono (by omega)⟩
    · rintro S ⟨t, s3, s4, s5, s6, rfl, hb⟩
      unfold m_law_sound_4
      o_shape
      refine ⟨okR_in (by omega) (by omega), ?_⟩
      rw [Int.toNat_natCast]
      refine lc_rng_map (fun _ => .node (List.replicate m (.leaf .non))) (Nat.le_trans (show m ≤ 4 by omega) (by decide)) (fun j acc P hj hP => ?_) ?_
      · o_shape
        refine ⟨⟨by omega, by omega, ?_⟩, ?_⟩
        · rw [Int.toNat_natCast, Nat.one_mul]
          exact Nat.le_trans (show m ≤ 4 by omega) (by decide)
        · rw [Int.toNat_natCast]
          have : (List.replicate m [PV.non]).flatten.map OT.leaf = List.replicate m (.leaf .non) := by
            have e : (List.replicate m [PV.non]).flatten = List.replicate m PV.non := by
              clear hP hj hm hb2 hb h hd
              induction m with
              | zero => rfl
              | succ m ih => rw [List.replicate_succ, List.flatten_cons, ih]; rfl
            rw [e]
            simp
          rw [this]
          exact hP
      · o_shape
        refine h m (fun _ _ => none) t (by omega) (by omega) cl_none sd_none (hb.mono (by omega)) _ ?_
        rw [fz_node, List.map_map]
        unfold rowsL
        congr 1
        refine List.map_congr_left fun i _ => ?_
        show fz (.node (List.replicate m (.leaf .non))) = rowL m (fun _ _ => none) i
        rw [fz_node, List.map_replicate]
        unfold rowL
        congr 1
        exact list_tab (by simp) fun j x hx => by
          rw [List.getElem?_replicate] at hx
          split at hx
          · cases hx; rfl
          · cases hx
end K01


namespace K01
open PySem Fy Pg PgS K01H
/-! ### what is heard -/
def tru : PV := .bl true
theorem hd_merger {p : PV} : hd_law_heard ⟨"BadMerger", ["at"], [p]⟩ = some (.tup [.str "merger", p, .bl true]) := rfl
theorem hd_three {p : PV} : hd_law_heard ⟨"Unsound", ["three"], [p]⟩ = some (.tup [.str "three", p, .bl true]) := rfl
theorem hd_queue {p : PV} : hd_law_heard ⟨"BadQueue", ["at"], [p]⟩ = some (.tup [.str "queue", p, .bl true]) := rfl
def asP (o : Out OT) : Option PV := match o with
  | .ok (.leaf p) _ => some p
  | _ => none
theorem hd_wp {o : Out OT} {q : PV} (h : Wp o (fun t _ => t = .leaf q) noE) : asP o = some q := by
  unfold Wp at h
  cases o with
  | stuck => exact h.elim
  | err x S => exact (h : False).elim
  | ok t S =>
    have h : t = .leaf q := h
    subst h
    rfl
theorem hd_command {p : PV} (h : okRp p = true) : hd_law_heard ⟨"NoCommand", ["command"], [p]⟩ = some (.tup [.str "command", .str (reprS p), .bl true]) := by
  refine (show hd_law_heard ⟨"NoCommand", ["command"], [p]⟩ = asP ((eT (aC (eC (.str "command")) (aC (eN fRepr (aC (hF exs fs ⟨"NoCommand", ["command"], [p]⟩ "command") aN)) (aC (eAnd (hI exs tx ⟨"NoCommand", ["command"], [p]⟩ (.b "KeyError")) (eNot (hI exs tx ⟨"NoCommand", ["command"], [p]⟩ (.o "FoldError")))) aN)))) (List.replicate 2 none)) from rfl).trans (hd_wp ?_)
  rw [show hF exs fs ⟨"NoCommand", ["command"], [p]⟩ "command" = eC p from rfl, show hI exs tx ⟨"NoCommand", ["command"], [p]⟩ (.b "KeyError") = eC (.bl true) from rfl, show hI exs tx ⟨"NoCommand", ["command"], [p]⟩ (.o "FoldError") = eC (.bl false) from rfl]
  o_shape
  exact h
/-! ### facts of rows -/
theorem dok_rowsT {n : Nat} {f : Mf} : dok 2 (rowsT n f) = true := by
  simp only [rowsT, dok, doks_all, List.all_map, List.all_eq_true]
  intro i _
  simp only [Function.comp, rowT, dok, doks_all, List.all_map, List.all_eq_true]
  intro j _
  exact dok_end
theorem dok_rowL {n : Nat} {f : Mf} {i : Nat} : dok 1 (rowL n f i) = true := by
  simp only [rowL, dok, doks_all, List.all_map, List.all_eq_true]
  intro j _
  exact dok_end
theorem rok_end {n : Nat} {e : Option (Option Nat)} (h : ∀ c, e = some (some c) → c < n) (hn : n ≤ 1000000) : rok (endP e) = true := by
  rcases e with _ | _ | c
  · rfl
  · rfl
  · have := h c rfl
    simp only [endP, cmP, rok, decide_eq_true_eq, Int.natAbs_natCast]
    omega
theorem rwt_end {e : Option (Option Nat)} : rwt (endP e) ≤ 22 := by
  rcases e with _ | _ | c <;> simp [endP, cmP, rwt]
theorem tab_mem {α : Type} {n : Nat} {f : Nat → α} {x : α} (h : x ∈ tab n f) : ∃ i, i < n ∧ x = f i := by
  obtain ⟨i, hi, rfl⟩ := List.mem_map.mp h
  exact ⟨i, List.mem_range.mp hi, rfl⟩
theorem rwts_tab {n m : Nat} {g : Nat → PV} (h : ∀ i, i < n → rwt (g i) ≤ m) : rwts (tab n g) ≤ n * (m + 2) := by
  have := rwts_le (m := m) (xs := tab n g) fun x hx => by
    obtain ⟨i, hi, rfl⟩ := tab_mem hx
    exact h i hi
  rw [tab_len] at this
  exact this
theorem rok_rowT {n i : Nat} {f : Mf} (hc : Cl n f) (hi : i < n) (hn : n ≤ 12) : rok (rowT n f i) = true := by
  simp only [rowT, rok, roks_all, List.all_eq_true]
  intro x hx
  obtain ⟨j, hj, rfl⟩ := tab_mem hx
  exact rok_end (n := n) (fun c h => hc i j c hi hj h) (by omega)
theorem rok_rowsT {n : Nat} {f : Mf} (hc : Cl n f) (hn : n ≤ 12) : rok (rowsT n f) = true := by
  simp only [rowsT, rok, roks_all, List.all_eq_true]
  intro x hx
  obtain ⟨i, hi, rfl⟩ := tab_mem hx
  exact rok_rowT hc hi hn
theorem mul_le12 {n m : Nat} (h : n ≤ 12) : n * m ≤ 12 * m := Nat.mul_le_mul_right m h
theorem rwt_rowT {n i : Nat} {f : Mf} (hn : n ≤ 12) : rwt (rowT n f i) ≤ 292 := by
  have h1 := rwts_tab (n := n) (m := 22) (g := fun j => endP (f i j)) fun j _ => rwt_end
  have h2 := mul_le12 (m := 22 + 2) hn
  simp only [rowT, rwt]
  omega
theorem rwt_rowsT {n : Nat} {f : Mf} (hn : n ≤ 12) : rwt (rowsT n f) ≤ 3532 := by
  have h1 := rwts_tab (n := n) (m := 292) (g := rowT n f) fun j _ => rwt_rowT hn
  have h2 := mul_le12 (m := 292 + 2) hn
  simp only [rowsT, rwt]
  omega
theorem okRp_pair {n : Nat} {f : Mf} (hc : Cl n f) (hn : n ≤ 12) : okRp (.lst [.int (n : Nat), rowsT n f]) = true := by
  refine okRp_of (k := 3) ?_ ?_ ?_
  · simp only [dok, doks, Bool.and_true, Bool.true_and]
    exact dok_rowsT
  · simp only [rok, roks, rok_rowsT hc hn, Bool.and_true, decide_eq_true_eq, Int.natAbs_natCast]
    omega
  · have := rwt_rowsT (f := f) hn
    simp only [rwt, rwts]
    omega
theorem okRp_row {n i : Nat} {f : Mf} (hc : Cl n f) (hn : n ≤ 12) (hi : i < n) : okRp (rowL n f i) = true := by
  refine okRp_of (k := 1) dok_rowL ?_ ?_
  · have := rok_rowT hc hi hn
    simpa only [rowT, rowL, rok] using this
  · have := rwt_rowT (f := f) (i := i) hn
    simp only [rowT, rowL, rwt] at this ⊢
    omega
theorem okRp_end {n : Nat} {e : Option (Option Nat)} (h : ∀ c, e = some (some c) → c < n) (hn : n ≤ 1000000) : okRp (endP e) = true := okRp_of (k := 0) dok_end (rok_end h hn) (Nat.le_trans rwt_end (by decide))
theorem okRp_two {n : Nat} {e e' : Option (Option Nat)} (h : ∀ c, e = some (some c) → c < n) (h' : ∀ c, e' = some (some c) → c < n) (hn : n ≤ 1000000) : okRp (.tup [endP e, endP e']) = true := by
  refine okRp_of (k := 1) ?_ ?_ ?_
  · simp only [dok, doks, dok_end, Bool.and_self]
  · simp only [rok, roks, rok_end h hn, rok_end h' hn, Bool.and_self]
  · have h1 := rwt_end (e := e)
    have h2 := rwt_end (e := e')
    simp only [rwt, rwts]
    omega
theorem eq_self {k : Nat} {p : PV} (h : dok k p = true) (hk : k ≤ 64 := by decide) {S : Sl} {Q : QO} : Op (pNe p p) S Q = Q (.leaf (.bl false)) S := by
  rw [op_ne, okE_of h h hk, peq_refl h]
  simp
theorem eqS_self {x : Str} {S : Sl} {Q : QO} : Op (pNe (.str x) (.str x)) S Q = Q (.leaf (.bl false)) S := eq_self (k := 0) rfl
theorem noNs_tab {b : Bool} {n : Nat} {g : Nat → PV} (h : ∀ i, i < n → noP b (g i) = true) : noPs b (tab n g) = true := by
  have : ∀ l : List PV, (∀ p ∈ l, noP b p = true) → noPs b l = true := fun l => by
    induction l with
    | nil => intro _; rfl
    | cons p l ih =>
      intro h
      simp only [noPs, h p List.mem_cons_self, Bool.true_and]
      exact ih fun q hq => h q (List.mem_cons_of_mem _ hq)
  refine this _ fun p hp => ?_
  obtain ⟨i, hi, rfl⟩ := tab_mem hp
  exact h i hi
theorem noP_end {b : Bool} {e : Option (Option Nat)} : noP b (endP e) = true := by rcases e with _ | _ | c <;> rfl
theorem noP_rowsT {b : Bool} {n : Nat} {f : Mf} : noP b (rowsT n f) = true := by
  simp only [rowsT, noP]
  refine noNs_tab fun i _ => ?_
  simp only [rowT, noP]
  exact noNs_tab fun j _ => noP_end
theorem noN_mg {b : Bool} {n : Nat} {f : Mf} : noN b (mgO n f) = true := by
  simp only [mgO, noN, noNs, noP, noP_rowsT, Bool.and_self]
theorem op_mgeq {n m : Nat} {f g : Mf} {S : Sl} {Q : QO} : Op (orF2 (fEqO tab_Merger "Merger" [.b "tuple", .b "list", .o "Merger"] run_Merger_eq) pEq (mgP n f) (mgP m g)) S Q = Q (.leaf (.bl (peq (rowsT n f) (rowsT m g)))) S :=
  op_or1 (fEqO_of rfl (show tyP (mgP m g) = some (.o "Merger") from rfl) (by simp) rfl merger_eq)
theorem op_mgeqT {n m : Nat} {f g : Mf} {S : Sl} {Q : QO} : Op (orF2 (fEqO tab_Merger "Merger" [.b "tuple", .b "list", .o "Merger"] run_Merger_eq) pEq (mgP n f) (rowsT m g)) S Q = Q (.leaf (.bl false)) S :=
  op_or1 (fEqO_of rfl (show tyP (rowsT m g) = some (.b "tuple") from rfl) (by simp) rfl (merger_eq_no rfl))
theorem peq_rows_ne {n m : Nat} {f g : Mf} (h : n ≠ m) : peq (rowsT n f) (rowsT m g) = false := by
  have c : ∀ {n : Nat} {f : Mf}, cano (rowsT n f) = true := fun {n f} => by
    simp only [rowsT, cano, canos_all, List.all_eq_true]
    intro x hx
    obtain ⟨i, hi, rfl⟩ := tab_mem hx
    simp only [rowT, cano, canos_all, List.all_eq_true]
    intro x hx
    obtain ⟨i, hi, rfl⟩ := tab_mem hx
    exact cano_end
  refine peq_ne c c fun e => h ?_
  simp only [rowsT, PV.tup.injEq] at e
  have := congrArg List.length e
  rwa [tab_len, tab_len] at this
theorem peq_rows_self {n : Nat} {f : Mf} : peq (rowsT n f) (rowsT n f) = true := peq_refl dok_rowsT
end K01


namespace K01
open PySem Fy Pg PgS K01H
abbrev TS (t : OT) (n : Nat) (f : Mf) (s2 s3 s4 s5 s6 s7 s8 s10 s11 s12 s13 : Option OT) : Sl := [some t, some (.leaf (rowsL n f)), s2, s3, s4, s5, s6, s7, s8, some (.leaf (.int (n : Nat))), s10, s11, s12, s13]
def comP (p : PV) : PV := .tup [.str "command", .str (reprS p), .bl true]
theorem dok_com {p : PV} : dok 1 (comP p) = true := rfl
theorem ne_com {p : PV} {S : Sl} {Q : QO} : Op (pNe (comP p) (comP p)) S Q = Q (.leaf (.bl false)) S := eq_self dok_com
section
variable {n : Nat} {f : Mf} {t : OT} {s2 s3 s4 s5 s6 s7 s8 s10 s11 s12 s13 : Option OT} {QQ : QS} {E : QX} {p : PV}
theorem told3 (hn : 1 ≤ n) (hp : basic p = true) (hb : belowP n p = false) (hr : okRp p = true) (h : QQ .nx (TS t n f (some (.leaf (mgP n f))) s3 s4 s5 (some (.leaf (comP p))) (some (.leaf p)) s8 s10 s11 s12 s13)) : Wp (m_law_told_right_3 (TS t n f (some (.leaf (mgP n f))) s3 s4 s5 (some (.leaf (comP p))) (some (.leaf p)) s8 s10 s11 s12 s13)) QQ E := by
  have b0 : belowP n (.int 0) = true := by simp [belowP]; omega
  unfold m_law_told_right_3
  o_shape
  rw [three_bad (p := .int 0) (q := .int 0) (r := p) (w := p) rfl rfl hp (.inr (.inr ⟨b0, b0, hb, rfl⟩))]
  o_shape
  rw [hd_command hr]
  o_shape
  exact ⟨rfl, same_ne (p := comP p) dok_com h⟩
theorem told4 (hn : 1 ≤ n) (hp : basic p = true) (hb : belowP n p = false) (hr : okRp p = true) (h : QQ .nx (TS t n f (some (.leaf (mgP n f))) s3 s4 s5 (some (.leaf (comP p))) (some (.leaf p)) s8 s10 s11 s12 s13)) : Wp (m_law_told_right_4 (TS t n f (some (.leaf (mgP n f))) s3 s4 s5 (some (.leaf (comP p))) (some (.leaf p)) s8 s10 s11 s12 s13)) QQ E := by
  have b0 : belowP n (.int 0) = true := by simp [belowP]; omega
  unfold m_law_told_right_4
  o_shape
  rw [three_bad (p := .int 0) (q := p) (r := .non) (w := p) rfl hp rfl (.inr (.inl ⟨b0, hb, rfl⟩))]
  o_shape
  rw [hd_command hr]
  o_shape
  exact ⟨rfl, same_ne (p := comP p) dok_com (told3 hn hp hb hr h)⟩
theorem told5 (hn : 1 ≤ n) (hp : basic p = true) (hb : belowP n p = false) (hr : okRp p = true) (h : QQ .nx (TS t n f (some (.leaf (mgP n f))) s3 s4 s5 (some (.leaf (comP p))) (some (.leaf p)) s8 s10 s11 s12 s13)) : Wp (m_law_told_right_5 (TS t n f (some (.leaf (mgP n f))) s3 s4 s5 (some (.leaf (comP p))) (some (.leaf p)) s8 s10 s11 s12 s13)) QQ E := by
  unfold m_law_told_right_5
  o_shape
  rw [three_bad (p := p) (q := .non) (r := .int 0) (w := p) hp rfl rfl (.inl ⟨hb, rfl⟩)]
  o_shape
  rw [hd_command hr]
  o_shape
  exact ⟨rfl, same_ne (p := comP p) dok_com (told4 hn hp hb hr h)⟩
theorem told6 (hn : 1 ≤ n) (hp : basic p = true) (hb : belowP n p = false) (hr : okRp p = true) (h : QQ .nx (TS t n f (some (.leaf (mgP n f))) s3 s4 s5 (some (.leaf (comP p))) (some (.leaf p)) s8 s10 s11 s12 s13)) : Wp (m_law_told_right_6 (TS t n f (some (.leaf (mgP n f))) s3 s4 s5 (some (.leaf (comP p))) (some (.leaf p)) s8 s10 s11 s12 s13)) QQ E := by
  unfold m_law_told_right_6
  o_shape
  rw [show run_merged [.leaf (mgP n f), .leaf (.int 0), .leaf p] = _ from merged_bad2 (a := 0) (by omega) hp hb]
  o_shape
  rw [hd_command hr]
  o_shape
  exact ⟨rfl, same_ne (p := comP p) dok_com (told5 hn hp hb hr h)⟩
theorem told7 {s6 : Option OT} (hn : 1 ≤ n) (hp : basic p = true) (hb : belowP n p = false) (hr : okRp p = true) (h : QQ .nx (TS t n f (some (.leaf (mgP n f))) s3 s4 s5 (some (.leaf (comP p))) (some (.leaf p)) s8 s10 s11 s12 s13)) : Wp (m_law_told_right_7 (TS t n f (some (.leaf (mgP n f))) s3 s4 s5 s6 (some (.leaf p)) s8 s10 s11 s12 s13)) QQ E := by
  unfold m_law_told_right_7
  o_shape
  refine ⟨hr, ?_⟩
  rw [merged_bad1 hp hb]
  o_shape
  rw [hd_command hr]
  o_shape
  exact ⟨rfl, same_ne (p := comP p) dok_com (told6 hn hp hb hr h)⟩
theorem told8 (hn : 1 ≤ n) (hn2 : n ≤ 12) (h : ∀ S, S[0]? = some (some t) → QQ (.rt (.leaf (.bl true))) S) : Wp (m_law_told_right_8 (TS t n f (some (.leaf (mgP n f))) s3 s4 s5 s6 s7 s8 s10 s11 s12 s13)) QQ E := by
  unfold m_law_told_right_8
  o_shape
  refine for_rule (fun i S => ∃ s6 s7, S = TS t n f (some (.leaf (mgP n f))) s3 s4 s5 s6 s7 s8 s10 s11 s12 s13) ⟨_, _, rfl⟩ ?_ ?_
  · rintro i p S hp ⟨s6, s7, rfl⟩
    have hp := List.mem_of_getElem? hp
    have hq : basic p = true ∧ belowP n p = false ∧ okRp p = true := by
      simp only [List.mem_cons, List.mem_nil_iff, or_false] at hp
      rcases hp with rfl | rfl | rfl | rfl | rfl | rfl
      · refine ⟨rfl, by simp [belowP], okRp_of (k := 0) rfl ?_ ?_⟩
        · simp [rok]
          omega
        · exact (by decide : (22 : Nat) ≤ 16777216)
      · exact ⟨rfl, rfl, okRp_of (k := 0) rfl rfl (by decide)⟩
      · exact ⟨rfl, rfl, okRp_of (k := 0) rfl rfl (by decide)⟩
      · exact ⟨rfl, rfl, okRp_of (k := 0) rfl rfl (by decide)⟩
      · exact ⟨rfl, rfl, by decide +kernel⟩
      · exact ⟨rfl, rfl, okRp_of (k := 1) rfl rfl (by decide)⟩
    o_shape
    refine told7 hn hq.1 hq.2.1 hq.2.2 ?_
    o_shape
    exact ⟨_, _, rfl⟩
  · rintro S ⟨s6, s7, rfl⟩
    o_shape
    exact h _ rfl
theorem told9 {a b : Nat} (hn : 1 ≤ n) (hn2 : n ≤ 12) (ha : a < n) (hb : b < n) (h : ∀ S, S[0]? = some (some t) → QQ (.rt (.leaf (.bl true))) S) : Wp (m_law_told_right_9 (TS t n f (some (.leaf (mgP n f))) s3 s4 (some (.leaf (.int (a : Nat)))) s6 s7 s8 (some (.leaf (.int (b : Nat)))) s11 s12 s13)) QQ E := by
  unfold m_law_told_right_9
  o_shape
  simp only [pick_cons (show [mgP n f][0]? = _ from rfl), pick, List.filterMap_cons, List.filterMap_nil, List.getElem?_cons_zero, List.getElem?_cons_succ]
  o_shape
  rw [merged_ok ha hb]
  o_shape
  rw [at_rowsL ha]
  o_shape
  rw [at_rowL hb]
  o_shape
  exact same_ne (k := 0) dok_end (told8 hn hn2 h)
def dueP (f : Mf) (a b c : Nat) : PV := match f a b, f b c with
  | some x, some _ => .tup [endP (lo f x (some c)), endP (lo f x (some c))]
  | _, _ => .non
theorem three_due {a b c : Nat} (ha : a < n) (hb : b < n) (hc : c < n) (hcl : Cl n f) (hsd : Sd n f) : run_three_ends [.leaf (mgP n f), .leaf (.int (a : Nat)), .leaf (.int (b : Nat)), .leaf (.int (c : Nat))] = .ok (.leaf (dueP f a b c)) [] := by
  rw [three_ok ha hb hc hcl]
  congr 2
  unfold dueP
  cases e1 : f a b with
  | none => rfl
  | some x =>
    cases e2 : f b c with
    | none => rfl
    | some y =>
      have : lo f x (some c) = lo f (some a) y := Classical.byContradiction fun z => hsd a b c ha hb hc ⟨x, y, e1, e2, z⟩
      dsimp only
      rw [this]
theorem due_facts {a b c : Nat} (ha : a < n) (hb : b < n) (hc : c < n) (hcl : Cl n f) (hn : n ≤ 12) : dok 1 (dueP f a b c) = true ∧ okRp (dueP f a b c) = true := by
  unfold dueP
  cases e1 : f a b with
  | none => exact ⟨rfl, okRp_non⟩
  | some x =>
    cases e2 : f b c with
    | none => exact ⟨rfl, okRp_non⟩
    | some y =>
      have hx : ∀ d, lo f x (some c) = some (some d) → d < n := fun d hd => by
        cases x with
        | none => cases hd; exact hc
        | some x => exact hcl x c d (hcl a b x ha hb e1) hc hd
      refine ⟨?_, okRp_two (n := n) hx hx (by omega)⟩
      simp only [dok, doks, dok_end, Bool.and_self]
theorem told10 {a b c : Nat} (hn : 1 ≤ n) (hn2 : n ≤ 12) (ha : a < n) (hb : b < n) (hc : c < n) (hcl : Cl n f) (hsd : Sd n f) (h : ∀ S, S[0]? = some (some t) → QQ (.rt (.leaf (.bl true))) S) : Wp (m_law_told_right_10 (TS t n f (some (.leaf (mgP n f))) s3 s4 (some (.leaf (.int (a : Nat)))) (some (.leaf (dueP f a b c))) s7 s8 (some (.leaf (.int (b : Nat)))) (some (.leaf (.int (c : Nat)))) s12 s13)) QQ E := by
  obtain ⟨hd, hr⟩ := due_facts ha hb hc hcl hn2
  have e3 := three_due ha hb hc hcl hsd
  unfold m_law_told_right_10
  o_shape
  rw [e3]
  o_shape
  refine ⟨hr, hr, ?_⟩
  simp only [pick, List.filterMap_cons, List.filterMap_nil, List.getElem?_cons_zero, List.getElem?_cons_succ]
  o_shape
  rw [e3]
  o_shape
  exact same_ne hd (told9 hn hn2 ha hb h)
theorem told11 {k : Nat} (hbx : Bx k t) (hk : k ≤ 100000000) (hn : 1 ≤ n) (hn2 : n ≤ 12) (hcl : Cl n f) (hsd : Sd n f) (h : ∀ S t', Bx (k + 3) t' → S[0]? = some (some t') → QQ (.rt (.leaf (.bl true))) S) : Wp (m_law_told_right_11 (TS t n f (some (.leaf (mgP n f))) s3 s4 s5 s6 s7 s8 s10 s11 s12 s13)) QQ E := by
  unfold m_law_told_right_11
  o_shape
  refine take_use hbx (by omega) (by omega) (by omega) fun a t1 ha hb1 => ?_
  o_shape
  refine take_use hb1 (by omega) (by omega) (by omega) fun b t2 hb hb2 => ?_
  o_shape
  refine take_use hb2 (by omega) (by omega) (by omega) fun c t3 hc hb3 => ?_
  o_shape
  have ha : a < n := by omega
  have hb : b < n := by omega
  have hc : c < n := by omega
  have fin : ∀ p s12, p = dueP f a b c → Wp (m_law_told_right_10 (TS t3 n f (some (.leaf (mgP n f))) s3 s4 (some (.leaf (.int (a : Nat)))) (some (.leaf p)) s7 s8 (some (.leaf (.int (b : Nat)))) (some (.leaf (.int (c : Nat)))) s12 s13)) QQ E := fun p s12 hp => by
    subst hp
    exact told10 hn hn2 ha hb hc hcl hsd fun S hS => h S t3 hb3 hS
  rw [at_rowsL ha]
  o_shape
  rw [at_rowL hb]
  o_shape
  rw [isNon_end]
  cases e1 : f a b with
  | none => exact ⟨fun z => by simp at z, fun _ => fin _ _ (by unfold dueP; rw [e1])⟩
  | some x =>
    refine ⟨fun _ => ?_, fun z => by simp at z⟩
    rw [at_rowsL hb]
    o_shape
    rw [at_rowL hc]
    o_shape
    rw [isNon_end]
    cases e2 : f b c with
    | none => exact ⟨fun z => by simp at z, fun _ => fin _ _ (by unfold dueP; rw [e1, e2])⟩
    | some y =>
      refine ⟨fun _ => ?_, fun z => by simp at z⟩
      rw [at_rowsL ha]
      o_shape
      rw [at_rowL hb, e1, show endP (some x) = cmP x from rfl]
      o_shape
      refine ⟨cm_okE, ?_⟩
      rw [cm_peq]
      unfold m_law_told_right_2
      cases x with
      | none =>
        refine ⟨fun _ => ?_, fun z => by simp at z⟩
        o_shape
        exact fin _ _ (by unfold dueP; rw [e1, e2]; rfl)
      | some x =>
        refine ⟨fun z => by simp at z, fun _ => ?_⟩
        rw [at_rowsL ha]
        o_shape
        rw [at_rowL hb, e1, show endP (some (some x)) = .int (x : Nat) from rfl]
        o_shape
        rw [at_rowsL (hcl a b x ha hb e1)]
        o_shape
        rw [at_rowL hc]
        o_shape
        exact fin _ _ (by unfold dueP; rw [e1, e2]; rfl)
theorem told12 {k : Nat} (hbx : Bx k t) (hk : k ≤ 100000000) (hn : 1 ≤ n) (hn2 : n ≤ 12) (hcl : Cl n f) (hsd : Sd n f) (h : ∀ S t', Bx (k + 3) t' → S[0]? = some (some t') → QQ (.rt (.leaf (.bl true))) S) : Wp (m_law_told_right_12 (TS t n f (some (.leaf (mgP n f))) s3 s4 s5 s6 s7 s8 s10 none s12 none)) QQ E := by
  unfold m_law_told_right_12
  o_shape
  refine ⟨okR_in (by omega) (by omega), ?_⟩
  rw [Int.toNat_natCast]
  refine for_rng (fun i S => ∃ s5, S = TS t n f (some (.leaf (mgP n f))) s3 s4 s5 s6 s7 s8 s10 none s12 none) ⟨_, rfl⟩ ?_ ?_
  · rintro i S hi ⟨s5, rfl⟩
    unfold m_law_told_right_1
    o_shape
    refine ⟨okR_in (by omega) (by omega), ?_⟩
    rw [Int.toNat_natCast]
    refine lc_rng_map (fun j => .leaf (endP (f i j))) (Nat.le_trans hn2 (by decide)) (fun j acc P hj hP => ?_) ?_
    · o_shape
      rw [merged_ok hi hj]
      o_shape
      exact hP
    · o_shape
      rw [at_rowsL hi]
      o_shape
      simp only [rowL]
      o_shape
      have hr := okRp_row hcl hn2 hi
      simp only [rowL] at hr
      exact ⟨hr, hr, ⟨_, rfl⟩⟩
  · rintro S ⟨s5, rfl⟩
    o_shape
    exact told11 hbx hk hn hn2 hcl hsd h
end
end K01


namespace K01
open PySem Fy Pg PgS K01H
theorem rep_flat {α : Type} {n : Nat} {x : α} : (List.replicate n [x]).flatten = List.replicate n x := by
  induction n with
  | zero => rfl
  | succ n ih => rw [List.replicate_succ, List.flatten_cons, ih]; rfl
theorem rep_tab {α : Type} {n : Nat} {x : α} : List.replicate n x = tab n fun _ => x := list_tab (by simp) fun j y hy => by
  rw [List.getElem?_replicate] at hy
  split at hy
  · cases hy; rfl
  · cases hy
theorem told_rep {k : Nat} : Told k (fun _ _ => none) (.lst (List.replicate k (.lst (List.replicate k .non)))) := by
  have : PV.lst (List.replicate k (.lst (List.replicate k .non))) = rowsL k fun _ _ => none := by
    unfold rowsL rowL
    rw [rep_tab, rep_tab]
    rfl
  rw [this]
  exact told_L
section
variable {n : Nat} {f : Mf} {t : OT} {s2 s3 s4 s5 s6 s7 s8 s10 s11 s12 s13 : Option OT} {QQ : QS} {E : QX} {p : PV}
theorem told13 {k : Nat} (hbx : Bx k t) (hk : k ≤ 100000000) (hn : 1 ≤ n) (hn2 : n ≤ 5) (hcl : Cl n f) (hsd : Sd n f) (h : ∀ S t', Bx (k + 3) t' → S[0]? = some (some t') → QQ (.rt (.leaf (.bl true))) S) : Wp (m_law_told_right_13 (TS t n f (some (.leaf (mgP n f))) s3 (some (.leaf (rowsT n f))) s5 s6 s7 s8 s10 none s12 none)) QQ E := by
  unfold m_law_told_right_13
  o_shape
  rw [show (n : Int).fmod 12 + 1 = ((n % 12 + 1 : Nat) : Int) by rw [fmod_eq (by decide)]; omega]
  generalize hm : n % 12 + 1 = m
  rw [Int.toNat_natCast, rep_flat, rep_flat]
  have hlen : ∀ {α : Type} {x : α}, ([x] : List α).length * m ≤ sizeLine := fun {α x} => by
    rw [List.length_singleton, Nat.one_mul]
    exact Nat.le_trans (show m ≤ 12 by omega) (by decide)
  have hside : ∀ {α : Type} {x : α}, -(2 ^ 63) ≤ (m : Int) ∧ (m : Int) < 2 ^ 63 ∧ ([x] : List α).length * m ≤ sizeLine := fun {α x} => ⟨by omega, by omega, hlen⟩
  refine ⟨by decide, hside (x := PV.non), by decide, hside (x := PV.non), ?_⟩
  rw [merger_ok told_rep (by omega) (by omega) cl_none sd_none]
  o_shape
  rw [fz_mgO, op_mgeq, peq_rows_ne (by omega)]
  o_shape
  rw [merger_ok told_T hn (by omega) hcl hsd]
  o_shape
  rw [fz_mgO, op_mgeq, peq_rows_self]
  o_shape
  exact told12 hbx hk hn (by omega) hcl hsd h
theorem told14 {k : Nat} (hbx : Bx k t) (hk : k ≤ 100000000) (hn : 1 ≤ n) (hn2 : n ≤ 5) (hcl : Cl n f) (hsd : Sd n f) (h : ∀ S t', Bx (k + 3) t' → S[0]? = some (some t') → QQ (.rt (.leaf (.bl true))) S) : Wp (m_law_told_right_14 (TS t n f (some (mgO n f)) s3 s4 s5 s6 s7 (some (.node (tab n fun i => OT.node (tab n fun j => .leaf (endP (f i j)))))) s10 none s12 none)) QQ E := by
  unfold m_law_told_right_14
  o_shape
  rw [kSMv (k := 0) (t := .node (tab n fun j => .leaf (endP (f 0 j)))) (by unfold tab; rw [List.getElem?_map, List.getElem?_range (by omega)]; rfl)]
  o_shape
  rw [kSet3 (j := 0) (by rw [tab_len]; exact ix_0 (by omega))]
  o_shape
  simp only [rowsL]
  o_shape
  refine lc_map (fun r => .leaf (.tup ((seqOf r).getD []))) (by rw [tab_len]; exact Nat.le_trans (show n ≤ 12 by omega) (by decide)) (fun i r acc P hr hP => ?_) ?_
  · obtain ⟨_, rfl⟩ := tab_at hr
    o_shape
    simp only [rowL] at hP ⊢
    o_shape
    exact hP
  · o_shape
    simp only [mgO]
    o_shape
    rw [show ((List.range n).map fun x => PV.tup ((seqOf (rowL n f x)).getD [])) = tab n (rowT n f) from rfl]
    rw [show Op (fFld ["Merger"] "commands" (PV.obj "Merger" ["commands", "rows"] [PV.int (n : Nat), rowsT n f])) _ _ = _ from fld_commands]
    o_shape
    rw [show Op (fFld ["Merger"] "rows" (PV.obj "Merger" ["commands", "rows"] [PV.int (n : Nat), rowsT n f])) _ _ = _ from fld_rows]
    o_shape
    have hr := okRp_pair hcl (show n ≤ 12 by omega)
    refine ⟨hr, hr, ?_⟩
    rw [show PV.tup (tab n (rowT n f)) = rowsT n f from rfl, merger_ok told_T hn (by omega) hcl hsd]
    o_shape
    rw [fz_mgO]
    rw [show Op (orF2 (fEqO tab_Merger "Merger" [.b "tuple", .b "list", .o "Merger"] run_Merger_eq) pEq (PV.obj "Merger" ["commands", "rows"] [PV.int (n : Nat), rowsT n f]) (mgP n f)) _ _ = _ from op_mgeq, peq_rows_self]
    o_shape
    rw [show Op (orF2 (fEqO tab_Merger "Merger" [.b "tuple", .b "list", .o "Merger"] run_Merger_eq) pEq (PV.obj "Merger" ["commands", "rows"] [PV.int (n : Nat), rowsT n f]) (rowsT n f)) _ _ = _ from op_mgeqT]
    o_shape
    exact told13 hbx hk hn hn2 hcl hsd h
end
theorem told_use {n : Nat} {f : Mf} {t : OT} {k : Nat} (hbx : Bx k t) (hk : k ≤ 10000000) (hn : 1 ≤ n) (hn2 : n ≤ 5) (hcl : Cl n f) (hsd : Sd n f) {Q : OT → List OT → Prop} {E : Exn → List OT → Prop} (h : ∀ t', Bx (k + 4) t' → Q (.leaf (.bl true)) [t']) : WpR (run_law_told_right [t, .leaf (rowsL n f)]) Q E := by
  have fin : ∀ (S : Sl) (t' : OT), Bx (k + 1 + 3) t' → S[0]? = some (some t') → KRr [0] Q (.rt (.leaf (.bl true))) S := fun S t' hb hS => by
    rw [kRr_rt, outs_cons, hS]
    o_shape
    exact h t' hb
  rw [wp_run]
  unfold m_law_told_right
  simp only [rowsL]
  o_shape
  refine lc_map (fun r => .node (((seqOf r).getD []).map .leaf)) (by rw [tab_len]; exact Nat.le_trans (show n ≤ 12 by omega) (by decide)) (fun i r acc P hr hP => ?_) ?_
  · obtain ⟨_, rfl⟩ := tab_at hr
    o_shape
    simp only [rowL] at hP ⊢
    o_shape
    simp only [seqOf, Option.getD_some, tab, List.map_map] at hP
    exact hP
  · o_shape
    rw [show (List.range n).map ((fun r => OT.node (((seqOf r).getD []).map .leaf)) ∘ rowL n f) = tab n fun i => OT.node (tab n fun j => .leaf (endP (f i j))) from by
      unfold tab
      refine List.map_congr_left fun i _ => ?_
      simp only [Function.comp, rowL, seqOf, Option.getD_some, tab, List.map_map]
      rfl]
    refine take_use hbx (by omega) (by omega) (by omega) fun d t1 hd hb1 => ?_
    o_shape
    have e1 : PV.lst ((tab n fun i => OT.node (tab n fun j => .leaf (endP (f i j)))).map fz) = rowsL n f := by
      unfold rowsL tab
      rw [List.map_map]
      congr 1
      refine List.map_congr_left fun i _ => ?_
      simp only [Function.comp, fz_node, rowL]
      o_shape
    have e2 : PV.tup ((tab n fun i => OT.node (tab n fun j => .leaf (endP (f i j)))).map fz) = .tup (tab n (rowL n f)) := by
      have e1' := e1
      unfold rowsL at e1'
      simp only [PV.lst.injEq] at e1'
      rw [e1']
    have ht2 : Told n f (.tup (tab n (rowL n f))) := ⟨_, rfl, tab_len, fun i r h => by
      obtain ⟨_, rfl⟩ := tab_at h
      rfl⟩
    have e3 : PV.lst ((List.range n).map (fz ∘ fun i => OT.node (tab n fun j => .leaf (endP (f i j))))) = rowsL n f := by
      rw [← e1]
      unfold tab
      rw [List.map_map]
    have e4 : PV.tup ((List.range n).map (fz ∘ fun i => OT.node (tab n fun j => .leaf (endP (f i j))))) = .tup (tab n (rowL n f)) := by
      rw [← e2]
      unfold tab
      rw [List.map_map]
    rw [e3, e4]
    have nb : noT (okS [some t1, some (OT.leaf (PV.lst (tab n (rowL n f)))), none, none, none, none, none, none, some (.node (tab n fun i => OT.node (tab n fun j => .leaf (endP (f i j))))), some (.leaf (.int (n : Nat))), none, none, none, none]) (mgO n f) = true := by
      simp only [mgO, Fy.noT, Fy.noTs, noP, noP_rowsT, Bool.and_self]
    refine ⟨fun _ => ?_, fun _ => ?_⟩
    · rw [merger_ok told_L hn (by omega) hcl hsd]
      o_shape
      refine ⟨by simp only [mgO, Fy.noT, Fy.noTs, noP, noP_rowsT, Bool.and_self], noN_mg, ?_⟩
      exact told14 hb1 (by omega) hn hn2 hcl hsd fin
    · simp only [pick, List.filterMap_cons, List.filterMap_nil, List.getElem?_cons_zero]
      o_shape
      rw [merger_ok ht2 hn (by omega) hcl hsd]
      o_shape
      refine ⟨noN_mg, ?_⟩
      exact told14 hb1 (by omega) hn hn2 hcl hsd fin
end K01

local macro_rules | `(tactic| o_shape) => `(tactic| try simp only [PgS.kVar_mg, PgS.fz_mgO, PgS.fld_rows, PgS.fld_commands, Fy.wp_ok, Fy.wp_err, Fy.wp_lift, Fy.op_some, Fy.og_some, Fy.oi_some, Fy.oo_some, Fy.wp_c, Fy.wp_e1, Fy.k1, Fy.wp_e2, Fy.k2, Fy.k2b, Fy.wp_eN, Fy.kN, Fy.wp_aN, Fy.wp_aC, Fy.kC, Fy.kC2, Fy.wp_tV, Fy.kV, Fy.wp_and, Fy.wp_or, Fy.wp_not, Fy.kAnd_t, Fy.kAnd_f, Fy.kOr_t, Fy.kOr_f, Fy.kAnd, Fy.kOr, Fy.kNot, Fy.wp_eAnd, Fy.wp_eOr, Fy.wp_eNot, Fy.kEAnd_t, Fy.kEAnd_f, Fy.kEOr_t, Fy.kEOr_f, Fy.kEAnd, Fy.kEOr, Fy.kENot, Fy.wp_eIf, Fy.kIf_t, Fy.kIf_f, Fy.kIf, Fy.wp_eL, Fy.wp_eT, Fy.kL, Fy.kT, Fy.wp_sA, Fy.kA, Fy.wp_sE, Fy.kE, Fy.wp_sR, Fy.kR, Fy.wp_sRN, Fy.wp_sIf, Fy.kSIf_t, Fy.kSIf_f, Fy.kSIf, Fy.wp_sN, Fy.wp_sB, Fy.wp_sC, Fy.wp_sS, Fy.kS_nx, Fy.kS_bk, Fy.kS_ct, Fy.kS_rt, Fy.wp_sG, Fy.kG, Fy.gN_eq, Fy.gT_1, Fy.gT_2, Fy.gT_3, Fy.gT_4, Fy.gT_5, Fy.og_gsC, Fy.kGs, Fy.gsN_eq, Fy.wp_sFor, Fy.kFor, Fy.kLp_nx, Fy.kLp_ct, Fy.kLp_bk, Fy.kLp_rt, Fy.kB, Fy.wp_mSeq, Fy.wp_iN, Fy.kIs, Fy.kIn, Fy.wp_sRaise, Fy.kRx0, Fy.wp_eV, Fy.kVar_l, Fy.kVar_n, Fy.kVar_i, Fy.fz_leaf, Fy.fz_node, Fy.fz_ins, Fy.map_fz_leaf, Fy.map_fz_leaf', Fy.map_fz_leaf2, Fy.map_fz_leaf3, Fy.map_fz_leaf4, Fy.wp_eMv, Fy.kMv, Fy.frS_nil, Fy.frS_cons, Fy.frO_none, Fy.frO_some, Fy.wp_thaw, Fy.kTh, Fy.wp_tThaw, Fy.kTh', Fy.wp_ice, Fy.kIce, Fy.kNd, Fy.wp_sApp, Fy.kApp1, Fy.kApp, Fy.wp_sSet, Fy.kSet1, Fy.kSet2, Fy.kSet3_0, Fy.kSet3_1, Fy.kSet3_2, Fy.noN_int, Fy.noN_bl, Fy.noP_int, Fy.noP_bl, Fy.wp_sPar, Fy.kPar2, Fy.kPar3, Fy.wp_sMv, Fy.wp_eCh, Fy.kCh1, Fy.kCh2, Fy.kCh3, Fy.wp_eSl, Fy.kSl1, Fy.kSl2, Fy.kSl3, Fy.wp_oN, Fy.wp_oS, Fy.koS, Fy.wp_eTupR, Fy.wp_eLstR, Fy.kRg, Fy.wp_eIdx, Fy.kIdx, Fy.wp_eLZ, Fy.wp_eLc, Fy.kLc, Fy.kLcG, Fy.kLcT, Fy.kLcT_t, Fy.kLcE, Fy.wp_mYes, Fy.wipe_nil, Fy.wipe_cons, Fy.wp_eCall, Fy.wp_rN, Fy.wp_rV, Fy.kAr, Fy.kAr2, Fy.kRf, Fy.wp_rR, Fy.wp_rB, Fy.kCa, Fy.wpA_some, Fy.kRun, Fy.wpR_ok, Fy.wpR_err, Fy.kBk_f, Fy.kBk_t, Fy.kBx_f, Fy.kBx_t, Fy.backs_nil, Fy.backs_cons, Fy.res_nil, Fy.res_vl, Fy.res_rf, Fy.res_bo, Fy.resC_some, Fy.resF_some, Fy.resB_some, Fy.resB1_some, Fy.wp_eCallK, Fy.kCk, Fy.pick_nil, Fy.wp_eCallV, Fy.kCv, Fy.kCv2, Fy.wp_eMake, Fy.kMk, Fy.kMrun, Fy.kMo_f, Fy.kMo_t, Fy.kMx_f, Fy.kMx_t, Fy.wp_eMakeK, Fy.kMkk, Fy.wp_sFldS, Fy.kFld1, Fy.kFld, Fy.wp_heard, Fy.kHo, Fy.kHx, Fy.oh_some, Fy.kRr_rt, Fy.kRr_nx, Fy.kRx, Fy.outs_nil, Fy.outs_cons, Fy.outC_some, Fy.initS_z, Fy.initS_n, Fy.initS_c, Fy.oat_some, Fy.op_eq, Fy.op_ne, Fy.op_addI, Fy.op_addL, Fy.op_addT, Fy.op_addS, Fy.op_sub, Fy.op_neg, Fy.op_mulI, Fy.op_mulL, Fy.op_mulT, Fy.op_mulSI, Fy.op_mulSS, Fy.op_mod, Fy.op_div, Fy.op_pow, Fy.p_lt, Fy.p_le, Fy.p_gt, Fy.p_ge, Fy.p_isN, Fy.p_notN, Fy.p_isB, Fy.p_notB, Fy.isNon_n, Fy.isNon_i, Fy.isNon_t, Fy.isNon_l, Fy.isNon_b, Fy.isNon_s, Fy.op_ixL, Fy.op_ixT, Fy.op_ixR, Fy.op_lenL, Fy.op_lenT, Fy.op_lenR, Fy.op_lenS, Fy.op_listL, Fy.op_listT, Fy.op_listR, Fy.op_tupL, Fy.op_tupT, Fy.op_tupR, Fy.op_int, Fy.op_intB, Fy.op_abs, Fy.op_repr, Fy.seqOf_l, Fy.seqOf_t, Fy.seqOf_r, Fy.oi_rng1, Fy.oi_rng2, Fy.oi_enL, Fy.oi_enT, Fy.oi_enR, Fy.op_slL, Fy.op_slR, Fy.op_slT, Fy.at_0, Fy.at_1, Fy.at_2, Fy.at_3, Fy.okE_ii, Fy.okE_ss, Fy.okE_nn, Fy.okE_ni, Fy.okE_in, Fy.okE_bb, Fy.peq_ii, Fy.peq_ss, Fy.peq_nn, Fy.peq_bb, Fy.peq_ni, Fy.peq_in, List.getElem?_cons_zero, List.getElem?_cons_succ, List.set_cons_zero, List.set_cons_succ, List.getElem?_nil, List.set_nil, Option.map_some, Option.bind_some, List.map_cons, List.map_nil, List.length_cons, List.length_nil, List.length_map, List.length_range, List.cons_append, List.nil_append, List.map_map, Fy.refPos, Fy.refIx, Fy.hasBo, decide_eq_true_eq, decide_eq_false_iff_not, Bool.not_eq_true', Bool.not_true, Bool.not_false, Bool.not_eq_false', Bool.not_not, true_and, and_true, not_false_eq_true, not_true_eq_false, Nat.zero_add, Nat.reduceAdd, Nat.reduceLeDiff, Nat.reduceLT, Int.reduceNeg, reduceCtorEq, false_implies, implies_true, true_implies, forall_const])
local macro_rules | `(tactic| w_cond $x) => `(tactic| try simp only [$x:ident, PgS.kVar_mg, PgS.fz_mgO, PgS.fld_rows, PgS.fld_commands, Fy.wp_ok, Fy.wp_err, Fy.wp_lift, Fy.op_some, Fy.og_some, Fy.oi_some, Fy.oo_some, Fy.wp_c, Fy.wp_e1, Fy.k1, Fy.wp_e2, Fy.k2, Fy.k2b, Fy.wp_eN, Fy.kN, Fy.wp_aN, Fy.wp_aC, Fy.kC, Fy.kC2, Fy.wp_tV, Fy.kV, Fy.wp_and, Fy.wp_or, Fy.wp_not, Fy.kAnd_t, Fy.kAnd_f, Fy.kOr_t, Fy.kOr_f, Fy.kAnd, Fy.kOr, Fy.kNot, Fy.wp_eAnd, Fy.wp_eOr, Fy.wp_eNot, Fy.kEAnd_t, Fy.kEAnd_f, Fy.kEOr_t, Fy.kEOr_f, Fy.kEAnd, Fy.kEOr, Fy.kENot, Fy.wp_eIf, Fy.kIf_t, Fy.kIf_f, Fy.kIf, Fy.wp_eL, Fy.wp_eT, Fy.kL, Fy.kT, Fy.wp_sA, Fy.kA, Fy.wp_sE, Fy.kE, Fy.wp_sR, Fy.kR, Fy.wp_sRN, Fy.wp_sIf, Fy.kSIf_t, Fy.kSIf_f, Fy.kSIf, Fy.wp_sN, Fy.wp_sB, Fy.wp_sC, Fy.wp_sS, Fy.kS_nx, Fy.kS_bk, Fy.kS_ct, Fy.kS_rt, Fy.wp_sG, Fy.kG, Fy.gN_eq, Fy.gT_1, Fy.gT_2, Fy.gT_3, Fy.gT_4, Fy.gT_5, Fy.og_gsC, Fy.kGs, Fy.gsN_eq, Fy.wp_sFor, Fy.kFor, Fy.kLp_nx, Fy.kLp_ct, Fy.kLp_bk, Fy.kLp_rt, Fy.kB, Fy.wp_mSeq, Fy.wp_iN, Fy.kIs, Fy.kIn, Fy.wp_sRaise, Fy.kRx0, Fy.wp_eV, Fy.kVar_l, Fy.kVar_n, Fy.kVar_i, Fy.fz_leaf, Fy.fz_node, Fy.fz_ins, Fy.map_fz_leaf, Fy.map_fz_leaf', Fy.map_fz_leaf2, Fy.map_fz_leaf3, Fy.map_fz_leaf4, Fy.wp_eMv, Fy.kMv, Fy.frS_nil, Fy.frS_cons, Fy.frO_none, Fy.frO_some, Fy.wp_thaw, Fy.kTh, Fy.wp_tThaw, Fy.kTh', Fy.wp_ice, Fy.kIce, Fy.kNd, Fy.wp_sApp, Fy.kApp1, Fy.kApp, Fy.wp_sSet, Fy.kSet1, Fy.kSet2, Fy.kSet3_0, Fy.kSet3_1, Fy.kSet3_2, Fy.noN_int, Fy.noN_bl, Fy.noP_int, Fy.noP_bl, Fy.wp_sPar, Fy.kPar2, Fy.kPar3, Fy.wp_sMv, Fy.wp_eCh, Fy.kCh1, Fy.kCh2, Fy.kCh3, Fy.wp_eSl, Fy.kSl1, Fy.kSl2, Fy.kSl3, Fy.wp_oN, Fy.wp_oS, Fy.koS, Fy.wp_eTupR, Fy.wp_eLstR, Fy.kRg, Fy.wp_eIdx, Fy.kIdx, Fy.wp_eLZ, Fy.wp_eLc, Fy.kLc, Fy.kLcG, Fy.kLcT, Fy.kLcT_t, Fy.kLcE, Fy.wp_mYes, Fy.wipe_nil, Fy.wipe_cons, Fy.wp_eCall, Fy.wp_rN, Fy.wp_rV, Fy.kAr, Fy.kAr2, Fy.kRf, Fy.wp_rR, Fy.wp_rB, Fy.kCa, Fy.wpA_some, Fy.kRun, Fy.wpR_ok, Fy.wpR_err, Fy.kBk_f, Fy.kBk_t, Fy.kBx_f, Fy.kBx_t, Fy.backs_nil, Fy.backs_cons, Fy.res_nil, Fy.res_vl, Fy.res_rf, Fy.res_bo, Fy.resC_some, Fy.resF_some, Fy.resB_some, Fy.resB1_some, Fy.wp_eCallK, Fy.kCk, Fy.pick_nil, Fy.wp_eCallV, Fy.kCv, Fy.kCv2, Fy.wp_eMake, Fy.kMk, Fy.kMrun, Fy.kMo_f, Fy.kMo_t, Fy.kMx_f, Fy.kMx_t, Fy.wp_eMakeK, Fy.kMkk, Fy.wp_sFldS, Fy.kFld1, Fy.kFld, Fy.wp_heard, Fy.kHo, Fy.kHx, Fy.oh_some, Fy.kRr_rt, Fy.kRr_nx, Fy.kRx, Fy.outs_nil, Fy.outs_cons, Fy.outC_some, Fy.initS_z, Fy.initS_n, Fy.initS_c, Fy.oat_some, Fy.op_eq, Fy.op_ne, Fy.op_addI, Fy.op_addL, Fy.op_addT, Fy.op_addS, Fy.op_sub, Fy.op_neg, Fy.op_mulI, Fy.op_mulL, Fy.op_mulT, Fy.op_mulSI, Fy.op_mulSS, Fy.op_mod, Fy.op_div, Fy.op_pow, Fy.p_lt, Fy.p_le, Fy.p_gt, Fy.p_ge, Fy.p_isN, Fy.p_notN, Fy.p_isB, Fy.p_notB, Fy.isNon_n, Fy.isNon_i, Fy.isNon_t, Fy.isNon_l, Fy.isNon_b, Fy.isNon_s, Fy.op_ixL, Fy.op_ixT, Fy.op_ixR, Fy.op_lenL, Fy.op_lenT, Fy.op_lenR, Fy.op_lenS, Fy.op_listL, Fy.op_listT, Fy.op_listR, Fy.op_tupL, Fy.op_tupT, Fy.op_tupR, Fy.op_int, Fy.op_intB, Fy.op_abs, Fy.op_repr, Fy.seqOf_l, Fy.seqOf_t, Fy.seqOf_r, Fy.oi_rng1, Fy.oi_rng2, Fy.oi_enL, Fy.oi_enT, Fy.oi_enR, Fy.op_slL, Fy.op_slR, Fy.op_slT, Fy.at_0, Fy.at_1, Fy.at_2, Fy.at_3, Fy.okE_ii, Fy.okE_ss, Fy.okE_nn, Fy.okE_ni, Fy.okE_in, Fy.okE_bb, Fy.peq_ii, Fy.peq_ss, Fy.peq_nn, Fy.peq_bb, Fy.peq_ni, Fy.peq_in, List.getElem?_cons_zero, List.getElem?_cons_succ, List.set_cons_zero, List.set_cons_succ, List.getElem?_nil, List.set_nil, Option.map_some, Option.bind_some, List.map_cons, List.map_nil, List.length_cons, List.length_nil, List.length_map, List.length_range, List.cons_append, List.nil_append, List.map_map, Fy.refPos, Fy.refIx, Fy.hasBo, decide_eq_true_eq, decide_eq_false_iff_not, Bool.not_eq_true', Bool.not_true, Bool.not_false, Bool.not_eq_false', Bool.not_not, true_and, and_true, not_false_eq_true, not_true_eq_false, Nat.zero_add, Nat.reduceAdd, Nat.reduceLeDiff, Nat.reduceLT, Int.reduceNeg, reduceCtorEq, false_implies, implies_true, true_implies, forall_const])
local macro_rules | `(tactic| w_means) => `(tactic| repeat (refine And.intro (by first | decide | exact Fy.mulOk (by omega) (by omega) | omega | exact Fy.okR_in (by omega) (by omega)) ?_))


namespace K01
open PySem Fy Pg PgS K01H
abbrev QSl (t : OT) (n : Nat) (f : Mf) (s2 s3 s6 s7 s8 s9 s10 s11 : Option OT) : Sl := [some t, some (.leaf (rowsL n f)), s2, s3, some (.leaf (mgP n f)), some (.leaf (.int (n : Nat))), s6, s7, s8, s9, s10, s11]
abbrev QS4 (t : OT) (n : Nat) (f : Mf) (s2 s3 s4 s6 s7 s8 s9 s10 s11 : Option OT) : Sl := [some t, some (.leaf (rowsL n f)), s2, s3, s4, some (.leaf (.int (n : Nat))), s6, s7, s8, s9, s10, s11]
theorem rok_cms {l : List Nat} (h : ∀ c ∈ l, c < 1000000) : roks (cmsP l) = true := by
  rw [roks_all, List.all_eq_true]
  intro x hx
  obtain ⟨c, hc, rfl⟩ := List.mem_map.mp hx
  have := h c hc
  simp only [rok, decide_eq_true_eq, Int.natAbs_natCast]
  omega
theorem rwt_cms {l : List Nat} : rwts (cmsP l) ≤ l.length * 24 := by
  have := rwts_le (m := 22) (xs := cmsP l) fun x hx => by
    obtain ⟨c, hc, rfl⟩ := List.mem_map.mp hx
    exact Nat.le_refl _
  rw [cms_len] at this
  exact this
theorem okRp_cms {l : List Nat} (h : ∀ c ∈ l, c < 1000000) (hl : l.length ≤ 100000) : okRp (.tup (cmsP l)) = true := by
  refine okRp_of (k := 1) (by simp only [dok]; exact dok_cms) (by simp only [rok]; exact rok_cms h) ?_
  have := rwt_cms (l := l)
  simp only [rwt]
  omega
theorem places_lt {f : Mf} {q : List Nat} : (∀ c ∈ placesOf f q, c < q.length) ∧ (placesOf f q).length ≤ q.length := by
  refine ⟨fun c hc => ?_, ?_⟩
  · have := (List.mem_filter.mp hc).1
    have := List.mem_range.mp this
    omega
  · have := List.length_filter_le (fun i => (f (q.getD i 0) (q.getD (i + 1) 0)).isSome) (List.range (q.length - 1))
    rw [List.length_range] at this
    exact Nat.le_trans this (Nat.sub_le _ _)
section
variable {n : Nat} {f : Mf} {t : OT} {s2 s3 s4 s6 s7 s8 s9 s10 s11 : Option OT} {QQ : QS} {E : QX} {p : PV} {q : List Nat}
theorem que1 (hq : ∀ c ∈ q, c < n) (hl : q.length ≤ 100) (hn : n ≤ 12) (h : QQ .nx (QSl t n f s2 s3 (some (.leaf (.lst (cmsP q)))) s7 s8 s9 s10 s11)) : Wp (m_law_queues_right_1 (QSl t n f s2 s3 (some (.leaf (.lst (cmsP q)))) s7 s8 s9 s10 s11)) QQ E := by
  have hr : okRp (.tup (cmsP q)) = true := okRp_cms (fun c hc => by have := hq c hc; omega) (by omega)
  have c1 := fun p (hp : seqOf p = some (cmsP q)) => check_queue (f := f) (queue_ok (n := n) hp (by rw [cms_len]; omega) cms_basic (cms_below hq))
  unfold m_law_queues_right_1
  o_shape
  rw [c1 _ rfl]
  o_shape
  refine ⟨hr, hr, ?_⟩
  simp only [pick, List.filterMap_cons, List.filterMap_nil, List.getElem?_cons_zero, List.getElem?_cons_succ]
  o_shape
  rw [c1 _ rfl]
  o_shape
  exact same_ne (k := 1) (by simp only [dok]; exact dok_cms) h
theorem que2 (hq : ∀ c ∈ q, c < n) (hl : q.length ≤ 100) (hn : n ≤ 12) (h : QQ .nx (QSl t n f s2 s3 (some (.leaf (.lst (cmsP q)))) (some (.leaf (.tup (cmsP (placesOf f q))))) s8 s9 s10 s11)) : Wp (m_law_queues_right_2 (QSl t n f s2 s3 (some (.leaf (.lst (cmsP q)))) (some (.leaf (.tup (cmsP (placesOf f q))))) s8 s9 s10 s11)) QQ E := by
  have c1 := fun p (hp : seqOf p = some (cmsP q)) => folded_ok (f := f) (n := n) hp hq (by omega)
  have hp : peq (.tup (cmsP (placesOf f q))) (.tup []) = decide (placesOf f q = []) := by
    cases placesOf f q with
    | nil => rfl
    | cons c l => rw [peq_tt]; simp only [cmsP, List.map_cons, peqs_cn]; rfl
  unfold m_law_queues_right_2
  o_shape
  rw [c1 _ rfl]
  o_shape
  simp only [pick, List.filterMap_cons, List.filterMap_nil, List.getElem?_cons_zero, List.getElem?_cons_succ]
  o_shape
  rw [c1 _ rfl]
  o_shape
  rw [hp]
  have hr : ∀ b : Bool, okRp (.lst [.bl b, .bl b]) = true := fun b => okRp_of (k := 1) rfl rfl (by cases b <;> decide)
  rw [show (List.replicate (Int.toNat 2) [PV.bl (decide (placesOf f q = []))]).flatten = [PV.bl (decide (placesOf f q = [])), PV.bl (decide (placesOf f q = []))] from rfl]
  refine ⟨hr _, okE_of (k := 1) (by simp only [dok]; exact dok_cms) rfl, ⟨by decide, by decide, by decide⟩, hr _, fun z => absurd rfl z, fun _ => que1 hq hl hn h⟩
theorem que3 {k : Nat} (hbx : Bx k t) (hk : k ≤ 100000000) (hn1 : 1 ≤ n) (hn : n ≤ 12) (h4 : s4 = some (mgO n f) ∨ s4 = some (.leaf (mgP n f))) (h : ∀ t' q s7, Bx (k + 10) t' → (∀ c ∈ q, c < n) → q.length ≤ 8 → QQ .nx (QSl t' n f s2 s3 (some (.leaf (.lst (cmsP q)))) s7 none s9 s10 none)) : Wp (m_law_queues_right_3 (QS4 t n f s2 s3 s4 s6 s7 s8 s9 s10 none)) QQ E := by
  unfold m_law_queues_right_3
  o_shape
  refine take_use hbx (by omega) (by omega) (by omega) fun m t1 hm hb1 => ?_
  o_shape
  refine ⟨okR_in (by omega) (by omega), ?_⟩
  rw [Int.toNat_natCast]
  refine lc_rng (fun j acc S => ∃ t q, S = QS4 t n f s2 s3 s4 s6 s7 s8 s9 s10 none ∧ acc = q.map (fun c => OT.leaf (.int (c : Nat))) ∧ q.length = j ∧ (∀ c ∈ q, c < n) ∧ Bx (k + 1 + j) t)
    (Nat.le_trans (show m ≤ 9 by omega) (by decide)) ⟨t1, [], rfl, rfl, rfl, fun _ h => by simp at h, hb1⟩ ?_ ?_
  · rintro j acc S hj ⟨t, l, rfl, rfl, hl1, hl2, hb2⟩
    o_shape
    refine take_use hb2 (by omega) (by omega) (by omega) fun c t2 hc hb3 => ?_
    o_shape
    exact ⟨t2, l ++ [c], rfl, by simp, by simp [hl1], fun x hx => by
      rcases List.mem_append.mp hx with z | z
      · exact hl2 x z
      · simp only [List.mem_singleton] at z
        omega, hb3⟩
  · rintro acc S ⟨t2, q, rfl, rfl, hl1, hl2, hb2⟩
    o_shape
    rw [show (q.map fun i => PV.int (i : Nat)) = cmsP q from rfl]
    refine ⟨okR_in (by omega) (by omega), ?_⟩
    have e1 : ((q.length : Int) - 1).toNat = q.length - 1 := by omega
    rw [e1]
    refine lc_rng_filter (fun i => (f (q.getD i 0) (q.getD (i + 1) 0)).isSome) (fun i => .leaf (.int (i : Nat))) (Nat.le_trans (show q.length - 1 ≤ 9 by omega) (by decide)) (fun i acc P hi hP => ?_) ?_
    · o_shape
      have g1 : q[i]? = some (q.getD i 0) := getD_ok (by omega)
      have g2 : q[i + 1]? = some (q.getD (i + 1) 0) := getD_ok (by omega)
      rw [at_nat, cms_get g1]
      o_shape
      rw [at_rowsL (hl2 _ (List.mem_of_getElem? g1))]
      o_shape
      rw [show ((i : Int) + 1) = ((i + 1 : Nat) : Int) by omega, at_nat, cms_get g2]
      o_shape
      rw [at_rowL (hl2 _ (List.mem_of_getElem? g2))]
      o_shape
      rw [isNon_end]
      cases e : f (q.getD i 0) (q.getD (i + 1) 0) with
      | none =>
        rw [e] at hP
        exact ⟨fun z => by simp at z, fun _ => hP⟩
      | some x =>
        rw [e] at hP
        exact ⟨fun _ => hP, fun z => by simp at z⟩
    · o_shape
      rw [show ((List.range (q.length - 1)).filter fun i => (f (q.getD i 0) (q.getD (i + 1) 0)).isSome).map (fun i => PV.int (i : Nat)) = cmsP (placesOf f q) from rfl]
      have c1 := fun p (hp : seqOf p = some (cmsP q)) => places_ok (f := f) (n := n) hp hl2 (by omega)
      have hp : okRp (.tup (cmsP (placesOf f q))) = true := okRp_cms (fun c hc => by
        have := places_lt.1 c hc
        omega) (by
        have := (places_lt (f := f) (q := q)).2
        omega)
      rcases h4 with rfl | rfl
      all_goals
        o_shape
        rw [c1 _ rfl]
        o_shape
        refine ⟨hp, hp, ?_⟩
        simp only [pick, List.filterMap_cons, List.filterMap_nil, List.getElem?_cons_zero, List.getElem?_cons_succ]
        o_shape
        rw [c1 _ rfl]
        o_shape
        refine same_ne (k := 1) (by simp only [dok]; exact dok_cms) ?_
        exact que2 hl2 (by omega) hn (h t2 q _ (hb2.mono (by omega)) hl2 (by omega))
def queP (p : PV) : PV := .tup [.str "queue", p, .bl true]
theorem work_err {g : Str} (hg : PV.glo g ∈ [PV.glo "check_queue", PV.glo "mergeable_places", PV.glo "is_folded"]) : ∃ run, slL [("check_queue", run_check_queue), ("mergeable_places", run_mergeable_places), ("is_folded", run_is_folded)] g = some run ∧ ∀ p x, run_queue_of [.leaf (.int (n : Nat)), .leaf p] = .err x [] → run [.leaf (mgP n f), .leaf p] = .err x [] := by
  simp only [List.mem_cons, List.mem_nil_iff, or_false, PV.glo.injEq] at hg
  rcases hg with rfl | rfl | rfl
  · exact ⟨_, rfl, fun p x h => check_queueE h⟩
  · exact ⟨_, rfl, fun p x h => places_err h⟩
  · exact ⟨_, rfl, fun p x h => folded_err h⟩
theorem que4 {g : Str} (hg : PV.glo g ∈ [PV.glo "check_queue", PV.glo "mergeable_places", PV.glo "is_folded"]) (hp : basic p = true) (hs : seqOf p = none) (h : QQ .nx (QSl t n f s2 (some (.leaf (.glo g))) s6 s7 s8 s9 (some (.leaf p)) s11)) : Wp (m_law_queues_right_4 (QSl t n f s2 (some (.leaf (.glo g))) s6 s7 s8 s9 (some (.leaf p)) s11)) QQ E := by
  obtain ⟨run, h1, h2⟩ := work_err (n := n) (f := f) hg
  unfold m_law_queues_right_4
  o_shape
  rw [h1]
  o_shape
  rw [h2 p _ (queue_none hp fun xs hx => by rw [hs] at hx; cases hx)]
  o_shape
  rw [hd_queue]
  o_shape
  exact ⟨rfl, same_ne (k := 1) (p := queP (.int (-1))) rfl h⟩
theorem que5 {g : Str} (hg : PV.glo g ∈ [PV.glo "check_queue", PV.glo "mergeable_places", PV.glo "is_folded"]) (h : ∀ s10, QQ .nx (QSl t n f s2 (some (.leaf (.glo g))) s6 s7 s8 s9 s10 s11)) : Wp (m_law_queues_right_5 (QSl t n f s2 (some (.leaf (.glo g))) s6 s7 s8 s9 s10 s11)) QQ E := by
  unfold m_law_queues_right_5
  o_shape
  refine for_rule (fun i S => ∃ s10, S = QSl t n f s2 (some (.leaf (.glo g))) s6 s7 s8 s9 s10 s11) ⟨_, rfl⟩ ?_ ?_
  · rintro i p S hp ⟨s10, rfl⟩
    have hp := List.mem_of_getElem? hp
    have hq : basic p = true ∧ seqOf p = none := by
      simp only [List.mem_cons, List.mem_nil_iff, or_false] at hp
      rcases hp with rfl | rfl | rfl | rfl <;> exact ⟨rfl, rfl⟩
    o_shape
    refine que4 hg hq.1 hq.2 ?_
    o_shape
    exact ⟨_, rfl⟩
  · rintro S ⟨s10, rfl⟩
    exact h _
theorem que6 {g : Str} {at_ : Nat} (hg : PV.glo g ∈ [PV.glo "check_queue", PV.glo "mergeable_places", PV.glo "is_folded"]) (hq : ∀ c ∈ q, c < n) (hl : q.length ≤ 8) (ha : at_ ≤ q.length) (hp : basic p = true) (hb : belowP n p = false) (h : ∀ s10, QQ .nx (QSl t n f s2 (some (.leaf (.glo g))) (some (.leaf (.lst (cmsP q)))) s7 (some (.leaf (.int (at_ : Nat)))) (some (.leaf p)) s10 s11)) : Wp (m_law_queues_right_6 (QSl t n f s2 (some (.leaf (.glo g))) (some (.leaf (.lst (cmsP q)))) s7 (some (.leaf (.int (at_ : Nat)))) (some (.leaf p)) s10 s11)) QQ E := by
  obtain ⟨run, h1, h2⟩ := work_err (n := n) (f := f) hg
  unfold m_law_queues_right_6
  o_shape
  rw [h1]
  o_shape
  rw [cut_to, cut_from]
  have z : ∀ m : Nat, m ≤ 100 → m ≤ sizeLine := fun m hm => Nat.le_trans hm (by decide)
  have l1 : ((cmsP q).take at_).length = at_ := by rw [List.length_take, cms_len]; omega
  have l2 : ((cmsP q).drop at_).length = q.length - at_ := by rw [List.length_drop, cms_len]
  refine ⟨z _ (by rw [l1]; simp; omega), z _ (by simp [l1, l2]; omega), z _ (by simp [l1, l2]; omega), ?_⟩
  rw [h2 (.lst _) _ (queue_bad (i := at_) (w := p) rfl (by simp [l1, l2]; omega) (fun x hx => ?_) ?_ hb fun j v hj hv => ?_)]
  · o_shape
    rw [hd_queue]
    o_shape
    exact ⟨rfl, same_ne (k := 1) (p := queP (.int (at_ : Nat))) rfl (que5 hg h)⟩
  · rw [List.append_assoc, List.append_assoc, List.getElem?_append_right (by omega), l1, Nat.sub_self]
    rfl
  · simp only [List.mem_append, List.mem_singleton] at hx
    rcases hx with ((hx | rfl) | hx) | rfl
    · exact cms_basic x (List.mem_of_mem_take hx)
    · exact hp
    · exact cms_basic x (List.mem_of_mem_drop hx)
    · rfl
  · rw [List.append_assoc, List.append_assoc, List.getElem?_append_left (by omega), List.getElem?_take, if_pos hj] at hv
    exact cms_below hq v (List.mem_of_getElem? hv)
theorem que7 (h : QQ (.rt (.leaf (.bl true))) (QSl t n f s2 s3 s6 s7 s8 s9 s10 s11)) : Wp (m_law_queues_right_7 (QSl t n f s2 s3 s6 s7 s8 s9 s10 s11)) QQ E := by
  unfold m_law_queues_right_7
  o_shape
  rw [rep_flat]
  refine ⟨⟨by decide, by decide, by decide⟩, ?_⟩
  rw [check_queueE (queue_none rfl fun xs hx => by
    cases hx
    rw [List.length_replicate]
    decide)]
  o_shape
  rw [hd_queue]
  o_shape
  refine ⟨rfl, okE_of (k := 1) rfl rfl, ?_⟩
  rw [show peq (.tup [.str "queue", .int (-1), .bl true]) (.tup [.str "queue", .int (0 - 1), .bl true]) = true from peq_refl (k := 1) (p := queP (.int (-1))) rfl]
  exact h
theorem que8 (hn : 1 ≤ n) (h : QQ (.rt (.leaf (.bl true))) (QSl t n f s2 s3 s6 s7 s8 s9 s10 s11)) : Wp (m_law_queues_right_8 (QSl t n f s2 s3 s6 s7 s8 s9 s10 s11)) QQ E := by
  unfold m_law_queues_right_8
  o_shape
  rw [rep_flat]
  refine ⟨⟨by decide, by decide, by decide⟩, ?_⟩
  rw [check_queue (queue_ok rfl (by rw [List.length_replicate]; decide) (fun x hx => by rw [(List.mem_replicate.mp hx).2]; rfl) (fun x hx => by
    rw [(List.mem_replicate.mp hx).2]
    simp [belowP]
    omega))]
  o_shape
  rw [List.length_replicate]
  refine ⟨fun z => absurd rfl z, fun _ => que7 h⟩
theorem que9 {k : Nat} (hbx : Bx k t) (hk : k ≤ 100000000) (hn : 1 ≤ n) (h : ∀ S t', Bx (k + 1) t' → S[0]? = some (some t') → QQ (.rt (.leaf (.bl true))) S) : Wp (m_law_queues_right_9 (QSl t n f s2 s3 s6 s7 s8 s9 s10 s11)) QQ E := by
  unfold m_law_queues_right_9
  o_shape
  refine take_use hbx (by omega) (by omega) (by omega) fun d t1 hd hb1 => ?_
  o_shape
  exact ⟨fun _ => h _ t1 hb1 rfl, fun _ => que8 hn (h _ t1 hb1 rfl)⟩
theorem que10 {k : Nat} (hbx : Bx k t) (hk : k ≤ 90000000) (hn : 1 ≤ n) (hq : ∀ c ∈ q, c < n) (hl : q.length ≤ 8) (h : ∀ S t', Bx (k + 3) t' → S[0]? = some (some t') → QQ (.rt (.leaf (.bl true))) S) : Wp (m_law_queues_right_10 (QSl t n f s2 s3 (some (.leaf (.lst (cmsP q)))) s7 s8 s9 s10 s11)) QQ E := by
  unfold m_law_queues_right_10
  o_shape
  rw [cms_len]
  refine take_use hbx (by omega) (by omega) (by omega) fun d t1 hd hb1 => ?_
  o_shape
  refine pick_use hb1 rfl (by simp) (by simp) (by omega) fun p t2 hp hb2 => ?_
  o_shape
  have hpp : basic p = true ∧ belowP n p = false := by
    simp only [List.mem_cons, List.mem_nil_iff, or_false] at hp
    rcases hp with rfl | rfl | rfl | rfl | rfl | rfl
    · exact ⟨rfl, by simp [belowP]⟩
    · exact ⟨rfl, rfl⟩
    · exact ⟨rfl, rfl⟩
    · exact ⟨rfl, rfl⟩
    · exact ⟨rfl, rfl⟩
    · exact ⟨rfl, rfl⟩
  refine for_rule (fun i S => ∃ s3 s10, S = QSl t2 n f s2 s3 (some (.leaf (.lst (cmsP q)))) s7 (some (.leaf (.int (d : Nat)))) (some (.leaf p)) s10 s11) ⟨_, _, rfl⟩ ?_ ?_
  · rintro i g S hg ⟨s3, s10, rfl⟩
    have hg := List.mem_of_getElem? hg
    obtain ⟨g, rfl⟩ : ∃ g', g = PV.glo g' := by
      simp only [List.mem_cons, List.mem_nil_iff, or_false] at hg
      rcases hg with rfl | rfl | rfl <;> exact ⟨_, rfl⟩
    o_shape
    refine que6 hg hq hl (by omega) hpp.1 hpp.2 fun s10 => ?_
    o_shape
    exact ⟨_, _, rfl⟩
  · rintro S ⟨s3, s10, rfl⟩
    exact que9 hb2 (by omega) hn fun S t' hb hS => h S t' (hb.mono (by omega)) hS
end
theorem queues_use {n : Nat} {f : Mf} {t : OT} {k : Nat} (hbx : Bx k t) (hk : k ≤ 10000000) (hn : 1 ≤ n) (hn2 : n ≤ 5) (hcl : Cl n f) (hsd : Sd n f) {Q : OT → List OT → Prop} {E : Exn → List OT → Prop} (h : ∀ t', Bx (k + 50) t' → Q (.leaf (.bl true)) [t']) : WpR (run_law_queues_right [t, .leaf (rowsL n f)]) Q E := by
  rw [wp_run]
  unfold m_law_queues_right
  o_shape
  rw [merger_ok told_L hn (by omega) hcl hsd]
  o_shape
  rw [len_rowsL]
  o_shape
  refine ⟨okR_in (by decide) (by decide), ?_⟩
  refine for_rng (n := 4) (fun i S => ∃ t s2 s4 s6 s7 s9 s10, S = QS4 t n f s2 none s4 s6 s7 none s9 s10 none ∧ Bx (k + 10 * i) t ∧ (s4 = some (mgO n f) ∨ s4 = some (.leaf (mgP n f))) ∧ (i = 0 ∨ s4 = some (.leaf (mgP n f)) ∧ ∃ q, s6 = some (.leaf (.lst (cmsP q))) ∧ (∀ c ∈ q, c < n) ∧ q.length ≤ 8)) ⟨t, _, _, _, _, _, _, rfl, hbx.mono (by omega), .inl rfl, .inl rfl⟩ ?_ ?_
  · rintro i S hi ⟨t, s2, s4, s6, s7, s9, s10, rfl, hb, h4, _⟩
    o_shape
    refine que3 hb (by omega) hn (by omega) h4 fun t' q s7 hb' hq hl => ?_
    o_shape
    exact ⟨t', _, _, _, _, _, _, rfl, hb'.mono (by omega), .inr rfl, .inr ⟨rfl, q, rfl, hq, hl⟩⟩
  · rintro S ⟨t, s2, s4, s6, s7, s9, s10, rfl, hb, h4, hz | ⟨rfl, q, rfl, hq, hl⟩⟩
    · omega
    · o_shape
      refine que10 hb (by omega) hn hq hl fun S t' hb' hS => ?_
      rw [kRr_rt, outs_cons, hS]
      o_shape
      exact h t' (hb'.mono (by omega))
end K01

local macro_rules | `(tactic| o_shape) => `(tactic| try simp only [Fy.wp_ok, Fy.wp_err, Fy.wp_lift, Fy.op_some, Fy.og_some, Fy.oi_some, Fy.oo_some, Fy.wp_c, Fy.wp_e1, Fy.k1, Fy.wp_e2, Fy.k2, Fy.k2b, Fy.wp_eN, Fy.kN, Fy.wp_aN, Fy.wp_aC, Fy.kC, Fy.kC2, Fy.wp_tV, Fy.kV, Fy.wp_and, Fy.wp_or, Fy.wp_not, Fy.kAnd_t, Fy.kAnd_f, Fy.kOr_t, Fy.kOr_f, Fy.kAnd, Fy.kOr, Fy.kNot, Fy.wp_eAnd, Fy.wp_eOr, Fy.wp_eNot, Fy.kEAnd_t, Fy.kEAnd_f, Fy.kEOr_t, Fy.kEOr_f, Fy.kEAnd, Fy.kEOr, Fy.kENot, Fy.wp_eIf, Fy.kIf_t, Fy.kIf_f, Fy.kIf, Fy.wp_eL, Fy.wp_eT, Fy.kL, Fy.kT, Fy.wp_sA, Fy.kA, Fy.wp_sE, Fy.kE, Fy.wp_sR, Fy.kR, Fy.wp_sRN, Fy.wp_sIf, Fy.kSIf_t, Fy.kSIf_f, Fy.kSIf, Fy.wp_sN, Fy.wp_sB, Fy.wp_sC, Fy.wp_sS, Fy.kS_nx, Fy.kS_bk, Fy.kS_ct, Fy.kS_rt, Fy.wp_sG, Fy.kG, Fy.gN_eq, Fy.gT_1, Fy.gT_2, Fy.gT_3, Fy.gT_4, Fy.gT_5, Fy.og_gsC, Fy.kGs, Fy.gsN_eq, Fy.wp_sFor, Fy.kFor, Fy.kLp_nx, Fy.kLp_ct, Fy.kLp_bk, Fy.kLp_rt, Fy.kB, Fy.wp_mSeq, Fy.wp_iN, Fy.kIs, Fy.kIn, Fy.wp_sRaise, Fy.kRx0, Fy.wp_eV, Fy.kVar_l, Fy.kVar_n, Fy.kVar_i, Fy.fz_leaf, Fy.fz_node, Fy.fz_ins, Fy.map_fz_leaf, Fy.map_fz_leaf', Fy.map_fz_leaf2, Fy.map_fz_leaf3, Fy.map_fz_leaf4, Fy.wp_eMv, Fy.kMv, Fy.frS_nil, Fy.frS_cons, Fy.frO_none, Fy.frO_some, Fy.wp_thaw, Fy.kTh, Fy.wp_tThaw, Fy.kTh', Fy.wp_ice, Fy.kIce, Fy.kNd, Fy.wp_sApp, Fy.kApp1, Fy.kApp, Fy.wp_sSet, Fy.kSet1, Fy.kSet2, Fy.kSet3_0, Fy.kSet3_1, Fy.kSet3_2, Fy.noN_int, Fy.noN_bl, Fy.noP_int, Fy.noP_bl, Fy.wp_sPar, Fy.kPar2, Fy.kPar3, Fy.wp_sMv, Fy.wp_eCh, Fy.kCh1, Fy.kCh2, Fy.kCh3, Fy.wp_eSl, Fy.kSl1, Fy.kSl2, Fy.kSl3, Fy.wp_oN, Fy.wp_oS, Fy.koS, Fy.wp_eTupR, Fy.wp_eLstR, Fy.kRg, Fy.wp_eIdx, Fy.kIdx, Fy.wp_eLZ, Fy.wp_eLc, Fy.kLc, Fy.kLcG, Fy.kLcT, Fy.kLcT_t, Fy.kLcE, Fy.wp_mYes, Fy.wipe_nil, Fy.wipe_cons, Fy.wp_eCall, Fy.wp_rN, Fy.wp_rV, Fy.kAr, Fy.kAr2, Fy.kRf, Fy.wp_rR, Fy.wp_rB, Fy.kCa, Fy.wpA_some, Fy.kRun, Fy.wpR_ok, Fy.wpR_err, Fy.kBk_f, Fy.kBk_t, Fy.kBx_f, Fy.kBx_t, Fy.backs_nil, Fy.backs_cons, Fy.res_nil, Fy.res_vl, Fy.res_rf, Fy.res_bo, Fy.resC_some, Fy.resF_some, Fy.resB_some, Fy.resB1_some, Fy.wp_eCallK, Fy.kCk, Fy.pick_nil, Fy.wp_eCallV, Fy.kCv, Fy.kCv2, Fy.wp_eMake, Fy.kMk, Fy.kMrun, Fy.kMo_f, Fy.kMo_t, Fy.kMx_f, Fy.kMx_t, Fy.wp_eMakeK, Fy.kMkk, Fy.wp_sFldS, Fy.kFld1, Fy.kFld, Fy.wp_heard, Fy.kHo, Fy.kHx, Fy.oh_some, Fy.kRr_rt, Fy.kRr_nx, Fy.kRx, Fy.outs_nil, Fy.outs_cons, Fy.outC_some, Fy.initS_z, Fy.initS_n, Fy.initS_c, Fy.oat_some, Fy.op_eq, Fy.op_ne, Fy.op_addI, Fy.op_addL, Fy.op_addT, Fy.op_addS, Fy.op_sub, Fy.op_neg, Fy.op_mulI, Fy.op_mulL, Fy.op_mulT, Fy.op_mulSI, Fy.op_mulSS, Fy.op_mod, Fy.op_div, Fy.op_pow, Fy.p_lt, Fy.p_le, Fy.p_gt, Fy.p_ge, Fy.p_isN, Fy.p_notN, Fy.p_isB, Fy.p_notB, Fy.isNon_n, Fy.isNon_i, Fy.isNon_t, Fy.isNon_l, Fy.isNon_b, Fy.isNon_s, Fy.op_ixL, Fy.op_ixT, Fy.op_ixR, Fy.op_lenL, Fy.op_lenT, Fy.op_lenR, Fy.op_lenS, Fy.op_listL, Fy.op_listT, Fy.op_listR, Fy.op_tupL, Fy.op_tupT, Fy.op_tupR, Fy.op_int, Fy.op_intB, Fy.op_abs, Fy.op_repr, Fy.seqOf_l, Fy.seqOf_t, Fy.seqOf_r, Fy.oi_rng1, Fy.oi_rng2, Fy.oi_enL, Fy.oi_enT, Fy.oi_enR, Fy.op_slL, Fy.op_slR, Fy.op_slT, Fy.at_0, Fy.at_1, Fy.at_2, Fy.at_3, Fy.okE_ii, Fy.okE_ss, Fy.okE_nn, Fy.okE_ni, Fy.okE_in, Fy.okE_bb, Fy.peq_ii, Fy.peq_ss, Fy.peq_nn, Fy.peq_bb, Fy.peq_ni, Fy.peq_in, List.getElem?_cons_zero, List.getElem?_cons_succ, List.set_cons_zero, List.set_cons_succ, List.getElem?_nil, List.set_nil, Option.map_some, Option.bind_some, List.map_cons, List.map_nil, List.length_cons, List.length_nil, List.length_map, List.length_range, List.cons_append, List.nil_append, List.map_map, Fy.refPos, Fy.refIx, Fy.hasBo, decide_eq_true_eq, decide_eq_false_iff_not, Bool.not_eq_true', Bool.not_true, Bool.not_false, Bool.not_eq_false', Bool.not_not, true_and, and_true, not_false_eq_true, not_true_eq_false, Nat.zero_add, Nat.reduceAdd, Nat.reduceLeDiff, Nat.reduceLT, Int.reduceNeg, reduceCtorEq, false_implies, implies_true, true_implies, forall_const])
local macro_rules | `(tactic| w_cond $x) => `(tactic| try simp only [$x:ident, Fy.wp_ok, Fy.wp_err, Fy.wp_lift, Fy.op_some, Fy.og_some, Fy.oi_some, Fy.oo_some, Fy.wp_c, Fy.wp_e1, Fy.k1, Fy.wp_e2, Fy.k2, Fy.k2b, Fy.wp_eN, Fy.kN, Fy.wp_aN, Fy.wp_aC, Fy.kC, Fy.kC2, Fy.wp_tV, Fy.kV, Fy.wp_and, Fy.wp_or, Fy.wp_not, Fy.kAnd_t, Fy.kAnd_f, Fy.kOr_t, Fy.kOr_f, Fy.kAnd, Fy.kOr, Fy.kNot, Fy.wp_eAnd, Fy.wp_eOr, Fy.wp_eNot, Fy.kEAnd_t, Fy.kEAnd_f, Fy.kEOr_t, Fy.kEOr_f, Fy.kEAnd, Fy.kEOr, Fy.kENot, Fy.wp_eIf, Fy.kIf_t, Fy.kIf_f, Fy.kIf, Fy.wp_eL, Fy.wp_eT, Fy.kL, Fy.kT, Fy.wp_sA, Fy.kA, Fy.wp_sE, Fy.kE, Fy.wp_sR, Fy.kR, Fy.wp_sRN, Fy.wp_sIf, Fy.kSIf_t, Fy.kSIf_f, Fy.kSIf, Fy.wp_sN, Fy.wp_sB, Fy.wp_sC, Fy.wp_sS, Fy.kS_nx, Fy.kS_bk, Fy.kS_ct, Fy.kS_rt, Fy.wp_sG, Fy.kG, Fy.gN_eq, Fy.gT_1, Fy.gT_2, Fy.gT_3, Fy.gT_4, Fy.gT_5, Fy.og_gsC, Fy.kGs, Fy.gsN_eq, Fy.wp_sFor, Fy.kFor, Fy.kLp_nx, Fy.kLp_ct, Fy.kLp_bk, Fy.kLp_rt, Fy.kB, Fy.wp_mSeq, Fy.wp_iN, Fy.kIs, Fy.kIn, Fy.wp_sRaise, Fy.kRx0, Fy.wp_eV, Fy.kVar_l, Fy.kVar_n, Fy.kVar_i, Fy.fz_leaf, Fy.fz_node, Fy.fz_ins, Fy.map_fz_leaf, Fy.map_fz_leaf', Fy.map_fz_leaf2, Fy.map_fz_leaf3, Fy.map_fz_leaf4, Fy.wp_eMv, Fy.kMv, Fy.frS_nil, Fy.frS_cons, Fy.frO_none, Fy.frO_some, Fy.wp_thaw, Fy.kTh, Fy.wp_tThaw, Fy.kTh', Fy.wp_ice, Fy.kIce, Fy.kNd, Fy.wp_sApp, Fy.kApp1, Fy.kApp, Fy.wp_sSet, Fy.kSet1, Fy.kSet2, Fy.kSet3_0, Fy.kSet3_1, Fy.kSet3_2, Fy.noN_int, Fy.noN_bl, Fy.noP_int, Fy.noP_bl, Fy.wp_sPar, Fy.kPar2, Fy.kPar3, Fy.wp_sMv, Fy.wp_eCh, Fy.kCh1, Fy.kCh2, Fy.kCh3, Fy.wp_eSl, Fy.kSl1, Fy.kSl2, Fy.kSl3, Fy.wp_oN, Fy.wp_oS, Fy.koS, Fy.wp_eTupR, Fy.wp_eLstR, Fy.kRg, Fy.wp_eIdx, Fy.kIdx, Fy.wp_eLZ, Fy.wp_eLc, Fy.kLc, Fy.kLcG, Fy.kLcT, Fy.kLcT_t, Fy.kLcE, Fy.wp_mYes, Fy.wipe_nil, Fy.wipe_cons, Fy.wp_eCall, Fy.wp_rN, Fy.wp_rV, Fy.kAr, Fy.kAr2, Fy.kRf, Fy.wp_rR, Fy.wp_rB, Fy.kCa, Fy.wpA_some, Fy.kRun, Fy.wpR_ok, Fy.wpR_err, Fy.kBk_f, Fy.kBk_t, Fy.kBx_f, Fy.kBx_t, Fy.backs_nil, Fy.backs_cons, Fy.res_nil, Fy.res_vl, Fy.res_rf, Fy.res_bo, Fy.resC_some, Fy.resF_some, Fy.resB_some, Fy.resB1_some, Fy.wp_eCallK, Fy.kCk, Fy.pick_nil, Fy.wp_eCallV, Fy.kCv, Fy.kCv2, Fy.wp_eMake, Fy.kMk, Fy.kMrun, Fy.kMo_f, Fy.kMo_t, Fy.kMx_f, Fy.kMx_t, Fy.wp_eMakeK, Fy.kMkk, Fy.wp_sFldS, Fy.kFld1, Fy.kFld, Fy.wp_heard, Fy.kHo, Fy.kHx, Fy.oh_some, Fy.kRr_rt, Fy.kRr_nx, Fy.kRx, Fy.outs_nil, Fy.outs_cons, Fy.outC_some, Fy.initS_z, Fy.initS_n, Fy.initS_c, Fy.oat_some, Fy.op_eq, Fy.op_ne, Fy.op_addI, Fy.op_addL, Fy.op_addT, Fy.op_addS, Fy.op_sub, Fy.op_neg, Fy.op_mulI, Fy.op_mulL, Fy.op_mulT, Fy.op_mulSI, Fy.op_mulSS, Fy.op_mod, Fy.op_div, Fy.op_pow, Fy.p_lt, Fy.p_le, Fy.p_gt, Fy.p_ge, Fy.p_isN, Fy.p_notN, Fy.p_isB, Fy.p_notB, Fy.isNon_n, Fy.isNon_i, Fy.isNon_t, Fy.isNon_l, Fy.isNon_b, Fy.isNon_s, Fy.op_ixL, Fy.op_ixT, Fy.op_ixR, Fy.op_lenL, Fy.op_lenT, Fy.op_lenR, Fy.op_lenS, Fy.op_listL, Fy.op_listT, Fy.op_listR, Fy.op_tupL, Fy.op_tupT, Fy.op_tupR, Fy.op_int, Fy.op_intB, Fy.op_abs, Fy.op_repr, Fy.seqOf_l, Fy.seqOf_t, Fy.seqOf_r, Fy.oi_rng1, Fy.oi_rng2, Fy.oi_enL, Fy.oi_enT, Fy.oi_enR, Fy.op_slL, Fy.op_slR, Fy.op_slT, Fy.at_0, Fy.at_1, Fy.at_2, Fy.at_3, Fy.okE_ii, Fy.okE_ss, Fy.okE_nn, Fy.okE_ni, Fy.okE_in, Fy.okE_bb, Fy.peq_ii, Fy.peq_ss, Fy.peq_nn, Fy.peq_bb, Fy.peq_ni, Fy.peq_in, List.getElem?_cons_zero, List.getElem?_cons_succ, List.set_cons_zero, List.set_cons_succ, List.getElem?_nil, List.set_nil, Option.map_some, Option.bind_some, List.map_cons, List.map_nil, List.length_cons, List.length_nil, List.length_map, List.length_range, List.cons_append, List.nil_append, List.map_map, Fy.refPos, Fy.refIx, Fy.hasBo, decide_eq_true_eq, decide_eq_false_iff_not, Bool.not_eq_true', Bool.not_true, Bool.not_false, Bool.not_eq_false', Bool.not_not, true_and, and_true, not_false_eq_true, not_true_eq_false, Nat.zero_add, Nat.reduceAdd, Nat.reduceLeDiff, Nat.reduceLT, Int.reduceNeg, reduceCtorEq, false_implies, implies_true, true_implies, forall_const])
local macro_rules | `(tactic| w_means) => `(tactic| repeat (refine And.intro (by first | decide | exact Fy.mulOk (by omega) (by omega) | omega | exact Fy.okR_in (by omega) (by omega)) ?_))


namespace K01
open PySem Fy Pg PgS K01H
/-- rows drawn, as lists of items -/
abbrev rwsO (R : List (List PV)) : OT := .node (R.map fun l => OT.node (l.map .leaf))
abbrev WS (t : OT) (m : Nat) (s1 s2 s3 s4 s5 s6 s7 s9 s10 s11 s12 s13 : Option OT) : Sl := [some t, s1, s2, s3, s4, s5, s6, s7, some (.leaf (.int (m : Nat))), s9, s10, s11, s12, s13]
def merP (p : PV) : PV := .tup [.str "merger", p, .bl true]
section
variable {m : Nat} {t : OT} {s1 s2 s3 s4 s5 s6 s7 s9 s10 s11 s12 s13 : Option OT} {QQ : QS} {E : QX} {p : PV} {R : List (List PV)}
theorem wro1 {k : Nat} {R : List OT} (hb : Bx k t) (hk : k ≤ 100000000) (hm : 1 ≤ m) (hm2 : m ≤ 4) (hR : R.length < sizeLine)
    (h : ∀ (t' : OT) (l : List PV), Bx (k + 20) t' → l.length = m → (∀ p ∈ l, isE m p) → QQ .nx (WS t' m s1 s2 s3 s4 s5 s6 s7 (some (.node (R ++ [.node (l.map .leaf)]))) s10 s11 s12 none)) : Wp (m_law_wrong_right_1 (WS t m s1 s2 s3 s4 s5 s6 s7 (some (.node R)) s10 s11 s12 none)) QQ E := by
  unfold m_law_wrong_right_1
  o_shape
  refine ⟨okR_in (by omega) (by omega), ?_⟩
  rw [Int.toNat_natCast]
  refine lc_rng (fun j acc S => ∃ t l, S = WS t m s1 s2 s3 s4 s5 s6 s7 (some (.node R)) s10 s11 s12 none ∧ acc = l.map .leaf ∧ l.length = j ∧ (∀ p ∈ l, isE m p) ∧ Bx (k + 3 * j) t)
    (Nat.le_trans hm2 (by decide)) ⟨t, [], rfl, rfl, rfl, fun _ h => by simp at h, hb⟩ ?_ ?_
  · rintro j acc S hj ⟨t, l, rfl, rfl, hl1, hl2, hb2⟩
    o_shape
    refine take_use hb2 (by omega) (by omega) (by omega) fun c t2 hc hb3 => ?_
    o_shape
    refine take_use hb3 (by omega) (by omega) (by omega) fun d t3 hd hb4 => ?_
    o_shape
    refine pick_use hb4 rfl (by simp) (by simp) (by omega) fun x t4 hx hb5 => ?_
    o_shape
    refine ⟨t4, l ++ [x], rfl, by simp, by simp [hl1], fun p hp => ?_, hb5.mono (by omega)⟩
    rcases List.mem_append.mp hp with z | z
    · exact hl2 p z
    · simp only [List.mem_singleton] at z
      subst z
      simp only [List.mem_cons, List.mem_nil_iff, or_false] at hx
      rcases hx with rfl | rfl | rfl | rfl | rfl
      · exact isE_non
      · exact isE_non
      · exact isE_m1
      · exact isE_c (by omega)
      · exact isE_c (by omega)
  · rintro acc S ⟨t2, l, rfl, rfl, hl1, hl2, hb2⟩
    o_shape
    exact ⟨hR, h t2 l (hb2.mono (by omega)) hl1 hl2⟩
theorem wro2 (hp : basic p = true) (hs : ∀ xs, seqOf p = some xs → xs.length < 1 ∨ 12 < xs.length) (h : QQ .nx (WS t m s1 s2 s3 s4 s5 s6 (some (.leaf p)) s9 s10 s11 s12 s13)) : Wp (m_law_wrong_right_2 (WS t m s1 s2 s3 s4 s5 s6 (some (.leaf p)) s9 s10 s11 s12 s13)) QQ E := by
  unfold m_law_wrong_right_2
  o_shape
  rw [merger_none hp hs]
  o_shape
  rw [hd_merger]
  o_shape
  exact ⟨rfl, same_ne (k := 1) (p := merP (.int (-1))) rfl h⟩
theorem wro3 (h : QQ (.rt (.leaf (.bl true))) (WS t m s1 s2 s3 s4 s5 (some (.leaf (.lst (List.replicate 12 (.lst (List.replicate 12 .non)))))) s7 s9 s10 s11 s12 s13)) : Wp (m_law_wrong_right_3 (WS t m s1 s2 s3 s4 s5 (some (.leaf (.lst (List.replicate 12 (.lst (List.replicate 12 .non)))))) s7 s9 s10 s11 s12 s13)) QQ E := by
  unfold m_law_wrong_right_3
  o_shape
  rw [merger_ok told_rep (by decide) (by decide) cl_none sd_none]
  o_shape
  rw [fz_mgO, fld_commands]
  o_shape
  exact h
theorem wro4 (h : ∀ S, S[0]? = some (some t) → QQ (.rt (.leaf (.bl true))) S) : Wp (m_law_wrong_right_4 (WS t m s1 s2 s3 s4 s5 s6 s7 s9 s10 s11 s12 s13)) QQ E := by
  unfold m_law_wrong_right_4
  o_shape
  rw [rep_flat, rep_flat, rep_flat, rep_flat]
  refine ⟨⟨by decide, by decide, by decide⟩, ⟨by decide, by decide, by decide⟩, ⟨by decide, by decide, by decide⟩, ⟨by decide, by decide, by decide⟩, ?_⟩
  refine for_rule (fun i S => ∃ s7, S = WS t m s1 s2 s3 s4 s5 (some (.node ((List.replicate 12 (PV.lst (List.replicate 12 .non))).map .leaf))) s7 s9 s10 s11 s12 s13) ⟨_, rfl⟩ ?_ ?_
  · rintro i p S hp ⟨s7, rfl⟩
    have hp := List.mem_of_getElem? hp
    have hq : basic p = true ∧ ∀ xs, seqOf p = some xs → xs.length < 1 ∨ 12 < xs.length := by
      simp only [List.mem_cons, List.mem_nil_iff, or_false] at hp
      rcases hp with rfl | rfl | rfl | rfl | rfl | rfl
      · exact ⟨rfl, fun xs h => by cases h⟩
      · exact ⟨rfl, fun xs h => by cases h⟩
      · exact ⟨rfl, fun xs h => by cases h⟩
      · exact ⟨rfl, fun xs h => by cases h; exact .inl (by decide)⟩
      · exact ⟨rfl, fun xs h => by cases h; exact .inl (by decide)⟩
      · exact ⟨rfl, fun xs h => by cases h; exact .inr (by rw [List.length_replicate]; decide)⟩
    o_shape
    refine wro2 hq.1 hq.2 ?_
    o_shape
    exact ⟨_, rfl⟩
  · rintro S ⟨s7, rfl⟩
    rw [kS_nx]
    have e : fz (.node ((List.replicate 12 (PV.lst (List.replicate 12 .non))).map .leaf)) = .lst (List.replicate 12 (.lst (List.replicate 12 .non))) := by rw [fz_node, map_fz_leaf]
    unfold m_law_wrong_right_3
    o_shape
    rw [merger_ok told_rep (by decide) (by decide) cl_none sd_none]
    o_shape
    rw [fz_mgO, fld_commands]
    o_shape
    exact h _ rfl
/-! rows as values -/
theorem fz_rws : fz (rwsO R) = .lst (R.map .lst) := by
  rw [fz_node, List.map_map]
  congr 1
  refine List.map_congr_left fun l _ => ?_
  show fz (.node (l.map .leaf)) = _
  rw [fz_node, map_fz_leaf]
theorem isE_basic {p : PV} (h : isE m p) : basic p = true := by
  obtain ⟨e, rfl, _⟩ := h
  exact basic_end
theorem isE_endOk {p : PV} (h : isE m p) : endOk m p = true := by
  obtain ⟨e, rfl, he⟩ := h
  exact endOk_end he
theorem row_ok {l : List PV} (h1 : l.length = m) (h2 : ∀ p ∈ l, isE m p) : rowOk m (.lst l) = true := by
  simp only [rowOk, seqOf, h1, decide_true, Bool.true_and, List.all_eq_true]
  exact fun p hp => isE_endOk (h2 p hp)
theorem noNs_all {b : Bool} : ∀ {l : List PV}, (∀ p ∈ l, noP b p = true) → noNs b (l.map .leaf) = true
  | [], _ => rfl
  | p :: l, h => by
    simp only [List.map_cons, noNs, noN, h p List.mem_cons_self, Bool.true_and]
    exact noNs_all fun q hq => h q (List.mem_cons_of_mem _ hq)
theorem isE_noP {b : Bool} {p : PV} (h : isE m p) : noP b p = true := by
  obtain ⟨e, rfl, _⟩ := h
  exact noP_end
/-- rows of which one is wrong are refused with its place -/
theorem rows_bad {A B : List PV} {p : PV} {i : Nat} (hA : A.length = i) (hl : i + 1 + B.length = m) (hm : m ≤ 12) (h1 : ∀ r ∈ A, rowOk m r = true) (hp : rowOk m p = false) (hb : ∀ r ∈ A ++ ([p] ++ B), basic r = true) (hb2 : ∀ r ∈ A ++ ([p] ++ B), ∀ es, seqOf r = some es → ∀ e ∈ es, basic e = true) :
    run_Merger_init [.ins "Merger" [] [], .leaf (.lst (A ++ ([p] ++ B)))] = .err ⟨"BadMerger", ["at"], [.int (i : Nat)]⟩ [.ins "Merger" [] []] := by
  have hlen : (A ++ ([p] ++ B)).length = m := by simp; omega
  refine merger_bad (rs := A ++ ([p] ++ B)) (r := p) rfl (by omega) (by omega) hb hb2 ?_ (by rw [hlen]; exact hp) fun j v hj hv => ?_
  · rw [List.getElem?_append_right (by omega), hA, Nat.sub_self]
    rfl
  · rw [List.getElem?_append_left (by omega)] at hv
    rw [hlen]
    exact h1 v (List.mem_of_getElem? hv)
end
end K01


namespace K01
open PySem Fy Pg PgS K01H
structure Dr (m : Nat) (R : List (List PV)) : Prop where
  len : R.length = m
  rows : ∀ l ∈ R, l.length = m ∧ ∀ p ∈ l, isE m p
section
variable {m : Nat} {t : OT} {s1 s2 s3 s4 s5 s6 s7 s9 s10 s11 s12 s13 : Option OT} {QQ : QS} {E : QX} {p : PV} {R : List (List PV)}
theorem sz {k : Nat} (h : k ≤ 1000) : k ≤ sizeLine := Nat.le_trans h (by decide)
theorem Dr.ok (d : Dr m R) : ∀ r ∈ R.map PV.lst, rowOk m r = true := fun r hr => by
  obtain ⟨l, hl, rfl⟩ := List.mem_map.mp hr
  exact row_ok (d.rows l hl).1 (d.rows l hl).2
theorem Dr.basic (d : Dr m R) : ∀ r ∈ R.map PV.lst, basic r = true ∧ ∀ es, seqOf r = some es → ∀ e ∈ es, PgS.basic e = true := fun r hr => by
  obtain ⟨l, hl, rfl⟩ := List.mem_map.mp hr
  refine ⟨rfl, fun es h e he => ?_⟩
  cases h
  exact isE_basic ((d.rows l hl).2 e he)
theorem at_rws {i : Nat} (d : Dr m R) (h : i < m) : ∃ l, R[i]? = some l ∧ (R.map PV.lst)[i]? = some (.lst l) ∧ l.length = m ∧ ∀ p ∈ l, isE m p := by
  have hi : i < R.length := by rw [d.len]; exact h
  refine ⟨R[i], List.getElem?_eq_getElem hi, ?_, d.rows _ (List.getElem_mem hi)⟩
  rw [List.getElem?_map, List.getElem?_eq_getElem hi]
  rfl
abbrev rwsP (R : List (List PV)) : PV := .lst (R.map .lst)
theorem wro5 {k i : Nat} (hbx : Bx k t) (hk : k ≤ 100000000) (hm : 1 ≤ m) (hm2 : m ≤ 4) (d : Dr m R) (hi : i < m) (h : ∀ S t', Bx (k + 1) t' → S[0]? = some (some t') → QQ (.rt (.leaf (.bl true))) S) : Wp (m_law_wrong_right_5 (WS t m s1 s2 s3 s4 s5 s6 s7 (some (.leaf (rwsP R))) (some (.leaf (.int (i : Nat)))) s11 s12 s13)) QQ E := by
  obtain ⟨l, hl0, hl, hl1, hl2⟩ := at_rws d hi
  unfold m_law_wrong_right_5
  o_shape
  rw [at_nat, hl]
  o_shape
  rw [show (1 : Int) = ((1 : Nat) : Int) from rfl, cut_from, at_nat, hl]
  o_shape
  have h2' : ∀ p ∈ l ++ [PV.non], isE m p := fun p hp => by
    rcases List.mem_append.mp hp with z | z
    · exact hl2 p z
    · rw [List.mem_singleton.mp z]
      exact isE_non
  have h1' : ∀ p ∈ l.drop 1, isE m p := fun p hp => hl2 p (List.mem_of_mem_drop hp)
  have dash : (Str.ofString "-").length ≤ 1000 := by decide
  refine ⟨sz (by simp; omega), ⟨by omega, by omega, dash⟩, ?_⟩
  refine pick_use hbx rfl (by simp) (by simp) (by omega) fun p t1 hp hb1 => ?_
  o_shape
  have hp2 : basic p = true ∧ rowOk m p = false ∧ ∀ es, seqOf p = some es → ∀ e ∈ es, basic e = true := by
    simp only [List.mem_cons, List.mem_nil_iff, or_false] at hp
    rcases hp with rfl | rfl | rfl | rfl | rfl
    · refine ⟨rfl, ?_, fun es h e he => by cases h; exact isE_basic (h1' e he)⟩
      simp only [rowOk, seqOf, List.length_drop, hl1]
      rw [decide_eq_false (by omega)]
      rfl
    · refine ⟨rfl, ?_, fun es h e he => by cases h; exact isE_basic (h2' e he)⟩
      simp only [rowOk, seqOf, List.length_append, hl1]
      rw [decide_eq_false (by simp)]
      rfl
    · exact ⟨rfl, rfl, fun es h => by cases h⟩
    · exact ⟨rfl, rfl, fun es h => by cases h⟩
    · exact ⟨rfl, rfl, fun es h => by cases h⟩
  rw [cut_to, show ((i : Int) + ((1 : Nat) : Int)) = ((i + 1 : Nat) : Int) by omega, cut_from]
  have lR : (R.map PV.lst).length = m := by rw [List.length_map, d.len]
  have lT : ((R.map PV.lst).take i).length = i := by rw [List.length_take, lR]; omega
  have lD : ((R.map PV.lst).drop (i + 1)).length = m - (i + 1) := by rw [List.length_drop, lR]
  refine ⟨sz (by rw [lT]; simp; omega), sz (by rw [List.length_append, lT, lD]; simp; omega), ?_⟩
  rw [List.append_assoc]
  rw [rows_bad (m := m) (i := i) lT (by rw [lD]; omega) (by omega) (fun r hr => d.ok r (List.mem_of_mem_take hr)) hp2.2.1 (fun r hr => ?_) (fun r hr => ?_)]
  · o_shape
    rw [hd_merger]
    o_shape
    refine ⟨rfl, same_ne (k := 1) (p := merP (.int (i : Nat))) rfl ?_⟩
    exact wro4 fun S hS => h S t1 hb1 hS
  · simp only [List.mem_append, List.mem_singleton] at hr
    rcases hr with hr | rfl | hr
    · exact (d.basic r (List.mem_of_mem_take hr)).1
    · exact hp2.1
    · exact (d.basic r (List.mem_of_mem_drop hr)).1
  · simp only [List.mem_append, List.mem_singleton] at hr
    rcases hr with hr | rfl | hr
    · exact (d.basic r (List.mem_of_mem_take hr)).2
    · exact hp2.2.2
    · exact (d.basic r (List.mem_of_mem_drop hr)).2
theorem wro6 {k : Nat} (hbx : Bx k t) (hk : k ≤ 90000000) (hm : 1 ≤ m) (hm2 : m ≤ 4) (d : Dr m R) (h : ∀ S t', Bx (k + 20) t' → S[0]? = some (some t') → QQ (.rt (.leaf (.bl true))) S) : Wp (m_law_wrong_right_6 (WS t m s1 s2 s3 s4 s5 s6 s7 (some (.leaf (rwsP R))) s10 s11 none s13)) QQ E := by
  unfold m_law_wrong_right_6
  o_shape
  refine take_use hbx (by omega) (by omega) (by omega) fun i t1 hi hb1 => ?_
  o_shape
  refine take_use hb1 (by omega) (by omega) (by omega) fun j t2 hj hb2 => ?_
  o_shape
  refine pick_use hb2 rfl (by simp) (by simp) (by omega) fun odd t3 ho hb3 => ?_
  o_shape
  have hi : i < m := by omega
  have hj : j < m := by omega
  obtain ⟨l, hl0, hl, hl1, hl2⟩ := at_rws d hi
  have ho2 : basic odd = true ∧ endOk m odd = false := by
    simp only [List.mem_cons, List.mem_nil_iff, or_false] at ho
    rcases ho with rfl | rfl | rfl | rfl | rfl | rfl
    · exact ⟨rfl, by simp [endOk]⟩
    · exact ⟨rfl, rfl⟩
    · exact ⟨rfl, rfl⟩
    · exact ⟨rfl, rfl⟩
    · exact ⟨rfl, rfl⟩
    · exact ⟨rfl, rfl⟩
  rw [cut_to, at_nat, hl]
  o_shape
  rw [cut_to, at_nat, hl]
  o_shape
  rw [show ((j : Int) + 1) = ((j + 1 : Nat) : Int) by omega, cut_from]
  rw [show ((i : Int) + 1) = ((i + 1 : Nat) : Int) by omega, cut_from]
  have lR : (R.map PV.lst).length = m := by rw [List.length_map, d.len]
  have lT : ((R.map PV.lst).take i).length = i := by rw [List.length_take, lR]; omega
  have lD : ((R.map PV.lst).drop (i + 1)).length = m - (i + 1) := by rw [List.length_drop, lR]
  have lt : (l.take j).length = j := by rw [List.length_take]; omega
  have ld : (l.drop (j + 1)).length = m - (j + 1) := by rw [List.length_drop]; omega
  refine ⟨sz (by rw [lt]; omega), sz (by rw [List.length_append, lt, ld]; simp; omega), sz (by rw [lT]; omega), ?_⟩
  generalize hbent : PV.lst (l.take j ++ [odd] ++ l.drop (j + 1)) = bent
  have hbe : basic bent = true ∧ rowOk m bent = false ∧ ∀ es, seqOf bent = some es → ∀ e ∈ es, basic e = true := by
    subst hbent
    refine ⟨rfl, ?_, fun es h e he => ?_⟩
    · simp only [rowOk, seqOf, List.all_append, List.all_cons, ho2.2, Bool.false_and, Bool.and_false]
    · cases h
      simp only [List.mem_append, List.mem_singleton] at he
      rcases he with (he | rfl) | he
      · exact isE_basic (hl2 e (List.mem_of_mem_take he))
      · exact ho2.1
      · exact isE_basic (hl2 e (List.mem_of_mem_drop he))
  refine lc_rule (fun a acc S => ∃ t A, S = WS t m s1 s2 (some (.leaf odd)) (some (.leaf (.lst ((R.map PV.lst).take i ++ [bent])))) s5 s6 s7 (some (.leaf (rwsP R))) (some (.leaf (.int (i : Nat)))) (some (.leaf (.int (j : Nat)))) none s13 ∧ acc = A.map OT.leaf ∧ A.length = a ∧ Bx (k + 3 + a) t ∧ ∀ r ∈ A, basic r = true ∧ ∀ es, seqOf r = some es → ∀ e ∈ es, basic e = true)
    (sz (by rw [lD]; omega)) ⟨t3, [], rfl, rfl, rfl, hb3, fun _ h => by simp at h⟩ ?_ ?_
  · rintro a x acc S hx ⟨t, A, rfl, rfl, hA1, hb, hA2⟩
    have ha : a < m := by
      have := (List.getElem?_eq_some_iff.mp hx).1
      omega
    have hxm := d.basic x (List.mem_of_mem_drop (List.mem_of_getElem? hx))
    o_shape
    refine pick_use hb rfl (by simp) (by simp) (by omega) fun p t1 hp hb1 => ?_
    o_shape
    refine ⟨t1, A ++ [p], rfl, by simp, by simp [hA1], hb1.mono (by omega), fun r hr => ?_⟩
    rcases List.mem_append.mp hr with z | z
    · exact hA2 r z
    · rw [List.mem_singleton.mp z]
      simp only [List.mem_cons, List.mem_nil_iff, or_false] at hp
      rcases hp with rfl | rfl
      · exact hxm
      · exact ⟨rfl, fun es h => by cases h⟩
  · rintro acc S ⟨t, A, rfl, rfl, hA1, hb, hA2⟩
    o_shape
    rw [lD] at hA1
    refine ⟨sz (by rw [List.length_append, lT, hA1]; simp; omega), ?_⟩
    rw [List.append_assoc, rows_bad (m := m) (i := i) lT (by rw [hA1]; omega) (by omega) (fun r hr => d.ok r (List.mem_of_mem_take hr)) hbe.2.1 (fun r hr => ?_) (fun r hr => ?_)]
    · o_shape
      rw [hd_merger]
      o_shape
      refine ⟨rfl, same_ne (k := 1) (p := merP (.int (i : Nat))) rfl ?_⟩
      exact wro5 hb (by rw [lD]; omega) hm hm2 d hi fun S t' hb' hS => h S t' (hb'.mono (by rw [lD]; omega)) hS
    · simp only [List.mem_append, List.mem_singleton] at hr
      rcases hr with hr | rfl | hr
      · exact (d.basic r (List.mem_of_mem_take hr)).1
      · exact hbe.1
      · exact (hA2 r hr).1
    · simp only [List.mem_append, List.mem_singleton] at hr
      rcases hr with hr | rfl | hr
      · exact (d.basic r (List.mem_of_mem_take hr)).2
      · exact hbe.2.2
      · exact (hA2 r hr).2
def thrP (p : PV) : PV := .tup [.str "three", p, .bl true]
theorem wro7 {k : Nat} (hbx : Bx k t) (hk : k ≤ 90000000) (hm : 1 ≤ m) (hm2 : m ≤ 4) (d : Dr m R) (h : ∀ S t', Bx (k + 20) t' → S[0]? = some (some t') → QQ (.rt (.leaf (.bl true))) S) : Wp (m_law_wrong_right_7 (WS t m s1 s2 s3 s4 s5 s6 s7 (some (rwsO R)) s10 s11 none s13)) QQ E := by
  obtain ⟨f, hcl, hf⟩ := rows_fn d.len d.rows
  have eR : (R.map (fz ∘ fun l => OT.node (l.map .leaf))) = R.map PV.lst := by
    have := fz_rws (R := R)
    rw [fz_node, List.map_map] at this
    exact PV.lst.inj this
  unfold m_law_wrong_right_7
  o_shape
  rw [eR, hf]
  refine (against_wp hcl (by omega)).mono (fun r os q => ?_) (fun _ _ q => q.elim)
  obtain ⟨rfl, ⟨rfl, hsd⟩ | ⟨a, b, c, hlb, rfl⟩⟩ := q
  · o_shape
    rw [merger_ok told_L hm (by omega) hcl hsd]
    o_shape
    rw [← hf]
    exact wro6 hbx hk hm hm2 d h
  · simp only [threeP]
    o_shape
    rw [merger_unsound told_L hm (by omega) hcl hlb]
    o_shape
    rw [hd_three]
    o_shape
    refine ⟨rfl, same_ne (k := 2) (p := thrP (threeP a b c)) rfl ?_⟩
    rw [← hf]
    exact wro6 hbx hk hm hm2 d h
end
theorem wrong_use {t : OT} {k : Nat} (hbx : Bx k t) (hk : k ≤ 10000000) {Q : OT → List OT → Prop} {E : Exn → List OT → Prop} (h : ∀ t', Bx (k + 200) t' → Q (.leaf (.bl true)) [t']) : WpR (run_law_wrong_right [t]) Q E := by
  rw [wp_run]
  unfold m_law_wrong_right
  o_shape
  refine take_use hbx (by omega) (by omega) (by omega) fun dd t1 hd hb1 => ?_
  o_shape
  rw [show (1 : Int) + (dd : Nat) = ((dd + 1 : Nat) : Int) by omega]
  generalize hm : dd + 1 = m
  refine ⟨okR_in (by omega) (by omega), ?_⟩
  rw [Int.toNat_natCast]
  refine for_rng (fun j S => ∃ (t : OT) (R : List (List PV)) (s1 : Option OT), S = WS t m s1 none none none none none none (some (rwsO R)) none none none none ∧ Bx (k + 1 + 20 * j) t ∧ R.length = j ∧ ∀ l ∈ R, l.length = m ∧ ∀ p ∈ l, isE m p) ⟨t1, [], _, rfl, hb1.mono (by omega), rfl, fun _ h => by simp at h⟩ ?_ ?_
  · rintro j S hj ⟨t, R, s1, rfl, hb, hR1, hR2⟩
    o_shape
    refine wro1 hb (by omega) (by omega) (by omega) (by rw [List.length_map]; exact Nat.lt_of_lt_of_le (show R.length < 5 by omega) (by decide)) fun t' l hb' hl1 hl2 => ?_
    o_shape
    have eR : (R.map fun l => OT.node (l.map .leaf)) ++ [OT.node (l.map .leaf)] = (R ++ [l]).map fun l => OT.node (l.map .leaf) := by simp
    rw [eR]
    refine ⟨t', R ++ [l], _, rfl, hb'.mono (by omega), by simp [hR1], fun x hx => ?_⟩
    rcases List.mem_append.mp hx with z | z
    · exact hR2 x z
    · rw [List.mem_singleton.mp z]
      exact ⟨hl1, hl2⟩
  · rintro S ⟨t, R, s1, rfl, hb, hR1, hR2⟩
    o_shape
    refine wro7 hb (by omega) (by omega) (by omega) ⟨hR1, hR2⟩ fun S t' hb' hS => ?_
    rw [kRr_rt, outs_cons, hS]
    o_shape
    exact h t' (hb'.mono (by omega))
/-! ### the law -/
theorem law_run (ns : List Int) : run_law [.leaf (.rls (ns.map .int))] = .ok (.leaf (.bl true)) [] := by
  apply WpR.eq
  rw [wp_run]
  unfold m_law
  o_shape
  refine ⟨okR_in (by decide) (by decide), ?_⟩
  refine for_rng (n := 3) (fun i S => ∃ s1 s2 s3, S = [some (.leaf (.rls (ns.map .int))), s1, s2, s3]) ⟨_, _, _, rfl⟩ ?_ ?_
  · rintro i S hi ⟨s1, s2, s3, rfl⟩
    unfold m_law_1
    o_shape
    refine box_use (by omega) fun t hb => ?_
    o_shape
    refine sound_use hb (by omega) fun n f t1 h1 h2 hcl hsd hb1 r hr => ?_
    o_shape
    rw [kVar_gen rfl, hr]
    o_shape
    refine told_use hb1 (by omega) h1 h2 hcl hsd fun t2 hb2 => ?_
    o_shape
    refine queues_use hb2 (by omega) h1 h2 hcl hsd fun t3 hb3 => ?_
    o_shape
    refine wrong_use hb3 (by omega) fun t4 hb4 => ?_
    o_shape
    exact ⟨_, _, _, rfl⟩
  · rintro S ⟨s1, s2, s3, rfl⟩
    o_shape
end K01

theorem PySem.Challenge.cw_foursfold_k01_mergers_queues_and_what_is_holds : PySem.Challenge.rw_foursfold_k01_mergers_queues_and_what_is.Holds := by
  exact K01.fin (fun ns _ _ => K01.law_run ns)
